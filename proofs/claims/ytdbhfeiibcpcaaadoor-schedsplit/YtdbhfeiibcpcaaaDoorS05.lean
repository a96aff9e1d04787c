/-
  Two Rans held against one another.
-/
import Derived.Test.YtdbhfeiibcpcaaaDoorS04
import Derived.Laws.AppendOwnNone
import Derived.Deep.CutBlock
import Derived.Test.YtdbhfeiibcpcaaaDoorS01
import Derived.Deep.Strs
import Derived.Deep.Slices
import Derived.Test.YtdbhfeiibcpcaaaDoorS03
import Derived.Test.YtdbhfeiibcpcaaaDoorRows
import Derived.OpenShut
import Derived.ChangeArms
import Derived.ChangeSame
import Derived.FnData
import Derived.JoinedTies
namespace Go.Proofs.YtdbhfeiibcpcaaaDoor.Sd
open Go.RowKit
set_option linter.unusedVariables false
set_option linter.unusedSimpArgs false
set_option maxRecDepth 100000
/-- A list of pairs of numbers, as it is read. -/
def Pr (w : World) (v : Value) (l : List (Int × Int)) : Prop := ∃ ao ca, v = .slice ao l.length ca ∧ l.length ≤ ca ∧ ca ≤ 9223372036854775807 ∧ ∀ i x, l[i]? = some x → ∃ b off, ao = some ⟨b, off, none⟩ ∧ w.cell? ⟨b, off + i * 2, none⟩ = some (.int .i64 x.1) ∧ w.cell? ⟨b, off + i * 2 + 1, none⟩ = some (.int .i64 x.2)
theorem Pr.below {w w' : World} {v : Value} {l : List (Int × Int)} (h : Pr w v l) (hb : Below w.heap.size w w') : Pr w' v l := by
  obtain ⟨ao, ca, e, h1, h2, h3⟩ := h
  refine ⟨ao, ca, e, h1, h2, fun i x hi => ?_⟩
  obtain ⟨b, off, e, c1, c2⟩ := h3 i x hi
  exact ⟨b, off, e, (hb.cell (lt_of_cell c1)).trans c1, (hb.cell (lt_of_cell c2)).trans c2⟩
def Qs (w : World) (v : Value) (L : List (List Int)) : Prop := ∃ vs, Row w v vs ∧ vs.length = L.length ∧ ∀ (i : Nat) (u : Value) (l : List Int), vs[i]? = some u → L[i]? = some l → Row w u (l.map (Value.int .i64))
theorem Qs.below {w w' : World} {v : Value} {L : List (List Int)} (h : Qs w v L) (hb : Below w.heap.size w w') : Qs w' v L := by
  obtain ⟨vs, h1, h2, h3⟩ := h
  exact ⟨vs, Below.row hb h1, h2, fun i u l e1 e2 => Below.row hb (h3 i u l e1 e2)⟩
structure Rq (w : World) (tv rv ev qv : Value) (T : List (Int × Int)) (G : List Int) (E : List (Int × Int)) (L : List (List Int)) : Prop where
  t : Pr w tv T
  g : Row w rv (G.map (Value.int .i64))
  e : Pr w ev E
  q : Qs w qv L
theorem Rq.below {w w' : World} {tv rv ev qv : Value} {T : List (Int × Int)} {G : List Int} {E : List (Int × Int)} {L : List (List Int)} (h : Rq w tv rv ev qv T G E L) (hb : Below w.heap.size w w') : Rq w' tv rv ev qv T G E L := ⟨h.t.below hb, Below.row hb h.g, h.e.below hb, h.q.below hb⟩
def trI (tr : List (Nat × Nat)) : List (Int × Int) := tr.map fun x => ((x.1 : Int), (x.2 : Int))
theorem row_own {B : Nat} {w : World} {T : TypeId} {v : Value} {l : List Value} (h : w.ownsRow B T 1 v l.length l) : Row w v l := by
  rcases h.2 with ⟨e, hz⟩ | ⟨g, cap, cur, rfl, hg, h1, h2, h3, h4, h5⟩
  · have : l = [] := List.length_eq_zero_iff.1 hz
    subst this
    exact ⟨none, 0, e, fun _ => ⟨rfl, rfl⟩, Nat.le_refl _, Nat.zero_le _, fun i hi => absurd hi (by simp)⟩
  · refine ⟨_, cap, rfl, (fun e => by cases e), h2, h3, fun i hi => ⟨g, 0, rfl, ?_⟩⟩
    rw [cell_of h1, Nat.zero_add, ← Array.getElem?_toList, ← List.getElem?_take_of_lt (j := l.length * 1) (by omega), h5, List.getElem?_eq_getElem hi]
theorem iw_row {B : Nat} {w : World} {v : Value} {l : List Int} (h : Iw B w v l) : Row w v (l.map (Value.int .i64)) := row_own (B := B) (T := 2) (by rw [List.length_map]; exact h)
theorem Rt.rq {B : Nat} {w : World} {tv rv ev qv : Value} {vs : List Value} {tr : List (Nat × Nat)} {rg : List Int} {E : List (Int × Int)} {L : List (List Int)} (h : Rt B w tv rv ev qv vs tr rg E L) : Rq w tv rv ev qv (trI tr) rg E L := by
  refine ⟨?_, iw_row h.rg, ?_, ⟨vs, row_own h.qs, h.ql.1, fun i u l e1 e2 => iw_row (h.ql.2 i u l e1 e2)⟩⟩
  · obtain ⟨ao, ca, e, h1, h2, h3⟩ := turns_form h.tr
    refine ⟨ao, ca, by rw [e]; simp [trI], by simpa [trI] using h1, h2, fun i x hi => ?_⟩
    unfold trI at hi
    rw [List.getElem?_map] at hi
    cases hx : tr[i]? with
    | none => rw [hx] at hi; cases hi
    | some y =>
      rw [hx] at hi
      cases hi
      obtain ⟨g, e, c1, c2⟩ := h3 i y hx
      exact ⟨g, 0, e, by simpa using c1, by simpa using c2⟩
  · obtain ⟨ao, ca, e, h1, h2, h3⟩ := ends_form h.en
    refine ⟨ao, ca, e, h1, h2, fun i x hi => ?_⟩
    obtain ⟨g, e, c1, c2⟩ := h3 i x hi
    exact ⟨g, 0, e, by simpa using c1, by simpa using c2⟩
theorem measP {N i : Nat} (h : i < N) : N - (intOf (Value.int .i64 ((i : Int) + 1))).toNat < N - (intOf (Value.int .i64 (i : Int))).toNat := by simp only [intOf]; omega
set_option maxHeartbeats 1000000 in
theorem ints_any (w : World) (va vb : Value) (l : List Int) (ha : Row w va (l.map (Value.int .i64))) (hb : Row w vb (l.map (Value.int .i64))) :
    Calls Tryd.prog 35 #[va, vb] w fun e w' => e = .returned (.bool true) ∧ Below w.heap.size w w' := by
  have HA := hide ha
  have HB := hide hb
  obtain ⟨aa, ca, rfl, -, -, hca, -⟩ := ha
  obtain ⟨ab, cb, rfl, -, -, hcb, -⟩ := hb
  obtain ⟨n, hn⟩ : ∃ n, Hid ((l.map (Value.int .i64)).length = n) := ⟨_, rfl⟩
  rw [hn.out] at HA HB ⊢
  have hcap : n ≤ ca ∧ n ≤ cb := ⟨(row_at HA.out hn.out).1, (row_at HB.out hn.out).1⟩
  obtain ⟨hc1, hc2⟩ := hcap
  unfold maxLen at hca hcb
  have hn9 : (n : Int) ≤ 9223372036854775807 := by omega
  have hC1 := hide hc1
  have hC2 := hide hc2
  clear hc1 hc2 hca hcb
  go_enter Tryd.func35, Tryd.ntmps35
  go_upto_region 4 with fail
  go_loopw [5] (fun s5 wr => ∃ i : Nat, s5 = .int .i64 (i : Int) ∧ i ≤ n ∧ Hid (Below w.heap.size w wr)) (fun s5 wr => n - (intOf s5).toNat)
  case atStart => exact ⟨0, rfl, Nat.zero_le _, Below.refl _ _⟩
  case round =>
  obtain ⟨i, rfl, hin, hB⟩ := hrel
  by_cases hlt : i < n
  · have i1 : (i : Int) < (n : Int) := Int.ofNat_lt.2 hlt
    have i2 : (n : Int) ≤ (ca : Int) := Int.ofNat_le.2 hC1.out
    have i3 : (n : Int) ≤ (cb : Int) := Int.ofNat_le.2 hC2.out
    obtain ⟨x, hx⟩ : ∃ x, (l.map (Value.int .i64))[i]? = some (.int .i64 x) := by
      have hl : i < l.length := by have := hn.out; rw [List.length_map] at this; omega
      exact ⟨l[i], by rw [List.getElem?_map, List.getElem?_eq_getElem hl]; rfl⟩
    obtain ⟨b1, o1, rfl, c1⟩ := (row_at (Below.row hB.out HA.out) hn.out).2 i _ hx
    obtain ⟨b2, o2, rfl, c2⟩ := (row_at (Below.row hB.out HB.out) hn.out).2 i _ hx
    clear hx
    go_upto_region 6 with fail
    go_quiet (fail)
    go_wp2_with fail
    go_roundw
    case rel => exact ⟨i + 1, by go_num, hlt, keepF hB.out (Qt.below ⟨_, rfl⟩ _)⟩
    case measure => exact measP hlt
  · have e : n = i := Nat.le_antisymm (Nat.not_lt.1 hlt) hin
    subst e
    have i1 : ¬ (n : Int) < (n : Int) := Int.lt_irrefl _
    go_wp2_with fail
    go_ret
    exact ⟨rfl, hB.out⟩
theorem two_boxes (w : World) (n n' : Int) (a b c d a' b' c' d' : Value) (O1 O2 : Obj) (h1 : O1 = .cells #[.int .i64 n, a, b, c, d] 33) (h2 : O2 = .cells #[.int .i64 n', a', b', c', d'] 33) : Below w.heap.size w ((w.alloc O1).alloc O2) ∧ ∀ q, Below ((w.alloc O1).alloc O2).heap.size ((w.alloc O1).alloc O2) q →
    (q.cell? ⟨w.heap.size, 0, none⟩ = some (.int .i64 n) ∧ q.cell? ⟨w.heap.size, 1, none⟩ = some a ∧ q.cell? ⟨w.heap.size, 2, none⟩ = some b ∧ q.cell? ⟨w.heap.size, 3, none⟩ = some c ∧ q.cell? ⟨w.heap.size, 4, none⟩ = some d) ∧
    (q.cell? ⟨w.heap.size + 1, 0, none⟩ = some (.int .i64 n') ∧ q.cell? ⟨w.heap.size + 1, 1, none⟩ = some a' ∧ q.cell? ⟨w.heap.size + 1, 2, none⟩ = some b' ∧ q.cell? ⟨w.heap.size + 1, 3, none⟩ = some c' ∧ q.cell? ⟨w.heap.size + 1, 4, none⟩ = some d') := by
  have b1 := box_below w O1
  have b2 := box_below (w.alloc O1) O2
  have n1 := heap_alloc_new w O1
  have n2 := heap_alloc_new (w.alloc O1) O2
  have z : (w.alloc O1).heap.size = w.heap.size + 1 := by simp
  rw [z] at n2
  subst h1
  subst h2
  refine ⟨keepF b1 b2, fun q hq => ?_⟩
  have m1 := (((b2.block _ (heap_lt n1)).trans n1))
  have k1 := (hq.block _ (heap_lt m1)).trans m1
  have k2 := (hq.block _ (heap_lt n2)).trans n2
  exact ⟨⟨by rw [cell_of k1]; rfl, by rw [cell_of k1]; rfl, by rw [cell_of k1]; rfl, by rw [cell_of k1]; rfl, by rw [cell_of k1]; rfl⟩, by rw [cell_of k2]; rfl, by rw [cell_of k2]; rfl, by rw [cell_of k2]; rfl, by rw [cell_of k2]; rfl, by rw [cell_of k2]; rfl⟩
set_option maxHeartbeats 4000000 in
theorem eq_any (w : World) (n : Int) (tv rv ev qv tv' rv' ev' qv' : Value) (T : List (Int × Int)) (G : List Int) (E : List (Int × Int)) (L : List (List Int)) (h : Rq w tv rv ev qv T G E L) (h' : Rq w tv' rv' ev' qv' T G E L) :
    Calls Tryd.prog 16 #[.agg #[.int .i64 n, tv, rv, ev, qv], .agg #[.int .i64 n, tv', rv', ev', qv']] w fun e w' => e = .returned (.bool true) ∧ Below w.heap.size w w' := by
  have H := hide h
  have H' := hide h'
  obtain ⟨ta, tc, rfl, t1, t2, -⟩ := h.t
  obtain ⟨ta', tc', rfl, t1', t2', -⟩ := h'.t
  obtain ⟨ea, ec, rfl, e1, e2, -⟩ := h.e
  obtain ⟨ea', ec', rfl, e1', e2', -⟩ := h'.e
  obtain ⟨ga, gc, rfl, -⟩ := h.g
  obtain ⟨ga', gc', rfl, -⟩ := h'.g
  obtain ⟨vs, qr, ql, qe⟩ := h.q
  obtain ⟨vs', qr', ql', qe'⟩ := h'.q
  have QR := hide qr
  have QR' := hide qr'
  obtain ⟨qa, qc, rfl, -, -, qm, -⟩ := qr
  obtain ⟨qa', qc', rfl, -, -, qm', -⟩ := qr'
  have QE := hide qe
  have QE' := hide qe'
  rw [ql] at QR H ⊢
  rw [ql'] at QR' H' ⊢
  have QL := hide ql
  have QL' := hide ql'
  have qcap := (row_at QR.out ql).1
  have qcap' := (row_at QR'.out ql').1
  unfold maxLen at qm qm'
  obtain ⟨TN, hTN⟩ : ∃ TN, Hid (T.length = TN) := ⟨_, rfl⟩
  obtain ⟨EN, hEN⟩ : ∃ EN, Hid (E.length = EN) := ⟨_, rfl⟩
  obtain ⟨GN, hGN⟩ : ∃ GN, Hid ((G.map (Value.int .i64)).length = GN) := ⟨_, rfl⟩
  obtain ⟨LN, hLN⟩ : ∃ LN, Hid (L.length = LN) := ⟨_, rfl⟩
  rw [hTN.out, hEN.out, hGN.out, hLN.out] at H H'
  rw [hLN.out] at QR QR' qcap qcap'
  rw [hTN.out] at t1 t1'
  rw [hEN.out] at e1 e1'
  rw [hTN.out, hEN.out, hGN.out, hLN.out]
  have t9 : (TN : Int) ≤ 9223372036854775807 := by omega
  have e9 : (EN : Int) ≤ 9223372036854775807 := by omega
  have q9 : (LN : Int) ≤ 9223372036854775807 := by omega
  have CT := hide (And.intro t1 t1')
  have CE := hide (And.intro e1 e1')
  have CQ := hide (And.intro qcap qcap')
  obtain ⟨BB, KC⟩ := two_boxes w n n (.slice ta TN tc) (.slice ga GN gc) (.slice ea EN ec) (.slice qa LN qc) (.slice ta' TN tc') (.slice ga' GN gc') (.slice ea' EN ec') (.slice qa' LN qc') _ _ rfl rfl
  have BBh := hide BB
  have KCh := hide KC
  clear h h' t1 t1' t2 t2' e1 e1' e2 e2' ql ql' qe qe' qm qm' qcap qcap' BB KC
  go_enter Tryd.func16, Tryd.ntmps16
  go_upto_region 1 with fail
  generalize ((w.alloc (.cells #[.int .i64 n, .slice ta TN tc, .slice ga GN gc, .slice ea EN ec, .slice qa LN qc] 33)).alloc (.cells #[.int .i64 n, .slice ta' TN tc', .slice ga' GN gc', .slice ea' EN ec', .slice qa' LN qc'] 33)) = w2 at *
  obtain ⟨⟨x0, x1, x2, x3, x4⟩, y0, y1, y2, y3, y4⟩ := KCh.out w2 (Below.refl _ _)
  have IN := hide (ints_any w2 (.slice ga GN gc) (.slice ga' GN gc') G (H.out.below BBh.out).g (H'.out.below BBh.out).g)
  go_upto_region 4 with (go_at_call 35; refine IN.out.mono ?_; rintro e w3 ⟨rfl, b3⟩; have b3 := hide b3)
  clear x0 x1 x2 x3 x4 y0 y1 y2 y3 y4 IN
  go_loopw [5] (fun s5 wr => ∃ i : Nat, s5 = .int .i64 (i : Int) ∧ i ≤ TN ∧ Hid (Below w2.heap.size w2 wr)) (fun s5 wr => TN - (intOf s5).toNat)
  case atStart => exact ⟨0, rfl, Nat.zero_le _, b3.out⟩
  case round =>
  obtain ⟨i, rfl, hin, hB⟩ := hrel
  obtain ⟨⟨-, x1, -, -, -⟩, -, y1, -, -, -⟩ := KCh.out wr hB.out
  by_cases hlt : i < TN
  · have i1 : (i : Int) < (TN : Int) := Int.ofNat_lt.2 hlt
    have i2 : (i : Int) < (tc : Int) := Int.ofNat_lt.2 (Nat.lt_of_lt_of_le hlt CT.out.1)
    have i3 : (i : Int) < (tc' : Int) := Int.ofNat_lt.2 (Nat.lt_of_lt_of_le hlt CT.out.2)
    obtain ⟨x, hx⟩ : ∃ x, T[i]? = some x := ⟨_, List.getElem?_eq_getElem (by rw [hTN.out]; exact hlt)⟩
    have RB := BBh.out.trans (hB.out.mono BBh.out.size)
    obtain ⟨ao, ca, e, -, -, hc⟩ := (H.out.below RB).t
    cases e
    obtain ⟨b1, o1, rfl, c1, c2⟩ := hc i x hx
    obtain ⟨ao, ca, e, -, -, hc'⟩ := (H'.out.below RB).t
    cases e
    obtain ⟨b2, o2, rfl, d1, d2⟩ := hc' i x hx
    have hq : ∀ u : World, (binOp .neq 39 (.agg #[.int .i64 x.1, .int .i64 x.2]) (.agg #[.int .i64 x.1, .int .i64 x.2])).run Tryd.prog u = .ok (.bool false) u := fun u => by rw [turnNeq]; simp
    clear hx RB hc hc'
    go_upto_region 6 with fail
    go_quiet (fail)
    go_wp2_with fail
    go_roundw
    case rel => exact ⟨i + 1, by go_num, hlt, keepF hB.out (Qt.below ⟨_, rfl⟩ _)⟩
    case measure => exact measP hlt
  · have e : TN = i := Nat.le_antisymm (Nat.not_lt.1 hlt) hin
    subst e
    have i1 : ¬ (TN : Int) < (TN : Int) := Int.lt_irrefl _
    go_upto_region 9 with fail
    clear x1 y1
    go_loopw [6] (fun s6 wr => ∃ i : Nat, s6 = .int .i64 (i : Int) ∧ i ≤ EN ∧ Hid (Below w2.heap.size w2 wr)) (fun s6 wr => EN - (intOf s6).toNat)
    case atStart => exact ⟨0, rfl, Nat.zero_le _, hB.out⟩
    case round =>
    clear hB
    obtain ⟨i, rfl, hin, hB⟩ := hrel
    obtain ⟨⟨-, -, -, x1, -⟩, -, -, -, y1, -⟩ := KCh.out wr hB.out
    by_cases hlt : i < EN
    · have i1 : (i : Int) < (EN : Int) := Int.ofNat_lt.2 hlt
      have i2 : (i : Int) < (ec : Int) := Int.ofNat_lt.2 (Nat.lt_of_lt_of_le hlt CE.out.1)
      have i3 : (i : Int) < (ec' : Int) := Int.ofNat_lt.2 (Nat.lt_of_lt_of_le hlt CE.out.2)
      obtain ⟨x, hx⟩ : ∃ x, E[i]? = some x := ⟨_, List.getElem?_eq_getElem (by rw [hEN.out]; exact hlt)⟩
      have RB := BBh.out.trans (hB.out.mono BBh.out.size)
      obtain ⟨ao, ca, e, -, -, hc⟩ := (H.out.below RB).e
      cases e
      obtain ⟨b1, o1, rfl, c1, c2⟩ := hc i x hx
      obtain ⟨ao, ca, e, -, -, hc'⟩ := (H'.out.below RB).e
      cases e
      obtain ⟨b2, o2, rfl, d1, d2⟩ := hc' i x hx
      have hq : ∀ u : World, (binOp .neq 49 (.agg #[.int .i64 x.1, .int .i64 x.2]) (.agg #[.int .i64 x.1, .int .i64 x.2])).run Tryd.prog u = .ok (.bool false) u := fun u => by rw [endNeq]; simp
      clear hx RB hc hc'
      go_upto_region 11 with fail
      go_quiet (fail)
      go_wp2_with fail
      go_roundw
      case rel => exact ⟨i + 1, by go_num, hlt, keepF hB.out (Qt.below ⟨_, rfl⟩ _)⟩
      case measure => exact measP hlt
    · have e : EN = i := Nat.le_antisymm (Nat.not_lt.1 hlt) hin
      subst e
      have i1 : ¬ (EN : Int) < (EN : Int) := Int.lt_irrefl _
      go_upto_region 14 with fail
      clear x1 y1
      go_loopw [7] (fun s7 wr => ∃ i : Nat, s7 = .int .i64 (i : Int) ∧ i ≤ LN ∧ Hid (Below w2.heap.size w2 wr)) (fun s7 wr => LN - (intOf s7).toNat)
      case atStart => exact ⟨0, rfl, Nat.zero_le _, hB.out⟩
      case round =>
      clear hB
      obtain ⟨i, rfl, hin, hB⟩ := hrel
      obtain ⟨⟨-, -, -, -, x1⟩, -, -, -, -, y1⟩ := KCh.out wr hB.out
      by_cases hlt : i < LN
      · have i1 : (i : Int) < (LN : Int) := Int.ofNat_lt.2 hlt
        have i2 : (i : Int) < (qc : Int) := Int.ofNat_lt.2 (Nat.lt_of_lt_of_le hlt CQ.out.1)
        have i3 : (i : Int) < (qc' : Int) := Int.ofNat_lt.2 (Nat.lt_of_lt_of_le hlt CQ.out.2)
        obtain ⟨l, hl⟩ : ∃ l, L[i]? = some l := ⟨_, List.getElem?_eq_getElem (by rw [hLN.out]; exact hlt)⟩
        obtain ⟨u, hu⟩ : ∃ u, vs[i]? = some u := ⟨_, List.getElem?_eq_getElem (by rw [QL.out, hLN.out]; exact hlt)⟩
        obtain ⟨u', hu'⟩ : ∃ u, vs'[i]? = some u := ⟨_, List.getElem?_eq_getElem (by rw [QL'.out, hLN.out]; exact hlt)⟩
        have RB := BBh.out.trans (hB.out.mono BBh.out.size)
        obtain ⟨b1, o1, rfl, c1⟩ := (row_at (Below.row RB QR.out) (QL.out.trans hLN.out)).2 i _ hu
        obtain ⟨b2, o2, rfl, d1⟩ := (row_at (Below.row RB QR'.out) (QL'.out.trans hLN.out)).2 i _ hu'
        have R1 := hide (QE.out i u l hu hl)
        have R2 := hide (QE'.out i u' l hu' hl)
        obtain ⟨ua, uc, rfl, -⟩ := id R1.out
        obtain ⟨ua', uc', rfl, -⟩ := id R2.out
        have RBh := hide RB
        obtain ⟨UN, hUN⟩ : ∃ UN, Hid ((l.map (Value.int .i64)).length = UN) := ⟨_, rfl⟩
        rw [hUN.out] at R1 R2 c1 d1
        have IN := hide (fun k => ints_any (wr.drewN k) (.slice ua UN uc) (.slice ua' UN uc') l (Below.row (RBh.out.trans (Qt.below ⟨_, rfl⟩ _)) R1.out) (Below.row (RBh.out.trans (Qt.below ⟨_, rfl⟩ _)) R2.out))
        clear hl hu hu' RB
        go_upto_region 16 with fail
        go_region_with (go_at_call 35; refine (IN.out 1).mono ?_; rintro e w4 ⟨rfl, b4⟩; have b4 := hide b4)
        all_goals (go_wp2_with fail; go_roundw; first | (case rel => exact ⟨i + 1, by go_num, hlt, keepF (keepF hB.out (Qt.below ⟨_, rfl⟩ _)) b4.out⟩) | skip)
        all_goals exact measP hlt
      · have e : LN = i := Nat.le_antisymm (Nat.not_lt.1 hlt) hin
        subst e
        have i1 : ¬ (LN : Int) < (LN : Int) := Int.lt_irrefl _
        go_wp2_with fail
        go_ret
        exact ⟨rfl, BBh.out.trans (hB.out.mono BBh.out.size)⟩
end Go.Proofs.YtdbhfeiibcpcaaaDoor.Sd

/-
  Runs of more steps, and of more picks, by data.
-/
namespace Go.Proofs.YtdbhfeiibcpcaaaDoor.Sd
open Go.RowKit
set_option linter.unusedVariables false
set_option linter.unusedSimpArgs false
set_option maxRecDepth 100000
theorem adv_tr (S : St) (i : Nat) : (adv S i).tr = S.tr := by unfold adv; split <;> rfl
theorem do_tr (S : St) (i : Nat) (t : Tk) (a : Ac) {S' : St} (hd : doS S i t a = .ok S') : S'.tr = S.tr := by
  unfold doS at hd
  by_cases e1 : a.k = 1
  · rw [if_pos e1] at hd; cases hd; exact adv_tr _ _
  rw [if_neg e1] at hd
  by_cases e2 : a.k = 2
  · rw [if_pos e2] at hd
    by_cases hl : S.lk a.a.toNat = some i
    · rw [if_pos hl] at hd; cases hd; exact adv_tr _ _
    · rw [if_neg hl] at hd; cases hd
  rw [if_neg e2] at hd
  by_cases e3 : a.k = 3
  · rw [if_pos e3] at hd
    by_cases hsl : t.sl = 0
    · rw [if_pos hsl] at hd
      by_cases hl : S.lk a.b.toNat = some i
      · rw [if_pos hl] at hd; cases hd; rfl
      · rw [if_neg hl] at hd; cases hd
    · rw [if_neg hsl] at hd; cases hd; exact adv_tr _ _
  rw [if_neg e3] at hd
  by_cases e4 : a.k = 4
  · rw [if_pos e4] at hd; cases hd; exact adv_tr _ _
  rw [if_neg e4] at hd
  by_cases e5 : a.k = 5
  · rw [if_pos e5] at hd; cases hd; exact adv_tr _ _
  rw [if_neg e5] at hd
  by_cases e6 : a.k = 6
  · rw [if_pos e6] at hd; cases hd; exact adv_tr _ _
  rw [if_neg e6] at hd
  by_cases e7 : a.k = 7
  · rw [if_pos e7] at hd
    cases hx : S.qu a.a.toNat with
    | nil => rw [hx] at hd; cases hd; rfl
    | cons x r => rw [hx] at hd; cases hd; exact adv_tr _ _
  rw [if_neg e7] at hd
  by_cases e8 : a.k = 8
  · rw [if_pos e8] at hd; cases hd; exact adv_tr _ _
  rw [if_neg e8] at hd
  by_cases e9 : a.k = 9
  · rw [if_pos e9] at hd; cases hd; exact adv_tr _ _
  rw [if_neg e9] at hd
  by_cases e10 : a.k = 10
  · rw [if_pos e10] at hd; cases hd; rw [adv_tr]; split <;> rfl
  rw [if_neg e10] at hd
  by_cases e12 : a.k = 12
  · rw [if_pos e12] at hd; cases hd
  rw [if_neg e12] at hd
  by_cases e13 : a.k = 13
  · rw [if_pos e13] at hd; cases hd; exact adv_tr _ _
  · rw [if_neg e13] at hd; cases hd; exact adv_tr _ _
theorem step_tr (S : St) (i : Nat) (t : Tk) (a : Ac) : (stepS S i t a).tr = S.tr := by
  unfold stepS
  cases h : doS S i t a with
  | ok S' => exact do_tr S i t a h
  | error n => simp only; unfold landS; split <;> rfl
theorem turn_tr {S : St} {i : Nat} (h : isR S i = true) : ∃ p, (turnS S i).tr = S.tr ++ [(i, p)] := by
  obtain ⟨t, ht, h3⟩ := isR_some h
  obtain ⟨-, a, ha, -⟩ := how3 h3
  rw [turnS_eq ht ha, step_tr]
  exact ⟨_, rfl⟩
def nx (picks : List Int) (S : St) : Nat := pickN (rdy S) S.tr.length picks (lastS S)
theorem play_succ (picks : List Int) (f : Nat) (S : St) : playS picks (f + 1) S = if rdy S = [] then S else playS picks f (turnS S (nx picks S)) := rfl
theorem play_nil {picks : List Int} {S : St} (h : rdy S = []) : ∀ f, playS picks f S = S
  | 0 => rfl
  | f + 1 => by rw [play_succ, if_pos h]
theorem nx_rdy {picks : List Int} {S : St} (h : rdy S ≠ []) : isR S (nx picks S) = true := rdy_mem (pick_mem h _ _ _)
theorem play_add (picks : List Int) (g : Nat) : ∀ f S, playS picks (f + g) S = playS picks g (playS picks f S) := by
  intro f
  induction f with
  | zero => intro S; rw [Nat.zero_add]; rfl
  | succ f ih =>
    intro S
    rw [show f + 1 + g = f + g + 1 by omega, play_succ, play_succ]
    by_cases h : rdy S = []
    · rw [if_pos h, if_pos h, play_nil h]
    · rw [if_neg h, if_neg h, ih]
theorem play_tr (picks : List Int) : ∀ f S, ∃ l, (playS picks f S).tr = S.tr ++ l ∧ (l.length = f ∨ (l.length < f ∧ rdy (playS picks f S) = [])) := by
  intro f
  induction f with
  | zero => intro S; exact ⟨[], by simp [playS], .inl rfl⟩
  | succ f ih =>
    intro S
    rw [play_succ]
    by_cases h : rdy S = []
    · rw [if_pos h]; exact ⟨[], by simp, .inr ⟨by simp, h⟩⟩
    · rw [if_neg h]
      obtain ⟨p, hp⟩ := turn_tr (nx_rdy (picks := picks) h)
      obtain ⟨l, h1, h2⟩ := ih (turnS S (nx picks S))
      refine ⟨(nx picks S, p) :: l, by rw [h1, hp]; simp, ?_⟩
      rcases h2 with c | ⟨c, d⟩
      · left; simp [c]
      · right; exact ⟨by simpa using c, d⟩
theorem init_tr (ts : List (List Ac)) (room : Nat) : (init ts room).tr = [] := rfl
/-- So many steps: a run cut there. -/
theorem cut_run {ts : List (List Ac)} {room : Nat} {picks : List Int} {most cut : Nat} (hc : cut ≤ (runS ts room picks most).tr.length) : (runS ts room picks cut).tr = (runS ts room picks most).tr.take cut ∧ (runS ts room picks cut).tr.length = cut ∧ cut ≤ most ∧ runS ts room picks most = playS picks (most - cut) (runS ts room picks cut) := by
  obtain ⟨l0, a1, a2⟩ := play_tr picks most (init ts room)
  have hl0 : l0.length ≤ most := by rcases a2 with c | ⟨c, _⟩ <;> omega
  have hml : cut ≤ most := by
    have : (runS ts room picks most).tr.length = l0.length := by show (playS picks most (init ts room)).tr.length = _; rw [a1, init_tr]; simp
    omega
  have e : runS ts room picks most = playS picks (most - cut) (runS ts room picks cut) := by
    show playS picks most _ = playS picks (most - cut) (playS picks cut _)
    rw [← play_add]
    congr 1
    omega
  obtain ⟨l, b1, b2⟩ := play_tr picks cut (init ts room)
  have b1' : (runS ts room picks cut).tr = l := by show (playS picks cut (init ts room)).tr = _; rw [b1, init_tr]; simp
  have hl : l.length = cut := by
    rcases b2 with c | ⟨c, d⟩
    · exact c
    · have d' : rdy (runS ts room picks cut) = [] := d
      rw [e, play_nil d', b1'] at hc
      omega
  obtain ⟨m, c1, -⟩ := play_tr picks (most - cut) (runS ts room picks cut)
  rw [← e, b1'] at c1
  refine ⟨?_, by rw [b1', hl], hml, e⟩
  rw [b1', c1, List.take_append_of_le_length (by omega), List.take_of_length_le (by omega)]
theorem play_take (picks : List Int) (i : Nat) : ∀ f S, S.tr.length + f ≤ i → playS (picks.take i) f S = playS picks f S := by
  intro f
  induction f with
  | zero => intro S _; rfl
  | succ f ih =>
    intro S hl
    rw [play_succ, play_succ]
    by_cases h : rdy S = []
    · rw [if_pos h, if_pos h]
    · have e : nx (picks.take i) S = nx picks S := by
        unfold nx pickN
        rw [List.getElem?_take_of_lt (by omega)]
      rw [if_neg h, if_neg h, e]
      obtain ⟨p, hp⟩ := turn_tr (nx_rdy (picks := picks) h)
      exact ih _ (by rw [hp]; simp; omega)
/-- Whom a pick chose, behind those ahead of it. -/
theorem pick_run {ts : List (List Ac)} {room : Nat} {picks : List Int} {most i : Nat} (h1 : i < (runS ts room picks most).tr.length) (h2 : i < picks.length) : rdy (runS ts room (picks.take i) i) ≠ [] ∧ ∃ p k, picks[i]? = some k ∧ (runS ts room picks most).tr[i]? = some ((rdy (runS ts room (picks.take i) i)).getD (k.toNat % (rdy (runS ts room (picks.take i) i)).length) 0, p) := by
  have e0 : runS ts room (picks.take i) i = runS ts room picks i := play_take picks i i (init ts room) (by rw [init_tr]; simp)
  rw [e0]
  obtain ⟨c1, c2, c3, c4⟩ := cut_run (cut := i) (Nat.le_of_lt h1)
  have hne : rdy (runS ts room picks i) ≠ [] := fun d => by
    rw [c4, play_nil d] at h1; omega
  refine ⟨hne, ?_⟩
  have hk : picks[i]? = some picks[i] := List.getElem?_eq_getElem h2
  have hmi : most - i = (most - i - 1) + 1 := by
    have : i < most := by
      rcases Nat.lt_or_ge i most with d | d
      · exact d
      · have e : most - i = 0 := by omega
        rw [c4, e] at h1
        have : (playS picks 0 (runS ts room picks i)).tr.length = i := c2
        omega
    omega
  obtain ⟨p, hp⟩ := turn_tr (nx_rdy (picks := picks) hne)
  have en : nx picks (runS ts room picks i) = (rdy (runS ts room picks i)).getD (picks[i].toNat % (rdy (runS ts room picks i)).length) 0 := by
    unfold nx pickN
    rw [c2, hk]
  refine ⟨p, picks[i], hk, ?_⟩
  rw [c4, hmi, play_succ, if_neg hne]
  obtain ⟨l, d1, -⟩ := play_tr picks (most - i - 1) (turnS (runS ts room picks i) (nx picks (runS ts room picks i)))
  rw [d1, hp, en, List.append_assoc, List.getElem?_append_right (by omega), c2]
  simp
/-- No further pick changes a run that is over. -/
theorem more_run (picks more : List Int) : ∀ f S, (playS picks f S).tr.length ≤ picks.length → playS (picks ++ more) f S = playS picks f S := by
  intro f
  induction f with
  | zero => intro S _; rfl
  | succ f ih =>
    intro S hl
    rw [play_succ] at hl
    rw [play_succ, play_succ]
    by_cases h : rdy S = []
    · rw [if_pos h, if_pos h]
    · rw [if_neg h] at hl
      obtain ⟨p, hp⟩ := turn_tr (nx_rdy (picks := picks) h)
      have hlt : S.tr.length < picks.length := by
        obtain ⟨l, d1, -⟩ := play_tr picks f (turnS S (nx picks S))
        rw [d1, hp] at hl
        simp at hl
        omega
      have e : nx (picks ++ more) S = nx picks S := by
        unfold nx pickN
        rw [List.getElem?_append_left hlt]
      rw [if_neg h, if_neg h, e]
      exact ih _ hl
end Go.Proofs.YtdbhfeiibcpcaaaDoor.Sd

/-
  Locks, by data.
-/
namespace Go.Proofs.YtdbhfeiibcpcaaaDoor.Sd
open Go.RowKit
set_option linter.unusedVariables false
set_option linter.unusedSimpArgs false
set_option maxRecDepth 100000
def sm (f : Nat → Int) : Nat → Int
  | 0 => 0
  | n + 1 => sm f n + f n
def lm (y : Bool) : Nat := if y = true then 6 else 5
def lkR (y : Bool) (i : Nat) : List Ac := [⟨1, 2, 0, 0⟩, ⟨9, 0, 1, 0⟩] ++ (if y = true then [⟨11, 0, 0, 0⟩] else []) ++ [⟨8, 1, 0, (i : Int) + 1⟩, ⟨9, 1, 0, 0⟩, ⟨2, 2, 0, 0⟩]
def lkI (y : Bool) (i : Nat) : Nat → List Ac
  | 0 => []
  | t + 1 => lkI y i t ++ lkR y i
def lTk (y : Bool) (times i p : Nat) : Tk := ⟨lkI y i times, p, 0, false, 0, false, 0⟩
structure PL (y : Bool) (n times : Nat) (p : Nat → Nat) (H : Option Nat) (S : St) : Prop where
  len : S.tk.length = n
  tk : ∀ i, i < n → S.tk[i]? = some (lTk y times i (p i))
  pb : ∀ i, i < n → p i ≤ lm y * times
  lk : S.lk 2 = H
  hh : ∀ i, H = some i → i < n ∧ p i % lm y ≠ 0
  hn : ∀ i, i < n → H ≠ some i → p i % lm y = 0
  r0 : S.rg 0 = sm (fun i => ((i : Int) + 1) * (((p i + 1) / lm y : Nat) : Int)) n
  r1 : ∀ i, H = some i → (2 ≤ p i % lm y ∧ p i % lm y ≤ lm y - 3 → S.rg 1 = S.rg 0) ∧ (p i % lm y = lm y - 2 → S.rg 1 = S.rg 0 + ((i : Int) + 1))
  tr : (S.tr.length : Int) = sm (fun i => (p i : Int)) n
end Go.Proofs.YtdbhfeiibcpcaaaDoor.Sd

/-
  SchedLocks.
-/
namespace Go.Proofs.YtdbhfeiibcpcaaaDoor.Sd
open Go.RowKit
set_option linter.unusedVariables false
set_option linter.unusedSimpArgs false
set_option maxRecDepth 100000
end Go.Proofs.YtdbhfeiibcpcaaaDoor.Sd

/-
  SchedSplit. (gen_TeN.py)
-/
namespace Go.Proofs.YtdbhfeiibcpcaaaDoor.Sd
open Go.RowKit
open Ix (wp_region_T wpAnyT wpAnyT_take wpAnyT_one wpAnyT_done vac)
set_option linter.unusedVariables false
set_option linter.unusedSimpArgs false
set_option maxRecDepth 100000
theorem run_rq (w : World) (hT : Tb w) (v vp : Value) (us : List Value) (ts : List (List Ac)) (h : TksAt w v us ts) (picks : List Int) (hp : Row w vp (picks.map (Value.int .i64))) (hp1 : ∀ k ∈ picks, k ≤ 9223372036854775807) (room most : Nat) (hE : refE ts room picks most = 0) (S : St) (TL : Nat) (hS : runS ts room picks most = S) (hTL : S.tr.length = TL) :
    Calls Tryd.prog 15 #[v, .int .i64 (room : Int), vp, .int .i64 (most : Int)] w fun e w' => ∃ ta tc r0 rn rc e0 en ec q0 qn qc, e = .returned (.tuple #[.agg #[.int .i64 (TL : Int), .slice ta TL tc, .slice r0 rn rc, .slice e0 en ec, .slice q0 qn qc], .int .i64 0]) ∧ Rq w' (.slice ta TL tc) (.slice r0 rn rc) (.slice e0 en ec) (.slice q0 qn qc) (trI S.tr) (regs S) (endsI S S.tk.length) (quesI S 4) ∧ Below w.heap.size w w' := by
  subst hS
  refine (run_yes w hT v vp us ts h picks hp hp1 room most hE).mono ?_
  rintro e w' ⟨tv, rv, ev, qv, rfl, R, hb⟩
  obtain ⟨r0, rn, rc, e0, en, ec, q0, qn, qc, rfl, rfl, rfl⟩ := rt_forms R
  obtain ⟨vs, R⟩ := R
  obtain ⟨ta, tc, rfl, -⟩ := turns_form R.tr
  have Q := R.rq
  rw [hTL] at Q ⊢
  exact ⟨ta, tc, r0, rn, rc, e0, en, ec, q0, qn, qc, rfl, Q, hb⟩
theorem refE_most {ts : List (List Ac)} {room : Nat} {picks : List Int} {m m' : Nat} (h : refE ts room picks m = 0) (hm : m' ≤ 65536) : refE ts room picks m' = 0 := by
  obtain ⟨m1, ⟨r, hr, r1, r2⟩, -, p1, p2⟩ := refE_ok h
  have hr' : room = r := by omega
  subst hr'
  obtain ⟨e1, e2⟩ := mayE_ok m1
  exact refE_zero e1 e2 r1 r2 p1 p2 hm
theorem refE_take {ts : List (List Ac)} {room : Nat} {picks : List Int} {m i : Nat} (h : refE ts room picks m = 0) (hi : i ≤ picks.length) : refE ts room (picks.take i) (picks.take i).length = 0 := by
  obtain ⟨m1, ⟨r, hr, r1, r2⟩, -, p1, p2⟩ := refE_ok h
  have hr' : room = r := by omega
  subst hr'
  obtain ⟨e1, e2⟩ := mayE_ok m1
  have hl : (picks.take i).length ≤ 65536 := by rw [List.length_take]; omega
  exact refE_zero e1 e2 r1 r2 hl (fun k hk => p2 k (List.mem_of_mem_take hk)) hl
theorem row_take {w : World} {ao : Option Addr} {N cp i : Nat} {picks : List Int} (h : Row w (.slice ao N cp) (picks.map (Value.int .i64))) (hi : i ≤ N) : Row w (.slice ao i cp) ((picks.take i).map (Value.int .i64)) := by
  obtain ⟨a, c, e, h1, h2, h3, h4⟩ := h
  simp only [Value.slice.injEq] at e
  obtain ⟨rfl, e2, rfl⟩ := e
  rw [List.length_map] at e2 h2
  refine ⟨ao, cp, by rw [List.length_map, List.length_take]; congr 1; omega, fun en => ?_, by rw [List.length_map, List.length_take]; omega, h3, fun j hj => ?_⟩
  · obtain ⟨x, y⟩ := h1 en
    have : picks = [] := by simpa using x
    subst this
    exact ⟨by simp, y⟩
  · rw [List.length_map, List.length_take] at hj
    obtain ⟨b, off, e, hc⟩ := h4 j (by rw [List.length_map]; omega)
    refine ⟨b, off, e, ?_⟩
    rw [hc]
    simp
theorem nms_row {B : Nat} {w : World} {v : Value} {l : List Int} (h : Nms B w v l) : Row w v (l.map (Value.int .i64)) := row_own (B := B) (T := 3) (by rw [List.length_map]; exact h)
theorem run_appNs {B : Nat} {w : World} {v vx : Value} {l m : List Int} (h : Nms B w v l) (hx : Row w vx (m.map (Value.int .i64))) (hl : l.length + m.length ≤ 100000) (hB : B ≤ w.heap.size) :
    ∃ v' w', (Builtin.append_ #[23, 23] 23 #[v, vx]).run Tryd.prog w = .ok v' w' ∧ Nms B w' v' (l ++ m) ∧ w.grownBy w' v.ownBlock ∧ ∀ k, v'.ownBlock = some k → v.ownBlock = some k ∨ w.heap.size ≤ k := by
  obtain ⟨i0, hi, hz0, hz1, hz2⟩ := info_parts infoI
  have hx0 := hx
  obtain ⟨ao, cap, rfl, h2, h3, h4, h5⟩ := hx
  cases ao with
  | none =>
    obtain ⟨e0, rfl⟩ := h2 rfl
    have e1 : m = [] := by simpa using e0
    subst e1
    refine ⟨v, w, ?_, by simpa using h, Below.grownAny (Below.refl _ _) _, fun k hk => .inl hk⟩
    simp only [List.map_nil, List.length_nil]
    exact run_append_owned_none (P := Tryd.prog) (w := w) B 23 23 3 i0 1 Tryd.underlying23 hi v l.length (l.map (Value.int .i64)) h
  | some ad =>
    have hlm : (m.map (Value.int .i64)).length = m.length := by simp
    rw [hlm]
    rw [hlm] at hx0 h3
    obtain ⟨v', w', hr, ho, hg, _, hat⟩ := run_append_own_at (P := Tryd.prog) w B 23 23 3 i0 (.int .i64 0) 1 8 Tryd.underlying23 hi hz0 hz1 hz2 rfl (by decide) v l.length (l.map (Value.int .i64)) h ad m.length cap (m.map (Value.int .i64)) (by simp) (row_news hx0) (ivals_one m) (by unfold maxLen; omega) (by omega) hB
    refine ⟨v', w', hr, ?_, hg, fun k hk => ?_⟩
    · unfold Nms
      rw [List.length_append, List.map_append]
      exact ho
    · rcases hat with e | e
      · exact .inl (by rw [← e]; exact hk)
      · rw [e] at hk; cases hk; exact .inr (Nat.le_refl _)
theorem more_le {picks more : List Int} (h1 : ∀ k ∈ picks, -9223372036854775808 ≤ k ∧ k ≤ 9223372036854775807) (h2 : ∀ k ∈ more, -9223372036854775808 ≤ k ∧ k ≤ 9223372036854775807) : ∀ k ∈ picks ++ more, k ≤ 9223372036854775807 := fun k hk => by
  rcases List.mem_append.1 hk with c | c
  · exact (h1 k c).2
  · exact (h2 k c).2
theorem split_more {ts : List (List Ac)} {r : Nat} {picks more : List Int} {S : St} {TL : Nat} (h1 : TL < 200) (h2 : TL ≤ picks.length) (hS : runS ts r picks 200 = S) (hTL : S.tr.length = TL) : runS ts r (picks ++ more) 200 = S := by
  rw [← hS]
  refine more_run picks more 200 (init ts r) ?_
  have : (playS picks 200 (init ts r)).tr.length = TL := by rw [← hTL, ← hS]; rfl
  omega
set_option maxHeartbeats 8000000 in
theorem split_walk (w : World) (hT : Tb w) (at_ : Option Addr) (TN tcp : Nat) (us : List Value) (ts : List (List Ac)) (htk : TksAt w (.slice at_ TN tcp) us ts) (room : Int) (ao : Option Addr) (N cp : Nat) (picks : List Int) (hp : Row w (.slice ao N cp) (picks.map (Value.int .i64))) (hb : ∀ k ∈ picks, -9223372036854775808 ≤ k ∧ k ≤ 9223372036854775807) (cut : Int) (am : Option Addr) (M cm : Nat) (more : List Int) (hm : Row w (.slice am M cm) (more.map (Value.int .i64))) (hmb : ∀ k ∈ more, -9223372036854775808 ≤ k ∧ k ≤ 9223372036854775807) :
    Calls Tryd.prog 4 #[.slice at_ TN tcp, .int .i64 room, .slice ao N cp, .int .i64 cut, .slice am M cm] w fun e w' => e = .returned (.bool true) ∧ Below w.heap.size w w' := by
  obtain ⟨hN, hcap, hcap2, hrd⟩ := picks_at hp
  obtain ⟨hM, mcap, -, -⟩ := picks_at hm
  by_cases hbd : N ≤ 60 ∧ M ≤ 60 ∧ TN ≤ 20
  · obtain ⟨k1, k2, k3⟩ := hbd
    have l1 : (N : Int) ≤ 60 := by omega
    have l2 : (M : Int) ≤ 60 := by omega
    have l3 : (TN : Int) ≤ 20 := by omega
    have hNc : (N : Int) ≤ (cp : Int) := by omega
    have RD := hide hrd
    have HP : Hid (∀ u, Below w.heap.size w u → Row u (.slice ao N cp) (picks.map (Value.int .i64))) := fun u hu => Below.row hu hp
    have HM : Hid (∀ u, Below w.heap.size w u → Row u (.slice am M cm) (more.map (Value.int .i64))) := fun u hu => Below.row hu hm
    have PB := hide hb
    have MB := hide hmb
    have T0 := hide hT
    have TK := hide htk
    have NN := hide hN
    have NM := hide hM
    clear hp hm hb hmb hT htk hrd hN hM hcap hcap2 mcap
    by_cases hE0 : refE ts room picks (200 : Nat) = 0
    · obtain ⟨-, ⟨r, hr, -, -⟩, -, -, pos⟩ := refE_ok hE0
      subst hr
      have hE := hide hE0
      have POS := hide pos
      obtain ⟨SS, hSS⟩ : ∃ SS, Hid (runS ts r picks 200 = SS) := ⟨_, rfl⟩
      obtain ⟨TL, hTL⟩ : ∃ TL, Hid (SS.tr.length = TL) := ⟨_, rfl⟩
      have TL200 : Hid (TL ≤ 200) := by
        show _ ≤ _
        rw [← hTL.out, ← hSS.out]
        obtain ⟨l, e, h⟩ := play_tr picks 200 (init ts r)
        show (playS picks 200 (init ts r)).tr.length ≤ 200
        rw [e, init_tr]
        simp
        rcases h with c | ⟨c, -⟩ <;> omega
      have tl2 : (TL : Int) ≤ 200 := by have := TL200.out; omega
      clear hE0 pos
      go_enter Tryd.func4, Tryd.ntmps4
      go_upto_region 5 with (go_at_call 9; refine (begun_any _ T0.out).mono ?_; rintro e u1 ⟨rfl, b1⟩; replace b1 := hide b1)
      have RUN := hide (run_rq u1 (T0.out.below b1.out) _ _ us ts (TK.out.below b1.out) picks (HP.out u1 b1.out) (fun k hk => (PB.out k hk).2) r 200 hE.out SS TL hSS.out hTL.out)
      go_upto_region 8 with (go_at_call 15; refine RUN.out.mono ?_; rintro e w5 ⟨ta, tc, r0, rn, rc, e0, en, ec, q0, qn, qc, rfl, HR, b5⟩; replace HR := hide HR; replace b5 := hide b5)
      have bb := box_below w5 (.cells #[.int .i64 (TL : Int), .slice ta TL tc, .slice r0 rn rc, .slice e0 en ec, .slice q0 qn qc] 33)
      have nb := heap_alloc_new w5 (.cells #[.int .i64 (TL : Int), .slice ta TL tc, .slice r0 rn rc, .slice e0 en ec, .slice q0 qn qc] 33)
      have HR6 := hide (HR.out.below bb)
      have B6 : Hid (Below w.heap.size w (w5.alloc (.cells #[.int .i64 (TL : Int), .slice ta TL tc, .slice r0 rn rc, .slice e0 en ec, .slice q0 qn qc] 33))) := b1.out.trans ((keepF b5.out bb).mono b1.out.size)
      clear RUN HR b5 bb b1
      generalize w5.alloc (.cells #[.int .i64 (TL : Int), .slice ta TL tc, .slice r0 rn rc, .slice e0 en ec, .slice q0 qn qc] 33) = w6 at *
      generalize w5.heap.size = pb at *
      have KC : Hid (∀ q, Below w6.heap.size w6 q → (q.cell? ⟨pb, 0, none⟩ = some (.int .i64 (TL : Int)) ∧ q.cell? ⟨pb, 1, none⟩ = some (.slice ta TL tc) ∧ q.cell? ⟨pb, 2, none⟩ = some (.slice r0 rn rc) ∧ q.cell? ⟨pb, 3, none⟩ = some (.slice e0 en ec) ∧ q.cell? ⟨pb, 4, none⟩ = some (.slice q0 qn qc)) ∧ Rq q (.slice ta TL tc) (.slice r0 rn rc) (.slice e0 en ec) (.slice q0 qn qc) (trI SS.tr) (regs SS) (endsI SS SS.tk.length) (quesI SS 4)) := fun q hq => by
        have k := (hq.block _ (heap_lt nb)).trans nb
        exact ⟨⟨by rw [cell_of k]; rfl, by rw [cell_of k]; rfl, by rw [cell_of k]; rfl, by rw [cell_of k]; rfl, by rw [cell_of k]; rfl⟩, HR6.out.below hq⟩
      have TC : Hid (TL ≤ tc) := by
        obtain ⟨a, c, e, h, -⟩ := HR6.out.t
        simp only [Value.slice.injEq] at e
        obtain ⟨-, e2, rfl⟩ := e
        show TL ≤ tc
        rw [e2]; exact h
      clear nb
      obtain ⟨⟨y0, -⟩, -⟩ := KC.out w6 (Below.refl _ _)
      by_cases hc : 0 ≤ cut ∧ cut ≤ (TL : Int)
      · obtain ⟨hc0, hc1⟩ := hc
        obtain ⟨c, rfl⟩ := nat_of hc0
        have hcT : c ≤ TL := by omega
        obtain ⟨f1, f2, f3, f4⟩ := cut_run (ts := ts) (room := r) (picks := picks) (most := 200) (cut := c) (by rw [hSS.out, hTL.out]; exact hcT)
        rw [hSS.out] at f1
        obtain ⟨CC, hCC⟩ : ∃ CC, Hid (runS ts r picks c = CC) := ⟨_, rfl⟩
        rw [hCC.out] at f1 f2
        have F1 := hide f1
        have RUN := hide (run_rq w6 (T0.out.below B6.out) _ _ us ts (TK.out.below B6.out) picks (HP.out w6 B6.out) (fun k hk => (PB.out k hk).2) r c (refE_most hE.out (by omega)) CC c hCC.out f2)
        clear f1 f2 f3 f4
        go_upto_region 10 with (go_at_call 15; refine RUN.out.mono ?_; rintro e w7 ⟨ta7, tc7, r07, rn7, rc7, e07, en7, ec7, q07, qn7, qc7, rfl, HR7, b7⟩; replace HR7 := hide HR7; replace b7 := hide b7)
        have bb := box_below w7 (.cells #[.int .i64 (c : Int), .slice ta7 c tc7, .slice r07 rn7 rc7, .slice e07 en7 ec7, .slice q07 qn7 qc7] 33)
        have nb := heap_alloc_new w7 (.cells #[.int .i64 (c : Int), .slice ta7 c tc7, .slice r07 rn7 rc7, .slice e07 en7 ec7, .slice q07 qn7 qc7] 33)
        have HR8 := hide (HR7.out.below bb)
        have B8 := hide (keepF b7.out bb)
        clear RUN HR7 b7 bb y0
        generalize w7.alloc (.cells #[.int .i64 (c : Int), .slice ta7 c tc7, .slice r07 rn7 rc7, .slice e07 en7 ec7, .slice q07 qn7 qc7] 33) = w8 at *
        generalize w7.heap.size = pc at *
        have s0 : w8.cell? ⟨pc, 0, none⟩ = some (.int .i64 (c : Int)) := by rw [cell_of nb]; rfl
        have s1 : w8.cell? ⟨pc, 1, none⟩ = some (.slice ta7 c tc7) := by rw [cell_of nb]; rfl
        go_upto_region 13 with fail
        clear s0
        have KS : Hid (∀ q, Below w8.heap.size w8 q → q.cell? ⟨pc, 1, none⟩ = some (.slice ta7 c tc7)) := fun q hq => (hq.cell (lt_of_cell s1)).trans s1
        clear s1 nb
        go_loopw [15] (fun s15 wr => ∃ i : Nat, s15 = .int .i64 (i : Int) ∧ i ≤ c ∧ Hid (Below w8.heap.size w8 wr)) (fun s15 wr => c - (intOf s15).toNat)
        case atStart => exact ⟨0, rfl, Nat.zero_le _, Below.refl _ _⟩
        case round =>
        obtain ⟨i, rfl, hic, hB⟩ := hrel
        by_cases hlt : i < c
        · have i1 : (i : Int) < (c : Int) := Int.ofNat_lt.2 hlt
          have i4 : (i : Int) < (TL : Int) := by omega
          have s1 := KS.out wr hB.out
          obtain ⟨⟨-, y1, -⟩, HRq⟩ := KC.out wr (B8.out.trans (hB.out.mono B8.out.size))
          obtain ⟨x, hx⟩ : ∃ x, SS.tr[i]? = some x := ⟨_, List.getElem?_eq_getElem (by rw [hTL.out]; omega)⟩
          have hx7 : CC.tr[i]? = some x := by rw [F1.out, List.getElem?_take_of_lt hlt]; exact hx
          obtain ⟨a, q, e, -, -, hc⟩ := HRq.t
          simp only [Value.slice.injEq] at e
          rw [← e.1] at hc
          clear e
          obtain ⟨b1, o1, hta, c1, c2⟩ := hc i ((x.1 : Int), (x.2 : Int)) (by unfold trI; rw [List.getElem?_map, hx]; rfl)
          subst hta
          have HR9 := HR8.out.below hB.out
          obtain ⟨a, q, e, h7, -, hc'⟩ := HR9.t
          have hcc : c ≤ tc7 := by
            simp only [Value.slice.injEq] at e
            obtain ⟨-, e2, rfl⟩ := e
            rw [e2]; exact h7
          simp only [Value.slice.injEq] at e
          obtain ⟨rfl, -, rfl⟩ := e
          obtain ⟨b2, o2, rfl, d1, d2⟩ := hc' i ((x.1 : Int), (x.2 : Int)) (by unfold trI; rw [List.getElem?_map, hx7]; rfl)
          have i2 : (i : Int) < (tc : Int) := Int.ofNat_lt.2 (Nat.lt_of_lt_of_le (Nat.lt_of_lt_of_le hlt hcT) TC.out)
          have i3 : (i : Int) < (tc7 : Int) := Int.ofNat_lt.2 (Nat.lt_of_lt_of_le hlt hcc)
          have hq : ∀ u : World, (binOp .neq 39 (.agg #[.int .i64 (x.1 : Int), .int .i64 (x.2 : Int)]) (.agg #[.int .i64 (x.1 : Int), .int .i64 (x.2 : Int)])).run Tryd.prog u = .ok (.bool false) u := fun u => by rw [turnNeq]; simp
          clear hx hx7 hc hc' HRq HR9 h7 hcc
          go_upto_region 15 with fail
          go_quiet (fail)
          go_wp2_with fail
          go_roundw
          case rel => exact ⟨i + 1, by go_num, hlt, keepF hB.out (Qt.below ⟨_, rfl⟩ _)⟩
          case measure => exact measP hlt
        · have e : c = i := Nat.le_antisymm (Nat.not_lt.1 hlt) hic
          subst e
          have i1 : ¬ (c : Int) < (c : Int) := Int.lt_irrefl _
          obtain ⟨wz, hz⟩ : ∃ z, z = wr := ⟨_, rfl⟩
          subst hz
          have Bz : Hid (Below w.heap.size w wz) := B6.out.trans ((B8.out.trans (hB.out.mono B8.out.size)).mono B6.out.size)
          have KCz := hide (fun q (hq : Below wz.heap.size wz q) => KC.out q ((B8.out.trans (hB.out.mono B8.out.size)).trans (hq.mono (B8.out.trans (hB.out.mono B8.out.size)).size)))
          clear KC KS HR8 HR6 B8 B6 hB F1
          go_upto_region 18 with fail
          go_loopw [16] (fun s16 wr => ∃ i : Nat, s16 = .int .i64 (i : Int) ∧ i ≤ TL ∧ Hid (Below wz.heap.size wz wr)) (fun s16 wr => TL - (intOf s16).toNat)
          case atStart => exact ⟨0, rfl, Nat.zero_le _, Below.refl _ _⟩
          case round =>
          obtain ⟨i, rfl, hiT, hB⟩ := hrel
          by_cases hlt : i < TL ∧ i < N
          · have i1 : (i : Int) < (TL : Int) := Int.ofNat_lt.2 hlt.1
            have i2 : (i : Int) < (N : Int) := Int.ofNat_lt.2 hlt.2
            obtain ⟨⟨z0, z1, -, -, -⟩, HR2⟩ := KCz.out wr hB.out
            have Bw := hide (Bz.out.trans (hB.out.mono Bz.out.size))
            have hti : (picks.take i).length = i := by rw [List.length_take]; have := NN.out; omega
            have hRE := refE_take (i := i) hE.out (by rw [NN.out]; exact Nat.le_of_lt hlt.2)
            have RDY := hide (ready_yes wr (T0.out.below Bw.out) _ (.slice ao i cp) us ts (TK.out.below Bw.out) (picks.take i) (row_take (HP.out wr Bw.out) (Nat.le_of_lt hlt.2)) (fun k hk => (PB.out k (List.mem_of_mem_take hk)).2) r hRE)
            rw [hti] at RDY
            obtain ⟨hne, p, k, hk, hx⟩ := pick_run (ts := ts) (room := r) (picks := picks) (most := 200) (i := i) (by rw [hSS.out, hTL.out]; exact hlt.1) (by rw [NN.out]; exact hlt.2)
            rw [hSS.out] at hx
            obtain ⟨RL, hRL⟩ : ∃ RL, Hid (rdy (runS ts r (picks.take i) i) = RL) := ⟨_, rfl⟩
            rw [hRL.out] at RDY hne hx
            obtain ⟨LN, hLN⟩ : ∃ LN, Hid (RL.length = LN) := ⟨_, rfl⟩
            rw [hLN.out] at hx
            have hLN0 : 0 < LN := by rw [← hLN.out]; exact List.length_pos_iff.2 hne
            have hpk := PB.out k (List.mem_of_getElem? hk)
            obtain ⟨kn, rfl⟩ := nat_of ((POS.out k (List.mem_of_getElem? hk)))
            rw [Int.toNat_natCast] at hx
            obtain ⟨md, hmd⟩ : ∃ md, Hid (kn % LN = md) := ⟨_, rfl⟩
            rw [hmd.out] at hx
            have hmk : (md : Int) ≤ (kn : Int) := by rw [← hmd.out]; exact Int.ofNat_le.2 (Nat.mod_le _ _)
            have hml : md < LN := by rw [← hmd.out]; exact Nat.mod_lt _ hLN0
            have hmod : Int.tmod (kn : Int) (LN : Int) = (md : Int) := by rw [Int.tmod_eq_emod_of_nonneg (by omega), ← hmd.out]; rfl
            obtain ⟨TV, hTV⟩ : ∃ TV, Hid (RL.getD md 0 = TV) := ⟨_, rfl⟩
            rw [hTV.out] at hx
            have hget : (ns RL)[md]? = some (TV : Int) := by rw [← hTV.out]; exact ns_get RL (by rw [hLN.out]; exact hml)
            obtain ⟨pb2, po2, rfl, hpc⟩ := RD.out wr Bw.out i _ hk
            have hpc := hide hpc
            obtain ⟨a9, c9, ex, -, -, hcx⟩ := HR2.t
            simp only [Value.slice.injEq] at ex
            obtain ⟨e91, -, e93⟩ := ex
            rw [← e91] at hcx
            clear e91 e93
            obtain ⟨tb, tof, hta, tc1, -⟩ := hcx i ((TV : Int), (p : Int)) (by unfold trI; rw [List.getElem?_map, hx]; rfl)
            subst hta
            have tc1 := hide tc1
            have z1h := hide z1
            have i7 : (i : Int) < (tc : Int) := Int.ofNat_lt.2 (Nat.lt_of_lt_of_le hlt.1 TC.out)
            clear hx hRE hne hk hcx hti HR2
            go_upto_region 21 with (go_at_call 17; refine RDY.out.mono ?_; rintro e w7 ⟨v', rfl, hv', b7⟩; have hv' := hide hv'; have b7 := hide b7)
            obtain ⟨va, vc, ev', hvc, hvg⟩ := hv'.out.form
            rw [ns_len, hLN.out] at ev' hvc
            subst ev'
            obtain ⟨vb, rfl, vcell⟩ := hvg md _ hget
            have z1 := (b7.out.cell (lt_of_cell z1h.out)).trans z1h.out
            have tcell := (b7.out.cell (lt_of_cell tc1.out)).trans tc1.out
            have pcell := (b7.out.cell (lt_of_cell hpc.out)).trans hpc.out
            have g1 : ((LN : Int) == 0) = false := by simp; omega
            have g2 : (md : Int) < (LN : Int) := Int.ofNat_lt.2 hml
            have g3 : (LN : Int) ≤ (vc : Int) := Int.ofNat_le.2 hvc
            have g4 : (0 : Int) < (LN : Int) := Int.ofNat_lt.2 hLN0
            have g5 : ¬ (LN : Int) = 0 := by omega
            have HMD := hide hmod
            have G6 : Hid (¬ LN = 0) := by show ¬ LN = 0; omega
            clear RDY hget hvg hmod hmk z0 hpk hLN0 hml hvc hpc tc1 z1h
            have bq : Below w7.heap.size w7 w7.drew := (Below.refl _ _).drew
            have BQ : Hid (Below wz.heap.size wz w7.drew) := keepF (keepF hB.out b7.out) bq
            have KP : Hid (w7.drew.cell? ⟨pb, 1, none⟩ = some (.slice (some ⟨tb, tof, none⟩) TL tc) ∧ w7.drew.cell? ⟨pb2, po2 + i, none⟩ = some (.int .i64 (kn : Int)) ∧ w7.drew.cell? ⟨vb, md, none⟩ = some (.int .i64 (TV : Int)) ∧ w7.drew.cell? ⟨tb, tof + i * 2, none⟩ = some (.int .i64 (TV : Int))) := ⟨z1, pcell, vcell, tcell⟩
            clear bq z1 pcell vcell tcell
            refine wp_region_T (fun q => q.cell? ⟨pb, 1, none⟩ = some (.slice (some ⟨tb, tof, none⟩) TL tc) ∧ q.cell? ⟨pb2, po2 + i, none⟩ = some (.int .i64 (kn : Int)) ∧ q.cell? ⟨vb, md, none⟩ = some (.int .i64 (TV : Int)) ∧ q.cell? ⟨tb, tof + i * 2, none⟩ = some (.int .i64 (TV : Int))) 25 (by kernel_rfl) ?_
            generalize w7.drew = q at *
            refine wpAnyT_take (i := 0) (oi := { dst := some 122, op := Op.move (Operand.tmp 18), type := 26, pos := "law.go:149", after := #[], guard := none }) (v := .int .i64 0) [1, 2, 6, 7, 25] rfl (by kernel_rfl) (by kernel_rfl) (by kernel_rfl) (by kernel_rfl) (fun _ _ _ h => h) (Or.inl ⟨by rfl, ?_⟩) KP.out ?_
            · intro wq hSw
              obtain ⟨y0, y1, y2, y3⟩ := hSw
              go_simp
            (try simp only [Act.put, List.setIfInBounds_toArray, List.set_cons_zero, List.set_cons_succ])
            refine wpAnyT_take (i := 1) (oi := { dst := some 123, op := Op.binOp BinOp.neq 26 (Operand.tmp 122) (Operand.const (Value.int IntKind.i64 0)) 26, type := 4, pos := "law.go:149", after := #[{ on := 0, ground := Ground.data }], guard := none }) (v := .bool false) [2, 6, 7, 25] rfl (by kernel_rfl) (by kernel_rfl) (by kernel_rfl) (by kernel_rfl) (fun _ _ _ h => h) (Or.inl ⟨by rfl, ?_⟩) KP.out ?_
            · intro wq hSw
              obtain ⟨y0, y1, y2, y3⟩ := hSw
              go_simp
            (try simp only [Act.put, List.setIfInBounds_toArray, List.set_cons_zero, List.set_cons_succ])
            refine wpAnyT_take (i := 2) (oi := { dst := some 124, op := Op.move (Operand.tmp 123), type := 4, pos := "law.go:149", after := #[{ on := 1, ground := Ground.data }], guard := none }) (v := .bool false) [6, 7, 25] rfl (by kernel_rfl) (by kernel_rfl) (by kernel_rfl) (by kernel_rfl) (fun _ _ _ h => h) (Or.inl ⟨by rfl, ?_⟩) KP.out ?_
            · intro wq hSw
              obtain ⟨y0, y1, y2, y3⟩ := hSw
              go_simp
            (try simp only [Act.put, List.setIfInBounds_toArray, List.set_cons_zero, List.set_cons_succ])
            refine wpAnyT_take (i := 3) (oi := { dst := some 125, op := Op.move (Operand.tmp 17), type := 23, pos := "law.go:149", after := #[{ on := 2, ground := Ground.guard }], guard := some (2, false) }) (v := .slice (some ⟨vb, 0, none⟩) LN vc) [4, 5, 6, 7, 25] rfl (by kernel_rfl) (by kernel_rfl) (by kernel_rfl) (by kernel_rfl) (fun _ _ _ h => h) (Or.inl ⟨by rfl, ?_⟩) KP.out ?_
            · intro wq hSw
              obtain ⟨y0, y1, y2, y3⟩ := hSw
              go_simp
            (try simp only [Act.put, List.setIfInBounds_toArray, List.set_cons_zero, List.set_cons_succ])
            refine wpAnyT_take (i := 4) (oi := { dst := some 126, op := Op.call { callee := Callee.builtin Builtin.len, args := #[Operand.tmp 125], argTypes := #[23] }, type := 3, pos := "law.go:149", after := #[{ on := 3, ground := Ground.data }, { on := 2, ground := Ground.guard }], guard := some (2, false) }) (v := .int .i64 (LN : Int)) [5, 6, 7, 25] rfl (by kernel_rfl) (by kernel_rfl) (by kernel_rfl) (by kernel_rfl) (fun _ _ _ h => h) (Or.inl ⟨by rfl, ?_⟩) KP.out ?_
            · intro wq hSw
              obtain ⟨y0, y1, y2, y3⟩ := hSw
              go_simp
            (try simp only [Act.put, List.setIfInBounds_toArray, List.set_cons_zero, List.set_cons_succ])
            refine wpAnyT_take (i := 5) (oi := { dst := some 127, op := Op.binOp BinOp.eql 3 (Operand.tmp 126) (Operand.const (Value.int IntKind.i64 0)) 3, type := 4, pos := "law.go:149", after := #[{ on := 4, ground := Ground.data }, { on := 2, ground := Ground.guard }], guard := some (2, false) }) (v := .bool false) [6, 7, 25] rfl (by kernel_rfl) (by kernel_rfl) (by kernel_rfl) (by kernel_rfl) (fun _ _ _ h => h) (Or.inl ⟨by rfl, ?_⟩) KP.out ?_
            · intro wq hSw
              obtain ⟨y0, y1, y2, y3⟩ := hSw
              go_simp
            (try simp only [Act.put, List.setIfInBounds_toArray, List.set_cons_zero, List.set_cons_succ])
            refine wpAnyT_take (i := 6) (oi := { dst := some 128, op := Op.pick (Operand.tmp 124) (Operand.const (Value.bool true)) (Operand.tmp 127), type := 4, pos := "law.go:149", after := #[{ on := 2, ground := Ground.data }, { on := 5, ground := Ground.data }], guard := none }) (v := .bool false) [7, 25] rfl (by kernel_rfl) (by kernel_rfl) (by kernel_rfl) (by kernel_rfl) (fun _ _ _ h => h) (Or.inl ⟨by rfl, ?_⟩) KP.out ?_
            · intro wq hSw
              obtain ⟨y0, y1, y2, y3⟩ := hSw
              go_simp
            (try simp only [Act.put, List.setIfInBounds_toArray, List.set_cons_zero, List.set_cons_succ])
            refine wpAnyT_take (i := 7) (oi := { dst := some 129, op := Op.move (Operand.tmp 128), type := 4, pos := "law.go:149", after := #[{ on := 6, ground := Ground.data }, { on := 2, ground := Ground.chain }], guard := none }) (v := .bool false) [25] rfl (by kernel_rfl) (by kernel_rfl) (by kernel_rfl) (by kernel_rfl) (fun _ _ _ h => h) (Or.inl ⟨by rfl, ?_⟩) KP.out ?_
            · intro wq hSw
              obtain ⟨y0, y1, y2, y3⟩ := hSw
              go_simp
            (try simp only [Act.put, List.setIfInBounds_toArray, List.set_cons_zero, List.set_cons_succ])
            refine wpAnyT_take (i := 8) (oi := { dst := some 130, op := Op.move (Operand.tmp 17), type := 23, pos := "law.go:149", after := #[{ on := 7, ground := Ground.guard }], guard := some (7, false) }) (v := .slice (some ⟨vb, 0, none⟩) LN vc) [16, 17, 24, 25] rfl (by kernel_rfl) (by kernel_rfl) (by kernel_rfl) (by kernel_rfl) (fun _ _ _ h => h) (Or.inl ⟨by rfl, ?_⟩) KP.out ?_
            · intro wq hSw
              obtain ⟨y0, y1, y2, y3⟩ := hSw
              go_simp
            (try simp only [Act.put, List.setIfInBounds_toArray, List.set_cons_zero, List.set_cons_succ])
            refine wpAnyT_take (i := 9) (oi := { dst := some 131, op := Op.move (Operand.tmp 2), type := 23, pos := "law.go:149", after := #[{ on := 7, ground := Ground.guard }], guard := some (7, false) }) (v := .slice (some ⟨pb2, po2, none⟩) N cp) [11, 12, 15, 16, 17, 24, 25] rfl (by kernel_rfl) (by kernel_rfl) (by kernel_rfl) (by kernel_rfl) (fun _ _ _ h => h) (Or.inl ⟨by rfl, ?_⟩) KP.out ?_
            · intro wq hSw
              obtain ⟨y0, y1, y2, y3⟩ := hSw
              go_simp
            (try simp only [Act.put, List.setIfInBounds_toArray, List.set_cons_zero, List.set_cons_succ])
            refine wpAnyT_take (i := 10) (oi := { dst := some 132, op := Op.move (Operand.tmp 16), type := 3, pos := "law.go:149", after := #[{ on := 7, ground := Ground.guard }], guard := some (7, false) }) (v := .int .i64 (i : Int)) [11, 12, 15, 16, 17, 24, 25] rfl (by kernel_rfl) (by kernel_rfl) (by kernel_rfl) (by kernel_rfl) (fun _ _ _ h => h) (Or.inl ⟨by rfl, ?_⟩) KP.out ?_
            · intro wq hSw
              obtain ⟨y0, y1, y2, y3⟩ := hSw
              go_simp
            (try simp only [Act.put, List.setIfInBounds_toArray, List.set_cons_zero, List.set_cons_succ])
            refine wpAnyT_take (i := 11) (oi := { dst := some 133, op := Op.indexAddr 23 (Operand.tmp 131) (Operand.tmp 132), type := 0, pos := "law.go:149", after := #[{ on := 9, ground := Ground.data }, { on := 10, ground := Ground.data }, { on := 7, ground := Ground.guard }], guard := some (7, false) }) (v := .pointer (some ⟨pb2, po2 + i, none⟩)) [12, 15, 16, 17, 24, 25] rfl (by kernel_rfl) (by kernel_rfl) (by kernel_rfl) (by kernel_rfl) (fun _ _ _ h => h) (Or.inl ⟨by rfl, ?_⟩) KP.out ?_
            · intro wq hSw
              obtain ⟨y0, y1, y2, y3⟩ := hSw
              go_simp
            (try simp only [Act.put, List.setIfInBounds_toArray, List.set_cons_zero, List.set_cons_succ])
            refine wpAnyT_take (i := 12) (oi := { dst := some 134, op := Op.load 3 (Operand.tmp 133), type := 3, pos := "law.go:149", after := #[{ on := 11, ground := Ground.data }, { on := 7, ground := Ground.guard }], guard := some (7, false) }) (v := .int .i64 (kn : Int)) [15, 16, 17, 24, 25] rfl (by kernel_rfl) (by kernel_rfl) (by kernel_rfl) (by kernel_rfl) (fun _ _ _ h => h) (Or.inl ⟨by rfl, ?_⟩) KP.out ?_
            · intro wq hSw
              obtain ⟨y0, y1, y2, y3⟩ := hSw
              go_simp
            (try simp only [Act.put, List.setIfInBounds_toArray, List.set_cons_zero, List.set_cons_succ])
            refine wpAnyT_take (i := 13) (oi := { dst := some 135, op := Op.move (Operand.tmp 17), type := 23, pos := "law.go:149", after := #[{ on := 7, ground := Ground.guard }], guard := some (7, false) }) (v := .slice (some ⟨vb, 0, none⟩) LN vc) [14, 15, 16, 17, 24, 25] rfl (by kernel_rfl) (by kernel_rfl) (by kernel_rfl) (by kernel_rfl) (fun _ _ _ h => h) (Or.inl ⟨by rfl, ?_⟩) KP.out ?_
            · intro wq hSw
              obtain ⟨y0, y1, y2, y3⟩ := hSw
              go_simp
            (try simp only [Act.put, List.setIfInBounds_toArray, List.set_cons_zero, List.set_cons_succ])
            refine wpAnyT_take (i := 14) (oi := { dst := some 136, op := Op.call { callee := Callee.builtin Builtin.len, args := #[Operand.tmp 135], argTypes := #[23] }, type := 3, pos := "law.go:149", after := #[{ on := 13, ground := Ground.data }, { on := 7, ground := Ground.guard }], guard := some (7, false) }) (v := .int .i64 (LN : Int)) [15, 16, 17, 24, 25] rfl (by kernel_rfl) (by kernel_rfl) (by kernel_rfl) (by kernel_rfl) (fun _ _ _ h => h) (Or.inl ⟨by rfl, ?_⟩) KP.out ?_
            · intro wq hSw
              obtain ⟨y0, y1, y2, y3⟩ := hSw
              go_simp
            (try simp only [Act.put, List.setIfInBounds_toArray, List.set_cons_zero, List.set_cons_succ])
            refine wpAnyT_take (i := 15) (oi := { dst := some 137, op := Op.binOp BinOp.rem 3 (Operand.tmp 134) (Operand.tmp 136) 3, type := 3, pos := "law.go:149", after := #[{ on := 12, ground := Ground.data }, { on := 14, ground := Ground.data }, { on := 7, ground := Ground.guard }], guard := some (7, false) }) (v := .int .i64 (md : Int)) [16, 17, 24, 25] rfl (by kernel_rfl) (by kernel_rfl) (by kernel_rfl) (by kernel_rfl) (fun _ _ _ h => h) (Or.inl ⟨by rfl, ?_⟩) KP.out ?_
            · intro wq hSw
              obtain ⟨y0, y1, y2, y3⟩ := hSw
              go_simp
              rw [if_neg G6.out, HMD.out]
            (try simp only [Act.put, List.setIfInBounds_toArray, List.set_cons_zero, List.set_cons_succ])
            refine wpAnyT_take (i := 16) (oi := { dst := some 138, op := Op.indexAddr 23 (Operand.tmp 130) (Operand.tmp 137), type := 0, pos := "law.go:149", after := #[{ on := 8, ground := Ground.data }, { on := 15, ground := Ground.data }, { on := 7, ground := Ground.guard }], guard := some (7, false) }) (v := .pointer (some ⟨vb, md, none⟩)) [17, 24, 25] rfl (by kernel_rfl) (by kernel_rfl) (by kernel_rfl) (by kernel_rfl) (fun _ _ _ h => h) (Or.inl ⟨by rfl, ?_⟩) KP.out ?_
            · intro wq hSw
              obtain ⟨y0, y1, y2, y3⟩ := hSw
              go_simp
            (try simp only [Act.put, List.setIfInBounds_toArray, List.set_cons_zero, List.set_cons_succ])
            refine wpAnyT_take (i := 17) (oi := { dst := some 139, op := Op.load 3 (Operand.tmp 138), type := 3, pos := "law.go:149", after := #[{ on := 16, ground := Ground.data }, { on := 7, ground := Ground.guard }], guard := some (7, false) }) (v := .int .i64 (TV : Int)) [24, 25] rfl (by kernel_rfl) (by kernel_rfl) (by kernel_rfl) (by kernel_rfl) (fun _ _ _ h => h) (Or.inl ⟨by rfl, ?_⟩) KP.out ?_
            · intro wq hSw
              obtain ⟨y0, y1, y2, y3⟩ := hSw
              go_simp
            (try simp only [Act.put, List.setIfInBounds_toArray, List.set_cons_zero, List.set_cons_succ])
            refine wpAnyT_take (i := 18) (oi := { dst := some 140, op := Op.fieldAddr 33 (Operand.tmp 11) 1, type := 0, pos := "law.go:149", after := #[{ on := 7, ground := Ground.guard }], guard := some (7, false) }) (v := .pointer (some ⟨pb, 1, none⟩)) [19, 21, 22, 23, 24, 25] rfl (by kernel_rfl) (by kernel_rfl) (by kernel_rfl) (by kernel_rfl) (fun _ _ _ h => h) (Or.inl ⟨by rfl, ?_⟩) KP.out ?_
            · intro wq hSw
              obtain ⟨y0, y1, y2, y3⟩ := hSw
              go_simp
            (try simp only [Act.put, List.setIfInBounds_toArray, List.set_cons_zero, List.set_cons_succ])
            refine wpAnyT_take (i := 19) (oi := { dst := some 141, op := Op.load 28 (Operand.tmp 140), type := 28, pos := "law.go:149", after := #[{ on := 18, ground := Ground.data }, { on := 7, ground := Ground.guard }], guard := some (7, false) }) (v := .slice (some ⟨tb, tof, none⟩) TL tc) [21, 22, 23, 24, 25] rfl (by kernel_rfl) (by kernel_rfl) (by kernel_rfl) (by kernel_rfl) (fun _ _ _ h => h) (Or.inl ⟨by rfl, ?_⟩) KP.out ?_
            · intro wq hSw
              obtain ⟨y0, y1, y2, y3⟩ := hSw
              go_simp
            (try simp only [Act.put, List.setIfInBounds_toArray, List.set_cons_zero, List.set_cons_succ])
            refine wpAnyT_take (i := 20) (oi := { dst := some 142, op := Op.move (Operand.tmp 16), type := 3, pos := "law.go:149", after := #[{ on := 7, ground := Ground.guard }], guard := some (7, false) }) (v := .int .i64 (i : Int)) [21, 22, 23, 24, 25] rfl (by kernel_rfl) (by kernel_rfl) (by kernel_rfl) (by kernel_rfl) (fun _ _ _ h => h) (Or.inl ⟨by rfl, ?_⟩) KP.out ?_
            · intro wq hSw
              obtain ⟨y0, y1, y2, y3⟩ := hSw
              go_simp
            (try simp only [Act.put, List.setIfInBounds_toArray, List.set_cons_zero, List.set_cons_succ])
            refine wpAnyT_take (i := 21) (oi := { dst := some 143, op := Op.indexAddr 28 (Operand.tmp 141) (Operand.tmp 142), type := 0, pos := "law.go:149", after := #[{ on := 19, ground := Ground.data }, { on := 20, ground := Ground.data }, { on := 7, ground := Ground.guard }], guard := some (7, false) }) (v := .pointer (some ⟨tb, tof + i * 2, none⟩)) [22, 23, 24, 25] rfl (by kernel_rfl) (by kernel_rfl) (by kernel_rfl) (by kernel_rfl) (fun _ _ _ h => h) (Or.inl ⟨by rfl, ?_⟩) KP.out ?_
            · intro wq hSw
              obtain ⟨y0, y1, y2, y3⟩ := hSw
              go_simp
            (try simp only [Act.put, List.setIfInBounds_toArray, List.set_cons_zero, List.set_cons_succ])
            refine wpAnyT_take (i := 22) (oi := { dst := some 144, op := Op.fieldAddr 39 (Operand.tmp 143) 0, type := 0, pos := "law.go:149", after := #[{ on := 21, ground := Ground.data }, { on := 7, ground := Ground.guard }], guard := some (7, false) }) (v := .pointer (some ⟨tb, tof + i * 2, none⟩)) [23, 24, 25] rfl (by kernel_rfl) (by kernel_rfl) (by kernel_rfl) (by kernel_rfl) (fun _ _ _ h => h) (Or.inl ⟨by rfl, ?_⟩) KP.out ?_
            · intro wq hSw
              obtain ⟨y0, y1, y2, y3⟩ := hSw
              go_simp
            (try simp only [Act.put, List.setIfInBounds_toArray, List.set_cons_zero, List.set_cons_succ])
            refine wpAnyT_take (i := 23) (oi := { dst := some 145, op := Op.load 3 (Operand.tmp 144), type := 3, pos := "law.go:149", after := #[{ on := 22, ground := Ground.data }, { on := 7, ground := Ground.guard }], guard := some (7, false) }) (v := .int .i64 (TV : Int)) [24, 25] rfl (by kernel_rfl) (by kernel_rfl) (by kernel_rfl) (by kernel_rfl) (fun _ _ _ h => h) (Or.inl ⟨by rfl, ?_⟩) KP.out ?_
            · intro wq hSw
              obtain ⟨y0, y1, y2, y3⟩ := hSw
              go_simp
            (try simp only [Act.put, List.setIfInBounds_toArray, List.set_cons_zero, List.set_cons_succ])
            refine wpAnyT_take (i := 24) (oi := { dst := some 146, op := Op.binOp BinOp.neq 3 (Operand.tmp 139) (Operand.tmp 145) 3, type := 4, pos := "law.go:149", after := #[{ on := 17, ground := Ground.data }, { on := 23, ground := Ground.data }, { on := 7, ground := Ground.guard }], guard := some (7, false) }) (v := .bool false) [25] rfl (by kernel_rfl) (by kernel_rfl) (by kernel_rfl) (by kernel_rfl) (fun _ _ _ h => h) (Or.inl ⟨by rfl, ?_⟩) KP.out ?_
            · intro wq hSw
              obtain ⟨y0, y1, y2, y3⟩ := hSw
              go_simp
            (try simp only [Act.put, List.setIfInBounds_toArray, List.set_cons_zero, List.set_cons_succ])
            refine wpAnyT_one (i := 25) (o := { dst := some 147, op := Op.pick (Operand.tmp 129) (Operand.const (Value.bool true)) (Operand.tmp 146), type := 4, pos := "law.go:149", after := #[{ on := 7, ground := Ground.data }, { on := 24, ground := Ground.data }], guard := none }) (by kernel_rfl) rfl (fun K hK => ?_)
            go_simp
            refine hK.out _ _ (vac (by kernel_rfl)) ?_
            clear hK K
            (try simp only [Act.put, List.setIfInBounds_toArray, List.set_cons_zero, List.set_cons_succ])
            refine wpAnyT_done (by kernel_rfl) ?_ _
            clear g1 g2 g3 g4 g5
            go_wp2_with fail
            go_roundw
            case rel => exact ⟨i + 1, by go_num, hlt.1, BQ.out⟩
            case measure => exact measP hlt.1
          · obtain ⟨⟨z0, -⟩, -⟩ := KCz.out wr hB.out
            go_upto_region 18 with fail
            go_cut [110] from 101 to 110 (fun y wx => y = .bool false ∧ Hid (wx = wr))
            case first =>
              by_cases h1 : i < TL
              · have i1 : (i : Int) < (TL : Int) := Int.ofNat_lt.2 h1
                have i2 : ¬ (i : Int) < (N : Int) := by omega
                go_wp2_with fail
                go_meet
                case rel => exact ⟨rfl, rfl⟩
              · have i1 : ¬ (i : Int) < (TL : Int) := by omega
                go_wp2_with fail
                go_meet
                case rel => exact ⟨rfl, rfl⟩
            case rest =>
              obtain ⟨rfl, hw⟩ := hcut
              have e : wr = wc := hw.out.symm
              subst e
              go_upto_region 23 with fail
              clear z0
              have hlt200 : ∀ X : Prop, (X → X) := fun _ x => x
              by_cases he : TL < 200 ∧ TL ≤ N
              · have j1 : (TL : Int) < 200 := by have := he.1; omega
                have j2 : (TL : Int) ≤ (N : Int) := Int.ofNat_le.2 he.2
                obtain ⟨⟨z0, z1, z2, z3, z4⟩, HR2⟩ := KCz.out wr hB.out
                have Bw := Bz.out.trans (hB.out.mono Bz.out.size)
                obtain ⟨v1, wa, ra, A1, G1, X1⟩ := run_appNs (B := wr.heap.size) (l := []) (Nms.nil _ wr) (HP.out wr Bw) (by have := NN.out; simp; omega) (Nat.le_refl _)
                rw [List.nil_append] at A1
                have Ba : Below wr.heap.size wr wa := grown_below G1 (Nat.le_refl _) fun k hk => by cases hk
                obtain ⟨na1, nc1, e1, -⟩ := own_form A1
                rw [NN.out] at e1
                subst e1
                obtain ⟨v2, wb, rb, A2, G2, X2⟩ := run_appNs (B := wr.heap.size) A1 (HM.out wa (Bw.trans (Ba.mono Bw.size))) (by have := NN.out; have := NM.out; omega) Ba.size
                have Bb : Below wr.heap.size wr wb := Ba.trans (grown_below G2 Ba.size fun k hk => (World.ownsRow.lt A1 k hk).1)
                obtain ⟨na2, nc2, e2, -⟩ := own_form A2
                obtain ⟨M2, hM2⟩ : ∃ M2, Hid ((picks ++ more).length = M2) := ⟨_, rfl⟩
                rw [hM2.out] at e2
                subst e2
                have Bwb := hide (Bw.trans (Bb.mono Bw.size))
                have HBb := hide (hB.out.trans (Bb.mono hB.out.size))
                have RW := hide (nms_row A2)
                replace ra := hide ra
                replace rb := hide rb
                clear A1 A2 G1 G2 X1 X2 Ba Bb Bw
                by_cases hE2 : refE ts r (picks ++ more) (200 : Nat) = 0
                · have RUN := hide (run_rq wb (T0.out.below Bwb.out) _ _ us ts (TK.out.below Bwb.out) (picks ++ more) RW.out (more_le PB.out MB.out) r 200 hE2 SS TL (split_more he.1 (by rw [NN.out]; exact he.2) hSS.out hTL.out) hTL.out)
                  clear z1 z2 z3 z4 HR2 hB
                  go_upto_region 25 with (first | (at_builtin; refine wpList_append_run rfl 23 (.tmp 162) (.tmp 163) rfl rfl rfl rb.out ?_) | (at_builtin; refine wpList_append_run rfl 23 (.const (.slice none 0 0)) (.tmp 161) rfl rfl rfl ra.out ?_) | (go_at_call 15; refine RUN.out.mono ?_; rintro e w8 ⟨ta8, tc8, r08, rn8, rc8, e08, en8, ec8, q08, qn8, qc8, rfl, HR8, b8⟩; have HR8 := hide HR8; have b8 := hide b8) | fail)
                  have bb := box_below w8 (.cells #[.int .i64 (TL : Int), .slice ta8 TL tc8, .slice r08 rn8 rc8, .slice e08 en8 ec8, .slice q08 qn8 qc8] 33)
                  have nb := heap_alloc_new w8 (.cells #[.int .i64 (TL : Int), .slice ta8 TL tc8, .slice r08 rn8 rc8, .slice e08 en8 ec8, .slice q08 qn8 qc8] 33)
                  have HR9 := hide (HR8.out.below bb)
                  have b9 := hide (keepF b8.out bb)
                  generalize w8.alloc (.cells #[.int .i64 (TL : Int), .slice ta8 TL tc8, .slice r08 rn8 rc8, .slice e08 en8 ec8, .slice q08 qn8 qc8] 33) = w9 at *
                  generalize w8.heap.size = p9 at *
                  obtain ⟨⟨z0, z1, z2, z3, z4⟩, HR2⟩ := KCz.out w9 (HBb.out.trans (b9.out.mono HBb.out.size))
                  have s0 : w9.cell? ⟨p9, 0, none⟩ = some (.int .i64 (TL : Int)) := by rw [cell_of nb]; rfl
                  have s1 : w9.cell? ⟨p9, 1, none⟩ = some (.slice ta8 TL tc8) := by rw [cell_of nb]; rfl
                  have s2 : w9.cell? ⟨p9, 2, none⟩ = some (.slice r08 rn8 rc8) := by rw [cell_of nb]; rfl
                  have s3 : w9.cell? ⟨p9, 3, none⟩ = some (.slice e08 en8 ec8) := by rw [cell_of nb]; rfl
                  have s4 : w9.cell? ⟨p9, 4, none⟩ = some (.slice q08 qn8 qc8) := by rw [cell_of nb]; rfl
                  have EQ := hide (eq_any w9 (TL : Int) _ _ _ _ _ _ _ _ _ _ _ _ HR9.out HR2)
                  clear nb bb HR8 b8 HR9 HR2 RUN ra rb
                  go_wp2_with (go_at_call 16; refine EQ.out.mono ?_; rintro e w10 ⟨rfl, b10⟩; have b10 := hide b10)
                  go_ret
                  have q1 := Bwb.out.trans (b9.out.mono Bwb.out.size)
                  exact ⟨rfl, q1.trans (b10.out.mono q1.size)⟩
                · have RUN := run_no wb (T0.out.below Bwb.out) _ _ us ts (TK.out.below Bwb.out) (picks ++ more) RW.out r 200 hE2
                  obtain ⟨E2, hEE⟩ : ∃ E2, Hid (refE ts r (picks ++ more) 200 = E2) := ⟨_, rfl⟩
                  have hE3 : Hid (E2 ≠ 0) := by show E2 ≠ 0; rw [← hEE.out]; exact hE2
                  rw [hEE.out] at RUN
                  replace RUN := hide RUN
                  have hE4 : (E2 != 0) = true := by simpa using hE3.out
                  clear z1 z2 z3 z4 HR2 hB hE2
                  go_upto_region 25 with (first | (at_builtin; refine wpList_append_run rfl 23 (.tmp 162) (.tmp 163) rfl rfl rfl rb.out ?_) | (at_builtin; refine wpList_append_run rfl 23 (.const (.slice none 0 0)) (.tmp 161) rfl rfl rfl ra.out ?_) | (go_at_call 15; refine RUN.out.mono ?_; rintro e w8 ⟨rfl, b8⟩; have b8 := hide b8) | fail)
                  go_wp2_with fail
                  go_ret
                  exact ⟨rfl, Bwb.out.trans ((keepF b8.out (box_below _ _)).mono Bwb.out.size)⟩
              · obtain ⟨⟨z0, -⟩, -⟩ := KCz.out wr hB.out
                by_cases h200 : TL < 200
                · have j1 : (TL : Int) < 200 := by omega
                  have j2 : ¬ (TL : Int) ≤ (N : Int) := by omega
                  go_wp2_with fail
                  go_ret
                  exact ⟨rfl, Bz.out.trans (hB.out.mono Bz.out.size)⟩
                · have j1 : ¬ (TL : Int) < 200 := by omega
                  go_wp2_with fail
                  go_ret
                  exact ⟨rfl, Bz.out.trans (hB.out.mono Bz.out.size)⟩
      · have KCz := KC
        have Bz := B6
        obtain ⟨wz, hz⟩ : ∃ z, z = w6 := ⟨_, rfl⟩
        subst hz
        go_cut [61] from 54 to 61 (fun y wx => y = .bool false ∧ Hid (wx = wz))
        case first =>
          by_cases hc0 : 0 ≤ cut
          · have hc1 : ¬ cut ≤ (TL : Int) := fun c => hc ⟨hc0, c⟩
            go_wp2_with fail
            go_meet
            case rel => exact ⟨rfl, rfl⟩
          · go_wp2_with fail
            go_meet
            case rel => exact ⟨rfl, rfl⟩
        case rest =>
          obtain ⟨rfl, hw⟩ := hcut
          have e : wz = wc := hw.out.symm
          subst e
          go_upto_region 18 with fail
          clear y0 HR6 KC B6 hc
          go_loopw [16] (fun s16 wr => ∃ i : Nat, s16 = .int .i64 (i : Int) ∧ i ≤ TL ∧ Hid (Below wz.heap.size wz wr)) (fun s16 wr => TL - (intOf s16).toNat)
          case atStart => exact ⟨0, rfl, Nat.zero_le _, Below.refl _ _⟩
          case round =>
          obtain ⟨i, rfl, hiT, hB⟩ := hrel
          by_cases hlt : i < TL ∧ i < N
          · have i1 : (i : Int) < (TL : Int) := Int.ofNat_lt.2 hlt.1
            have i2 : (i : Int) < (N : Int) := Int.ofNat_lt.2 hlt.2
            obtain ⟨⟨z0, z1, -, -, -⟩, HR2⟩ := KCz.out wr hB.out
            have Bw := hide (Bz.out.trans (hB.out.mono Bz.out.size))
            have hti : (picks.take i).length = i := by rw [List.length_take]; have := NN.out; omega
            have hRE := refE_take (i := i) hE.out (by rw [NN.out]; exact Nat.le_of_lt hlt.2)
            have RDY := hide (ready_yes wr (T0.out.below Bw.out) _ (.slice ao i cp) us ts (TK.out.below Bw.out) (picks.take i) (row_take (HP.out wr Bw.out) (Nat.le_of_lt hlt.2)) (fun k hk => (PB.out k (List.mem_of_mem_take hk)).2) r hRE)
            rw [hti] at RDY
            obtain ⟨hne, p, k, hk, hx⟩ := pick_run (ts := ts) (room := r) (picks := picks) (most := 200) (i := i) (by rw [hSS.out, hTL.out]; exact hlt.1) (by rw [NN.out]; exact hlt.2)
            rw [hSS.out] at hx
            obtain ⟨RL, hRL⟩ : ∃ RL, Hid (rdy (runS ts r (picks.take i) i) = RL) := ⟨_, rfl⟩
            rw [hRL.out] at RDY hne hx
            obtain ⟨LN, hLN⟩ : ∃ LN, Hid (RL.length = LN) := ⟨_, rfl⟩
            rw [hLN.out] at hx
            have hLN0 : 0 < LN := by rw [← hLN.out]; exact List.length_pos_iff.2 hne
            have hpk := PB.out k (List.mem_of_getElem? hk)
            obtain ⟨kn, rfl⟩ := nat_of ((POS.out k (List.mem_of_getElem? hk)))
            rw [Int.toNat_natCast] at hx
            obtain ⟨md, hmd⟩ : ∃ md, Hid (kn % LN = md) := ⟨_, rfl⟩
            rw [hmd.out] at hx
            have hmk : (md : Int) ≤ (kn : Int) := by rw [← hmd.out]; exact Int.ofNat_le.2 (Nat.mod_le _ _)
            have hml : md < LN := by rw [← hmd.out]; exact Nat.mod_lt _ hLN0
            have hmod : Int.tmod (kn : Int) (LN : Int) = (md : Int) := by rw [Int.tmod_eq_emod_of_nonneg (by omega), ← hmd.out]; rfl
            obtain ⟨TV, hTV⟩ : ∃ TV, Hid (RL.getD md 0 = TV) := ⟨_, rfl⟩
            rw [hTV.out] at hx
            have hget : (ns RL)[md]? = some (TV : Int) := by rw [← hTV.out]; exact ns_get RL (by rw [hLN.out]; exact hml)
            obtain ⟨pb2, po2, rfl, hpc⟩ := RD.out wr Bw.out i _ hk
            have hpc := hide hpc
            obtain ⟨a9, c9, ex, -, -, hcx⟩ := HR2.t
            simp only [Value.slice.injEq] at ex
            obtain ⟨e91, -, e93⟩ := ex
            rw [← e91] at hcx
            clear e91 e93
            obtain ⟨tb, tof, hta, tc1, -⟩ := hcx i ((TV : Int), (p : Int)) (by unfold trI; rw [List.getElem?_map, hx]; rfl)
            subst hta
            have tc1 := hide tc1
            have z1h := hide z1
            have i7 : (i : Int) < (tc : Int) := Int.ofNat_lt.2 (Nat.lt_of_lt_of_le hlt.1 TC.out)
            clear hx hRE hne hk hcx hti HR2
            go_upto_region 21 with (go_at_call 17; refine RDY.out.mono ?_; rintro e w7 ⟨v', rfl, hv', b7⟩; have hv' := hide hv'; have b7 := hide b7)
            obtain ⟨va, vc, ev', hvc, hvg⟩ := hv'.out.form
            rw [ns_len, hLN.out] at ev' hvc
            subst ev'
            obtain ⟨vb, rfl, vcell⟩ := hvg md _ hget
            have z1 := (b7.out.cell (lt_of_cell z1h.out)).trans z1h.out
            have tcell := (b7.out.cell (lt_of_cell tc1.out)).trans tc1.out
            have pcell := (b7.out.cell (lt_of_cell hpc.out)).trans hpc.out
            have g1 : ((LN : Int) == 0) = false := by simp; omega
            have g2 : (md : Int) < (LN : Int) := Int.ofNat_lt.2 hml
            have g3 : (LN : Int) ≤ (vc : Int) := Int.ofNat_le.2 hvc
            have g4 : (0 : Int) < (LN : Int) := Int.ofNat_lt.2 hLN0
            have g5 : ¬ (LN : Int) = 0 := by omega
            have HMD := hide hmod
            have G6 : Hid (¬ LN = 0) := by show ¬ LN = 0; omega
            clear RDY hget hvg hmod hmk z0 hpk hLN0 hml hvc hpc tc1 z1h
            have bq : Below w7.heap.size w7 w7.drew := (Below.refl _ _).drew
            have BQ : Hid (Below wz.heap.size wz w7.drew) := keepF (keepF hB.out b7.out) bq
            have KP : Hid (w7.drew.cell? ⟨pb, 1, none⟩ = some (.slice (some ⟨tb, tof, none⟩) TL tc) ∧ w7.drew.cell? ⟨pb2, po2 + i, none⟩ = some (.int .i64 (kn : Int)) ∧ w7.drew.cell? ⟨vb, md, none⟩ = some (.int .i64 (TV : Int)) ∧ w7.drew.cell? ⟨tb, tof + i * 2, none⟩ = some (.int .i64 (TV : Int))) := ⟨z1, pcell, vcell, tcell⟩
            clear bq z1 pcell vcell tcell
            refine wp_region_T (fun q => q.cell? ⟨pb, 1, none⟩ = some (.slice (some ⟨tb, tof, none⟩) TL tc) ∧ q.cell? ⟨pb2, po2 + i, none⟩ = some (.int .i64 (kn : Int)) ∧ q.cell? ⟨vb, md, none⟩ = some (.int .i64 (TV : Int)) ∧ q.cell? ⟨tb, tof + i * 2, none⟩ = some (.int .i64 (TV : Int))) 25 (by kernel_rfl) ?_
            generalize w7.drew = q at *
            refine wpAnyT_take (i := 0) (oi := { dst := some 122, op := Op.move (Operand.tmp 18), type := 26, pos := "law.go:149", after := #[], guard := none }) (v := .int .i64 0) [1, 2, 6, 7, 25] rfl (by kernel_rfl) (by kernel_rfl) (by kernel_rfl) (by kernel_rfl) (fun _ _ _ h => h) (Or.inl ⟨by rfl, ?_⟩) KP.out ?_
            · intro wq hSw
              obtain ⟨y0, y1, y2, y3⟩ := hSw
              go_simp
            (try simp only [Act.put, List.setIfInBounds_toArray, List.set_cons_zero, List.set_cons_succ])
            refine wpAnyT_take (i := 1) (oi := { dst := some 123, op := Op.binOp BinOp.neq 26 (Operand.tmp 122) (Operand.const (Value.int IntKind.i64 0)) 26, type := 4, pos := "law.go:149", after := #[{ on := 0, ground := Ground.data }], guard := none }) (v := .bool false) [2, 6, 7, 25] rfl (by kernel_rfl) (by kernel_rfl) (by kernel_rfl) (by kernel_rfl) (fun _ _ _ h => h) (Or.inl ⟨by rfl, ?_⟩) KP.out ?_
            · intro wq hSw
              obtain ⟨y0, y1, y2, y3⟩ := hSw
              go_simp
            (try simp only [Act.put, List.setIfInBounds_toArray, List.set_cons_zero, List.set_cons_succ])
            refine wpAnyT_take (i := 2) (oi := { dst := some 124, op := Op.move (Operand.tmp 123), type := 4, pos := "law.go:149", after := #[{ on := 1, ground := Ground.data }], guard := none }) (v := .bool false) [6, 7, 25] rfl (by kernel_rfl) (by kernel_rfl) (by kernel_rfl) (by kernel_rfl) (fun _ _ _ h => h) (Or.inl ⟨by rfl, ?_⟩) KP.out ?_
            · intro wq hSw
              obtain ⟨y0, y1, y2, y3⟩ := hSw
              go_simp
            (try simp only [Act.put, List.setIfInBounds_toArray, List.set_cons_zero, List.set_cons_succ])
            refine wpAnyT_take (i := 3) (oi := { dst := some 125, op := Op.move (Operand.tmp 17), type := 23, pos := "law.go:149", after := #[{ on := 2, ground := Ground.guard }], guard := some (2, false) }) (v := .slice (some ⟨vb, 0, none⟩) LN vc) [4, 5, 6, 7, 25] rfl (by kernel_rfl) (by kernel_rfl) (by kernel_rfl) (by kernel_rfl) (fun _ _ _ h => h) (Or.inl ⟨by rfl, ?_⟩) KP.out ?_
            · intro wq hSw
              obtain ⟨y0, y1, y2, y3⟩ := hSw
              go_simp
            (try simp only [Act.put, List.setIfInBounds_toArray, List.set_cons_zero, List.set_cons_succ])
            refine wpAnyT_take (i := 4) (oi := { dst := some 126, op := Op.call { callee := Callee.builtin Builtin.len, args := #[Operand.tmp 125], argTypes := #[23] }, type := 3, pos := "law.go:149", after := #[{ on := 3, ground := Ground.data }, { on := 2, ground := Ground.guard }], guard := some (2, false) }) (v := .int .i64 (LN : Int)) [5, 6, 7, 25] rfl (by kernel_rfl) (by kernel_rfl) (by kernel_rfl) (by kernel_rfl) (fun _ _ _ h => h) (Or.inl ⟨by rfl, ?_⟩) KP.out ?_
            · intro wq hSw
              obtain ⟨y0, y1, y2, y3⟩ := hSw
              go_simp
            (try simp only [Act.put, List.setIfInBounds_toArray, List.set_cons_zero, List.set_cons_succ])
            refine wpAnyT_take (i := 5) (oi := { dst := some 127, op := Op.binOp BinOp.eql 3 (Operand.tmp 126) (Operand.const (Value.int IntKind.i64 0)) 3, type := 4, pos := "law.go:149", after := #[{ on := 4, ground := Ground.data }, { on := 2, ground := Ground.guard }], guard := some (2, false) }) (v := .bool false) [6, 7, 25] rfl (by kernel_rfl) (by kernel_rfl) (by kernel_rfl) (by kernel_rfl) (fun _ _ _ h => h) (Or.inl ⟨by rfl, ?_⟩) KP.out ?_
            · intro wq hSw
              obtain ⟨y0, y1, y2, y3⟩ := hSw
              go_simp
            (try simp only [Act.put, List.setIfInBounds_toArray, List.set_cons_zero, List.set_cons_succ])
            refine wpAnyT_take (i := 6) (oi := { dst := some 128, op := Op.pick (Operand.tmp 124) (Operand.const (Value.bool true)) (Operand.tmp 127), type := 4, pos := "law.go:149", after := #[{ on := 2, ground := Ground.data }, { on := 5, ground := Ground.data }], guard := none }) (v := .bool false) [7, 25] rfl (by kernel_rfl) (by kernel_rfl) (by kernel_rfl) (by kernel_rfl) (fun _ _ _ h => h) (Or.inl ⟨by rfl, ?_⟩) KP.out ?_
            · intro wq hSw
              obtain ⟨y0, y1, y2, y3⟩ := hSw
              go_simp
            (try simp only [Act.put, List.setIfInBounds_toArray, List.set_cons_zero, List.set_cons_succ])
            refine wpAnyT_take (i := 7) (oi := { dst := some 129, op := Op.move (Operand.tmp 128), type := 4, pos := "law.go:149", after := #[{ on := 6, ground := Ground.data }, { on := 2, ground := Ground.chain }], guard := none }) (v := .bool false) [25] rfl (by kernel_rfl) (by kernel_rfl) (by kernel_rfl) (by kernel_rfl) (fun _ _ _ h => h) (Or.inl ⟨by rfl, ?_⟩) KP.out ?_
            · intro wq hSw
              obtain ⟨y0, y1, y2, y3⟩ := hSw
              go_simp
            (try simp only [Act.put, List.setIfInBounds_toArray, List.set_cons_zero, List.set_cons_succ])
            refine wpAnyT_take (i := 8) (oi := { dst := some 130, op := Op.move (Operand.tmp 17), type := 23, pos := "law.go:149", after := #[{ on := 7, ground := Ground.guard }], guard := some (7, false) }) (v := .slice (some ⟨vb, 0, none⟩) LN vc) [16, 17, 24, 25] rfl (by kernel_rfl) (by kernel_rfl) (by kernel_rfl) (by kernel_rfl) (fun _ _ _ h => h) (Or.inl ⟨by rfl, ?_⟩) KP.out ?_
            · intro wq hSw
              obtain ⟨y0, y1, y2, y3⟩ := hSw
              go_simp
            (try simp only [Act.put, List.setIfInBounds_toArray, List.set_cons_zero, List.set_cons_succ])
            refine wpAnyT_take (i := 9) (oi := { dst := some 131, op := Op.move (Operand.tmp 2), type := 23, pos := "law.go:149", after := #[{ on := 7, ground := Ground.guard }], guard := some (7, false) }) (v := .slice (some ⟨pb2, po2, none⟩) N cp) [11, 12, 15, 16, 17, 24, 25] rfl (by kernel_rfl) (by kernel_rfl) (by kernel_rfl) (by kernel_rfl) (fun _ _ _ h => h) (Or.inl ⟨by rfl, ?_⟩) KP.out ?_
            · intro wq hSw
              obtain ⟨y0, y1, y2, y3⟩ := hSw
              go_simp
            (try simp only [Act.put, List.setIfInBounds_toArray, List.set_cons_zero, List.set_cons_succ])
            refine wpAnyT_take (i := 10) (oi := { dst := some 132, op := Op.move (Operand.tmp 16), type := 3, pos := "law.go:149", after := #[{ on := 7, ground := Ground.guard }], guard := some (7, false) }) (v := .int .i64 (i : Int)) [11, 12, 15, 16, 17, 24, 25] rfl (by kernel_rfl) (by kernel_rfl) (by kernel_rfl) (by kernel_rfl) (fun _ _ _ h => h) (Or.inl ⟨by rfl, ?_⟩) KP.out ?_
            · intro wq hSw
              obtain ⟨y0, y1, y2, y3⟩ := hSw
              go_simp
            (try simp only [Act.put, List.setIfInBounds_toArray, List.set_cons_zero, List.set_cons_succ])
            refine wpAnyT_take (i := 11) (oi := { dst := some 133, op := Op.indexAddr 23 (Operand.tmp 131) (Operand.tmp 132), type := 0, pos := "law.go:149", after := #[{ on := 9, ground := Ground.data }, { on := 10, ground := Ground.data }, { on := 7, ground := Ground.guard }], guard := some (7, false) }) (v := .pointer (some ⟨pb2, po2 + i, none⟩)) [12, 15, 16, 17, 24, 25] rfl (by kernel_rfl) (by kernel_rfl) (by kernel_rfl) (by kernel_rfl) (fun _ _ _ h => h) (Or.inl ⟨by rfl, ?_⟩) KP.out ?_
            · intro wq hSw
              obtain ⟨y0, y1, y2, y3⟩ := hSw
              go_simp
            (try simp only [Act.put, List.setIfInBounds_toArray, List.set_cons_zero, List.set_cons_succ])
            refine wpAnyT_take (i := 12) (oi := { dst := some 134, op := Op.load 3 (Operand.tmp 133), type := 3, pos := "law.go:149", after := #[{ on := 11, ground := Ground.data }, { on := 7, ground := Ground.guard }], guard := some (7, false) }) (v := .int .i64 (kn : Int)) [15, 16, 17, 24, 25] rfl (by kernel_rfl) (by kernel_rfl) (by kernel_rfl) (by kernel_rfl) (fun _ _ _ h => h) (Or.inl ⟨by rfl, ?_⟩) KP.out ?_
            · intro wq hSw
              obtain ⟨y0, y1, y2, y3⟩ := hSw
              go_simp
            (try simp only [Act.put, List.setIfInBounds_toArray, List.set_cons_zero, List.set_cons_succ])
            refine wpAnyT_take (i := 13) (oi := { dst := some 135, op := Op.move (Operand.tmp 17), type := 23, pos := "law.go:149", after := #[{ on := 7, ground := Ground.guard }], guard := some (7, false) }) (v := .slice (some ⟨vb, 0, none⟩) LN vc) [14, 15, 16, 17, 24, 25] rfl (by kernel_rfl) (by kernel_rfl) (by kernel_rfl) (by kernel_rfl) (fun _ _ _ h => h) (Or.inl ⟨by rfl, ?_⟩) KP.out ?_
            · intro wq hSw
              obtain ⟨y0, y1, y2, y3⟩ := hSw
              go_simp
            (try simp only [Act.put, List.setIfInBounds_toArray, List.set_cons_zero, List.set_cons_succ])
            refine wpAnyT_take (i := 14) (oi := { dst := some 136, op := Op.call { callee := Callee.builtin Builtin.len, args := #[Operand.tmp 135], argTypes := #[23] }, type := 3, pos := "law.go:149", after := #[{ on := 13, ground := Ground.data }, { on := 7, ground := Ground.guard }], guard := some (7, false) }) (v := .int .i64 (LN : Int)) [15, 16, 17, 24, 25] rfl (by kernel_rfl) (by kernel_rfl) (by kernel_rfl) (by kernel_rfl) (fun _ _ _ h => h) (Or.inl ⟨by rfl, ?_⟩) KP.out ?_
            · intro wq hSw
              obtain ⟨y0, y1, y2, y3⟩ := hSw
              go_simp
            (try simp only [Act.put, List.setIfInBounds_toArray, List.set_cons_zero, List.set_cons_succ])
            refine wpAnyT_take (i := 15) (oi := { dst := some 137, op := Op.binOp BinOp.rem 3 (Operand.tmp 134) (Operand.tmp 136) 3, type := 3, pos := "law.go:149", after := #[{ on := 12, ground := Ground.data }, { on := 14, ground := Ground.data }, { on := 7, ground := Ground.guard }], guard := some (7, false) }) (v := .int .i64 (md : Int)) [16, 17, 24, 25] rfl (by kernel_rfl) (by kernel_rfl) (by kernel_rfl) (by kernel_rfl) (fun _ _ _ h => h) (Or.inl ⟨by rfl, ?_⟩) KP.out ?_
            · intro wq hSw
              obtain ⟨y0, y1, y2, y3⟩ := hSw
              go_simp
              rw [if_neg G6.out, HMD.out]
            (try simp only [Act.put, List.setIfInBounds_toArray, List.set_cons_zero, List.set_cons_succ])
            refine wpAnyT_take (i := 16) (oi := { dst := some 138, op := Op.indexAddr 23 (Operand.tmp 130) (Operand.tmp 137), type := 0, pos := "law.go:149", after := #[{ on := 8, ground := Ground.data }, { on := 15, ground := Ground.data }, { on := 7, ground := Ground.guard }], guard := some (7, false) }) (v := .pointer (some ⟨vb, md, none⟩)) [17, 24, 25] rfl (by kernel_rfl) (by kernel_rfl) (by kernel_rfl) (by kernel_rfl) (fun _ _ _ h => h) (Or.inl ⟨by rfl, ?_⟩) KP.out ?_
            · intro wq hSw
              obtain ⟨y0, y1, y2, y3⟩ := hSw
              go_simp
            (try simp only [Act.put, List.setIfInBounds_toArray, List.set_cons_zero, List.set_cons_succ])
            refine wpAnyT_take (i := 17) (oi := { dst := some 139, op := Op.load 3 (Operand.tmp 138), type := 3, pos := "law.go:149", after := #[{ on := 16, ground := Ground.data }, { on := 7, ground := Ground.guard }], guard := some (7, false) }) (v := .int .i64 (TV : Int)) [24, 25] rfl (by kernel_rfl) (by kernel_rfl) (by kernel_rfl) (by kernel_rfl) (fun _ _ _ h => h) (Or.inl ⟨by rfl, ?_⟩) KP.out ?_
            · intro wq hSw
              obtain ⟨y0, y1, y2, y3⟩ := hSw
              go_simp
            (try simp only [Act.put, List.setIfInBounds_toArray, List.set_cons_zero, List.set_cons_succ])
            refine wpAnyT_take (i := 18) (oi := { dst := some 140, op := Op.fieldAddr 33 (Operand.tmp 11) 1, type := 0, pos := "law.go:149", after := #[{ on := 7, ground := Ground.guard }], guard := some (7, false) }) (v := .pointer (some ⟨pb, 1, none⟩)) [19, 21, 22, 23, 24, 25] rfl (by kernel_rfl) (by kernel_rfl) (by kernel_rfl) (by kernel_rfl) (fun _ _ _ h => h) (Or.inl ⟨by rfl, ?_⟩) KP.out ?_
            · intro wq hSw
              obtain ⟨y0, y1, y2, y3⟩ := hSw
              go_simp
            (try simp only [Act.put, List.setIfInBounds_toArray, List.set_cons_zero, List.set_cons_succ])
            refine wpAnyT_take (i := 19) (oi := { dst := some 141, op := Op.load 28 (Operand.tmp 140), type := 28, pos := "law.go:149", after := #[{ on := 18, ground := Ground.data }, { on := 7, ground := Ground.guard }], guard := some (7, false) }) (v := .slice (some ⟨tb, tof, none⟩) TL tc) [21, 22, 23, 24, 25] rfl (by kernel_rfl) (by kernel_rfl) (by kernel_rfl) (by kernel_rfl) (fun _ _ _ h => h) (Or.inl ⟨by rfl, ?_⟩) KP.out ?_
            · intro wq hSw
              obtain ⟨y0, y1, y2, y3⟩ := hSw
              go_simp
            (try simp only [Act.put, List.setIfInBounds_toArray, List.set_cons_zero, List.set_cons_succ])
            refine wpAnyT_take (i := 20) (oi := { dst := some 142, op := Op.move (Operand.tmp 16), type := 3, pos := "law.go:149", after := #[{ on := 7, ground := Ground.guard }], guard := some (7, false) }) (v := .int .i64 (i : Int)) [21, 22, 23, 24, 25] rfl (by kernel_rfl) (by kernel_rfl) (by kernel_rfl) (by kernel_rfl) (fun _ _ _ h => h) (Or.inl ⟨by rfl, ?_⟩) KP.out ?_
            · intro wq hSw
              obtain ⟨y0, y1, y2, y3⟩ := hSw
              go_simp
            (try simp only [Act.put, List.setIfInBounds_toArray, List.set_cons_zero, List.set_cons_succ])
            refine wpAnyT_take (i := 21) (oi := { dst := some 143, op := Op.indexAddr 28 (Operand.tmp 141) (Operand.tmp 142), type := 0, pos := "law.go:149", after := #[{ on := 19, ground := Ground.data }, { on := 20, ground := Ground.data }, { on := 7, ground := Ground.guard }], guard := some (7, false) }) (v := .pointer (some ⟨tb, tof + i * 2, none⟩)) [22, 23, 24, 25] rfl (by kernel_rfl) (by kernel_rfl) (by kernel_rfl) (by kernel_rfl) (fun _ _ _ h => h) (Or.inl ⟨by rfl, ?_⟩) KP.out ?_
            · intro wq hSw
              obtain ⟨y0, y1, y2, y3⟩ := hSw
              go_simp
            (try simp only [Act.put, List.setIfInBounds_toArray, List.set_cons_zero, List.set_cons_succ])
            refine wpAnyT_take (i := 22) (oi := { dst := some 144, op := Op.fieldAddr 39 (Operand.tmp 143) 0, type := 0, pos := "law.go:149", after := #[{ on := 21, ground := Ground.data }, { on := 7, ground := Ground.guard }], guard := some (7, false) }) (v := .pointer (some ⟨tb, tof + i * 2, none⟩)) [23, 24, 25] rfl (by kernel_rfl) (by kernel_rfl) (by kernel_rfl) (by kernel_rfl) (fun _ _ _ h => h) (Or.inl ⟨by rfl, ?_⟩) KP.out ?_
            · intro wq hSw
              obtain ⟨y0, y1, y2, y3⟩ := hSw
              go_simp
            (try simp only [Act.put, List.setIfInBounds_toArray, List.set_cons_zero, List.set_cons_succ])
            refine wpAnyT_take (i := 23) (oi := { dst := some 145, op := Op.load 3 (Operand.tmp 144), type := 3, pos := "law.go:149", after := #[{ on := 22, ground := Ground.data }, { on := 7, ground := Ground.guard }], guard := some (7, false) }) (v := .int .i64 (TV : Int)) [24, 25] rfl (by kernel_rfl) (by kernel_rfl) (by kernel_rfl) (by kernel_rfl) (fun _ _ _ h => h) (Or.inl ⟨by rfl, ?_⟩) KP.out ?_
            · intro wq hSw
              obtain ⟨y0, y1, y2, y3⟩ := hSw
              go_simp
            (try simp only [Act.put, List.setIfInBounds_toArray, List.set_cons_zero, List.set_cons_succ])
            refine wpAnyT_take (i := 24) (oi := { dst := some 146, op := Op.binOp BinOp.neq 3 (Operand.tmp 139) (Operand.tmp 145) 3, type := 4, pos := "law.go:149", after := #[{ on := 17, ground := Ground.data }, { on := 23, ground := Ground.data }, { on := 7, ground := Ground.guard }], guard := some (7, false) }) (v := .bool false) [25] rfl (by kernel_rfl) (by kernel_rfl) (by kernel_rfl) (by kernel_rfl) (fun _ _ _ h => h) (Or.inl ⟨by rfl, ?_⟩) KP.out ?_
            · intro wq hSw
              obtain ⟨y0, y1, y2, y3⟩ := hSw
              go_simp
            (try simp only [Act.put, List.setIfInBounds_toArray, List.set_cons_zero, List.set_cons_succ])
            refine wpAnyT_one (i := 25) (o := { dst := some 147, op := Op.pick (Operand.tmp 129) (Operand.const (Value.bool true)) (Operand.tmp 146), type := 4, pos := "law.go:149", after := #[{ on := 7, ground := Ground.data }, { on := 24, ground := Ground.data }], guard := none }) (by kernel_rfl) rfl (fun K hK => ?_)
            go_simp
            refine hK.out _ _ (vac (by kernel_rfl)) ?_
            clear hK K
            (try simp only [Act.put, List.setIfInBounds_toArray, List.set_cons_zero, List.set_cons_succ])
            refine wpAnyT_done (by kernel_rfl) ?_ _
            clear g1 g2 g3 g4 g5
            go_wp2_with fail
            go_roundw
            case rel => exact ⟨i + 1, by go_num, hlt.1, BQ.out⟩
            case measure => exact measP hlt.1
          · obtain ⟨⟨z0, -⟩, -⟩ := KCz.out wr hB.out
            go_upto_region 18 with fail
            go_cut [110] from 101 to 110 (fun y wx => y = .bool false ∧ Hid (wx = wr))
            case first =>
              by_cases h1 : i < TL
              · have i1 : (i : Int) < (TL : Int) := Int.ofNat_lt.2 h1
                have i2 : ¬ (i : Int) < (N : Int) := by omega
                go_wp2_with fail
                go_meet
                case rel => exact ⟨rfl, rfl⟩
              · have i1 : ¬ (i : Int) < (TL : Int) := by omega
                go_wp2_with fail
                go_meet
                case rel => exact ⟨rfl, rfl⟩
            case rest =>
              obtain ⟨rfl, hw⟩ := hcut
              have e : wr = wc := hw.out.symm
              subst e
              go_upto_region 23 with fail
              clear z0
              have hlt200 : ∀ X : Prop, (X → X) := fun _ x => x
              by_cases he : TL < 200 ∧ TL ≤ N
              · have j1 : (TL : Int) < 200 := by have := he.1; omega
                have j2 : (TL : Int) ≤ (N : Int) := Int.ofNat_le.2 he.2
                obtain ⟨⟨z0, z1, z2, z3, z4⟩, HR2⟩ := KCz.out wr hB.out
                have Bw := Bz.out.trans (hB.out.mono Bz.out.size)
                obtain ⟨v1, wa, ra, A1, G1, X1⟩ := run_appNs (B := wr.heap.size) (l := []) (Nms.nil _ wr) (HP.out wr Bw) (by have := NN.out; simp; omega) (Nat.le_refl _)
                rw [List.nil_append] at A1
                have Ba : Below wr.heap.size wr wa := grown_below G1 (Nat.le_refl _) fun k hk => by cases hk
                obtain ⟨na1, nc1, e1, -⟩ := own_form A1
                rw [NN.out] at e1
                subst e1
                obtain ⟨v2, wb, rb, A2, G2, X2⟩ := run_appNs (B := wr.heap.size) A1 (HM.out wa (Bw.trans (Ba.mono Bw.size))) (by have := NN.out; have := NM.out; omega) Ba.size
                have Bb : Below wr.heap.size wr wb := Ba.trans (grown_below G2 Ba.size fun k hk => (World.ownsRow.lt A1 k hk).1)
                obtain ⟨na2, nc2, e2, -⟩ := own_form A2
                obtain ⟨M2, hM2⟩ : ∃ M2, Hid ((picks ++ more).length = M2) := ⟨_, rfl⟩
                rw [hM2.out] at e2
                subst e2
                have Bwb := hide (Bw.trans (Bb.mono Bw.size))
                have HBb := hide (hB.out.trans (Bb.mono hB.out.size))
                have RW := hide (nms_row A2)
                replace ra := hide ra
                replace rb := hide rb
                clear A1 A2 G1 G2 X1 X2 Ba Bb Bw
                by_cases hE2 : refE ts r (picks ++ more) (200 : Nat) = 0
                · have RUN := hide (run_rq wb (T0.out.below Bwb.out) _ _ us ts (TK.out.below Bwb.out) (picks ++ more) RW.out (more_le PB.out MB.out) r 200 hE2 SS TL (split_more he.1 (by rw [NN.out]; exact he.2) hSS.out hTL.out) hTL.out)
                  clear z1 z2 z3 z4 HR2 hB
                  go_upto_region 25 with (first | (at_builtin; refine wpList_append_run rfl 23 (.tmp 162) (.tmp 163) rfl rfl rfl rb.out ?_) | (at_builtin; refine wpList_append_run rfl 23 (.const (.slice none 0 0)) (.tmp 161) rfl rfl rfl ra.out ?_) | (go_at_call 15; refine RUN.out.mono ?_; rintro e w8 ⟨ta8, tc8, r08, rn8, rc8, e08, en8, ec8, q08, qn8, qc8, rfl, HR8, b8⟩; have HR8 := hide HR8; have b8 := hide b8) | fail)
                  have bb := box_below w8 (.cells #[.int .i64 (TL : Int), .slice ta8 TL tc8, .slice r08 rn8 rc8, .slice e08 en8 ec8, .slice q08 qn8 qc8] 33)
                  have nb := heap_alloc_new w8 (.cells #[.int .i64 (TL : Int), .slice ta8 TL tc8, .slice r08 rn8 rc8, .slice e08 en8 ec8, .slice q08 qn8 qc8] 33)
                  have HR9 := hide (HR8.out.below bb)
                  have b9 := hide (keepF b8.out bb)
                  generalize w8.alloc (.cells #[.int .i64 (TL : Int), .slice ta8 TL tc8, .slice r08 rn8 rc8, .slice e08 en8 ec8, .slice q08 qn8 qc8] 33) = w9 at *
                  generalize w8.heap.size = p9 at *
                  obtain ⟨⟨z0, z1, z2, z3, z4⟩, HR2⟩ := KCz.out w9 (HBb.out.trans (b9.out.mono HBb.out.size))
                  have s0 : w9.cell? ⟨p9, 0, none⟩ = some (.int .i64 (TL : Int)) := by rw [cell_of nb]; rfl
                  have s1 : w9.cell? ⟨p9, 1, none⟩ = some (.slice ta8 TL tc8) := by rw [cell_of nb]; rfl
                  have s2 : w9.cell? ⟨p9, 2, none⟩ = some (.slice r08 rn8 rc8) := by rw [cell_of nb]; rfl
                  have s3 : w9.cell? ⟨p9, 3, none⟩ = some (.slice e08 en8 ec8) := by rw [cell_of nb]; rfl
                  have s4 : w9.cell? ⟨p9, 4, none⟩ = some (.slice q08 qn8 qc8) := by rw [cell_of nb]; rfl
                  have EQ := hide (eq_any w9 (TL : Int) _ _ _ _ _ _ _ _ _ _ _ _ HR9.out HR2)
                  clear nb bb HR8 b8 HR9 HR2 RUN ra rb
                  go_wp2_with (go_at_call 16; refine EQ.out.mono ?_; rintro e w10 ⟨rfl, b10⟩; have b10 := hide b10)
                  go_ret
                  have q1 := Bwb.out.trans (b9.out.mono Bwb.out.size)
                  exact ⟨rfl, q1.trans (b10.out.mono q1.size)⟩
                · have RUN := run_no wb (T0.out.below Bwb.out) _ _ us ts (TK.out.below Bwb.out) (picks ++ more) RW.out r 200 hE2
                  obtain ⟨E2, hEE⟩ : ∃ E2, Hid (refE ts r (picks ++ more) 200 = E2) := ⟨_, rfl⟩
                  have hE3 : Hid (E2 ≠ 0) := by show E2 ≠ 0; rw [← hEE.out]; exact hE2
                  rw [hEE.out] at RUN
                  replace RUN := hide RUN
                  have hE4 : (E2 != 0) = true := by simpa using hE3.out
                  clear z1 z2 z3 z4 HR2 hB hE2
                  go_upto_region 25 with (first | (at_builtin; refine wpList_append_run rfl 23 (.tmp 162) (.tmp 163) rfl rfl rfl rb.out ?_) | (at_builtin; refine wpList_append_run rfl 23 (.const (.slice none 0 0)) (.tmp 161) rfl rfl rfl ra.out ?_) | (go_at_call 15; refine RUN.out.mono ?_; rintro e w8 ⟨rfl, b8⟩; have b8 := hide b8) | fail)
                  go_wp2_with fail
                  go_ret
                  exact ⟨rfl, Bwb.out.trans ((keepF b8.out (box_below _ _)).mono Bwb.out.size)⟩
              · obtain ⟨⟨z0, -⟩, -⟩ := KCz.out wr hB.out
                by_cases h200 : TL < 200
                · have j1 : (TL : Int) < 200 := by omega
                  have j2 : ¬ (TL : Int) ≤ (N : Int) := by omega
                  go_wp2_with fail
                  go_ret
                  exact ⟨rfl, Bz.out.trans (hB.out.mono Bz.out.size)⟩
                · have j1 : ¬ (TL : Int) < 200 := by omega
                  go_wp2_with fail
                  go_ret
                  exact ⟨rfl, Bz.out.trans (hB.out.mono Bz.out.size)⟩
    · have hE1 := hide hE0
      obtain ⟨E, hEE⟩ : ∃ E, Hid (refE ts room picks (200 : Nat) = E) := ⟨_, rfl⟩
      have hE2 : (E != 0) = true := by rw [← hEE.out]; simpa using hE0
      clear hE0
      go_enter Tryd.func4, Tryd.ntmps4
      go_upto_region 5 with (go_at_call 9; refine (begun_any _ T0.out).mono ?_; rintro e u1 ⟨rfl, b1⟩; replace b1 := hide b1)
      have RUN := hide (run_no u1 (T0.out.below b1.out) _ _ us ts (TK.out.below b1.out) picks (HP.out u1 b1.out) room (200 : Nat) hE1.out)
      rw [hEE.out] at RUN
      go_wp2_with (go_at_call 15; refine RUN.out.mono ?_; rintro e w5 ⟨rfl, b5⟩; replace b5 := hide b5)
      go_ret
      exact ⟨rfl, b1.out.trans ((keepF b5.out (box_below _ _)).mono b1.out.size)⟩
  · have T0 := hide hT
    clear hp hm hb hmb hT htk hrd hN hM
    go_enter Tryd.func4, Tryd.ntmps4
    go_upto_region 5 with (go_at_call 9; refine (begun_any _ T0.out).mono ?_; rintro e u1 ⟨rfl, b1⟩; replace b1 := hide b1)
    all_goals first
      | (go_ret; exact ⟨rfl, b1.out⟩)
      | (exfalso; omega)
end Go.Proofs.YtdbhfeiibcpcaaaDoor.Sd

/-
  Arguments that are tasks, opened.
-/
namespace Go.Proofs.YtdbhfeiibcpcaaaDoor.Sd
open Go.ChangeShapes Go.WideShapes Go.ChangeAt Go.RowKit Go.Deep
set_option linter.unusedVariables false
set_option maxRecDepth 100000
theorem cellsAct : Tryd.prog.cellsOf 47 = 4 := by kernel_rfl
theorem cellsI64 : Tryd.prog.cellsOf 2 = 1 := by kernel_rfl
theorem cellsInt : Tryd.prog.cellsOf 3 = 1 := by kernel_rfl
theorem open_act {H : Type} {enc : TypeId × Value → H} {w : World} {base : Nat} {spare : Nat → Bool} {held : Bool} {fuel : Nat} {cs : List Value} {y : DataW H × List MemPlace}
    (h : DataW.trod enc Tryd.prog w base spare held fuel 47 cs = some y) :
    ∃ o : Ac, cs = [.int .i64 o.k, .int .i64 o.a, .int .i64 o.b, .int .i64 o.n] := by
  obtain ⟨xs, n, _, rfl, hlen, hxl, hf⟩ := DataW.trod_struct Tryd.underlying47 h
  rw [cellsAct] at hlen
  obtain ⟨c0, c1, c2, c3, rfl⟩ : ∃ c0 c1 c2 c3, cs = [c0, c1, c2, c3] := by
    match cs, hlen with
    | [c0, c1, c2, c3], _ => exact ⟨c0, c1, c2, c3, rfl⟩
  match xs, hxl with
  | [y0, y1, y2, y3], _ =>
    have h0 := hf 0 _ rfl
    have h1 := hf 1 _ rfl
    have h2 := hf 2 _ rfl
    have h3 := hf 3 _ rfl
    simp [cellsI64, cellsInt] at h0 h1 h2 h3
    obtain ⟨a0, e0, _, w0⟩ := DataW.trod_int Tryd.underlying3 h0
    obtain ⟨a1, e1, _, w1⟩ := DataW.trod_int Tryd.underlying3 h1
    obtain ⟨a2, e2, _, w2⟩ := DataW.trod_int Tryd.underlying3 h2
    obtain ⟨a3, e3, _, w3⟩ := DataW.trod_int Tryd.underlying2 h3
    simp at e0 e1 e2 e3
    subst e0 e1 e2 e3
    exact ⟨⟨a0, a1, a2, a3⟩, rfl⟩
theorem open_acts {H : Type} {enc : TypeId × Value → H} {w : World} {base : Nat} {spare : Nat → Bool} {held : Bool} {fuel : Nat} {v : Value} {x : DataW H × List MemPlace}
    (h : DataW.trod enc Tryd.prog w base spare held fuel 45 [v] = some x) : ∃ l : List Ac, ActsAt w v l := by
  rcases open_slice Tryd.underlying45 h with ⟨hcs, hx⟩ | ⟨a, len, cap, m, n, D, Pl, hcs, hb, hl, hm, hmm, hx, hel⟩
  · simp at hcs
    subst hcs hx
    exact ⟨[], none, 0, rfl, by simp, fun i a hi => by simp at hi⟩
  · simp at hcs
    subst hcs hx
    have hlm : len ≤ m := by split at hmm <;> omega
    have each : ∀ i, ∃ o : Ac, i < m → ∃ b off, a = ⟨b, off, none⟩ ∧ AcAt w b (off + i * 4) o := by
      intro i
      by_cases hi : i < m
      · obtain ⟨cs', h1, h2⟩ := hel i hi
        obtain ⟨o, rfl⟩ := open_act h2
        rw [cellsAct] at h1
        obtain ⟨b, off, sp⟩ := a
        have hsp : sp = none := by
          obtain ⟨cs0, g1, g2⟩ := hel 0 (by omega)
          obtain ⟨_, rfl⟩ := open_act g2
          rw [cellsAct] at g1
          have g3 := (World.cells?_some g1).2.2 0 (by omega)
          simp [Addr.add] at g3
          exact World.cell?_spot g3
        subst hsp
        have hcell := (World.cells?_some h1).2.2
        rw [addr_add] at hcell
        have k0 := hcell 0 (by omega)
        have k1 := hcell 1 (by omega)
        have k2 := hcell 2 (by omega)
        have k3 := hcell 3 (by omega)
        rw [addr_add] at k0 k1 k2 k3
        exact ⟨o, fun _ => ⟨b, off, rfl, by simpa using k0, by simpa using k1, by simpa using k2, by simpa using k3⟩⟩
      · exact ⟨⟨0, 0, 0, 0⟩, fun h => absurd h hi⟩
    obtain ⟨O, hO⟩ : ∃ O : Nat → Ac, ∀ i, i < m → ∃ b off, a = ⟨b, off, none⟩ ∧ AcAt w b (off + i * 4) (O i) := ⟨fun i => Classical.choose (each i), fun i => Classical.choose_spec (each i)⟩
    refine ⟨(List.range len).map O, some a, cap, by simp, by simpa using hl, fun i o hi => ?_⟩
    have hil : i < len := by have := (List.getElem?_eq_some_iff.1 hi).1; simpa using this
    obtain ⟨b, off, rfl, q⟩ := hO i (by omega)
    rw [List.getElem?_map, List.getElem?_range hil] at hi
    cases hi
    exact ⟨b, off, rfl, q⟩
theorem open_actss {H : Type} {enc : TypeId × Value → H} {w : World} {base : Nat} {spare : Nat → Bool} {held : Bool} {fuel : Nat} {v : Value} {x : DataW H × List MemPlace}
    (h : DataW.trod enc Tryd.prog w base spare held fuel 22 [v] = some x) : ∃ us ts, TksAt w v us ts := by
  rcases open_slice1 Tryd.underlying22 (by kernel_rfl) h with ⟨hcs, hx⟩ | ⟨a, len, cap, m, n, V, D, Pl, hcs, hb, hl, hm, hmm, hx, hel⟩
  · simp at hcs
    subst hcs hx
    exact ⟨[], [], Row.nil _, rfl, fun i u l h1 => by simp at h1⟩
  · simp at hcs
    subst hcs hx
    have hlm : len ≤ m := by split at hmm <;> omega
    have each : ∀ i, ∃ l, i < m → ActsAt w (V i) l := by
      intro i
      by_cases hi : i < m
      · obtain ⟨l, h1⟩ := open_acts (hel i hi).2
        exact ⟨l, fun _ => h1⟩
      · exact ⟨[], fun h => absurd h hi⟩
    obtain ⟨L, hL⟩ : ∃ L : Nat → List Ac, ∀ i, i < m → ActsAt w (V i) (L i) := ⟨fun i => Classical.choose (each i), fun i hi => Classical.choose_spec (each i) hi⟩
    refine ⟨(List.range len).map V, (List.range len).map L, ⟨some a, cap, by simp, fun e => by simp at e, by simpa using hl, hm, ?_⟩, by simp, fun i u l h1 h2 => ?_⟩
    · intro i hi
      simp at hi
      have hc := (hel i (by omega)).1
      obtain ⟨b, off, sp⟩ := a
      have hsp : sp = none := by
        have h0 := (hel 0 (by omega)).1
        simpa [Addr.add] using World.cell?_spot h0
      subst hsp
      rw [addr_add] at hc
      exact ⟨b, off, rfl, by rw [hc]; simp⟩
    · have hil : i < len := by have := (List.getElem?_eq_some_iff.1 h1).1; simpa using this
      rw [List.getElem?_map, List.getElem?_range hil] at h1 h2
      cases h1; cases h2
      exact hL i (by omega)
end Go.Proofs.YtdbhfeiibcpcaaaDoor.Sd

/-
  What the listed table of sched holds.
-/
namespace Go.Proofs.YtdbhfeiibcpcaaaDoor.Sd
open Go.RowKit
set_option maxRecDepth 100000
theorem vars_read {P : Program} {w : World} {n : String} {d : DataW Unit} : ∀ {l : List (String × DataW Unit)} {ps : List MemPlace}, DataW.LaidVars P w l ps → (n, d) ∈ l →
    ∃ g t cs fuel p, P.globalNamed n = some g ∧ (P.globals[g]?).map (·.type) = some t ∧ w.var? P n = some cs ∧ DataW.trod (fun _ => ()) P w 0 (fun _ => true) false fuel t cs.toList = some (d, p) := by
  intro l
  induction l with
  | nil => intro _ _ hm; cases hm
  | cons x r ih =>
    intro ps h hm
    obtain ⟨g, t, cs, fuel, p, q, h1, h2, h3, h4, h5, _⟩ := h
    rcases List.mem_cons.1 hm with e | e
    · subst e; exact ⟨g, t, cs, fuel, p, h1, h2, h3, h4⟩
    · exact ih h5 e
def reachL : List (Int × Int) := [(0, 0), (4, 1), (4, 1), (4, 4), (4, 1), (4, 1), (4, 1), (4, 8), (8, 1), (8, 8), (8, 1), (1, 1), (1, 1), (1, 1)]
theorem laid_list : (Rows.laid_flume_sched_reaches : DataW Unit) = .agg (reachL.map fun x => .agg [.lit (.int .i64 x.1), .lit (.int .i64 x.2)]) := by rfl
theorem reach_fn : ∀ k : Fin 14, 1 ≤ k.val → reachL[k.val]? = some (ra k.val, rb' k.val) := by decide
theorem tb_of {l : List (String × DataW Unit)} {W : World} (h : laidMet Tryd.prog l W) (hm : ("flume/sched.reaches", Rows.laid_flume_sched_reaches) ∈ l) : Tb W := by
  obtain ⟨ps, hv, _⟩ := h
  obtain ⟨g, t, cs, fuel, p, h1, h2, h3, h4⟩ := vars_read hv hm
  obtain rfl := Option.some.inj ((show Tryd.prog.globalNamed "flume/sched.reaches" = some 0 by kernel_rfl).symm.trans h1)
  obtain rfl := Option.some.inj ((show (Tryd.prog.globals[0]?).map (·.type) = some 80 by kernel_rfl).symm.trans h2)
  obtain ⟨xs, m, _, ex, _, hl, hel⟩ := DataW.trod_array Tryd.underlying80 h4
  have c2 : Tryd.prog.cellsOf 79 = 2 := by kernel_rfl
  have c1 : Tryd.prog.cellsOf 3 = 1 := by kernel_rfl
  rw [laid_list] at ex
  have e3 := (DataW.agg.inj (Prod.mk.inj ex).1).symm
  intro k k1 k2
  have hE := hel k (by omega)
  rw [c2, List.getElem?_eq_getElem (by omega)] at hE
  have hr := reach_fn ⟨k, by omega⟩ k1
  simp only at hr
  have e4 : (xs.map (·.1))[k]? = some (.agg [.lit (.int .i64 (ra k)), .lit (.int .i64 (rb' k))]) := by
    rw [e3, List.getElem?_map, hr]; rfl
  rw [List.getElem?_map, List.getElem?_eq_getElem (by omega)] at e4
  simp only [Option.map_some, Option.some.injEq] at e4
  obtain ⟨y0, y1, n, ex2, _, g0, g1⟩ := Go.ChangeShapes.trod_struct2 Tryd.underlying79 hE
  simp only [c1] at g0 g1
  obtain ⟨z0, a1, a2, _⟩ := DataW.trod_int Tryd.underlying3 g0
  obtain ⟨z1, b1, b2, _⟩ := DataW.trod_int Tryd.underlying3 g1
  rw [ex2, a2, b2] at e4
  simp only [DataW.agg.injEq, List.cons.injEq, DataW.lit.injEq, Lit.int.injEq, true_and, and_true] at e4
  obtain ⟨r1, r2⟩ := e4
  refine ⟨?_, ?_⟩
  · rw [World.var?_cell h1 h3 (k * 2), ← r1]
    have h0 : ((((cs.toList.drop (k * 2)).take 2).drop 0).take 1)[0]? = some (.int .i64 z0) := by rw [a1]; rfl
    simpa using h0
  · rw [World.var?_cell h1 h3 (k * 2 + 1), ← r2]
    have h0 : ((((cs.toList.drop (k * 2)).take 2).drop 1).take 1)[0]? = some (.int .i64 z1) := by rw [b1]; rfl
    simpa using h0
end Go.Proofs.YtdbhfeiibcpcaaaDoor.Sd

