/-
  kept, few; what both runs answer.
-/
import Derived.Test.YtiiinpmkidobgaaDoorA08
import Derived.Test.YtiiinpmkidobgaaDoorA09
import Derived.Test.YtiiinpmkidobgaaDoorA01
import Derived.Test.YtiiinpmkidobgaaDoorA03
import Derived.Test.YtiiinpmkidobgaaDoorRows
import Derived.OpenShut
import Derived.ChangeArms
import Derived.ChangeSame
import Derived.FnData
import Derived.JoinedTies
namespace Go.Proofs.YtiiinpmkidobgaaDoor.Sd
open Go.RowKit
set_option linter.unusedVariables false
set_option linter.unusedSimpArgs false
set_option maxRecDepth 100000
theorem Tw.tks {w u : World} {ts : List (List Ac)} {tv : Value} {us : List Value} (h : Tw w ts ts.length tv us u) : TksAt u tv us ts := by
  have row := h.row
  rw [← h.len] at row
  refine ⟨row_own row, h.len, fun i x l h1 h2 => ?_⟩
  obtain ⟨b, c, rfl, h3, h4, h5⟩ := h.ls i x l h1 h2
  exact ⟨_, c, rfl, by omega, fun j a hj => ⟨b, 0, rfl, by
    have := h5 j a (by rw [List.getElem?_append_left (List.getElem?_eq_some_iff.1 hj).1]; exact hj)
    simpa using this⟩⟩
def fewI (n : Int) : Int := if n > 3000 ∧ n ≤ 65536 then 3000 else n
theorem few_any (w : World) (n : Int) : Calls Tryd.prog 9 #[.int .i64 n] w fun e w' => e = .returned (.int .i64 (fewI n)) ∧ w' = w := by
  by_cases h1 : n > 3000
  · by_cases h2 : n ≤ 65536
    · have e : fewI n = 3000 := if_pos ⟨h1, h2⟩
      rw [e]
      go_enter Tryd.func9, Tryd.ntmps9
      go_wp2_with fail
      go_ret
      exact ⟨rfl, rfl⟩
    · have e : fewI n = n := if_neg fun c => h2 c.2
      rw [e]
      go_enter Tryd.func9, Tryd.ntmps9
      go_wp2_with fail
      go_ret
      exact ⟨rfl, rfl⟩
  · have e : fewI n = n := if_neg fun c => h1 c.1
    rw [e]
    go_enter Tryd.func9, Tryd.ntmps9
    go_wp2_with fail
    go_ret
    exact ⟨rfl, rfl⟩
set_option maxHeartbeats 8000000 in
theorem kept_any (w0 w : World) (ts : List (List Ac)) (tv : Value) (us' : List Value) (hT : Tw w0 ts ts.length tv us' w) (v : Value) (us : List Value) (h : TksAt w v us ts) (hn : ts.length ≤ 40) (hr : ∀ l ∈ ts, l.length ≤ 4398046510976) :
    Calls Tryd.prog 14 #[tv, v] w fun e w' => e = .returned (.bool true) ∧ Below w.heap.size w w' := by
  obtain ⟨hrw, hul', hact⟩ := h
  have HR := hide hrw
  obtain ⟨ao, cap, e, -, -, -, -⟩ := hrw
  subst e
  obtain ⟨n, hnn⟩ : ∃ n, Hid (us.length = n) := ⟨_, rfl⟩
  rw [hnn.out] at HR ⊢
  have etn : Hid (ts.length = n) := hul'.symm.trans hnn.out
  have hn' : n ≤ 40 := by rw [← etn.out]; exact hn
  obtain ⟨ta, tc, e⟩ := slice_ofR hT.row
  subst e
  have HTW := hide hT
  have TK := hide hT.tks
  have HTN : Hid (∀ i, i < n → ∃ l, ts[i]? = some l) := fun i hi => ⟨_, List.getElem?_eq_getElem (by rw [etn.out]; exact hi)⟩
  have HACT := hide hact
  have HRE := hide hr
  rw [etn.out] at HTW TK ⊢
  clear hact hul' hn hr hT
  go_enter Tryd.func14, Tryd.ntmps14
  go_wp2_with fail
  go_loopw [5] (fun s wr => ∃ i : Nat, s = .int .i64 (i : Int) ∧ i ≤ n ∧ Hid (Below w.heap.size w wr)) (fun s wr => n - (intOf s).toNat)
  case atStart => exact ⟨0, rfl, Nat.zero_le _, Below.refl _ _⟩
  case round =>
    obtain ⟨i, rfl, hin, hst⟩ := hrel
    by_cases hlt : i < n
    · have i1 : (i : Int) < (n : Int) := by omega
      obtain ⟨WA, hWA⟩ : ∃ WA, WA = wr := ⟨_, rfl⟩
      subst hWA
      obtain ⟨u, hu⟩ : ∃ u, us[i]? = some u := ⟨_, List.getElem?_eq_getElem (by rw [hnn.out]; exact hlt)⟩
      obtain ⟨l, hl⟩ := HTN.out i hlt
      have hact := (HACT.out i u l hu hl).below hst.out
      obtain ⟨ua, uc, e, huc, hx⟩ := hact
      subst e
      obtain ⟨hcp, hrow0⟩ := row_at (Below.row hst.out HR.out) hnn.out
      obtain ⟨b0, o0, rfl, c0⟩ := hrow0 i _ hu
      have hcp' : (n : Int) ≤ (cap : Int) := by omega
      have TWr := HTW.out.below hst.out
      have hul2 := TWr.len
      obtain ⟨x, hxx⟩ : ∃ x, us'[i]? = some x := ⟨_, List.getElem?_eq_getElem (by rw [hul2]; exact hlt)⟩
      obtain ⟨b, c, e, hc, -, hat⟩ := TWr.ls i x l hxx hl
      subst e
      have rowT := TWr.row
      rw [← hul2] at rowT
      have RT := row_own rowT
      obtain ⟨hcp2, hrow2⟩ := row_at (n := us'.length) (cap := tc) (ao := ta) RT rfl
      obtain ⟨tb, to', e, d0⟩ := hrow2 i _ hxx
      subst e
      rw [hul2] at hcp2
      have htc : (n : Int) ≤ (tc : Int) := by omega
      have hlr := HRE.out l (List.mem_of_getElem? hl)
      obtain ⟨q0, -, -, -⟩ := hat l.length spare (by rw [List.getElem?_concat_length])
      have HAT := hide hat
      have HX := hide hx
      obtain ⟨ul, hul3⟩ : ∃ ul, Hid (l.length = ul) := ⟨_, rfl⟩
      rw [hul3.out] at c0 d0 q0 hlr hc huc
      have i3 : (ul : Int) + 1 ≤ (c : Int) := by omega
      have i4 : (ul : Int) ≤ 4398046510976 := by omega
      have i5 : (ul : Int) ≤ (uc : Int) := by omega
      have i6 : (0 : Int) ≤ (ul : Int) + 1 := by omega
      have i7 : (ul : Int) < (ul : Int) + 1 := by omega
      have q0' : WA.cell? ⟨b, ul * 4, none⟩ = some (.int .i64 (-3)) := q0
      clear hrow0 hrow2 hx hat RT rowT TWr hcp hcp2 hul2 hxx hl hu q0
      go_upto_region 7 with fail
      go_wp2_with fail
      go_loopw [7] (fun s wq => ∃ k : Nat, s = .int .i64 (k : Int) ∧ k ≤ ul ∧ Hid (Below WA.heap.size WA wq)) (fun s wq => ul - (intOf s).toNat)
      case atStart => exact ⟨0, rfl, Nat.zero_le _, Below.refl _ _⟩
      case round =>
        obtain ⟨k, rfl, hkn, hsk⟩ := hrel
        by_cases hk : k < ul
        · have k1 : (k : Int) < (ul : Int) := by omega
          obtain ⟨a, ha⟩ : ∃ a, l[k]? = some a := ⟨_, List.getElem?_eq_getElem (by rw [hul3.out]; exact hk)⟩
          obtain ⟨ab, aoff, e, x0, x1, x2, x3⟩ := HX.out k a ha
          subst e
          obtain ⟨y0, y1, y2, y3⟩ := HAT.out k a (by rw [List.getElem?_append_left (by rw [hul3.out]; exact hk)]; exact ha)
          have kc : (k : Int) < (c : Int) := by omega
          have kuc : (k : Int) < (uc : Int) := by omega
          have C := fun {ad : Addr} {vv : Value} (hh : WA.cell? ad = some vv) => (hsk.out.cell (lt_of_cell hh)).trans hh
          have x0 := C x0
          have x1 := C x1
          have x2 := C x2
          have x3 := C x3
          have y0 := C y0
          have y1 := C y1
          have y2 := C y2
          have y3 := C y3
          have c1 := C c0
          have d1 := C d0
          have NQ : ∀ q : World, (binOp .neq 45 (.agg #[.int .i64 a.k, .int .i64 a.a, .int .i64 a.b, .int .i64 a.n]) (.agg #[.int .i64 a.k, .int .i64 a.a, .int .i64 a.b, .int .i64 a.n])).run Tryd.prog q = .ok (.bool false) q := fun q => by rw [actNeq]; simp
          clear C ha
          go_upto_region 10 with fail
          go_quiet (fail)
          go_wp2_with fail
          go_roundw
          case rel => exact ⟨k + 1, by go_num, hk, belowN hsk.out⟩
          case measure => simp only [intOf]; omega
        · obtain rfl : k = ul := by omega
          have k1 : ¬ (k : Int) < (k : Int) := by omega
          go_wp2_with fail
          go_roundw
          case rel => exact ⟨i + 1, by go_num, hlt, keepF hst.out hsk.out⟩
          case measure => simp only [intOf]; omega
    · obtain rfl : i = n := by omega
      have i1 : ¬ (i : Int) < (i : Int) := by omega
      go_wp2_with fail
      go_ret
      exact ⟨rfl, hst.out⟩
/-- What a run answers: how many steps, the turns, the registers, the ends, the queues. -/
structure Ou where
  n : Nat
  T : List (Int × Int)
  G : List Int
  E : List (Int × Int)
  L : List (List Int)
def ou (ts : List (List Ac)) (room : Int) (picks : List Int) (most : Int) : Ou :=
  if refE ts room picks most = 0 then ⟨(runS ts room.toNat picks most.toNat).tr.length, trI (runS ts room.toNat picks most.toNat).tr, regs (runS ts room.toNat picks most.toNat), endsI (runS ts room.toNat picks most.toNat) (runS ts room.toNat picks most.toNat).tk.length, quesI (runS ts room.toNat picks most.toNat) 4⟩ else ⟨0, [], [], [], []⟩
theorem rq_nil (w : World) : Rq w (.slice none 0 0) (.slice none 0 0) (.slice none 0 0) (.slice none 0 0) [] [] [] [] :=
  ⟨⟨none, 0, rfl, Nat.le_refl _, by omega, fun i x h => by simp at h⟩, row_nil w, ⟨none, 0, rfl, Nat.le_refl _, by omega, fun i x h => by simp at h⟩, ⟨[], Row.nil w, rfl, fun i u l h => by simp at h⟩⟩
theorem doc_run (w : World) (v vp : Value) (us : List Value) (ts : List (List Ac)) (h : TksAt w v us ts) (picks : List Int) (hp : Row w vp (picks.map (Value.int .i64))) (hp1 : ∀ k ∈ picks, k ≤ 9223372036854775807) (room most : Int) :
    Calls Tryd.prog 8 #[v, .int .i64 room, vp, .int .i64 most] w fun e w' => ∃ tv rv ev qv, e = .returned (.tuple #[.agg #[.int .i64 ((ou ts room picks most).n : Int), tv, rv, ev, qv], .int .i64 (refE ts room picks most)]) ∧ Rq w' tv rv ev qv (ou ts room picks most).T (ou ts room picks most).G (ou ts room picks most).E (ou ts room picks most).L ∧ Below w.heap.size w w' := by
  by_cases hE : refE ts room picks most = 0
  · have e : ou ts room picks most = _ := if_pos hE
    rw [e]
    obtain ⟨m1, ⟨r, hr, -, -⟩, ⟨mm, hm, -⟩, -, -⟩ := refE_ok hE
    subst hr
    subst hm
    rw [hE]
    exact rrun_yes w v vp us ts h picks hp hp1 r mm hE
  · have e : ou ts room picks most = _ := if_neg hE
    rw [e]
    refine (rrun_no w v vp us ts h picks hp room most hE).mono ?_
    rintro e' w' ⟨rfl, b⟩
    exact ⟨_, _, _, _, rfl, rq_nil _, b⟩
/-- What of an answer is written over. -/
structure Sh (B : Nat) (u : World) (tv qv : Value) (vs : List Value) : Prop where
  t : ∃ a n c, tv = .slice a n c ∧ n ≤ c ∧ c ≤ 9223372036854775807 ∧ (n ≠ 0 → ∃ g cs T, a = some ⟨g, 0, none⟩ ∧ u.heap[g]? = some (.cells cs T (0, 0)) ∧ n * 2 ≤ cs.size ∧ B ≤ g)
  q : Row u qv vs
  v : ∀ (j : Nat) (x : Value), vs[j]? = some x → ∃ a n c, x = .slice a n c ∧ n ≤ c ∧ c ≤ 9223372036854775807 ∧ (n ≠ 0 → ∃ g cs T, a = some ⟨g, 0, none⟩ ∧ u.heap[g]? = some (.cells cs T (0, 0)) ∧ n ≤ cs.size ∧ B ≤ g)
  d : ∀ k, qv.ownBlock = some k → tv.ownBlock ≠ some k ∧ ∀ (j : Nat) (x : Value), vs[j]? = some x → x.ownBlock ≠ some k
  l : (∀ k, tv.ownBlock = some k → k < u.heap.size) ∧ ∀ (j : Nat) (x : Value), vs[j]? = some x → ∀ k, x.ownBlock = some k → k < u.heap.size
theorem Sh.below {B : Nat} {u u' : World} {tv qv : Value} {vs : List Value} (h : Sh B u tv qv vs) (hb : Below u.heap.size u u') : Sh B u' tv qv vs := by
  refine ⟨?_, Below.row hb h.q, fun j x hj => ?_, h.d, (fun k hk => Nat.lt_of_lt_of_le (h.l.1 k hk) hb.size), (fun j x hj k hk => Nat.lt_of_lt_of_le (h.l.2 j x hj k hk) hb.size)⟩
  · obtain ⟨a, n, c, e, h1, h2, h3⟩ := h.t
    refine ⟨a, n, c, e, h1, h2, fun hn => ?_⟩
    obtain ⟨g, cs, T, e1, e2, e3⟩ := h3 hn
    exact ⟨g, cs, T, e1, (hb.block _ (heap_lt e2)).trans e2, e3⟩
  · obtain ⟨a, n, c, e, h1, h2, h3⟩ := h.v j x hj
    refine ⟨a, n, c, e, h1, h2, fun hn => ?_⟩
    obtain ⟨g, cs, T, e1, e2, e3⟩ := h3 hn
    exact ⟨g, cs, T, e1, (hb.block _ (heap_lt e2)).trans e2, e3⟩
theorem heap_set {w : World} {b o g : Nat} {v : Value} {cs : Array Value} {T : TypeId} (h : w.heap[g]? = some (.cells cs T (0, 0))) : ∃ cs', (w.setCell ⟨b, o, none⟩ v).heap[g]? = some (.cells cs' T (0, 0)) ∧ cs'.size = cs.size := by
  by_cases e : g = b
  · subst e
    exact ⟨_, heap_setCell_same _ _ _ _ _ _ h, by simp⟩
  · exact ⟨cs, by rw [Below.heap_setCell _ _ _ _ e]; exact h, rfl⟩
theorem Sh.set {B : Nat} {u : World} {tv qv : Value} {vs : List Value} (h : Sh B u tv qv vs) {b o : Nat} {x : Value} (hn : qv.ownBlock ≠ some b) : Sh B (u.setCell ⟨b, o, none⟩ x) tv qv vs := by
  have hz : u.heap.size ≤ (u.setCell ⟨b, o, none⟩ x).heap.size := (But.set (X := fun k => k = b) u b o x rfl).size
  refine ⟨?_, ?_, fun j y hj => ?_, h.d, (fun k hk => Nat.lt_of_lt_of_le (h.l.1 k hk) hz), (fun j x hj k hk => Nat.lt_of_lt_of_le (h.l.2 j x hj k hk) hz)⟩
  · obtain ⟨a, n, c, e, h1, h2, h3⟩ := h.t
    refine ⟨a, n, c, e, h1, h2, fun hn => ?_⟩
    obtain ⟨g, cs, T, e1, e2, e3, e4⟩ := h3 hn
    obtain ⟨cs', k1, k2⟩ := heap_set (b := b) (o := o) (v := x) e2
    exact ⟨g, cs', T, e1, k1, by omega, e4⟩
  · obtain ⟨a, c, e, h1, h2, h3, h4⟩ := h.q
    refine ⟨a, c, e, h1, h2, h3, fun i hi => ?_⟩
    obtain ⟨g, off, e1, e2⟩ := h4 i hi
    refine ⟨g, off, e1, ?_⟩
    have hgb : g ≠ b := fun c' => hn (by rw [e, e1, c']; rfl)
    rw [← e2]
    exact World.cell?_of_block (Below.heap_setCell _ _ _ _ hgb)
  · obtain ⟨a, n, c, e, h1, h2, h3⟩ := h.v j y hj
    refine ⟨a, n, c, e, h1, h2, fun hn => ?_⟩
    obtain ⟨g, cs, T, e1, e2, e3, e4⟩ := h3 hn
    obtain ⟨cs', k1, k2⟩ := heap_set (b := b) (o := o) (v := x) e2
    exact ⟨g, cs', T, e1, k1, by omega, e4⟩
theorem Rt.sh {B : Nat} {w : World} {tv rv ev qv : Value} {vs : List Value} {tr : List (Nat × Nat)} {rg : List Int} {E : List (Int × Int)} {L : List (List Int)} (h : Rt B w tv rv ev qv vs tr rg E L) : Sh B w tv qv vs := by
  refine ⟨?_, row_own h.qs, fun j x hj => ?_, fun k hk => ⟨fun e => ?_, fun j x hj e => ?_⟩, (fun k hk => (World.ownsRow.lt h.tr k hk).2), (fun j x hj k hk => ?_)⟩
  · rcases h.tr.2 with ⟨e, hz⟩ | ⟨g, cap, cur, e, hB, hc, a1, a2, a3, a4⟩
    · exact ⟨none, 0, 0, e, Nat.le_refl _, by omega, fun c => absurd rfl c⟩
    · exact ⟨_, _, cap, e, a1, by unfold maxLen at a2; exact a2, fun _ => ⟨g, cur, _, rfl, hc, by omega, hB⟩⟩
  · have hl : j < L.length := by rw [← h.ql.1]; exact (List.getElem?_eq_some_iff.1 hj).1
    rcases (h.ql.2 j x _ hj (List.getElem?_eq_getElem hl)).2 with ⟨e, hz⟩ | ⟨g, cap, cur, e, hB, hc, a1, a2, a3, a4⟩
    · exact ⟨none, 0, 0, e, Nat.le_refl _, by omega, fun c => absurd rfl c⟩
    · exact ⟨_, _, cap, e, a1, by unfold maxLen at a2; exact a2, fun _ => ⟨g, cur, _, rfl, hc, by omega, hB⟩⟩
  · have := h.dis 4 0 k hk e
    omega
  · have := h.dis 4 (j + 5) k hk (by show (vs[j]?).bind Value.ownBlock = some k; rw [hj]; exact e)
    omega
  · have hl : j < L.length := by rw [← h.ql.1]; exact (List.getElem?_eq_some_iff.1 hj).1
    exact (World.ownsRow.lt (h.ql.2 j x _ hj (List.getElem?_eq_getElem hl)) k hk).2
theorem sh_nil (B : Nat) (w : World) : Sh B w (.slice none 0 0) (.slice none 0 0) [] :=
  ⟨⟨none, 0, 0, rfl, Nat.le_refl _, by omega, fun c => absurd rfl c⟩, Row.nil w, (fun j x h => by simp at h), (fun k hk => by cases hk), (fun k hk => by cases hk), (fun j x h => by simp at h)⟩
theorem prog_run (w : World) (hT : Tb w) (v vp : Value) (us : List Value) (ts : List (List Ac)) (h : TksAt w v us ts) (picks : List Int) (hp : Row w vp (picks.map (Value.int .i64))) (hp1 : ∀ k ∈ picks, k ≤ 9223372036854775807) (room most : Int) :
    Calls Tryd.prog 10 #[v, .int .i64 room, vp, .int .i64 most] w fun e w' => ∃ tv rv ev qv vs, e = .returned (.tuple #[.agg #[.int .i64 ((ou ts room picks most).n : Int), tv, rv, ev, qv], .int .i64 (refE ts room picks most)]) ∧ Rq w' tv rv ev qv (ou ts room picks most).T (ou ts room picks most).G (ou ts room picks most).E (ou ts room picks most).L ∧ Sh w.heap.size w' tv qv vs ∧ Below w.heap.size w w' := by
  by_cases hE : refE ts room picks most = 0
  · have e : ou ts room picks most = _ := if_pos hE
    rw [e]
    obtain ⟨m1, ⟨r, hr, -, -⟩, ⟨mm, hm, -⟩, -, -⟩ := refE_ok hE
    subst hr
    subst hm
    refine (run_yes w hT v vp us ts h picks hp hp1 r mm hE).mono ?_
    rintro e' w' ⟨tv, rv, ev, qv, rfl, ⟨vs, R⟩, b⟩
    rw [hE]
    exact ⟨tv, rv, ev, qv, vs, rfl, R.rq, R.sh, b⟩
  · have e : ou ts room picks most = _ := if_neg hE
    rw [e]
    refine (run_no w hT v vp us ts h picks hp room most hE).mono ?_
    rintro e' w' ⟨rfl, b⟩
    exact ⟨_, _, _, _, [], rfl, rq_nil _, sh_nil _ _, b⟩
def rdO (ts : List (List Ac)) (room : Int) (picks : List Int) : List Nat := if refE ts room picks 0 = 0 then rdy (runS ts room.toNat picks picks.length) else []
theorem doc_ready (w : World) (v vp : Value) (us : List Value) (ts : List (List Ac)) (h : TksAt w v us ts) (picks : List Int) (hp : Row w vp (picks.map (Value.int .i64))) (hp1 : ∀ k ∈ picks, k ≤ 9223372036854775807) (room : Int) :
    Calls Tryd.prog 13 #[v, .int .i64 room, vp] w fun e w' => ∃ v', e = .returned (.tuple #[v', .int .i64 (refE ts room picks 0)]) ∧ Nms w.heap.size w' v' (ns (rdO ts room picks)) ∧ Below w.heap.size w w' := by
  by_cases hE : refE ts room picks 0 = 0
  · have e : rdO ts room picks = _ := if_pos hE
    rw [e]
    obtain ⟨m1, ⟨r, hr, -, -⟩, -, -, -⟩ := refE_ok hE
    subst hr
    rw [hE]
    exact rrdy_yes w v vp us ts h picks hp hp1 r hE
  · have e : rdO ts room picks = _ := if_neg hE
    rw [e]
    refine (rrdy_no w v vp us ts h picks hp room hE).mono ?_
    rintro e' w' ⟨rfl, b⟩
    exact ⟨_, rfl, Nms.nil _ _, b⟩
theorem prog_ready (w : World) (hT : Tb w) (v vp : Value) (us : List Value) (ts : List (List Ac)) (h : TksAt w v us ts) (picks : List Int) (hp : Row w vp (picks.map (Value.int .i64))) (hp1 : ∀ k ∈ picks, k ≤ 9223372036854775807) (room : Int) :
    Calls Tryd.prog 12 #[v, .int .i64 room, vp] w fun e w' => ∃ v', e = .returned (.tuple #[v', .int .i64 (refE ts room picks 0)]) ∧ Nms w.heap.size w' v' (ns (rdO ts room picks)) ∧ Below w.heap.size w w' := by
  by_cases hE : refE ts room picks 0 = 0
  · have e : rdO ts room picks = _ := if_pos hE
    rw [e]
    obtain ⟨m1, ⟨r, hr, -, -⟩, -, -, -⟩ := refE_ok hE
    subst hr
    rw [hE]
    exact ready_yes w hT v vp us ts h picks hp hp1 r (by rw [refE_most]; exact hE)
  · have e : rdO ts room picks = _ := if_neg hE
    rw [e]
    refine (ready_no w hT v vp us ts h picks hp room (by rw [refE_most]; exact hE)).mono ?_
    rintro e' w' ⟨rfl, b⟩
    exact ⟨_, by rw [refE_most], Nms.nil _ _, b⟩
end Go.Proofs.YtiiinpmkidobgaaDoor.Sd

/-
  SchedAll's walk.
-/
namespace Go.Proofs.YtiiinpmkidobgaaDoor.Sd
open Go.RowKit
set_option linter.unusedVariables false
set_option linter.unusedSimpArgs false
set_option maxRecDepth 100000
/-- What stands while an answer is written over. -/
structure Ov (WA w : World) (xb : Nat) (N : Int) (tv rv ev qv : Value) (vs : List Value) : Prop where
  sh : Sh WA.heap.size w tv qv vs
  lw : Below WA.heap.size WA w
  bx : w.heap[xb]? = some (.cells #[.int .i64 N, tv, rv, ev, qv] 33 (0, 0))
  xl : WA.heap.size ≤ xb ∧ tv.ownBlock ≠ some xb ∧ ∀ (j : Nat) (x : Value), vs[j]? = some x → x.ownBlock ≠ some xb
theorem Ov.set {WA w : World} {xb : Nat} {N : Int} {tv rv ev qv : Value} {vs : List Value} (h : Ov WA w xb N tv rv ev qv vs) {b o : Nat} {x : Value} (h1 : qv.ownBlock ≠ some b) (h2 : b ≠ xb) (h3 : WA.heap.size ≤ b) : Ov WA (w.setCell ⟨b, o, none⟩ x) xb N tv rv ev qv vs := by
  have hb : But (fun k => k = b) w (w.setCell ⟨b, o, none⟩ x) := But.set _ _ _ _ rfl
  exact ⟨h.sh.set h1, h.lw.trans (hb.below h.lw.size fun k e => by rw [e]; exact h3), hb.at h.bx (fun e => h2 e.symm), h.xl⟩
theorem Ov.below {WA w w' : World} {xb : Nat} {N : Int} {tv rv ev qv : Value} {vs : List Value} (h : Ov WA w xb N tv rv ev qv vs) (hb : Below w.heap.size w w') : Ov WA w' xb N tv rv ev qv vs := ⟨h.sh.below hb, keepF h.lw hb, (hb.block _ (heap_lt h.bx)).trans h.bx, h.xl⟩
theorem cell_ex {w : World} {g o : Nat} {cs : Array Value} {T : TypeId} (h : w.heap[g]? = some (.cells cs T (0, 0))) (ho : o < cs.size) : ∃ x, w.cell? ⟨g, o, none⟩ = some x := ⟨cs[o], by rw [cell_of h, Array.getElem?_eq_getElem ho]⟩
theorem five_of {x : World} {b : Nat} {a c d e f : Value} {T : TypeId} (h : x.heap[b]? = some (.cells #[a, c, d, e, f] T (0, 0))) : x.cell? ⟨b, 0, none⟩ = some a ∧ x.cell? ⟨b, 1, none⟩ = some c ∧ x.cell? ⟨b, 2, none⟩ = some d ∧ x.cell? ⟨b, 3, none⟩ = some e ∧ x.cell? ⟨b, 4, none⟩ = some f := by
  refine ⟨?_, ?_, ?_, ?_, ?_⟩ <;> rw [cell_of h] <;> rfl
theorem nms_cap {B : Nat} {w : World} {a : Option Addr} {n c : Nat} {l : List Int} (h : Nms B w (.slice a n c) l) : c ≤ 9223372036854775807 := by
  rcases h.2 with ⟨e, hz⟩ | ⟨g, cap, cur, e, hB, hc, a1, a2, a3, a4⟩
  · cases e; omega
  · cases e; unfold maxLen at a2; exact a2
theorem rq_forms {w : World} {tv rv ev qv : Value} {T : List (Int × Int)} {G : List Int} {E : List (Int × Int)} {L : List (List Int)} (h : Rq w tv rv ev qv T G E L) : ∃ ta tn tc ra rn rc ea en ec qa qn qc, tv = .slice ta tn tc ∧ rv = .slice ra rn rc ∧ ev = .slice ea en ec ∧ qv = .slice qa qn qc := by
  obtain ⟨ta, tc, e1, -⟩ := h.t
  obtain ⟨ra, rc, e2, -⟩ := h.g
  obtain ⟨ea, ec, e3, -⟩ := h.e
  obtain ⟨vs, ⟨qa, qc, e4, -⟩, -⟩ := h.q
  exact ⟨_, _, _, _, _, _, _, _, _, _, _, _, e1, e2, e3, e4⟩
set_option maxHeartbeats 16000000 in
theorem all_walk (w : World) (hT : Tb w) (a0 : Option Addr) (len0 cap0 : Nat) (us : List Value) (ts : List (List Ac)) (htk : TksAt w (.slice a0 len0 cap0) us ts) (hr : ∀ l ∈ ts, l.length ≤ 4398046510976) (room : Int) (a2 : Option Addr) (len2 cap2 : Nat) (picks : List Int) (hp : Row w (.slice a2 len2 cap2) (picks.map (Value.int .i64))) (hp1 : ∀ k ∈ picks, -9223372036854775808 ≤ k ∧ k ≤ 9223372036854775807) (most : Int) :
    Calls Tryd.prog 3 #[.slice a0 len0 cap0, .int .i64 room, .slice a2 len2 cap2, .int .i64 most] w fun e w' => e = .returned (.bool true) ∧ Below w.heap.size w w' := by
  have BG := hide (begun_any w hT)
  have e0 : len0 = ts.length := by
    obtain ⟨⟨ao, cap, e, -⟩, hul, -⟩ := htk
    simp only [Value.slice.injEq] at e
    omega
  have e2 : len2 = picks.length := by
    obtain ⟨ao, cap, e, -⟩ := hp
    simp only [Value.slice.injEq, List.length_map] at e
    omega
  have HTB := hide hT
  have HTK := hide htk
  have HR := hide hr
  have HP := hide hp
  have HP1 : Hid (∀ k ∈ picks, k ≤ 9223372036854775807) := fun k hk => (hp1 k hk).2
  have E0 := hide e0
  have E2 := hide e2
  clear hT htk hr hp hp1 e0 e2
  by_cases h40 : (len0 : Int) > 40
  · go_enter Tryd.func3, Tryd.ntmps3
    go_wp2_with (go_at_call 4; refine BG.out.mono ?_; rintro e w1 ⟨rfl, b1⟩; replace b1 := hide b1)
    go_ret
    exact ⟨rfl, b1.out⟩
  by_cases h3k : (len2 : Int) > 3000
  · go_enter Tryd.func3, Tryd.ntmps3
    go_wp2_with (go_at_call 4; refine BG.out.mono ?_; rintro e w1 ⟨rfl, b1⟩; replace b1 := hide b1)
    go_ret
    exact ⟨rfl, b1.out⟩
  have N40 : Hid (ts.length ≤ 40) := by have := E0.out; show _ ≤ _; omega
  go_enter Tryd.func3, Tryd.ntmps3
  go_upto_region 5 with (go_at_call 4; refine BG.out.mono ?_; rintro e w1 ⟨rfl, b1⟩; replace b1 := hide b1)
  have TW := hide (twin_any w1 _ us ts (HTK.out.below b1.out) N40.out HR.out)
  clear BG
  go_upto_region 6 with (go_at_call 5; refine TW.out.mono ?_; rintro e w2 ⟨hv, us', rfl, T2⟩; replace T2 := hide T2)
  have b2 := hide (keepF b1.out T2.out.lw)
  obtain ⟨ha, hc, ehv⟩ := slice_ofR T2.out.row
  obtain ⟨hn, hhn⟩ : ∃ hn, Hid (ts.length = hn) := ⟨_, rfl⟩
  have TK2 := hide T2.out.tks
  subst ehv
  rw [hhn.out] at TK2
  have MY := hide (may_any w2 (HTB.out.below b2.out) _ us' ts TK2.out)
  obtain ⟨ME, hME⟩ : ∃ ME, Hid (mayE ts = ME) := ⟨_, rfl⟩
  rw [hME.out] at MY
  rw [hhn.out]
  clear TW
  go_upto_region 8 with (first | (go_at_call 7; refine RM.out.mono ?_; rintro e w4 ⟨rfl, b4⟩; replace b4 := hide b4) | (go_at_call 6; refine MY.out.mono ?_; rintro e w3 ⟨rfl, b3⟩; replace b3 := hide b3; have RM := hide (rmay_any w3 _ us ts (HTK.out.below (keepF b2.out b3.out))); rw [hME.out] at RM))
  have B4 := hide (keepF (keepF b2.out b3.out) b4.out)
  have T4 := hide ((T2.out.below b3.out).below b4.out)
  obtain ⟨FM, hFM⟩ : ∃ FM, Hid (fewI most = FM) := ⟨_, rfl⟩
  have FW : Hid (∀ q, Calls Tryd.prog 9 #[.int .i64 most] q fun e w' => e = .returned (.int .i64 FM) ∧ w' = q) := by
    have := fun q => few_any q most
    rw [hFM.out] at this
    exact this
  have DR := hide (doc_run w4 _ _ us ts (HTK.out.below B4.out) picks (Below.row B4.out HP.out) HP1.out room FM)
  obtain ⟨FE, hFE⟩ : ∃ FE, Hid (refE ts room picks FM = FE) := ⟨_, rfl⟩
  obtain ⟨OU, hOU⟩ : ∃ OU, Hid (ou ts room picks FM = OU) := ⟨_, rfl⟩
  rw [hFE.out, hOU.out] at DR
  obtain ⟨N, hN⟩ : ∃ N : Int, Hid ((OU.n : Int) = N) := ⟨_, rfl⟩
  rw [hN.out] at DR
  clear MY RM b3 b4 T2 TK2 b2
  go_upto_region 9 with (first | (go_at_call 9; refine (FW.out _).mono ?_; rintro e q ⟨rfl, hq⟩; rw [hq]; clear hq q) | (go_at_call 8; refine DR.out.mono ?_; rintro e w5 ⟨tv, rv, ev, qv, rfl, R5, b5⟩; replace R5 := hide R5; replace b5 := hide b5; obtain ⟨ta, tn, tc, ra, rn, rc, ea, en, ec, qa, qn, qc, e1, e2, e3, e4⟩ := rq_forms R5.out; subst e1; subst e2; subst e3; subst e4))
  have bb := box_below w5 (.cells #[.int .i64 N, .slice ta tn tc, .slice ra rn rc, .slice ea en ec, .slice qa qn qc] 33)
  have QB := hide (heap_alloc_new w5 (.cells #[.int .i64 N, .slice ta tn tc, .slice ra rn rc, .slice ea en ec, .slice qa qn qc] 33))
  have R6 := hide (R5.out.below bb)
  have B6 := hide (keepF (keepF B4.out b5.out) bb)
  have T6 := hide ((T4.out.below b5.out).below bb)
  clear DR R5 b5 bb B4 T4
  generalize w5.alloc (.cells #[.int .i64 N, .slice ta tn tc, .slice ra rn rc, .slice ea en ec, .slice qa qn qc] 33) = w6 at *
  generalize w5.heap.size = qb at *
  go_wp2_with fail
  go_loopw [12] (fun s wr => ∃ n : Nat, s = .int .i64 (n : Int) ∧ n ≤ 2 ∧ Hid (Below w6.heap.size w6 wr)) (fun s wr => 2 - (intOf s).toNat)
  case atStart => exact ⟨0, rfl, by omega, Below.refl _ _⟩
  case round =>
  obtain ⟨n, rfl, hn2, hst⟩ := hrel
  by_cases hlt : n < 2
  · have i1 : (n : Int) < 2 := by omega
    obtain ⟨WA, hWA⟩ : ∃ WA, WA = wr := ⟨_, rfl⟩
    subst hWA
    have TKA := hide (T6.out.below hst.out).tks
    rw [hhn.out] at TKA
    have PR := hide (prog_run WA (HTB.out.below (keepF B6.out hst.out)) _ _ us' ts TKA.out picks (Below.row (keepF B6.out hst.out) HP.out) HP1.out room FM)
    rw [hFE.out, hOU.out, hN.out] at PR
    go_upto_region 13 with (first | (go_at_call 9; refine (FW.out _).mono ?_; rintro e q ⟨rfl, hq⟩; rw [hq]; clear hq q) | (go_at_call 10; refine PR.out.mono ?_; rintro e w7 ⟨tv, rv, ev, qv, vs, rfl, R7, S7, b7⟩; replace R7 := hide R7; replace S7 := hide S7; replace b7 := hide b7; obtain ⟨ta', tn', tc', ra', rn', rc', ea', en', ec', qa', qn', qc', e1, e2, e3, e4⟩ := rq_forms R7.out; subst e1; subst e2; subst e3; subst e4))
    have bb := box_below w7 (.cells #[.int .i64 N, .slice ta' tn' tc', .slice ra' rn' rc', .slice ea' en' ec', .slice qa' qn' qc'] 33)
    have XB := heap_alloc_new w7 (.cells #[.int .i64 N, .slice ta' tn' tc', .slice ra' rn' rc', .slice ea' en' ec', .slice qa' qn' qc'] 33)
    have R8 := hide (R7.out.below bb)
    have RQ8 := hide (R6.out.below (keepF (keepF hst.out b7.out) bb))
    have QB8 := ((keepF (keepF hst.out b7.out) bb).block _ (heap_lt QB.out)).trans QB.out
    have S8 := hide (S7.out.below bb)
    have B8 := hide (keepF b7.out bb)
    have XL : Hid (WA.heap.size ≤ w7.heap.size ∧ (Value.slice ta' tn' tc').ownBlock ≠ some w7.heap.size ∧ ∀ (j : Nat) (x : Value), vs[j]? = some x → x.ownBlock ≠ some w7.heap.size) := ⟨b7.out.size, (fun e => by have := S7.out.l.1 _ e; omega), (fun j x hj e => by have := S7.out.l.2 j x hj _ e; omega)⟩
    clear bb S7 R7 b7 PR TKA
    generalize w7.alloc (.cells #[.int .i64 N, .slice ta' tn' tc', .slice ra' rn' rc', .slice ea' en' ec', .slice qa' qn' qc'] 33) = w8 at *
    generalize w7.heap.size = xb at *
    have O8 : Hid (Ov WA w8 xb N (.slice ta' tn' tc') (.slice ra' rn' rc') (.slice ea' en' ec') (.slice qa' qn' qc') vs) := ⟨S8.out, B8.out, XB, XL.out⟩
    have EQ := hide (eq_any w8 N _ _ _ _ _ _ _ _ OU.T OU.G OU.E OU.L R8.out RQ8.out)
    obtain ⟨x0, x1, x2, x3, x4⟩ := five_of XB
    obtain ⟨y0, y1, y2, y3, y4⟩ := five_of QB8
    have hfe : (FE != FE) = false := by simp
    clear XB QB8 R8 RQ8 S8 B8 XL
    go_upto_region 15 with (go_at_call 11; refine EQ.out.mono ?_; rintro e w9 ⟨rfl, b9⟩; replace b9 := hide b9)
    have O9 := hide (O8.out.below b9.out)
    clear O8 EQ b9 x0 x1 x2 x3 x4 y0 y1 y2 y3 y4
    go_wp2_with fail
    go_loopw [15] (fun s wq => ∃ i : Nat, s = .int .i64 (i : Int) ∧ i ≤ tn' ∧ Hid (Ov WA wq xb N (.slice ta' tn' tc') (.slice ra' rn' rc') (.slice ea' en' ec') (.slice qa' qn' qc') vs)) (fun s wq => tn' - (intOf s).toNat)
    case atStart => exact ⟨0, rfl, Nat.zero_le _, O9.out⟩
    case round =>
      obtain ⟨i, rfl, hin, hov⟩ := hrel
      obtain ⟨-, x1, -, -, -⟩ := five_of hov.out.bx
      by_cases hi : i < tn'
      · have j1 : (i : Int) < (tn' : Int) := by omega
        obtain ⟨a, m, c, e, h1, h2, h3⟩ := hov.out.sh.t
        simp only [Value.slice.injEq] at e
        obtain ⟨rfl, rfl, rfl⟩ := e
        obtain ⟨g, cs, T, rfl, g1, g2, g3⟩ := h3 (by omega)
        have j2 : (tn' : Int) ≤ (tc' : Int) := by omega
        obtain ⟨v0, k0⟩ := cell_ex (o := i * 2) g1 (by omega)
        obtain ⟨v1, k1⟩ := cell_ex (o := i * 2 + 1) g1 (by omega)
        have f0 : wr.frozen? ⟨g, i * 2, none⟩ = false := frz_of g1
        have f1 : wr.frozen? ⟨g, i * 2 + 1, none⟩ = false := frz_of g1
        have nq : (Value.slice qa' qn' qc').ownBlock ≠ some g := fun e => (hov.out.sh.d g e).1 rfl
        have nx : g ≠ xb := fun e => hov.out.xl.2.1 (by rw [← e]; rfl)
        have OS := hide ((hov.out.set (o := i * 2) (x := .int .i64 (-1)) nq nx g3).set (o := i * 2 + 1) (x := .int .i64 0) nq nx g3)
        have j6 : (tc' : Int) ≤ 9223372036854775807 := by omega
        clear hov h3 g1 g2 g3 nq nx h1 h2
        go_wp2_with fail
        go_roundw
        case rel => exact ⟨i + 1, by go_num, hi, OS.out⟩
        case measure => simp only [intOf]; omega
      obtain rfl : i = tn' := by omega
      have j1 : ¬ (i : Int) < (i : Int) := by omega
      go_upto_region 19 with fail
      clear x1
      go_wp2_with fail
      go_loopw [16] (fun s wq => ∃ k : Nat, s = .int .i64 (k : Int) ∧ k ≤ qn' ∧ Hid (Ov WA wq xb N (.slice ta' i tc') (.slice ra' rn' rc') (.slice ea' en' ec') (.slice qa' qn' qc') vs)) (fun s wq => qn' - (intOf s).toNat)
      case atStart => exact ⟨0, rfl, Nat.zero_le _, hov.out⟩
      case round =>
        obtain ⟨k, rfl, hkn, hov2⟩ := hrel
        obtain ⟨-, -, -, -, x4⟩ := five_of hov2.out.bx
        by_cases hk : k < qn'
        · have j2 : (k : Int) < (qn' : Int) := by omega
          obtain ⟨WB, hWB⟩ : ∃ WB, WB = wr := ⟨_, rfl⟩
          subst hWB
          have hql : vs.length = qn' := by
            obtain ⟨aq, cq, e, -⟩ := hov2.out.sh.q
            simp only [Value.slice.injEq] at e
            omega
          obtain ⟨x, hx⟩ : ∃ x, vs[k]? = some x := ⟨_, List.getElem?_eq_getElem (by rw [hql]; exact hk)⟩
          obtain ⟨va, vn, vc, e, -, -, -⟩ := hov2.out.sh.v k x hx
          subst e
          have HX := hide hx
          have j7 : (qn' : Int) ≤ 9223372036854775807 := by
            obtain ⟨aq, cq, e, -, hq1, hq2, -⟩ := hov2.out.sh.q
            unfold maxLen at hq2
            omega
          go_upto_region 22 with fail
          clear hx x4
          go_wp2_with fail
          go_loopw [17] (fun s wq => ∃ m : Nat, s = .int .i64 (m : Int) ∧ m ≤ vn ∧ Hid (Ov WA wq xb N (.slice ta' i tc') (.slice ra' rn' rc') (.slice ea' en' ec') (.slice qa' qn' qc') vs)) (fun s wq => vn - (intOf s).toNat)
          case atStart => exact ⟨0, rfl, Nat.zero_le _, hov2.out⟩
          case round =>
            obtain ⟨m, rfl, hmn, hov3⟩ := hrel
            obtain ⟨-, -, -, -, x4⟩ := five_of hov3.out.bx
            obtain ⟨hcp, hrow⟩ := row_at (n := qn') (cap := qc') (ao := qa') hov3.out.sh.q hql
            obtain ⟨qg, qo, e, c0⟩ := hrow k _ HX.out
            subst e
            have j3 : (qn' : Int) ≤ (qc' : Int) := by omega
            by_cases hm : m < vn
            · have j4 : (m : Int) < (vn : Int) := by omega
              obtain ⟨a, p, c, e, h1, h2, h3⟩ := hov3.out.sh.v k _ HX.out
              simp only [Value.slice.injEq] at e
              obtain ⟨rfl, rfl, rfl⟩ := e
              obtain ⟨g, cs, T, rfl, g1, g2, g3⟩ := h3 (by omega)
              have j5 : (vn : Int) ≤ (vc : Int) := by omega
              obtain ⟨v0, k0⟩ := cell_ex (o := m) g1 (by omega)
              have f0 : wr.frozen? ⟨g, m, none⟩ = false := frz_of g1
              have nq : (Value.slice (some ⟨qg, qo, none⟩) qn' qc').ownBlock ≠ some g := fun e => (hov3.out.sh.d g e).2 k _ HX.out rfl
              have nx : g ≠ xb := fun e => hov3.out.xl.2.2 k _ HX.out (by rw [← e]; rfl)
              have OS := hide (hov3.out.set (o := m) (x := .int .i64 (-5)) nq nx g3)
              have j6 : (vc : Int) ≤ 9223372036854775807 := by omega
              clear hov3 h3 g1 g2 g3 nq nx h1 h2 hrow hcp
              go_wp2_with fail
              go_roundw
              case rel => exact ⟨m + 1, by go_num, hm, OS.out⟩
              case measure => simp only [intOf]; omega
            obtain rfl : m = vn := by omega
            have j4 : ¬ (m : Int) < (m : Int) := by omega
            go_wp2_with fail
            go_roundw
            case rel => exact ⟨k + 1, by go_num, hk, hov3.out⟩
            case measure => simp only [intOf]; omega
        obtain rfl : k = qn' := by omega
        have j2 : ¬ (k : Int) < (k : Int) := by omega
        have BL := hide (keepF hst.out hov2.out.lw)
        go_wp2_with fail
        go_roundw
        case rel => exact ⟨n + 1, by go_num, by omega, BL.out⟩
        case measure => simp only [intOf]; omega
  · obtain rfl : n = 2 := by omega
    have i1 : ¬ (2 : Int) < 2 := by omega
    have TKA := hide (T6.out.below hst.out).tks
    rw [hhn.out] at TKA
    have BW := hide (keepF B6.out hst.out)
    have PD := hide (prog_ready wr (HTB.out.below BW.out) _ _ us' ts TKA.out picks (Below.row BW.out HP.out) HP1.out room)
    obtain ⟨RE, hRE⟩ : ∃ RE, Hid (refE ts room picks 0 = RE) := ⟨_, rfl⟩
    obtain ⟨RO, hRO⟩ : ∃ RO, Hid (ns (rdO ts room picks) = RO) := ⟨_, rfl⟩
    rw [hRE.out, hRO.out] at PD
    go_upto_region 27 with (go_at_call 12; refine PD.out.mono ?_; rintro e w7 ⟨lv, rfl, n7, b7⟩; replace n7 := hide n7; replace b7 := hide b7)
    have B7 := hide (keepF BW.out b7.out)
    have DD := hide (doc_ready w7 _ _ us ts (HTK.out.below B7.out) picks (Below.row B7.out HP.out) HP1.out room)
    rw [hRE.out, hRO.out] at DD
    obtain ⟨la, lc, e, hlc, hla⟩ := n7.out.form
    subst e
    clear PD TKA
    go_upto_region 28 with (go_at_call 13; refine DD.out.mono ?_; rintro e w8 ⟨mv, rfl, n8, b8⟩; replace n8 := hide n8; replace b8 := hide b8)
    have B8 := hide (keepF B7.out b8.out)
    have T8 := hide (((T6.out.below hst.out).below b7.out).below b8.out)
    obtain ⟨ma, mc, e, hmc, hma⟩ := n8.out.form
    subst e
    have n7' := hide (n7.out.below b8.out)
    obtain ⟨LN, hLN⟩ : ∃ LN, Hid (RO.length = LN) := ⟨_, rfl⟩
    have hre : (RE != RE) = false := by simp
    have hln : ((LN : Int) != (LN : Int)) = false := by simp
    rw [hLN.out] at hlc hmc ⊢
    have ll1 : (LN : Int) ≤ (lc : Int) := by omega
    have ll2 : (LN : Int) ≤ (mc : Int) := by omega
    have ll3 : (lc : Int) ≤ 9223372036854775807 := by have := nms_cap n7.out; omega
    clear DD hla hma
    go_wp2_with fail
    go_loopw [21] (fun s wq => ∃ i : Nat, s = .int .i64 (i : Int) ∧ i ≤ LN ∧ Hid (Below w8.heap.size w8 wq)) (fun s wq => LN - (intOf s).toNat)
    case atStart => exact ⟨0, rfl, Nat.zero_le _, Below.refl _ _⟩
    case round =>
      obtain ⟨i, rfl, hiL, hb⟩ := hrel
      by_cases hi : i < LN
      · have j1 : (i : Int) < (LN : Int) := by omega
        obtain ⟨x, hx⟩ : ∃ x, RO[i]? = some x := ⟨_, List.getElem?_eq_getElem (by rw [hLN.out]; exact hi)⟩
        obtain ⟨ao1, ca1, e1, -, r1⟩ := (n7'.out.below hb.out).form
        obtain ⟨ao2, ca2, e2, -, r2⟩ := (n8.out.below hb.out).form
        simp only [Value.slice.injEq] at e1 e2
        obtain ⟨rfl, -, rfl⟩ := e1
        obtain ⟨rfl, -, rfl⟩ := e2
        obtain ⟨g1, rfl, c1⟩ := r1 i x hx
        obtain ⟨g2, rfl, c2⟩ := r2 i x hx
        have hxx : (x != x) = false := by simp
        clear r1 r2 hx
        go_upto_region 33 with fail
        go_quiet (fail)
        go_wp2_with fail
        go_roundw
        case rel => exact ⟨i + 1, by go_num, hi, belowN hb.out⟩
        case measure => simp only [intOf]; omega
      obtain rfl : i = LN := by omega
      have j1 : ¬ (i : Int) < (i : Int) := by omega
      have KE := hide (kept_any w1 wr ts _ us' (T8.out.below hb.out) _ us (HTK.out.below (keepF B8.out hb.out)) N40.out HR.out)
      have BB := hide (keepF B8.out hb.out)
      rw [hhn.out] at KE
      go_wp2_with (go_at_call 14; refine KE.out.mono ?_; rintro e w9 ⟨rfl, b9⟩; replace b9 := hide b9)
      go_ret
      exact ⟨rfl, keepF BB.out b9.out⟩
end Go.Proofs.YtiiinpmkidobgaaDoor.Sd

/-
  An argument [][]api.Act opened, with how long each list may be.
-/
namespace Go.Proofs.YtiiinpmkidobgaaDoor.Sd
open Go.ChangeShapes Go.WideShapes Go.ChangeAt Go.RowKit Go.Deep
set_option linter.unusedVariables false
set_option linter.unusedSimpArgs false
set_option maxRecDepth 100000
theorem weightsA_mem {H : Type} {e : TypeId} : ∀ {elems : List (DataW H)} {i : Nat} (h : i < elems.length), ∀ n ∈ (elems[i]).weights Tryd.prog e, n ∈ DataW.weightsAll Tryd.prog e elems
  | d :: ds, 0, _, n, hn => by
    simp only [DataW.weightsAll, List.mem_append]
    exact Or.inl hn
  | d :: ds, i + 1, h, n, hn => by
    simp only [DataW.weightsAll, List.mem_append]
    exact Or.inr (weightsA_mem (elems := ds) (i := i) (by simpa using h) n (by simpa using hn))
theorem bytesAct : Tryd.prog.bytesOf 45 = 32 := by kernel_rfl
theorem open_acts2 {H : Type} {enc : TypeId × Value → H} {w : World} {base : Nat} {spare : Nat → Bool} {held : Bool} {fuel : Nat} {v : Value} {x : DataW H × List MemPlace}
    (h : DataW.trod enc Tryd.prog w base spare held fuel 46 [v] = some x) (hw : ∀ n ∈ x.1.weights Tryd.prog 46, n ≤ reachBytes) : ∃ l : List Ac, ActsAt w v l ∧ l.length ≤ 4398046510976 := by
  rcases open_slice Tryd.underlying46 h with ⟨hcs, hx⟩ | ⟨a, len, cap, m, n, D, Pl, hcs, hb, hl, hm, hmm, hx, hel⟩
  · simp at hcs
    subst hcs hx
    exact ⟨[], ⟨none, 0, rfl, by simp, fun i a hi => by simp at hi⟩, by simp⟩
  · simp at hcs
    subst hcs hx
    have hlm : len ≤ m := by split at hmm <;> omega
    have each : ∀ i, ∃ o : Ac, i < m → ∃ b off, a = ⟨b, off, none⟩ ∧ AcAt w b (off + i * 4) o := by
      intro i
      by_cases hi : i < m
      · obtain ⟨cs', h1, h2⟩ := hel i hi
        obtain ⟨o, rfl⟩ := open_act h2
        rw [cellsAct] at h1
        obtain ⟨b, off, sp⟩ := a
        have hsp : sp = none := by
          obtain ⟨cs0, g1, g2⟩ := hel 0 (by omega)
          obtain ⟨_, rfl⟩ := open_act g2
          rw [cellsAct] at g1
          have g3 := (World.cells?_some g1).2.2 0 (by omega)
          simp [Addr.add] at g3
          exact World.cell?_spot g3
        subst hsp
        have hcell := (World.cells?_some h1).2.2
        rw [addr_add] at hcell
        have k0 := hcell 0 (by omega)
        have k1 := hcell 1 (by omega)
        have k2 := hcell 2 (by omega)
        have k3 := hcell 3 (by omega)
        rw [addr_add] at k0 k1 k2 k3
        exact ⟨o, fun _ => ⟨b, off, rfl, by simpa using k0, by simpa using k1, by simpa using k2, by simpa using k3⟩⟩
      · exact ⟨⟨0, 0, 0, 0⟩, fun h => absurd h hi⟩
    obtain ⟨O, hO⟩ : ∃ O : Nat → Ac, ∀ i, i < m → ∃ b off, a = ⟨b, off, none⟩ ∧ AcAt w b (off + i * 4) (O i) := ⟨fun i => Classical.choose (each i), fun i => Classical.choose_spec (each i)⟩
    have hlen : len ≤ 4398046510976 := by
      have h4 := hw _ (by simp only [DataW.weights, Tryd.underlying46]; exact List.mem_cons_self ..)
      rw [bytesAct] at h4
      simp only [reachBytes, List.length_map, List.length_range] at h4
      omega
    refine ⟨(List.range len).map O, ⟨some a, cap, by simp, by simpa using hl, fun i o hi => ?_⟩, by simpa using hlen⟩
    have hil : i < len := by have := (List.getElem?_eq_some_iff.1 hi).1; simpa using this
    obtain ⟨b, off, rfl, q⟩ := hO i (by omega)
    rw [List.getElem?_map, List.getElem?_range hil] at hi
    cases hi
    exact ⟨b, off, rfl, q⟩
theorem open_actss2 {H : Type} {enc : TypeId × Value → H} {w : World} {base : Nat} {spare : Nat → Bool} {held : Bool} {fuel : Nat} {v : Value} {x : DataW H × List MemPlace}
    (h : DataW.trod enc Tryd.prog w base spare held fuel 22 [v] = some x) (hw : ∀ n ∈ x.1.weights Tryd.prog 22, n ≤ reachBytes) : ∃ us ts, TksAt w v us ts ∧ ∀ l ∈ ts, l.length ≤ 4398046510976 := by
  rcases open_slice1 Tryd.underlying22 (by kernel_rfl) h with ⟨hcs, hx⟩ | ⟨a, len, cap, m, n, V, D, Pl, hcs, hb, hl, hm, hmm, hx, hel⟩
  · simp at hcs
    subst hcs hx
    exact ⟨[], [], ⟨Row.nil _, rfl, fun i u l h1 => by simp at h1⟩, fun l h => by simp at h⟩
  · simp at hcs
    subst hcs hx
    have hlm : len ≤ m := by split at hmm <;> omega
    have each : ∀ i, ∃ l, i < m → ActsAt w (V i) l ∧ (i < len → l.length ≤ 4398046510976) := by
      intro i
      by_cases hi : i < m
      · by_cases hil : i < len
        · obtain ⟨l, h1, h2⟩ := open_acts2 (hel i hi).2 (fun n hn => hw n (by
            simp only [DataW.weights, Tryd.underlying22, List.mem_cons, List.mem_append]
            refine Or.inr (Or.inl ?_)
            have hm2 := weightsA_mem (e := 46) (elems := (List.range len).map D) (i := i) (by simpa using hil) n (by simpa using hn)
            exact hm2))
          exact ⟨l, fun _ => ⟨h1, fun _ => h2⟩⟩
        · obtain ⟨l, h1⟩ := open_acts (hel i hi).2
          exact ⟨l, fun _ => ⟨h1, fun c => absurd c hil⟩⟩
      · exact ⟨[], fun h => absurd h hi⟩
    obtain ⟨L, hL⟩ : ∃ L : Nat → List Ac, ∀ i, i < m → ActsAt w (V i) (L i) ∧ (i < len → (L i).length ≤ 4398046510976) := ⟨fun i => Classical.choose (each i), fun i hi => Classical.choose_spec (each i) hi⟩
    refine ⟨(List.range len).map V, (List.range len).map L, ⟨⟨some a, cap, by simp, fun e => by simp at e, by simpa using hl, hm, ?_⟩, by simp, fun i u l h1 h2 => ?_⟩, fun l hl2 => ?_⟩
    · intro i hi
      simp at hi
      have hc := (hel i (by omega)).1
      obtain ⟨b, off, sp⟩ := a
      have hsp : sp = none := by
        have h0 := (hel 0 (by omega)).1
        simpa [Addr.add] using World.cell?_spot h0
      subst hsp
      rw [addr_add] at hc
      exact ⟨b, off, rfl, by rw [hc]; simp⟩
    · have hil : i < len := by have := (List.getElem?_eq_some_iff.1 h1).1; simpa using this
      rw [List.getElem?_map, List.getElem?_range hil] at h1 h2
      cases h1; cases h2
      exact (hL i (by omega)).1
    · obtain ⟨i, hi, rfl⟩ := List.mem_map.1 hl2
      have hil := List.mem_range.1 hi
      exact (hL i (by omega)).2 hil
end Go.Proofs.YtiiinpmkidobgaaDoor.Sd

/-
  What the listed table of sched holds.
-/
namespace Go.Proofs.YtiiinpmkidobgaaDoor.Sd
open Go.RowKit
set_option maxRecDepth 100000
theorem vars_read {P : Program} {w : World} {n : String} {d : DataW Unit} : ∀ {l : List (String × DataW Unit)} {ps : List MemPlace}, DataW.LaidVars P w l ps → (n, d) ∈ l →
    ∃ g t cs fuel p, P.globalNamed n = some g ∧ (P.globals[g]?).map (·.type) = some t ∧ w.var? P n = some cs ∧ DataW.trod (fun _ => ()) P w 0 (fun _ => true) false fuel t cs.toList = some (d, p) := by
  intro l
  induction l with
  | nil => intro _ _ hm; cases hm
  | cons x r ih =>
    intro ps h hm
    obtain ⟨g, t, cs, fuel, p, q, h1, h2, h3, h4, h5, _⟩ := h
    rcases List.mem_cons.1 hm with e | e
    · subst e; exact ⟨g, t, cs, fuel, p, h1, h2, h3, h4⟩
    · exact ih h5 e
def reachL : List (Int × Int) := [(0, 0), (4, 1), (4, 1), (4, 4), (4, 1), (4, 1), (4, 1), (4, 8), (8, 1), (8, 8), (8, 1), (1, 1), (1, 1), (1, 1)]
theorem laid_list : (Rows.laid_flume_sched_reaches : DataW Unit) = .agg (reachL.map fun x => .agg [.lit (.int .i64 x.1), .lit (.int .i64 x.2)]) := by rfl
theorem reach_fn : ∀ k : Fin 14, 1 ≤ k.val → reachL[k.val]? = some (ra k.val, rb' k.val) := by decide
theorem tb_of {l : List (String × DataW Unit)} {W : World} (h : laidMet Tryd.prog l W) (hm : ("flume/sched.reaches", Rows.laid_flume_sched_reaches) ∈ l) : Tb W := by
  obtain ⟨ps, hv, _⟩ := h
  obtain ⟨g, t, cs, fuel, p, h1, h2, h3, h4⟩ := vars_read hv hm
  obtain rfl := Option.some.inj ((show Tryd.prog.globalNamed "flume/sched.reaches" = some 0 by kernel_rfl).symm.trans h1)
  obtain rfl := Option.some.inj ((show (Tryd.prog.globals[0]?).map (·.type) = some 75 by kernel_rfl).symm.trans h2)
  obtain ⟨xs, m, _, ex, _, hl, hel⟩ := DataW.trod_array Tryd.underlying75 h4
  have c2 : Tryd.prog.cellsOf 74 = 2 := by kernel_rfl
  have c1 : Tryd.prog.cellsOf 3 = 1 := by kernel_rfl
  rw [laid_list] at ex
  have e3 := (DataW.agg.inj (Prod.mk.inj ex).1).symm
  intro k k1 k2
  have hE := hel k (by omega)
  rw [c2, List.getElem?_eq_getElem (by omega)] at hE
  have hr := reach_fn ⟨k, by omega⟩ k1
  simp only at hr
  have e4 : (xs.map (·.1))[k]? = some (.agg [.lit (.int .i64 (ra k)), .lit (.int .i64 (rb' k))]) := by
    rw [e3, List.getElem?_map, hr]; rfl
  rw [List.getElem?_map, List.getElem?_eq_getElem (by omega)] at e4
  simp only [Option.map_some, Option.some.injEq] at e4
  obtain ⟨y0, y1, n, ex2, _, g0, g1⟩ := Go.ChangeShapes.trod_struct2 Tryd.underlying74 hE
  simp only [c1] at g0 g1
  obtain ⟨z0, a1, a2, _⟩ := DataW.trod_int Tryd.underlying3 g0
  obtain ⟨z1, b1, b2, _⟩ := DataW.trod_int Tryd.underlying3 g1
  rw [ex2, a2, b2] at e4
  simp only [DataW.agg.injEq, List.cons.injEq, DataW.lit.injEq, Lit.int.injEq, true_and, and_true] at e4
  obtain ⟨r1, r2⟩ := e4
  refine ⟨?_, ?_⟩
  · rw [World.var?_cell h1 h3 (k * 2), ← r1]
    have h0 : ((((cs.toList.drop (k * 2)).take 2).drop 0).take 1)[0]? = some (.int .i64 z0) := by rw [a1]; rfl
    simpa using h0
  · rw [World.var?_cell h1 h3 (k * 2 + 1), ← r2]
    have h0 : ((((cs.toList.drop (k * 2)).take 2).drop 1).take 1)[0]? = some (.int .i64 z1) := by rw [b1]; rfl
    simpa using h0
end Go.Proofs.YtiiinpmkidobgaaDoor.Sd

