/-
  Bytes: the program's.
-/
import Derived.Test.YtoffahbnffhliaaIxF
import Derived.Test.YtoffahbnffhliaaCrcG
import Derived.Test.YtoffahbnffhliaaForms
namespace Go.Proofs.Ytoffahbnffhliaa.Ix
open Go.RowKit

/-- append(s, x...), s the call's own bytes l, x a slice of bytes m: what else has turned. -/
theorem wpList_append_bytesG {P : Program} {w : World} {ops : Array Oper} {rest : List Oper} {o : Oper} {a : Act} {Q : Exit → Act → World → Prop} (hgd : o.guard = none) (s x : Operand) (t : TypeId)
    (ho : o.op = .call { callee := .builtin .append, args := #[s, x], argTypes := #[t, t] })
    (base : Nat) (e : TypeId) (hinf : (P.info? e).map (fun i => (i.zero, i.size, i.bytes)) = some (some (.int .u8 0), 1, 1)) (ht : P.underlying t = some (.slice e))
    (v vx : Value) (l m : List UInt8) (hs : a.eval s = v) (hown : w.ownsRow base e 1 v l.length (bvals l)) (hx : a.eval x = vx) (hsl : Sl w vx m)
    (hbytes : l.length + m.length ≤ 140737488355328) (hbase : base ≤ w.heap.size)
    (h : ∀ v' w', w'.ownsRow base e 1 v' (l ++ m).length (bvals (l ++ m)) → w.grownBy w' v.ownBlock → wpList P ops Q rest (a.put o.dst v') w') : wpList P ops Q (o :: rest) a w := by
  obtain ⟨i0, hi, hz0, hz1, hz2⟩ := info_parts hinf
  obtain ⟨ao, cap, rfl, h2, h3, h4, h5⟩ := hsl
  cases ao with
  | none =>
    obtain ⟨rfl, rfl⟩ := h2 rfl
    refine wpList_append_own_none hgd s x t ho base e i0 1 ht hi v l.length (bvals l) hs hown hx ?_
    exact h v w (by simpa using hown) ⟨rfl, rfl, rfl, Nat.le_refl _, fun _ _ _ => rfl⟩
  | some ad =>
    have hcells : ∀ j u, (bvals m)[j]? = some u → w.cell? (ad.add j) = some u := by
      intro j u hu
      have hj : j < m.length := by
        have := (List.getElem?_eq_some_iff.1 hu).1
        simpa [bvals] using this
      obtain ⟨b, off, e1, hc⟩ := h5 j hj
      simp only [Option.some.injEq] at e1
      subst e1
      rw [bvals_get hj] at hu
      simp only [Option.some.injEq] at hu
      subst hu
      rw [addr_add]; exact hc
    refine wpList_append_own w hgd s x t ho base e i0 (.int .u8 0) 1 1 ht hi hz0 hz1 hz2 rfl (by decide) v l.length (bvals l) hs hown ad m.length cap (bvals m) hx (by simp [bvals]) hcells ?_ (by unfold maxLen; omega) (by omega) hbase ?_
    · intro u hu
      simp only [bvals, List.mem_map] at hu
      obtain ⟨c, _, rfl⟩ := hu
      rfl
    · intro v' w' ho' hg _
      refine h v' w' ?_ hg
      rw [List.length_append, bvals_append]
      exact ho'
theorem Ents.rd {w : World} {ao : Option Addr} {n ca : Nat} {l : List (Int × Int)} (h : Ents w (.slice ao n ca) l) : ∀ i (hi : i < l.length), ∃ g, ao = some ⟨g, 0, none⟩ ∧ w.cell? ⟨g, i * 2, none⟩ = some (.int .i64 l[i].1) ∧ w.cell? ⟨g, i * 2 + 1, none⟩ = some (.int .i64 l[i].2) := fun i hi => by
  obtain ⟨g, ca', e, hc, _⟩ := h.at (fun c => by rw [c] at hi; simp at hi)
  simp only [Value.slice.injEq] at e
  exact ⟨g, e.1, hc i hi⟩
/-- The bytes l as a list of the call's own, from block B on. -/
def Bs (B : Nat) (w : World) (v : Value) (l : List UInt8) : Prop := w.ownsRow B 5 1 v l.length (bvals l)
theorem Bs.no {B : Nat} {w : World} {v : Value} {l : List UInt8} (h : Bs B w v l) {b : Nat} {cs : Array Value} {T : TypeId} {fz : Nat × Nat} (hb : w.heap[b]? = some (.cells cs T fz)) (hT : T ≠ 5) : v.ownBlock ≠ some b := fun e1 => by
  rcases h.2 with ⟨rfl, _⟩ | ⟨g, cap, cur, rfl, hg, hh, r⟩
  · simp [Value.ownBlock] at e1
  · simp [Value.ownBlock] at e1
    subst e1
    rw [hb] at hh
    simp at hh
    exact hT hh.2.1
theorem Bs.low {B B' : Nat} {w : World} {v : Value} {l : List UInt8} (h : Bs B w v l) (hb : B' ≤ B) : Bs B' w v l := owns_lower h hb
theorem Bs.below {B : Nat} {w w' : World} {v : Value} {l : List UInt8} (h : Bs B w v l) (hb : Below w.heap.size w w') : Bs B w' v l := ownsRow_below h hb
theorem Bs.form {B : Nat} {w : World} {v : Value} {l : List UInt8} (h : Bs B w v l) : ∃ ao ca, v = .slice ao l.length ca := by
  rcases h.2 with ⟨rfl, e⟩ | ⟨g, cap, cur, rfl, _⟩
  · exact ⟨_, _, by rw [e]⟩
  · exact ⟨_, _, rfl⟩
/-- What Bytes owes. -/
def DoesBytes (T : TypeId) (f : Nat) : Prop := ∀ (w : World) (b : Nat) (x : X) (v : Value), At T w b x v → Ok x →
  Calls Try.prog f #[.pointer (some ⟨b, 0, none⟩)] w fun e w' => ∃ v', e = .returned v' ∧ Bs w.heap.size w' v' (bytesF x) ∧ Below w.heap.size w w'
/-- How far the writing has come. -/
structure Wr (w : World) (x : X) (vb : Value) (ab i : Nat) (wr : World) (p1 p2 : Int) (out : List UInt8) : Prop where
  bs : Bs w.heap.size wr vb out
  ah : wr.heap[ab]? = some (.cells #[.int .i64 p1, .int .i64 p2] 35 (0, 0))
  bel : Below w.heap.size w wr
  at0 : w.heap.size ≤ ab
  so : out ++ body (p1, p2) (x.l.drop i) = front x
  pos : (p1, p2) = lastE (x.l.take i)
theorem Wr.room {w : World} {x : X} {vb : Value} {ab i : Nat} {wr : World} {p1 p2 : Int} {out : List UInt8} (h : Wr w x vb ab i wr p1 p2 out) (hk : Ok x) : out.length + 40 ≤ 140737488355328 := by
  have a := congrArg List.length h.so
  have b := front_len x
  have c := hk.srt.len
  rw [List.length_append] at a
  omega
/-- What one more entry is, against the one ahead. -/
theorem diff_ok {x : X} (hk : Ok x) {i : Nat} (hi : i < x.l.length) {p1 p2 : Int} (hp : (p1, p2) = lastE (x.l.take i)) : 1 ≤ x.l[i].1 - p1 ∧ x.l[i].1 - p1 ≤ 9223372036854775807 ∧ 0 ≤ x.l[i].2 - p2 ∧ x.l[i].2 - p2 ≤ 2147483647 ∧ 0 ≤ p1 ∧ 0 ≤ p2 := by
  have hr := hk.srt.rng _ (List.getElem_mem hi)
  match i with
  | 0 =>
    simp [lastE_nil] at hp
    obtain ⟨rfl, rfl⟩ := hp
    exact ⟨by omega, by omega, by omega, by omega, by omega, by omega⟩
  | i + 1 =>
    have e : lastE (x.l.take (i + 1)) = x.l[i] := by
      rw [lastE, List.getLast?_eq_getElem?]
      have : (x.l.take (i + 1)).length - 1 = i := by simp; omega
      rw [this, List.getElem?_take_of_lt (by omega), List.getElem?_eq_getElem (by omega)]
      rfl
    rw [e] at hp
    have hr2 := hk.srt.rng _ (List.getElem_mem (show i < x.l.length by omega))
    have hd := hk.srt.lt (show i < x.l.length by omega) hi (by omega)
    have hs := hk.srt.s0
    rw [← hp] at hr2 hd
    simp only at hr2 hd
    exact ⟨by omega, by omega, by omega, by omega, by omega, by omega⟩
theorem lastE_take {l : List (Int × Int)} {i : Nat} (hi : i < l.length) : lastE (l.take (i + 1)) = l[i] := by
  rw [lastE, List.getLast?_eq_getElem?]
  have : (l.take (i + 1)).length - 1 = i := by simp; omega
  rw [this, List.getElem?_take_of_lt (by omega), List.getElem?_eq_getElem hi]
  rfl
/-- The entry ahead and the entry at hand, in their blocks. -/
def Two (w : World) (ab eb : Nat) (p1 p2 e1 e2 : Int) : Prop := w.heap[ab]? = some (.cells #[.int .i64 p1, .int .i64 p2] 35 (0, 0)) ∧ w.heap[eb]? = some (.cells #[.int .i64 e1, .int .i64 e2] 35 (0, 0))
theorem Two.below {w w' : World} {ab eb : Nat} {p1 p2 e1 e2 : Int} (h : Two w ab eb p1 p2 e1 e2) (hb : Below w.heap.size w w') : Two w' ab eb p1 p2 e1 e2 :=
  ⟨by rw [hb.block ab (heap_lt h.1)]; exact h.1, by rw [hb.block eb (heap_lt h.2)]; exact h.2⟩
theorem Two.grown {B : Nat} {w w' : World} {v : Value} {l : List UInt8} {ab eb : Nat} {p1 p2 e1 e2 : Int} (h : Two w ab eb p1 p2 e1 e2) (hv : Bs B w v l) (hg : w.grownBy w' v.ownBlock) : Two w' ab eb p1 p2 e1 e2 :=
  ⟨by rw [hg.block ab (heap_lt h.1) (fun e => hv.no h.1 (by decide) e.symm)]; exact h.1, by rw [hg.block eb (heap_lt h.2) (fun e => hv.no h.2 (by decide) e.symm)]; exact h.2⟩
theorem Two.cells {w : World} {ab eb : Nat} {p1 p2 e1 e2 : Int} (h : Two w ab eb p1 p2 e1 e2) : (w.cell? ⟨ab, 0, none⟩ = some (.int .i64 p1) ∧ w.cell? ⟨ab, 1, none⟩ = some (.int .i64 p2) ∧ w.cell? ⟨eb, 0, none⟩ = some (.int .i64 e1) ∧ w.cell? ⟨eb, 1, none⟩ = some (.int .i64 e2)) ∧ w.frozen? ⟨ab, 0, none⟩ = false ∧ w.frozen? ⟨ab, 1, none⟩ = false := by
  obtain ⟨a1, a2, a3, a4⟩ := two_cells h.1
  obtain ⟨b1, b2, b3, b4⟩ := two_cells h.2
  exact ⟨⟨a1, a2, b1, b2⟩, a3, a4⟩
set_option maxHeartbeats 4000000 in
theorem bytes_any : DoesBytes TI 18 := by
  intro w b x v h hk
  obtain ⟨c0, c1, _, _⟩ := h.cells
  have HK := hide hk
  have H := hide h
  have hlen := hk.srt.len
  have s0 := hk.srt.s0
  have s1 := hk.srt.s1
  have hs0 : ¬ ((x.st : Int) = 0) := by omega
  have hb0 : ((x.st : Int) == 0) = false := by simpa using hs0
  have hbl : b < w.heap.size := h.lt b (.inl rfl)
  obtain ⟨ao, ca, rfl, q1, q2⟩ := h.row.form
  have HC := hide h.row.rd
  have hFL := hide (front_len x)
  obtain ⟨N, hN⟩ : ∃ N, Hid (x.l.length = N) := ⟨_, rfl⟩
  rw [hN.out] at c1 hlen q2
  obtain ⟨st, hst⟩ : ∃ st, Hid (x.st = st) := ⟨_, rfl⟩
  rw [hst.out] at c0 s0 s1 hs0 hb0
  clear h hk
  go_enter Try.func18, Try.ntmps18
  go_wp2_with fail
  refine (varint_any _ (st : Int) (by omega) (by omega)).mono ?_
  rintro e w1 ⟨v1, rfl, o1, b1⟩
  rw [Int.toNat_natCast] at o1
  replace o1 : Hid (Bs w.heap.size w1 v1 (enc st)) := o1
  have c1' : w1.cell? ⟨b, 1, none⟩ = some (.slice ao N ca) := by rw [b1.cell (p := ⟨b, 1, none⟩) hbl]; exact c1
  have c0' : w1.cell? ⟨b, 0, none⟩ = some (.int .i64 (st : Int)) := by rw [b1.cell (p := ⟨b, 0, none⟩) hbl]; exact c0
  replace b1 := hide b1
  obtain ⟨ao1, ca1, rfl⟩ := o1.out.form
  clear c0 c1
  go_wp2_with fail
  refine (varint_any _ (N : Int) (by omega) (by omega)).mono ?_
  rintro e w2 ⟨v2, rfl, o2, b2⟩
  rw [Int.toNat_natCast] at o2
  have s2 := hide (Sl.of_owns o2)
  have o12 := hide (o1.out.below b2)
  have c1 : w2.cell? ⟨b, 1, none⟩ = some (.slice ao N ca) := by rw [b2.cell (lt_of_cell c1')]; exact c1'
  have b12 := hide (keepF b1.out b2)
  have hsz2 := b12.out.size
  have hl1 := enc_len st
  have hl2 := enc_len N
  clear o2 b2 o1 c1' c0' b1
  obtain ⟨O, hO⟩ : ∃ O, Hid (enc st ++ enc N = O) := ⟨_, rfl⟩
  go_wp2_with (at_builtin; refine wpList_append_bytesG rfl (.tmp 24) (.tmp 31) 43 rfl w.heap.size 5 Try.infoU8 Try.underlying43 (.slice ao1 (enc st).length ca1) v2 (enc st) (enc N) rfl o12.out rfl s2.out (by omega) hsz2 ?_; intro v3 w3 o3 g3; rw [hO.out] at o3; obtain ⟨ao3, ca3, rfl⟩ := Bs.form (B := w.heap.size) o3; have c3 := g3.cell c1 (fun e => (Bs.no (B := w.heap.size) o12.out (H.out.below b12.out).box (by decide)) e.symm); have hb3 := lt_of_cell c3; replace o3 := hide o3; replace g3 := hide g3)
  have B3 : Hid (Below w.heap.size w w3) := Below.grown b12.out g3.out hsz2 (fun k hk => (World.ownsRow.lt o12.out k hk).1)
  have W0 : Hid (Wr w x (.slice ao3 O.length ca3) w3.heap.size 0 (w3.alloc (.cells #[.int .i64 0, .int .i64 0] 35)) 0 0 O) :=
    ⟨Bs.below (B := w.heap.size) o3.out (box_below _ _), heap_alloc_new _ _, keepF B3.out (box_below _ _), B3.out.size, by rw [front, hst.out, hN.out, ← hO.out]; simp, by simp [lastE_nil]⟩
  generalize hq : w3.heap.size = ab at *
  generalize hq4 : w3.alloc (.cells #[.int .i64 0, .int .i64 0] 35) = w4 at *
  clear hq hq4 c3 o3 g3 B3 c1 s2 o12 b12 hO hl1 hl2
  go_loopw [3, 38] (fun vb vi wr => ∃ (i : Nat) (p1 p2 : Int) (out : List UInt8), i ≤ N ∧ vi = .int .i64 (i : Int) ∧ Hid (Wr w x vb ab i wr p1 p2 out)) (fun _ vi _ => N - (intOf vi).toNat)
  case atStart => exact ⟨0, 0, 0, O, Nat.zero_le _, rfl, W0.out⟩
  case round =>
    obtain ⟨i, p1, p2, out, hi, rfl, hW⟩ := hrel
    have hroom := hW.out.room HK.out
    obtain ⟨aov, cav, rfl⟩ := hW.out.bs.form
    by_cases hlt : i < N
    · have hix : i < x.l.length := by rw [hN.out]; exact hlt
      obtain ⟨g, rfl, k0, k1⟩ := HC.out i hix
      have gB := hW.out.bel.cell (lt_of_cell k0)
      have gB1 := hW.out.bel.cell (lt_of_cell k1)
      rw [k0] at gB
      rw [k1] at gB1
      obtain ⟨y1, y2, y3, y4, y5, y6⟩ := diff_ok HK.out hix hW.out.pos
      have hL : Hid (lastE (x.l.take (i + 1)) = x.l[i]) := lastE_take hix
      have hD : Hid (x.l.drop i = x.l[i] :: x.l.drop (i + 1)) := List.drop_eq_getElem_cons hix
      generalize x.l[i] = en at *
      obtain ⟨e1, e2⟩ := en
      simp only at gB gB1 y1 y2 y3 y4
      have hw1 : IntKind.i64.wrap (e1 - p1) = e1 - p1 := by rw [IntKind.wrap_i64]; omega
      have hw2 : IntKind.i64.wrap (e2 - p2) = e2 - p2 := by rw [IntKind.wrap_i64]; omega
      have hw3 : IntKind.u64.wrap (e1 - p1) = e1 - p1 := wrap_u64_in _ (by omega) (by omega)
      have hw4 : IntKind.u64.wrap (e2 - p2) = e2 - p2 := wrap_u64_in _ (by omega) (by omega)
      have T0 : Hid (Two (wr.alloc (.cells #[.int .i64 e1, .int .i64 e2] 35)) ab wr.heap.size p1 p2 e1 e2) := ⟨by rw [Below.heap_alloc _ _ _ (heap_lt hW.out.ah)]; exact hW.out.ah, heap_alloc_new _ _⟩
      obtain ⟨⟨t1, t2, t3, t4⟩, _⟩ := T0.out.cells
      have Q0 : Hid (Bs w.heap.size (wr.alloc (.cells #[.int .i64 e1, .int .i64 e2] 35)) (.slice aov out.length cav) out) := hW.out.bs.below (box_below _ _)
      have B0 : Hid (Below w.heap.size w (wr.alloc (.cells #[.int .i64 e1, .int .i64 e2] 35))) := keepF hW.out.bel (box_below _ _)
      clear k0 k1
      go_wp2_with fail
      refine (varint_any _ (e1 - p1) (by omega) (by omega)).mono ?_
      rintro e w5 ⟨v5, rfl, o5, b5⟩
      have s5 := hide (Sl.of_owns o5)
      have T5 := hide (T0.out.below b5)
      have Q5 := hide (Q0.out.below b5)
      have B5 := hide (keepF B0.out b5)
      have hz5 := B5.out.size
      have hn1 := enc_len (e1 - p1).toNat
      have hn2 := enc_len (e2 - p2).toNat
      clear o5 b5 t1 t2 t3 t4 T0 Q0 B0 gB gB1
      generalize wr.heap.size = eb at *
      obtain ⟨O1, hO1⟩ : ∃ O1, Hid (out ++ enc (e1 - p1).toNat = O1) := ⟨_, rfl⟩
      have hO1l : O1.length ≤ out.length + 10 := by rw [← hO1.out, List.length_append]; omega
      go_wp2_with (at_builtin; refine wpList_append_bytesG rfl (.tmp 42) (.tmp 49) 43 rfl w.heap.size 5 Try.infoU8 Try.underlying43 (.slice aov out.length cav) v5 out (enc (e1 - p1).toNat) rfl Q5.out rfl s5.out (by omega) hz5 ?_; intro v6 w6 o6 g6; rw [hO1.out] at o6; obtain ⟨ao6, ca6, rfl⟩ := Bs.form (B := w.heap.size) o6; have T6 := hide (T5.out.grown Q5.out g6); obtain ⟨⟨t1, t2, t3, t4⟩, _⟩ := T6.out.cells; have B6 := hide (Below.grown B5.out g6 hz5 (fun k hk => (World.ownsRow.lt Q5.out k hk).1)); replace o6 := hide o6; clear g6)
      refine (varint_any _ (e2 - p2) (by omega) (by omega)).mono ?_
      rintro e w7 ⟨v7, rfl, o7, b7⟩
      have s7 := hide (Sl.of_owns o7)
      have T7 := hide (T6.out.below b7)
      have Q7 : Hid (Bs w.heap.size w7 (.slice ao6 O1.length ca6) O1) := Bs.below (B := w.heap.size) o6.out b7
      have B7 := hide (keepF B6.out b7)
      have hz7 := B7.out.size
      clear o7 b7 t1 t2 t3 t4 T6 o6 B6 T5 Q5 B5 hz5 s5
      obtain ⟨O2, hO2⟩ : ∃ O2, Hid (O1 ++ enc (e2 - p2).toNat = O2) := ⟨_, rfl⟩
      go_wp2_with (at_builtin; refine wpList_append_bytesG rfl (.tmp 51) (.tmp 58) 43 rfl w.heap.size 5 Try.infoU8 Try.underlying43 (.slice ao6 O1.length ca6) v7 O1 (enc (e2 - p2).toNat) rfl Q7.out rfl s7.out (by omega) hz7 ?_; intro v8 w8 o8 g8; rw [hO2.out] at o8; obtain ⟨ao8, ca8, rfl⟩ := Bs.form (B := w.heap.size) o8; have T8 := hide (T7.out.grown Q7.out g8); obtain ⟨⟨t1, t2, t3, t4⟩, f1, f2⟩ := T8.out.cells; have B8 := hide (Below.grown B7.out g8 hz7 (fun k hk => (World.ownsRow.lt Q7.out k hk).1)); replace o8 := hide o8; clear g8)
      go_roundw
      case rel =>
        refine ⟨i + 1, e1, e2, O2, by omega, by go_num, ?_⟩
        have hab := hW.out.at0
        refine ⟨?_, ?_, put2_below B8.out hab _ _, hab, ?_, hL.out.symm⟩
        · exact ownsRow_setCell_other (ownsRow_setCell_other o8.out (Bs.no (B := w.heap.size) o8.out T8.out.1 (by decide)) _) (Bs.no (B := w.heap.size) o8.out T8.out.1 (by decide)) _
        · exact put2_heap T8.out.1 _ _
        · have := hW.out.so
          rw [hD.out, body] at this
          rw [← hO2.out, ← hO1.out, ← this]
          simp
      case measure => simp [intOf]; omega
    · obtain rfl : i = N := by omega
      have hfr : Hid (out = front x) := by
        have := hW.out.so
        rw [List.drop_of_length_le (by rw [hN.out]; exact Nat.le_refl _), body, List.append_nil] at this
        exact this
      have Q0 := hide hW.out.bs
      have B0 := hide hW.out.bel
      have sl0 : Hid (Sl wr (.slice aov out.length cav) out) := Sl.of_owns hW.out.bs
      clear hW
      go_wp2_with fail
      refine (Crc.sum_any _ _ out sl0.out).mono ?_
      rintro e w5 ⟨rfl, b5⟩
      have Q5 := hide (Q0.out.below b5)
      have B5 := hide (keepF B0.out b5)
      have hcr := (Crc.more 0#32 out).isLt
      obtain ⟨cr, hcre⟩ : ∃ cr, Hid ((Crc.more 0#32 out).toNat = cr) := ⟨_, rfl⟩
      rw [hcre.out] at hcr ⊢
      clear Q0 B0 b5 sl0
      go_wp2_with fail
      refine (fixed32_any _ (cr : Int) (by omega) (by omega)).mono ?_
      rintro e w7 ⟨v7, rfl, o7, b7⟩
      rw [Int.toNat_natCast] at o7
      have s7 := hide (Sl.of_owns o7)
      have Q7 := hide (Q5.out.below b7)
      have B7 := hide (keepF B5.out b7)
      have hz7 := B7.out.size
      have hn1 := fx_len 4 cr
      clear o7 b7 Q5 B5
      obtain ⟨O2, hO2⟩ : ∃ O2, Hid (out ++ fx 4 cr = O2) := ⟨_, rfl⟩
      go_wp2_with (at_builtin; refine wpList_append_bytesG rfl (.tmp 62) (.tmp 65) 43 rfl w.heap.size 5 Try.infoU8 Try.underlying43 (.slice aov out.length cav) v7 out (fx 4 cr) rfl Q7.out rfl s7.out (by omega) hz7 ?_; intro v8 w8 o8 g8; rw [hO2.out] at o8; obtain ⟨ao8, ca8, rfl⟩ := Bs.form (B := w.heap.size) o8; have B8 := hide (Below.grown B7.out g8 hz7 (fun k hk => (World.ownsRow.lt Q7.out k hk).1)); replace o8 := hide o8; clear g8)
      go_ret
      have hfin : bytesF x = O2 := by rw [bytesF, ← hfr.out, hcre.out, hO2.out]
      rw [hfin]
      exact ⟨_, rfl, o8.out, B8.out⟩
#print axioms bytes_any
end Go.Proofs.Ytoffahbnffhliaa.Ix
