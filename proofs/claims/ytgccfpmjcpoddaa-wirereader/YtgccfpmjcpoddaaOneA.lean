/-
  What flumelaw1.one answers of a reader over any bytes and the document's reader over the same: true; both stand alike behind it.
-/
import Derived.Test.YtgccfpmjcpoddaaOne
import Derived.Test.YtgccfpmjcpoddaaNewL
import Derived.Deep.RegionHeld3
namespace Go.Proofs.Ytgccfpmjcpoddaa
open Go.RowKit

def vS (l : List UInt8) (k : Nat) (er ms : Int) : Nat × Nat × Int := if er = 0 then ((vr l k ms).1, k + (vr l k ms).2.1, (vr l k ms).2.2) else (0, k, er)
def fS (l : List UInt8) (k : Nat) (er : Int) (n : Nat) : Nat × Nat × Int := if er = 0 then (if k + n ≤ l.length then (num ((l.drop k).take n), k + n, 0) else (0, k, 2)) else (0, k, er)
def sS (l : List UInt8) (k : Nat) (er sz : Int) : List UInt8 × Nat × Int := if er = 0 then ((rs (l.drop k) sz).1, k + (rs (l.drop k) sz).2.1, (rs (l.drop k) sz).2.2) else ([], k, er)

theorem vr_zero {l : List UInt8} {k : Nat} {ms : Int} (h : (vr l k ms).2.2 ≠ 0) : (vr l k ms).1 = 0 ∧ (vr l k ms).2.1 = 0 := by
  unfold vr at *
  split at h
  · rename_i hx; rw [if_pos hx]; exact ⟨rfl, rfl⟩
  · rename_i hx
    rw [if_neg hx]
    split at h
    · rename_i hy; rw [if_pos hy]; exact ⟨rfl, rfl⟩
    · exact absurd h (by simpa using hx)

theorem Varint_all (w : World) (rb : Nat) (l : List UInt8) (k : Nat) (er ms : Int) (h : RdrAt w rb l k er) (hm : 0 ≤ ms ∧ ms < 18446744073709551616) :
    Calls Try.prog 36 #[.pointer (some ⟨rb, 0, none⟩), .int .u64 ms] w fun e w' => e = .returned (.int .u64 ((vS l k er ms).1 : Int)) ∧ RdrAt w' rb l (vS l k er ms).2.1 (vS l k er ms).2.2 ∧ w.grownBy w' (some rb) := by
  by_cases h0 : er = 0
  · subst h0
    rw [vS, if_pos rfl]
    by_cases hv : (vr l k ms).2.2 = 0
    · rw [hv]; exact Varint_good w rb l k ms h hm hv
    · obtain ⟨z1, z2⟩ := vr_zero hv
      rw [z1, z2]
      exact Varint_bad w rb l k 0 (vr l k ms).2.2 ms h (fun u hu => varint_bad u rb l k ms hu hm hv)
  · rw [vS, if_neg h0]
    exact Varint_bad w rb l k er er ms h (fun u hu => (varint_no u rb l k er ms hu (by simpa using h0)).mono fun e w' h => ⟨h.1, by rw [h.2]; exact Qt.refl _⟩)
theorem Signed_all (w : World) (rb : Nat) (l : List UInt8) (k : Nat) (er : Int) (h : RdrAt w rb l k er) :
    Calls Try.prog 42 #[.pointer (some ⟨rb, 0, none⟩)] w fun e w' => e = .returned (.int .i64 (zag ((vS l k er 18446744073709551615).1 : Int))) ∧ RdrAt w' rb l (vS l k er 18446744073709551615).2.1 (vS l k er 18446744073709551615).2.2 ∧ w.grownBy w' (some rb) := by
  by_cases h0 : er = 0
  · subst h0
    rw [vS, if_pos rfl]
    by_cases hv : (vr l k 18446744073709551615).2.2 = 0
    · rw [hv]; exact Signed_good w rb l k h hv
    · obtain ⟨z1, z2⟩ := vr_zero hv
      rw [z1, z2]
      exact Signed_bad w rb l k 0 (vr l k 18446744073709551615).2.2 h (fun u hu => varint_bad u rb l k 18446744073709551615 hu (by omega) hv)
  · rw [vS, if_neg h0]
    have hz : zag ((((0 : Nat), k, er) : Nat × Nat × Int).1 : Int) = 0 := by show zag 0 = 0; decide
    rw [hz]
    exact Signed_bad w rb l k er er h (fun u hu => (varint_no u rb l k er 18446744073709551615 hu (by simpa using h0)).mono fun e w' h => ⟨h.1, by rw [h.2]; exact Qt.refl _⟩)
theorem Fixed32_all (w : World) (rb : Nat) (l : List UInt8) (k : Nat) (er : Int) (h : RdrAt w rb l k er) :
    Calls Try.prog 37 #[.pointer (some ⟨rb, 0, none⟩)] w fun e w' => e = .returned (.int .u32 ((fS l k er 4).1 : Int)) ∧ RdrAt w' rb l (fS l k er 4).2.1 (fS l k er 4).2.2 ∧ w.grownBy w' (some rb) := by
  by_cases h0 : er = 0
  · subst h0
    rw [fS, if_pos rfl]
    by_cases hk : k + 4 ≤ l.length
    · rw [if_pos hk]; exact Fixed32_good w rb l k h hk
    · rw [if_neg hk]; exact Fixed32_bad w rb l k 0 2 h (fun u hu => take_short u rb l k 4 hu (by omega))
  · rw [fS, if_neg h0]
    exact Fixed32_bad w rb l k er er h (fun u hu => (take_no u rb l k er 4 hu (by simpa using h0)).mono fun e w' h => ⟨h.1, by rw [h.2]; exact Qt.refl _⟩)
theorem Fixed64_all (w : World) (rb : Nat) (l : List UInt8) (k : Nat) (er : Int) (h : RdrAt w rb l k er) :
    Calls Try.prog 45 #[.pointer (some ⟨rb, 0, none⟩)] w fun e w' => e = .returned (.int .u64 ((fS l k er 8).1 : Int)) ∧ RdrAt w' rb l (fS l k er 8).2.1 (fS l k er 8).2.2 ∧ w.grownBy w' (some rb) := by
  by_cases h0 : er = 0
  · subst h0
    rw [fS, if_pos rfl]
    by_cases hk : k + 8 ≤ l.length
    · rw [if_pos hk]; exact Fixed64_good w rb l k h hk
    · rw [if_neg hk]; exact Fixed64_bad w rb l k 0 2 h (fun u hu => take_short u rb l k 8 hu (by omega))
  · rw [fS, if_neg h0]
    exact Fixed64_bad w rb l k er er h (fun u hu => (take_no u rb l k er 8 hu (by simpa using h0)).mono fun e w' h => ⟨h.1, by rw [h.2]; exact Qt.refl _⟩)
theorem num_one (l : List UInt8) (k : Nat) (h : k < l.length) : num ((l.drop k).take 1) = l[k].toNat := by
  rw [List.drop_eq_getElem_cons h]
  show num [l[k]] = l[k].toNat
  generalize l[k] = c
  simp [num]
theorem Byte_all (w : World) (rb : Nat) (l : List UInt8) (k : Nat) (er : Int) (h : RdrAt w rb l k er) :
    Calls Try.prog 48 #[.pointer (some ⟨rb, 0, none⟩)] w fun e w' => e = .returned (.int .u8 ((fS l k er 1).1 : Int)) ∧ RdrAt w' rb l (fS l k er 1).2.1 (fS l k er 1).2.2 ∧ w.grownBy w' (some rb) := by
  by_cases h0 : er = 0
  · subst h0
    rw [fS, if_pos rfl]
    by_cases hk : k + 1 ≤ l.length
    · rw [if_pos hk, num_one l k hk]; exact Byte_good w rb l k h hk
    · rw [if_neg hk]; exact Byte_bad w rb l k 0 2 h (fun u hu => take_short u rb l k 1 hu (by omega))
  · rw [fS, if_neg h0]
    exact Byte_bad w rb l k er er h (fun u hu => (take_no u rb l k er 1 hu (by simpa using h0)).mono fun e w' h => ⟨h.1, by rw [h.2]; exact Qt.refl _⟩)
theorem rs_len2 (l : List UInt8) (most : Int) : (rs l most).1.length ≤ l.length := by
  unfold rs
  split
  · simp
  · split
    · simp
    · split
      · simp
      · split
        · simp
        · simp; omega
theorem RdrAt.len {w : World} {rb : Nat} {l : List UInt8} {k : Nat} {er : Int} (h : RdrAt w rb l k er) : l.length ≤ 140737488355328 := by
  obtain ⟨v, _, _, _, hl⟩ := h; exact hl
theorem String_all (w : World) (rb : Nat) (l : List UInt8) (k : Nat) (er sz : Int) (h : RdrAt w rb l k er) (h0 : -9223372036854775808 ≤ sz) (h1 : sz ≤ 9223372036854775807) :
    Calls Try.prog 46 #[.pointer (some ⟨rb, 0, none⟩), .int .i64 sz] w fun e w' => ∃ t, e = .returned (.slice (sAo t) (sN t) (sC t)) ∧ Sl w' (.slice (sAo t) (sN t) (sC t)) (sS l k er sz).1 ∧ (∀ t', t = some t' → Own8 w' w.heap.size t') ∧ RdrAt w' rb l (sS l k er sz).2.1 (sS l k er sz).2.2 ∧ w.grownBy w' (some rb) := by
  by_cases he : er = 0
  · subst he
    rw [sS, if_pos rfl]
    by_cases hv : (rs (l.drop k) sz).2.2 = 0
    · rw [hv]
      refine (String_good w rb l k sz h h0 h1 hv).mono ?_
      rintro e w' ⟨v, rfl, ho, hr, hg⟩
      obtain ⟨t, ht, hn⟩ := own_slv ho (by have := rs_len2 (l.drop k) sz; have := h.len; simp at *; omega)
      have hs := Sl.of_owns ho
      rw [ht, slv_slx] at hs
      rw [ht, slv_slx]
      exact ⟨t, rfl, hs, hn, hr, hg⟩
    · have hb := rs_bad hv
      have z1 : (rs (l.drop k) sz).1 = [] := by rw [hb]
      have z2 : (rs (l.drop k) sz).2.1 = 0 := by rw [hb]
      rw [z1, z2]
      refine (String_bad w rb l k sz h h0 h1 hv).mono ?_
      rintro e w' ⟨rfl, hr, hg⟩
      exact ⟨none, rfl, Sl.nil _, fun t' e => by simp at e, hr, hg⟩
  · rw [sS, if_neg he]
    refine (String_no w rb l k er sz h (by simpa using he)).mono ?_
    rintro e w' ⟨rfl, hr, hg⟩
    exact ⟨none, rfl, Sl.nil _, fun t' e => by simp at e, hr, hg⟩

theorem qVarint_all (w : World) (qb : Nat) (l : List UInt8) (k : Nat) (er ms : Int) (h : RefAt w qb l k er) (hm : 0 ≤ ms ∧ ms < 18446744073709551616) :
    Calls Try.prog 41 #[.pointer (some ⟨qb, 0, none⟩), .int .u64 ms] w fun e w' => e = .returned (.int .u64 ((vS l k er ms).1 : Int)) ∧ RefAt w' qb l (vS l k er ms).2.1 (vS l k er ms).2.2 ∧ w.grownBy w' (some qb) := by
  by_cases h0 : er = 0
  · subst h0
    rw [vS, if_pos rfl]
    exact qVarint_go w qb l k ms h hm
  · rw [vS, if_neg h0]
    refine (qVarint_no w qb l k er ms h (by simpa using h0)).mono ?_
    rintro e _ ⟨rfl, rfl⟩
    exact ⟨rfl, h, Qt.grown (Qt.refl _) _⟩
theorem qSigned_all (w : World) (qb : Nat) (l : List UInt8) (k : Nat) (er : Int) (h : RefAt w qb l k er) :
    Calls Try.prog 43 #[.pointer (some ⟨qb, 0, none⟩)] w fun e w' => e = .returned (.int .i64 (zag ((vS l k er 18446744073709551615).1 : Int))) ∧ RefAt w' qb l (vS l k er 18446744073709551615).2.1 (vS l k er 18446744073709551615).2.2 ∧ w.grownBy w' (some qb) := by
  by_cases h0 : er = 0
  · subst h0
    rw [vS, if_pos rfl]
    exact qSigned_go w qb l k h
  · rw [vS, if_neg h0]
    have hz : zag ((((0 : Nat), k, er) : Nat × Nat × Int).1 : Int) = 0 := by show zag 0 = 0; decide
    rw [hz]
    refine (qSigned_no w qb l k er h (by simpa using h0)).mono ?_
    rintro e _ ⟨rfl, rfl⟩
    exact ⟨rfl, h, Qt.grown (Qt.refl _) _⟩
theorem qFixed_all (w : World) (qb : Nat) (l : List UInt8) (k : Nat) (er : Int) (n : Nat) (h : RefAt w qb l k er) (hn0 : 0 < n) (hn8 : n ≤ 8) :
    Calls Try.prog 44 #[.pointer (some ⟨qb, 0, none⟩), .int .i64 (n : Int)] w fun e w' => e = .returned (.int .u64 ((fS l k er n).1 : Int)) ∧ RefAt w' qb l (fS l k er n).2.1 (fS l k er n).2.2 ∧ w.grownBy w' (some qb) := by
  by_cases h0 : er = 0
  · subst h0
    rw [fS, if_pos rfl]
    by_cases hk : k + n ≤ l.length
    · rw [if_pos hk]; exact qFixed_go w qb l k n h hk hn0 hn8
    · rw [if_neg hk]; exact qFixed_short w qb l k n h (by omega)
  · rw [fS, if_neg h0]
    refine (qFixed_no w qb l k er n h (by simpa using h0)).mono ?_
    rintro e _ ⟨rfl, rfl⟩
    exact ⟨rfl, h, Qt.grown (Qt.refl _) _⟩
theorem qString_all (w : World) (qb : Nat) (l : List UInt8) (k : Nat) (er sz : Int) (h : RefAt w qb l k er) (h0 : -9223372036854775808 ≤ sz) (h1 : sz ≤ 9223372036854775807) :
    Calls Try.prog 47 #[.pointer (some ⟨qb, 0, none⟩), .int .i64 sz] w fun e w' => ∃ v', e = .returned v' ∧ Sl w' v' (sS l k er sz).1 ∧ RefAt w' qb l (sS l k er sz).2.1 (sS l k er sz).2.2 ∧ w.grownBy w' (some qb) := by
  by_cases he : er = 0
  · subst he
    rw [sS, if_pos rfl]
    exact qString_go w qb l k sz h h0 h1
  · rw [sS, if_neg he]
    refine (qString_no w qb l k er sz h (by simpa using he)).mono ?_
    rintro e _ ⟨rfl, rfl⟩
    exact ⟨_, rfl, Sl.nil _, h, Qt.grown (Qt.refl _) _⟩

/-- Lists are kept, each in a block of its own. -/
def KeptSt (w : World) (kb : Nat) : Prop := ∃ its size, Kept w kb kb its size ∧ Items w kb its
theorem KeptSt.below {w w' : World} {kb : Nat} (h : KeptSt w kb) (hb : Below w.heap.size w w') : KeptSt w' kb := by
  obtain ⟨its, size, hk, hi⟩ := h
  exact ⟨its, size, hk.below hb, fun t ht => (hi.1 t ht).below hb, hi.2⟩
theorem KeptSt.grown {w w' : World} {kb rb T : Nat} {cs : Array Value} {fr : Nat × Nat} (h : KeptSt w kb) (hx : w.heap[rb]? = some (.cells cs T fr)) (hT : T ≠ 5 ∧ T ≠ 28 ∧ T ≠ 53) (hg : w.grownBy w' (some rb)) : KeptSt w' kb := by
  obtain ⟨its, size, ⟨vl, h1, h2, h3⟩, hi⟩ := h
  have hne : kb ≠ rb := by rintro rfl; rw [h1] at hx; simp at hx; exact hT.2.2 hx.2.1.symm
  refine ⟨its, size, ⟨vl, by rw [hg.block kb (heap_lt h1) (by simpa using hne)]; exact h1, h2.kept hg (.inr ?_), h3⟩, fun t ht => ?_, hi.2⟩
  · intro e
    obtain ⟨_, p⟩ := h2
    rcases p with ⟨rfl, _⟩ | ⟨g, cap, cur, rfl, _, hh, _⟩
    · simp [Value.ownBlock] at e
    · simp [Value.ownBlock] at e
      subst e
      rw [hx] at hh; simp at hh; exact hT.2.1 hh.2.1
  · obtain ⟨cur, k1, k2⟩ := hi.1 t ht
    have hn : t.1 ≠ rb := by rintro e; rw [e, hx] at k1; simp at k1; exact hT.1 k1.2.1
    exact ⟨cur, by rw [hg.block t.1 (heap_lt k1) (by simpa using hn)]; exact k1, k2⟩
theorem KeptSt.rdr {w w' : World} {kb rb : Nat} {l : List UInt8} {k : Nat} {er : Int} (h : KeptSt w kb) (hr : RdrAt w rb l k er) (hg : w.grownBy w' (some rb)) : KeptSt w' kb := by
  obtain ⟨v, hx, _⟩ := hr
  exact h.grown hx (by decide) hg
theorem KeptSt.ref {w w' : World} {kb qb : Nat} {l : List UInt8} {k : Nat} {er : Int} (h : KeptSt w kb) (hr : RefAt w qb l k er) (hg : w.grownBy w' (some qb)) : KeptSt w' kb := by
  obtain ⟨v, hx, _⟩ := hr
  exact h.grown hx (by decide) hg
theorem Two.belowB {a b B : Nat} {w w' : World} (h : Two a b w w') (ha : B ≤ a) (hb : B ≤ b) (hs : B ≤ w.heap.size) : Below B w w' :=
  ⟨h.os, h.tape, h.output, h.size, fun k hk => h.block k (by omega) (by omega) (by omega)⟩
#print axioms String_all
end Go.Proofs.Ytgccfpmjcpoddaa
