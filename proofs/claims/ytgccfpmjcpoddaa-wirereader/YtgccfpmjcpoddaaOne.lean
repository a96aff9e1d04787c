/-
  A Reader of no bytes beside the document's, call by call (flumelaw1.one): the answers are alike.
-/
import Derived.Test.YtgccfpmjcpoddaaRefRd
import Derived.Test.YtgccfpmjcpoddaaFront
namespace Go.Proofs.Ytgccfpmjcpoddaa
open Go.RowKit

/-- Of what was there only blocks a and b may have turned. -/
structure Two (a b : Nat) (w w' : World) : Prop where
  os : w'.os = w.os
  tape : w'.tape = w.tape
  output : w'.output = w.output
  size : w.heap.size ≤ w'.heap.size
  block : ∀ k, k < w.heap.size → k ≠ a → k ≠ b → w'.heap[k]? = w.heap[k]?
theorem Two.refl (a b : Nat) (w : World) : Two a b w w := ⟨rfl, rfl, rfl, Nat.le_refl _, fun _ _ _ _ => rfl⟩
theorem Two.trans {a b : Nat} {u v w : World} (h : Two a b u v) (g : Two a b v w) : Two a b u w :=
  ⟨g.os.trans h.os, g.tape.trans h.tape, g.output.trans h.output, Nat.le_trans h.size g.size, fun k hk h1 h2 => (g.block k (Nat.lt_of_lt_of_le hk h.size) h1 h2).trans (h.block k hk h1 h2)⟩
theorem Two.left {a b : Nat} {w w' : World} (h : w.grownBy w' (some a)) : Two a b w w' := ⟨h.os, h.tape, h.output, h.size, fun k hk h1 _ => h.block k hk (by simpa using h1)⟩
theorem Two.right {a b : Nat} {w w' : World} (h : w.grownBy w' (some b)) : Two a b w w' := ⟨h.os, h.tape, h.output, h.size, fun k hk _ h2 => h.block k hk (by simpa using h2)⟩
theorem Two.of_below {a b : Nat} {w w' : World} (h : Below w.heap.size w w') : Two a b w w' := ⟨h.os, h.tape, h.output, h.size, fun k hk _ _ => h.block k hk⟩
theorem Two.below {a b : Nat} {w0 w w' : World} (hb : Below w0.heap.size w0 w) (h : Two a b w w') (ha : w0.heap.size ≤ a) (hb2 : w0.heap.size ≤ b) : Below w0.heap.size w0 w' :=
  hb.trans ⟨h.os, h.tape, h.output, h.size, fun k hk => h.block k (by have := hb.size; omega) (by omega) (by omega)⟩
theorem Two.cell {a b : Nat} {w w' : World} (h : Two a b w w') {p : Addr} {v : Value} (hc : w.cell? p = some v) (h1 : p.block ≠ a) (h2 : p.block ≠ b) : w'.cell? p = some v := by
  rw [World.cell?_of_block (w := w) (h.block p.block (lt_of_cell hc) h1 h2)]; exact hc

theorem RefAt.kept {w w' : World} {qb rb : Nat} {m : List UInt8} {l : List UInt8} {k k' : Nat} {er er' : Int} (h : RefAt w qb l k er) (hr : RdrAt w rb m k' er') (hne : qb ≠ rb) (hg : w.grownBy w' (some rb)) : RefAt w' qb l k er := by
  obtain ⟨v, hq, hs, r⟩ := h
  exact ⟨v, by rw [hg.block qb (heap_lt hq) (by simpa using hne)]; exact hq, hs.kept (fun j c hc => hr.noByte hc) hg, r⟩
theorem RdrAt.kept {w w' : World} {qb rb : Nat} {m : List UInt8} {l : List UInt8} {k k' : Nat} {er er' : Int} (h : RdrAt w rb l k er) (hq : RefAt w qb m k' er') (hne : rb ≠ qb) (hg : w.grownBy w' (some qb)) : RdrAt w' rb l k er := by
  obtain ⟨v, hr, ho, r⟩ := h
  refine ⟨v, by rw [hg.block rb (heap_lt hr) (by simpa using hne)]; exact hr, ho.kept hg ?_, r⟩
  right
  intro e
  obtain ⟨h1, h2⟩ := ho
  obtain ⟨v', hq', _⟩ := hq
  rcases h2 with ⟨rfl, _⟩ | ⟨g, cap, cur, rfl, _, hh, _⟩
  · simp [Value.ownBlock] at e
  · simp [Value.ownBlock] at e
    subst e
    rw [hq'] at hh
    simp at hh
theorem rdr_ne_ref {w : World} {rb qb : Nat} {l m : List UInt8} {k k' : Nat} {er er' : Int} (h : RdrAt w rb l k er) (hq : RefAt w qb m k' er') : rb ≠ qb := by
  rintro rfl
  obtain ⟨v, hr, _⟩ := h
  obtain ⟨v', hq', _⟩ := hq
  rw [hr] at hq'
  simp at hq'

theorem vr_none (most : Int) : vr [] 0 most = (0, 0, 2) := by simp [vr, rv, rvF]
theorem rs_none (most : Int) : (rs [] most).2.2 ≠ 0 := by
  unfold rs
  by_cases hm : most < 0
  · rw [if_pos hm]; simp
  · rw [if_neg hm]; simp [rv, rvF]

/-- The error of a reader of no bytes behind a reading of a number. -/
def e2 (er : Int) : Int := if er = 0 then 2 else er
def e3 (er sz : Int) : Int := if er = 0 then (rs [] sz).2.2 else er
theorem Varint_none (w : World) (rb : Nat) (er : Int) (ms : Int) (hm : 0 ≤ ms ∧ ms < 18446744073709551616) (hr : RdrAt w rb [] 0 er) :
    Calls Try.prog 36 #[.pointer (some ⟨rb, 0, none⟩), .int .u64 ms] w fun e w' => e = .returned (.int .u64 0) ∧ RdrAt w' rb [] 0 (e2 er) ∧ w.grownBy w' (some rb) := by
  by_cases h0 : er = 0
  · subst h0
    exact Varint_bad w rb [] 0 0 2 ms hr (fun u hu => (varint_bad u rb [] 0 ms hu hm (by rw [vr_none]; simp)).mono fun e w' h => by rw [vr_none] at h; exact h)
  · have he : (er != 0) = true := by simpa using h0
    rw [show e2 er = er by simp [e2, h0]]
    exact Varint_bad w rb [] 0 er er ms hr (fun u hu => (varint_no u rb [] 0 er ms hu he).mono fun e w' h => ⟨h.1, by rw [h.2]; exact Qt.refl _⟩)
theorem Signed_none (w : World) (rb : Nat) (er : Int) (hr : RdrAt w rb [] 0 er) :
    Calls Try.prog 42 #[.pointer (some ⟨rb, 0, none⟩)] w fun e w' => e = .returned (.int .i64 0) ∧ RdrAt w' rb [] 0 (e2 er) ∧ w.grownBy w' (some rb) := by
  by_cases h0 : er = 0
  · subst h0
    exact Signed_bad w rb [] 0 0 2 hr (fun u hu => (varint_bad u rb [] 0 18446744073709551615 hu (by omega) (by rw [vr_none]; simp)).mono fun e w' h => by rw [vr_none] at h; exact h)
  · have he : (er != 0) = true := by simpa using h0
    rw [show e2 er = er by simp [e2, h0]]
    exact Signed_bad w rb [] 0 er er hr (fun u hu => (varint_no u rb [] 0 er 18446744073709551615 hu he).mono fun e w' h => ⟨h.1, by rw [h.2]; exact Qt.refl _⟩)
theorem Fixed32_none (w : World) (rb : Nat) (er : Int) (hr : RdrAt w rb [] 0 er) :
    Calls Try.prog 37 #[.pointer (some ⟨rb, 0, none⟩)] w fun e w' => e = .returned (.int .u32 0) ∧ RdrAt w' rb [] 0 (e2 er) ∧ w.grownBy w' (some rb) := by
  by_cases h0 : er = 0
  · subst h0
    exact Fixed32_bad w rb [] 0 0 2 hr (fun u hu => take_short u rb [] 0 4 hu (by decide))
  · have he : (er != 0) = true := by simpa using h0
    rw [show e2 er = er by simp [e2, h0]]
    exact Fixed32_bad w rb [] 0 er er hr (fun u hu => (take_no u rb [] 0 er 4 hu he).mono fun e w' h => ⟨h.1, by rw [h.2]; exact Qt.refl _⟩)
theorem Fixed64_none (w : World) (rb : Nat) (er : Int) (hr : RdrAt w rb [] 0 er) :
    Calls Try.prog 45 #[.pointer (some ⟨rb, 0, none⟩)] w fun e w' => e = .returned (.int .u64 0) ∧ RdrAt w' rb [] 0 (e2 er) ∧ w.grownBy w' (some rb) := by
  by_cases h0 : er = 0
  · subst h0
    exact Fixed64_bad w rb [] 0 0 2 hr (fun u hu => take_short u rb [] 0 8 hu (by decide))
  · have he : (er != 0) = true := by simpa using h0
    rw [show e2 er = er by simp [e2, h0]]
    exact Fixed64_bad w rb [] 0 er er hr (fun u hu => (take_no u rb [] 0 er 8 hu he).mono fun e w' h => ⟨h.1, by rw [h.2]; exact Qt.refl _⟩)
theorem Byte_none (w : World) (rb : Nat) (er : Int) (hr : RdrAt w rb [] 0 er) :
    Calls Try.prog 48 #[.pointer (some ⟨rb, 0, none⟩)] w fun e w' => e = .returned (.int .u8 0) ∧ RdrAt w' rb [] 0 (e2 er) ∧ w.grownBy w' (some rb) := by
  by_cases h0 : er = 0
  · subst h0
    exact Byte_bad w rb [] 0 0 2 hr (fun u hu => take_short u rb [] 0 1 hu (by decide))
  · have he : (er != 0) = true := by simpa using h0
    rw [show e2 er = er by simp [e2, h0]]
    exact Byte_bad w rb [] 0 er er hr (fun u hu => (take_no u rb [] 0 er 1 hu he).mono fun e w' h => ⟨h.1, by rw [h.2]; exact Qt.refl _⟩)
theorem String_none (w : World) (rb : Nat) (er sz : Int) (h0 : -9223372036854775808 ≤ sz) (h1 : sz ≤ 9223372036854775807) (hr : RdrAt w rb [] 0 er) :
    Calls Try.prog 46 #[.pointer (some ⟨rb, 0, none⟩), .int .i64 sz] w fun e w' => e = .returned (.slice none 0 0) ∧ RdrAt w' rb [] 0 (e3 er sz) ∧ w.grownBy w' (some rb) := by
  by_cases h : er = 0
  · subst h
    exact String_bad w rb [] 0 sz hr h0 h1 (rs_none sz)
  · rw [show e3 er sz = er by simp [e3, h]]
    exact String_no w rb [] 0 er sz hr (by simpa using h)
theorem qVarint_none (w : World) (qb : Nat) (er ms : Int) (hm : 0 ≤ ms ∧ ms < 18446744073709551616) (hq : RefAt w qb [] 0 er) :
    Calls Try.prog 41 #[.pointer (some ⟨qb, 0, none⟩), .int .u64 ms] w fun e w' => e = .returned (.int .u64 0) ∧ RefAt w' qb [] 0 (e2 er) ∧ w.grownBy w' (some qb) := by
  by_cases h : er = 0
  · subst h
    refine (qVarint_go w qb [] 0 ms hq hm).mono ?_
    rw [vr_none]
    exact fun e w' h => h
  · rw [show e2 er = er by simp [e2, h]]
    refine (qVarint_no w qb [] 0 er ms hq (by simpa using h)).mono ?_
    rintro e w' ⟨h1, rfl⟩
    exact ⟨h1, hq, Qt.grown (Qt.refl _) _⟩
theorem qSigned_none (w : World) (qb : Nat) (er : Int) (hq : RefAt w qb [] 0 er) :
    Calls Try.prog 43 #[.pointer (some ⟨qb, 0, none⟩)] w fun e w' => e = .returned (.int .i64 0) ∧ RefAt w' qb [] 0 (e2 er) ∧ w.grownBy w' (some qb) := by
  by_cases h : er = 0
  · subst h
    refine (qSigned_go w qb [] 0 hq).mono ?_
    rw [vr_none]
    exact fun e w' h => h
  · rw [show e2 er = er by simp [e2, h]]
    refine (qSigned_no w qb [] 0 er hq (by simpa using h)).mono ?_
    rintro e w' ⟨h1, rfl⟩
    exact ⟨h1, hq, Qt.grown (Qt.refl _) _⟩
theorem qFixed_none (w : World) (qb : Nat) (er n : Int) (hn : 0 < n) (hq : RefAt w qb [] 0 er) :
    Calls Try.prog 44 #[.pointer (some ⟨qb, 0, none⟩), .int .i64 n] w fun e w' => e = .returned (.int .u64 0) ∧ RefAt w' qb [] 0 (e2 er) ∧ w.grownBy w' (some qb) := by
  by_cases h : er = 0
  · subst h
    exact qFixed_short w qb [] 0 n hq (by simpa using hn)
  · rw [show e2 er = er by simp [e2, h]]
    refine (qFixed_no w qb [] 0 er n hq (by simpa using h)).mono ?_
    rintro e w' ⟨h1, rfl⟩
    exact ⟨h1, hq, Qt.grown (Qt.refl _) _⟩
theorem qString_none (w : World) (qb : Nat) (er sz : Int) (h0 : -9223372036854775808 ≤ sz) (h1 : sz ≤ 9223372036854775807) (hq : RefAt w qb [] 0 er) :
    Calls Try.prog 47 #[.pointer (some ⟨qb, 0, none⟩), .int .i64 sz] w fun e w' => ∃ v', e = .returned v' ∧ Sl w' v' [] ∧ RefAt w' qb [] 0 (e3 er sz) ∧ w.grownBy w' (some qb) := by
  by_cases h : er = 0
  · subst h
    refine (qString_go w qb [] 0 sz hq h0 h1).mono ?_
    have hb := rs_bad (rs_none sz)
    rintro e w' ⟨v', h1, h2, h3, h4⟩
    rw [List.drop_nil] at h2 h3
    rw [hb] at h2 h3
    exact ⟨v', h1, h2, h3, h4⟩
  · rw [show e3 er sz = er by simp [e3, h]]
    refine (qString_no w qb [] 0 er sz hq (by simpa using h)).mono ?_
    rintro e w' ⟨h1, rfl⟩
    exact ⟨_, h1, Sl.nil _, hq, Qt.grown (Qt.refl _) _⟩
theorem room_zero (w : World) : Calls Try.prog 49 #[.int .i64 0, .int .i64 0] w fun e w' => e = .returned (.int .i64 0) ∧ w' = w := by
  go_enter Try.func49, Try.ntmps49
  go_wp2
  go_ret
  exact ⟨rfl, rfl⟩
set_option maxHeartbeats 400000 in
theorem keep_nil (w : World) (kp : Value) (b : Nat) (hc : w.cell? ⟨b, 0, none⟩ = some (.slice none 0 0)) :
    Calls Try.prog 35 #[kp, .slice (some ⟨b, 0, none⟩) 1 1] w fun e w' => e = .returned (.tuple #[]) ∧ Qt w w' := by
  go_enter Try.func35, Try.ntmps35
  go_wp2
  go_loopw [4] (fun i wr => ∃ k : Nat, k ≤ 1 ∧ i = .int .i64 k ∧ Qt w wr) (fun i _ => 1 - (intOf i).toNat)
  case atStart => exact ⟨0, Nat.zero_le _, rfl, Qt.refl _⟩
  case round =>
    obtain ⟨k, hk, rfl, hq⟩ := hrel
    by_cases hlt : k < 1
    · obtain rfl : k = 0 := by omega
      have hcr : wr.cell? ⟨b, 0, none⟩ = some (.slice none 0 0) := by rw [hq.cell]; exact hc
      go_wp2
      go_quiet ((go_at_call 49; exact Calls.quiet_of_same (room_zero _)))
      go_wp2
      go_roundw
      case rel => exact ⟨1, by omega, by go_num, hq.drewN _⟩
      case measure => simp [intOf]
    · obtain rfl : k = 1 := by omega
      go_wp2
      go_end0
      exact ⟨rfl, hq⟩
end Go.Proofs.Ytgccfpmjcpoddaa
