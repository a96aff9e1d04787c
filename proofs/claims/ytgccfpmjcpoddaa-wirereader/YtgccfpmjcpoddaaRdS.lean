/-
  The Reader's method String, NewReader, Err, Left, At.
-/
import Derived.Test.YtgccfpmjcpoddaaRdM
namespace Go.Proofs.Ytgccfpmjcpoddaa
open Go.RowKit

theorem rs_good {l : List UInt8} {most : Int} (h : (rs l most).2.2 = 0) : (rs l most).2.1 ≤ l.length ∧ (rs l most).1.length ≤ l.length := by
  have hb := rv_bounds l
  unfold rs at h ⊢
  by_cases h1 : most < 0
  · rw [if_pos h1] at h; simp at h
  · rw [if_neg h1] at h ⊢
    by_cases h2 : (rv l).2.2 ≠ 0
    · rw [if_pos h2] at h; exact absurd h h2
    · rw [if_neg h2] at h ⊢
      by_cases h3 : most < ((rv l).1 : Int)
      · rw [if_pos h3] at h; simp at h
      · rw [if_neg h3] at h ⊢
        by_cases h4 : l.length - (rv l).2.1 < (rv l).1
        · rw [if_pos h4] at h; simp at h
        · rw [if_neg h4]; simp; omega
theorem rs_err (l : List UInt8) (most : Int) : 0 ≤ (rs l most).2.2 ∧ (rs l most).2.2 ≤ 4 := by
  have hb := rv_bounds l
  unfold rs
  by_cases h1 : most < 0
  · rw [if_pos h1]; simp
  · rw [if_neg h1]
    by_cases h2 : (rv l).2.2 ≠ 0
    · rw [if_pos h2]; simp; omega
    · rw [if_neg h2]
      by_cases h3 : most < ((rv l).1 : Int)
      · rw [if_pos h3]; simp
      · rw [if_neg h3]
        by_cases h4 : l.length - (rv l).2.1 < (rv l).1
        · rw [if_pos h4]; simp
        · rw [if_neg h4]; simp
theorem rs_bad {l : List UInt8} {most : Int} (h : (rs l most).2.2 ≠ 0) : rs l most = ([], 0, (rs l most).2.2) := by
  unfold rs at h ⊢
  by_cases h1 : most < 0
  · simp only [if_pos h1]
  · simp only [if_neg h1] at h ⊢
    by_cases h2 : (rv l).2.2 ≠ 0
    · simp only [if_pos h2]
    · simp only [if_neg h2] at h ⊢
      by_cases h3 : most < ((rv l).1 : Int)
      · simp only [if_pos h3]
      · simp only [if_neg h3] at h ⊢
        by_cases h4 : l.length - (rv l).2.1 < (rv l).1
        · simp only [if_pos h4]
        · simp only [if_neg h4] at h; simp at h

set_option maxHeartbeats 400000 in
theorem String_no (w : World) (rb : Nat) (l : List UInt8) (k : Nat) (er most : Int) (h : RdrAt w rb l k er) (he : (er != 0) = true) :
    Calls Try.prog 46 #[.pointer (some ⟨rb, 0, none⟩), .int .i64 most] w fun e w' => e = .returned (.slice none 0 0) ∧ RdrAt w' rb l k er ∧ w.grownBy w' (some rb) := by
  have hmf : ∀ (fn : Fn) (first cap : Array Value) (w : World), (Instr.makeFunc fn first cap).run Try.prog w = .ok (.func fn first cap) w := fun _ _ _ _ => rfl
  have hlt := h.lt
  go_enter_defers Try.func46, Try.ntmps46
  go_wp2_with fail
  refine (rest_no _ rb l k er (h.below (box_below w _)) he).mono ?_
  rintro e w2 ⟨rfl, rfl⟩
  have hr2 := h.below (box_below w (.cells #[.pointer (some ⟨rb, 0, none⟩)] 46))
  have hg2 := (Qt.refl (w.alloc (.cells #[.pointer (some ⟨rb, 0, none⟩)] 46))).grown (some rb)
  have hbx := box_cell hlt hg2
  go_wp2
  obtain ⟨v, hb, _⟩ := id hr2
  refine leaves_cons (f := 60) (args := #[.pointer (some ⟨w.heap.size, 0, none⟩)]) (by simp) (by simp [go_sem]) ?_
  refine (shut_some_String _ ⟨w.heap.size, 0, none⟩ rb er v k er [] hbx hb).mono ?_
  rintro e u' w'' ⟨rfl, rfl, rfl⟩
  simp [Leaves, settle, results, Try.results46, go_sem]
  exact ⟨hr2.setErr er, grown_trans (box_grown hg2) (grown_drew (grown_setCell _ _ _ _))⟩
set_option maxHeartbeats 400000 in
theorem String_nil (w : World) (most : Int) (h0 : -9223372036854775808 ≤ most) (h1 : most ≤ 9223372036854775807) :
    Calls Try.prog 46 #[.pointer none, .int .i64 most] w fun e w' => e = .returned (.slice none 0 0) ∧ Below w.heap.size w w' := by
  have hmf : ∀ (fn : Fn) (first cap : Array Value) (w : World), (Instr.makeFunc fn first cap).run Try.prog w = .ok (.func fn first cap) w := fun _ _ _ _ => rfl
  have hne : (rs [] most).2.2 ≠ 0 := by
    unfold rs
    by_cases hm : most < 0
    · rw [if_pos hm]; simp
    · rw [if_neg hm]; simp [rv, rvF]
  have g1 : ((rs [] most).2.2 != 0) = true := by simpa using hne
  generalize her : (rs [] most).2.2 = er at *
  have HER : Hid ((rs [] most).2.2 = er) := her
  clear her
  go_enter_defers Try.func46, Try.ntmps46
  go_wp2_with fail
  refine (rest_nil _).mono ?_
  rintro e w2 ⟨rfl, rfl⟩
  go_wp2_with fail
  refine (readString_any _ _ [] most (Sl.nil _) (by simp) h0 h1).mono ?_
  rintro e w2 ⟨v2, rfl, _, hb2⟩
  rw [HER.out]
  have hbx := box_cell_below (hb2.mono (by simp))
  go_wp2_with fail
  refine (check_no _ er g1).mono ?_
  rintro e w2 ⟨rfl, rfl⟩
  go_wp2
  refine leaves_cons (f := 60) (args := #[.pointer (some ⟨w.heap.size, 0, none⟩)]) (by simp) (by simp [go_sem]) ?_
  refine (shut_none_String _ ⟨w.heap.size, 0, none⟩ er [] hbx).mono ?_
  rintro e u' w'' ⟨rfl, rfl, rfl⟩
  simp [Leaves, settle, results, Try.results46, go_sem]
  exact ((box_below w _).trans (hb2.mono (by simp))).drew
set_option maxHeartbeats 400000 in
theorem String_bad (w : World) (rb : Nat) (l : List UInt8) (k : Nat) (most : Int) (h : RdrAt w rb l k 0) (h0 : -9223372036854775808 ≤ most) (h1 : most ≤ 9223372036854775807) (hv : (rs (l.drop k) most).2.2 ≠ 0) :
    Calls Try.prog 46 #[.pointer (some ⟨rb, 0, none⟩), .int .i64 most] w fun e w' => e = .returned (.slice none 0 0) ∧ RdrAt w' rb l k (rs (l.drop k) most).2.2 ∧ w.grownBy w' (some rb) := by
  have hmf : ∀ (fn : Fn) (first cap : Array Value) (w : World), (Instr.makeFunc fn first cap).run Try.prog w = .ok (.func fn first cap) w := fun _ _ _ _ => rfl
  have hlt := h.lt
  have hlen : (l.drop k).length ≤ 140737488355328 := by obtain ⟨_, _, _, _, hl⟩ := h; simp; omega
  have g1 : ((rs (l.drop k) most).2.2 != 0) = true := by simpa using hv
  generalize her : (rs (l.drop k) most).2.2 = er at *
  have HER : Hid ((rs (l.drop k) most).2.2 = er) := her
  clear her hv
  go_enter_defers Try.func46, Try.ntmps46
  go_wp2_with fail
  refine (rest_ok _ rb l k (h.below (box_below w _))).mono ?_
  rintro e w2 ⟨v2, rfl, hs2, hq2⟩
  go_wp2_with fail
  refine (readString_any _ _ (l.drop k) most (hq2.sl hs2) hlen h0 h1).mono ?_
  rintro e w3 ⟨v3, rfl, _, hb3⟩
  rw [HER.out]
  have hr3 := ((h.below (box_below w _)).below (hq2.below _)).below hb3
  have hg3 := grown_trans (hq2.grown (some rb)) (Below.grownAny hb3 (some rb))
  have hbx := box_cell hlt hg3
  go_wp2_with fail
  refine (check_no _ er g1).mono ?_
  rintro e w4 ⟨rfl, rfl⟩
  go_wp2
  obtain ⟨v, hb, _⟩ := id hr3
  refine leaves_cons (f := 60) (args := #[.pointer (some ⟨w.heap.size, 0, none⟩)]) (by simp) (by simp [go_sem]) ?_
  refine (shut_some_String _ ⟨w.heap.size, 0, none⟩ rb er v k 0 [] hbx hb).mono ?_
  rintro e u' w'' ⟨rfl, rfl, rfl⟩
  simp [Leaves, settle, results, Try.results46, go_sem]
  exact ⟨hr3.setErr er, grown_trans (box_grown hg3) (grown_drew (grown_setCell _ _ _ _))⟩
set_option maxHeartbeats 400000 in
theorem String_good (w : World) (rb : Nat) (l : List UInt8) (k : Nat) (most : Int) (h : RdrAt w rb l k 0) (h0 : -9223372036854775808 ≤ most) (h1 : most ≤ 9223372036854775807) (hv : (rs (l.drop k) most).2.2 = 0) :
    Calls Try.prog 46 #[.pointer (some ⟨rb, 0, none⟩), .int .i64 most] w fun e w' => ∃ v', e = .returned v' ∧ w'.ownsRow w.heap.size 5 1 v' (rs (l.drop k) most).1.length (bvals (rs (l.drop k) most).1) ∧ RdrAt w' rb l (k + (rs (l.drop k) most).2.1) 0 ∧ w.grownBy w' (some rb) := by
  have hmf : ∀ (fn : Fn) (first cap : Array Value) (w : World), (Instr.makeFunc fn first cap).run Try.prog w = .ok (.func fn first cap) w := fun _ _ _ _ => rfl
  have hlt := h.lt
  have hk : k ≤ l.length := by obtain ⟨_, _, _, hk, _⟩ := h; exact hk
  have hlen : (l.drop k).length ≤ 140737488355328 := by obtain ⟨_, _, _, _, hl⟩ := h; simp; omega
  have hg := (rs_good hv).1
  obtain ⟨s, hs⟩ : ∃ s, s = (rs (l.drop k) most).2.1 := ⟨_, rfl⟩
  have HS : Hid ((rs (l.drop k) most).2.1 = s) := hs.symm
  have HER : Hid ((rs (l.drop k) most).2.2 = 0) := hv
  rw [← hs] at hg ⊢
  have hks : k + s ≤ l.length := by simp at hg; omega
  clear hs hv hg
  go_enter_defers Try.func46, Try.ntmps46
  go_wp2_with fail
  refine (rest_ok _ rb l k (h.below (box_below w _))).mono ?_
  rintro e w2 ⟨v2, rfl, hs2, hq2⟩
  go_wp2_with fail
  refine (readString_any _ _ (l.drop k) most (hq2.sl hs2) hlen h0 h1).mono ?_
  rintro e w3 ⟨v3, rfl, ho3, hb3⟩
  rw [HER.out, HS.out]
  have hsz : w2.heap.size = w.heap.size + 1 := by rw [hq2.size]; simp
  have hr3 := ((h.below (box_below w _)).below (hq2.below _)).below hb3
  have hg3 := grown_trans (hq2.grown (some rb)) (Below.grownAny hb3 (some rb))
  have hbx := box_cell hlt hg3
  have HSZ : Hid (w2.heap.size = w.heap.size + 1) := hsz
  clear hsz
  go_wp2_with fail
  refine (check_ok _).mono ?_
  rintro e w4 ⟨rfl, rfl⟩
  go_wp2_with fail
  refine (take_ok _ rb l k s hr3 hks).mono ?_
  rintro e w5 ⟨v5, rfl, _, hr5, hg5⟩
  have ho5 : w5.ownsRow w.heap.size 5 1 v3 (rs (l.drop k) most).1.length (bvals (rs (l.drop k) most).1) := by
    have ho4 := ho3.kept hg5 (by
      by_cases hn : v3.ownBlock = none
      · exact Or.inl hn
      · right
        intro e
        have := (ho3.lt rb e).1
        rw [HSZ.out] at this
        omega)
    obtain ⟨a1, a2⟩ := ho4
    refine ⟨a1, ?_⟩
    rcases a2 with a2 | ⟨g, cap, cur, hv, hg, r⟩
    · exact Or.inl a2
    · exact Or.inr ⟨g, cap, cur, hv, by rw [HSZ.out] at hg; omega, r⟩
  have hgw := box_grown (grown_trans hg3 hg5)
  have hbx5 := box_cell hlt (grown_trans hg3 hg5)
  clear hbx ho3 hg3 hg5
  go_wp2
  refine leaves_cons (f := 60) (args := #[.pointer (some ⟨w.heap.size, 0, none⟩)]) (by simp) (by simp [go_sem]) ?_
  refine (shut_idle_String _ (some ⟨rb, 0, none⟩) ⟨w.heap.size, 0, none⟩ hbx5).mono ?_
  rintro e u' w'' ⟨rfl, rfl, rfl⟩
  simp [Leaves, settle, results, Try.results46, go_sem]
  exact ⟨ho5, hr5, grown_drew hgw⟩

set_option maxHeartbeats 400000 in
theorem newReader_any (w : World) (x : Value) (l : List UInt8) (hx : Sl w x l) (hlen : l.length ≤ 140737488355328) :
    Calls Try.prog 28 #[x] w fun e w' => ∃ rb, e = .returned (.pointer (some ⟨rb, 0, none⟩)) ∧ RdrAt w' rb l 0 0 ∧ Below w.heap.size w w' ∧ w.heap.size ≤ rb := by
  go_enter Try.func28, Try.ntmps28
  go_wp2_with fail
  refine (clone_any _ _ l hx hlen).mono ?_
  rintro e w2 ⟨v2, rfl, ho, hb⟩
  obtain ⟨ao, ca, rfl⟩ := own_slice ho
  go_wp2
  go_ret
  have hsz := hb.size
  refine ⟨_, rfl, ⟨.slice ao l.length ca, ?_, ?_, Nat.zero_le _, hlen⟩, hb.alloc hsz _, hsz⟩
  · exact heap_alloc_new _ _
  · obtain ⟨a1, a2⟩ := ho.alloc (.cells #[.slice ao l.length ca, .int .i64 0, .int .i64 0] 62)
    refine ⟨a1, ?_⟩
    rcases a2 with a2 | ⟨g, cap, cur, hv, hg, r⟩
    · exact Or.inl a2
    · exact Or.inr ⟨g, cap, cur, hv, Nat.zero_le _, r⟩

set_option maxHeartbeats 400000 in
theorem left_any (w : World) (rb : Nat) (l : List UInt8) (k : Nat) (er : Int) (h : RdrAt w rb l k er) :
    Calls Try.prog 33 #[.pointer (some ⟨rb, 0, none⟩)] w fun e w' => e = .returned (.int .i64 ((l.length : Int) - k)) ∧ Qt w w' := by
  obtain ⟨v, hr, ho, hk, hl⟩ := h
  obtain ⟨ao, ca, rfl⟩ := own_slice ho
  have h0 : w.cell? ⟨rb, 0, none⟩ = some (.slice ao l.length ca) := by simp [World.cell?, hr]
  have h1 : w.cell? ⟨rb, 1, none⟩ = some (.int .i64 (k : Int)) := by simp [World.cell?, hr]
  clear hr ho
  go_enter Try.func33, Try.ntmps33
  go_wp2
  go_quiet (fail)
  go_wp2
  go_ret
  exact ⟨rfl, ⟨_, rfl⟩⟩
theorem at_any (w : World) (rb : Nat) (l : List UInt8) (k : Nat) (er : Int) (h : RdrAt w rb l k er) :
    Calls Try.prog 32 #[.pointer (some ⟨rb, 0, none⟩)] w fun e w' => e = .returned (.int .i64 (k : Int)) ∧ w' = w := by
  obtain ⟨v, hr, ho, hk, hl⟩ := h
  have h1 : w.cell? ⟨rb, 1, none⟩ = some (.int .i64 (k : Int)) := by simp [World.cell?, hr]
  clear hr ho
  go_enter Try.func32, Try.ntmps32
  go_wp2
  go_ret
  exact ⟨rfl, rfl⟩
theorem at_nil (w : World) : Calls Try.prog 32 #[.pointer none] w fun e w' => e = .returned (.int .i64 0) ∧ w' = w := by
  go_enter Try.func32, Try.ntmps32
  go_wp2
  go_ret
  exact ⟨rfl, rfl⟩
theorem left_nil (w : World) : Calls Try.prog 33 #[.pointer none] w fun e w' => e = .returned (.int .i64 0) ∧ w' = w := by
  go_enter Try.func33, Try.ntmps33
  go_wp2
  go_ret
  exact ⟨rfl, rfl⟩
set_option maxHeartbeats 400000 in
theorem err_any (w : World) (rb : Nat) (l : List UInt8) (k : Nat) (er : Int) (h : RdrAt w rb l k er) :
    Calls Try.prog 30 #[.pointer (some ⟨rb, 0, none⟩)] w fun e w' => e = .returned (.tuple #[.int .i64 (if er = 0 then 0 else (k : Int)), .int .i64 er]) ∧ Qt w w' := by
  obtain ⟨v, hr, ho, hk, hl⟩ := h
  have h1 : w.cell? ⟨rb, 1, none⟩ = some (.int .i64 (k : Int)) := by simp [World.cell?, hr]
  have h2 : w.cell? ⟨rb, 2, none⟩ = some (.int .i64 er) := by simp [World.cell?, hr]
  clear hr ho
  by_cases he : er = 0
  · subst he
    rw [if_pos rfl]
    go_enter Try.func30, Try.ntmps30
    go_wp2
    go_ret2
    exact ⟨rfl, Qt.refl _⟩
  · rw [if_neg he]
    have hg : (er == 0) = false := by simpa using he
    clear he
    go_enter Try.func30, Try.ntmps30
    go_wp2
    go_quiet (fail)
    go_wp2
    go_ret2
    exact ⟨rfl, ⟨_, rfl⟩⟩
end Go.Proofs.Ytgccfpmjcpoddaa
