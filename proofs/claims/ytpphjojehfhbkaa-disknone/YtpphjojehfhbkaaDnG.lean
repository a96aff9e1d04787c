/-
  A nil disk, and a zero one: what each call answers.
-/
import Derived.Test.YtpphjojehfhbkaaDnE
namespace Go.Proofs.Ytpphjojehfhbkaa.Dk
open Go.RowKit Go.Maps Go.Sort Go.Shelf Go.Proofs.Ytpphjojehfhbkaa.Nm

def zeroD : Dc := ⟨0, false, none, none, .slice none 0 0, none, 0, 0, 0, 0, 0, 0, 0, 0, 0⟩
/-- Nil, or zero. -/
def Un (w : World) (v : Value) : Prop := v = .pointer none ∨ ∃ b, v = .pointer (some ⟨b, 0, none⟩) ∧ Bx w b zeroD
def unX (v : Value) : Option Dc := match v with | .pointer none => none | _ => some zeroD
theorem Un.dp {w : World} {v : Value} (h : Un w v) : ∃ x, Dp w v x ∧ upD x = false ∧ madeD x = false ∧ ∀ y m, x = some y → y.fm = some m → False := by
  rcases h with rfl | ⟨b, rfl, hb⟩
  · exact ⟨none, .inl ⟨rfl, rfl⟩, rfl, rfl, fun y m e => by cases e⟩
  · exact ⟨some zeroD, .inr ⟨b, zeroD, rfl, rfl, hb⟩, rfl, rfl, fun y m e e2 => by cases e; cases e2⟩
theorem Un.below {w w' : World} {v : Value} (h : Un w v) (hb : Below w.heap.size w w') : Un w' v := by
  rcases h with rfl | ⟨b, rfl, h⟩
  · exact .inl rfl
  · exact .inr ⟨b, rfl, h.below hb⟩
theorem Un.made {w : World} {v : Value} (h : Un w v) : Calls Try.prog 39 #[v] w fun e w' => e = .returned (.bool false) ∧ w' = w := by
  obtain ⟨x, h1, h2, h3, h4⟩ := h.dp
  have := made_any w v x h1
  rw [h3] at this
  exact this
theorem Un.upC {w : World} {v : Value} (h : Un w v) : Calls Try.prog 21 #[v] w fun e w' => e = .returned (.bool false) ∧ w' = w := by
  obtain ⟨x, h1, h2, h3, h4⟩ := h.dp
  have := up_any w v x h1
  rw [h2] at this
  exact this
theorem Un.refuse {w : World} {v : Value} (h : Un w v) (u : Value) (L : List ByteArray) (hu : Row w u (L.map Value.string)) (hl : ∀ s ∈ L, s.size ≤ maxLen) : Calls Try.prog 28 #[v, u] w fun e w' => e = .returned (.int .i64 22) ∧ w' = w := by
  obtain ⟨x, h1, h2, h3, h4⟩ := h.dp
  have := refuse_any w v u x L h1 hu hl
  have e : refF x L = 22 := by simp [refF, h2]
  rw [e] at this
  exact this
theorem Un.find {w : World} {v : Value} (h : Un w v) (s : ByteArray) (hs : s.size ≤ maxLen) : Calls Try.prog 35 #[v, .string s] w fun e w' => e = .returned (.tuple #[.pointer none, .int .i64 22]) ∧ Below w.heap.size w w' := by
  obtain ⟨x, h1, h2, h3, h4⟩ := h.dp
  have := find_any w v x [] s h1 hs (fun y m e e2 => (h4 y m e e2).elim)
  have e : refF x [s] = 22 := by simp [refF, h2]
  have e2 : findF x [] s = (.pointer none, 22) := by unfold findF; rw [e, if_neg (by decide)]
  rw [e2] at this
  exact this
theorem Un.appendN {w : World} {v : Value} (h : Un w v) (s : ByteArray) (hs : s.size ≤ maxLen) (d : Value) : Calls Try.prog 10 #[v, .string s, d] w fun e w' => e = .returned (.tuple #[.int .i64 0, .int .i64 22]) ∧ Below w.heap.size w w' := by
  have hF := h.find s hs
  clear h
  go_enter Try.func10, Try.ntmps10
  go_wp2_with (go_at_call 35; refine hF.mono ?_; rintro e w1 ⟨rfl, B1⟩; replace B1 := hide B1)
  go_ret2
  exact ⟨rfl, B1.out⟩
theorem Un.readN {w : World} {v : Value} (h : Un w v) (s : ByteArray) (hs : s.size ≤ maxLen) (o n : Int) : Calls Try.prog 13 #[v, .string s, .int .i64 o, .int .i64 n] w fun e w' => e = .returned (.tuple #[.slice none 0 0, .int .i64 22]) ∧ Below w.heap.size w w' := by
  have hF := h.find s hs
  clear h
  go_enter Try.func13, Try.ntmps13
  go_wp2_with (go_at_call 35; refine hF.mono ?_; rintro e w1 ⟨rfl, B1⟩; replace B1 := hide B1)
  go_ret2
  exact ⟨rfl, B1.out⟩
theorem Un.sizeN {w : World} {v : Value} (h : Un w v) (s : ByteArray) (hs : s.size ≤ maxLen)  : Calls Try.prog 16 #[v, .string s] w fun e w' => e = .returned (.tuple #[.int .i64 0, .int .i64 22]) ∧ Below w.heap.size w w' := by
  have hF := h.find s hs
  clear h
  go_enter Try.func16, Try.ntmps16
  go_wp2_with (go_at_call 35; refine hF.mono ?_; rintro e w1 ⟨rfl, B1⟩; replace B1 := hide B1)
  go_ret2
  exact ⟨rfl, B1.out⟩
theorem Un.syncN {w : World} {v : Value} (h : Un w v) (s : ByteArray) (hs : s.size ≤ maxLen)  : Calls Try.prog 11 #[v, .string s] w fun e w' => e = .returned (.int .i64 22) ∧ Below w.heap.size w w' := by
  have hF := h.find s hs
  clear h
  go_enter Try.func11, Try.ntmps11
  go_wp2_with (go_at_call 35; refine hF.mono ?_; rintro e w1 ⟨rfl, B1⟩; replace B1 := hide B1)
  go_ret
  exact ⟨rfl, B1.out⟩
theorem Un.cutN {w : World} {v : Value} (h : Un w v) (s : ByteArray) (hs : s.size ≤ maxLen) (n : Int) : Calls Try.prog 18 #[v, .string s, .int .i64 n] w fun e w' => e = .returned (.int .i64 22) ∧ Below w.heap.size w w' := by
  have hF := h.find s hs
  clear h
  go_enter Try.func18, Try.ntmps18
  go_wp2_with (go_at_call 35; refine hF.mono ?_; rintro e w1 ⟨rfl, B1⟩; replace B1 := hide B1)
  go_ret
  exact ⟨rfl, B1.out⟩
theorem Un.removeN {w : World} {v : Value} (h : Un w v) (s : ByteArray) (hs : s.size ≤ maxLen)  : Calls Try.prog 20 #[v, .string s] w fun e w' => e = .returned (.int .i64 22) ∧ Below w.heap.size w w' := by
  have hF := h.find s hs
  clear h
  go_enter Try.func20, Try.ntmps20
  go_wp2_with (go_at_call 35; refine hF.mono ?_; rintro e w1 ⟨rfl, B1⟩; replace B1 := hide B1)
  go_ret
  exact ⟨rfl, B1.out⟩
theorem Un.createN {w : World} {v : Value} (h : Un w v) (s : ByteArray) (hs : s.size ≤ maxLen) : Calls Try.prog 8 #[v, .string s] w fun e w' => e = .returned (.int .i64 22) ∧ Below w.heap.size w w' := by
  have hr := (h.below (box_below w (.cells #[.string s] 9))).refuse _ [s] (row1 w s _ _) (by simpa using hs)
  have hB := hide (box_below w (.cells #[.string s] 9))
  clear h
  go_enter Try.func8, Try.ntmps8
  go_wp2_with (go_at_call 28; refine hr.mono ?_; rintro e w1 ⟨rfl, e1⟩; subst w1)
  go_ret
  exact ⟨rfl, hB.out⟩
theorem Un.renameN {w : World} {v : Value} (h : Un w v) (s t : ByteArray) (hs : s.size ≤ maxLen) (ht : t.size ≤ maxLen) : Calls Try.prog 19 #[v, .string s, .string t] w fun e w' => e = .returned (.int .i64 22) ∧ Below w.heap.size w w' := by
  have hr := (h.below (box_below w (.cells #[.string s, .string t] 9))).refuse _ [s, t] (row2 w s t _) (by simp; exact ⟨hs, ht⟩)
  have hB := hide (box_below w (.cells #[.string s, .string t] 9))
  clear h
  go_enter Try.func19, Try.ntmps19
  go_wp2_with (go_at_call 28; refine hr.mono ?_; rintro e w1 ⟨rfl, e1⟩; subst w1)
  go_ret
  exact ⟨rfl, hB.out⟩
theorem Un.syncdirN {w : World} {v : Value} (h : Un w v) : Calls Try.prog 9 #[v] w fun e w' => e = .returned (.int .i64 22) ∧ w' = w := by
  have hr := h.refuse _ [] (row0 w) (by simp)
  clear h
  go_enter Try.func9, Try.ntmps9
  go_wp2_with (go_at_call 28; refine hr.mono ?_; rintro e w1 ⟨rfl, e1⟩; subst w1)
  go_ret
  exact ⟨rfl, rfl⟩
theorem Un.listN {w : World} {v : Value} (h : Un w v) : Calls Try.prog 17 #[v] w fun e w' => e = .returned (.tuple #[.slice none 0 0, .int .i64 22]) ∧ w' = w := by
  have hr := h.refuse _ [] (row0 w) (by simp)
  clear h
  go_enter Try.func17, Try.ntmps17
  go_wp2_with (go_at_call 28; refine hr.mono ?_; rintro e w1 ⟨rfl, e1⟩; subst w1)
  go_ret2
  exact ⟨rfl, rfl⟩
theorem Un.armN {w : World} {v : Value} (h : Un w v) (u : Value) : Calls Try.prog 12 #[v, u] w fun e w' => e = .returned (.int .i64 22) ∧ w' = w := by
  have hm := h.made
  clear h
  go_enter Try.func12, Try.ntmps12
  go_wp2_with (go_at_call 39; refine hm.mono ?_; rintro e w1 ⟨rfl, e1⟩; subst w1)
  go_ret
  exact ⟨rfl, rfl⟩
theorem Un.filesN {w : World} {v : Value} (h : Un w v)  : Calls Try.prog 24 #[v] w fun e w' => e = .returned (.slice none 0 0) ∧ w' = w := by
  have hm := h.made
  clear h
  go_enter Try.func24, Try.ntmps24
  go_wp2_with (go_at_call 39; refine hm.mono ?_; rintro e w1 ⟨rfl, e1⟩; subst w1)
  go_ret
  exact ⟨rfl, rfl⟩
theorem Un.lastingN {w : World} {v : Value} (h : Un w v)  : Calls Try.prog 25 #[v] w fun e w' => e = .returned (.slice none 0 0) ∧ w' = w := by
  have hm := h.made
  clear h
  go_enter Try.func25, Try.ntmps25
  go_wp2_with (go_at_call 39; refine hm.mono ?_; rintro e w1 ⟨rfl, e1⟩; subst w1)
  go_ret
  exact ⟨rfl, rfl⟩
theorem Un.copyN {w : World} {v : Value} (h : Un w v)  : Calls Try.prog 22 #[v] w fun e w' => e = .returned (.pointer none) ∧ w' = w := by
  have hm := h.made
  clear h
  go_enter Try.func22, Try.ntmps22
  go_wp2_with (go_at_call 39; refine hm.mono ?_; rintro e w1 ⟨rfl, e1⟩; subst w1)
  go_ret
  exact ⟨rfl, rfl⟩
theorem Un.tailsN {w : World} {v : Value} (h : Un w v) (n : Int) : Calls Try.prog 26 #[v, .int .i64 n] w fun e w' => e = .returned (.slice none 0 0) ∧ w' = w := by
  have hm := h.made
  clear h
  go_enter Try.func26, Try.ntmps26
  go_wp2_with (go_at_call 39; refine hm.mono ?_; rintro e w1 ⟨rfl, e1⟩; subst w1)
  go_ret
  exact ⟨rfl, rfl⟩
theorem Un.crashN {w : World} {v : Value} (h : Un w v) (n : Int) (a : Option Addr) (l c : Nat) : Calls Try.prog 15 #[v, .agg #[.int .i64 n, .slice a l c]] w fun e w' => e = .returned (.tuple #[]) ∧ Below w.heap.size w w' := by
  have hm := (h.below (box_below w (.cells #[.int .i64 n, .slice a l c] 40))).made
  have hB := hide (box_below w (.cells #[.int .i64 n, .slice a l c] 40))
  clear h
  go_enter Try.func15, Try.ntmps15
  go_wp2_with (go_at_call 39; refine hm.mono ?_; rintro e w1 ⟨rfl, e1⟩; subst w1)
  (try simp only [Exit.inBlock, Exit.then])
  refine bodyPost_ret (results_none rfl _ _ _) rfl ?_
  exact ⟨rfl, hB.out⟩
theorem Un.pendingN {w : World} {v : Value} (h : Un w v) : Calls Try.prog 23 #[v] w fun e w' => e = .returned (.int .i64 0) ∧ w' = w := by
  rcases h with rfl | ⟨b, rfl, hb⟩
  · go_enter Try.func23, Try.ntmps23
    go_wp2_with fail
    go_ret
    exact ⟨rfl, rfl⟩
  · have c4 : w.cell? ⟨b, 4, none⟩ = some (.slice none 0 0) := hb.cells.2.2.2.2.1
    clear hb
    go_enter Try.func23, Try.ntmps23
    go_wp2_with fail
    go_ret
    exact ⟨rfl, rfl⟩
def zC : Array Value := #[.int .i64 0, .int .i64 0, .int .i64 0, .int .i64 0, .int .i64 0, .int .i64 0, .int .i64 0, .int .i64 0, .int .i64 0]
set_option maxRecDepth 100000 in
theorem Un.countN {w : World} {v : Value} (h : Un w v) : Calls Try.prog 27 #[v] w fun e w' => e = .returned (.agg #[.int .i64 0, .int .i64 0, .int .i64 0, .int .i64 0, .int .i64 0, .int .i64 0, .int .i64 0, .int .i64 0, .int .i64 0]) ∧ Below w.heap.size w w' := by
  have hB := hide (box_below w (.cells #[.int .i64 0, .int .i64 0, .int .i64 0, .int .i64 0, .int .i64 0, .int .i64 0, .int .i64 0, .int .i64 0, .int .i64 0] 49))
  rcases h with rfl | ⟨b, rfl, hb⟩
  · go_enter Try.func27, Try.ntmps27
    go_wp2_with fail
    go_returns
    exact ⟨rfl, hB.out⟩
  · have hb1 : (w.alloc (.cells #[.int .i64 0, .int .i64 0, .int .i64 0, .int .i64 0, .int .i64 0, .int .i64 0, .int .i64 0, .int .i64 0, .int .i64 0] 49)).heap[b]? = some (.cells (dcells zeroD) TD (0, 0)) := hb.below (box_below w _)
    have x0 : (w.alloc (.cells #[.int .i64 0, .int .i64 0, .int .i64 0, .int .i64 0, .int .i64 0, .int .i64 0, .int .i64 0, .int .i64 0, .int .i64 0] 49)).cell? ⟨b, 6, none⟩ = some (.int .i64 0) := by simp [World.cell?, hb1, dcells, zeroD]
    have x1 : (w.alloc (.cells #[.int .i64 0, .int .i64 0, .int .i64 0, .int .i64 0, .int .i64 0, .int .i64 0, .int .i64 0, .int .i64 0, .int .i64 0] 49)).cell? ⟨b, 7, none⟩ = some (.int .i64 0) := by simp [World.cell?, hb1, dcells, zeroD]
    have x2 : (w.alloc (.cells #[.int .i64 0, .int .i64 0, .int .i64 0, .int .i64 0, .int .i64 0, .int .i64 0, .int .i64 0, .int .i64 0, .int .i64 0] 49)).cell? ⟨b, 8, none⟩ = some (.int .i64 0) := by simp [World.cell?, hb1, dcells, zeroD]
    have x3 : (w.alloc (.cells #[.int .i64 0, .int .i64 0, .int .i64 0, .int .i64 0, .int .i64 0, .int .i64 0, .int .i64 0, .int .i64 0, .int .i64 0] 49)).cell? ⟨b, 9, none⟩ = some (.int .i64 0) := by simp [World.cell?, hb1, dcells, zeroD]
    have x4 : (w.alloc (.cells #[.int .i64 0, .int .i64 0, .int .i64 0, .int .i64 0, .int .i64 0, .int .i64 0, .int .i64 0, .int .i64 0, .int .i64 0] 49)).cell? ⟨b, 10, none⟩ = some (.int .i64 0) := by simp [World.cell?, hb1, dcells, zeroD]
    have x5 : (w.alloc (.cells #[.int .i64 0, .int .i64 0, .int .i64 0, .int .i64 0, .int .i64 0, .int .i64 0, .int .i64 0, .int .i64 0, .int .i64 0] 49)).cell? ⟨b, 11, none⟩ = some (.int .i64 0) := by simp [World.cell?, hb1, dcells, zeroD]
    have x6 : (w.alloc (.cells #[.int .i64 0, .int .i64 0, .int .i64 0, .int .i64 0, .int .i64 0, .int .i64 0, .int .i64 0, .int .i64 0, .int .i64 0] 49)).cell? ⟨b, 12, none⟩ = some (.int .i64 0) := by simp [World.cell?, hb1, dcells, zeroD]
    have x7 : (w.alloc (.cells #[.int .i64 0, .int .i64 0, .int .i64 0, .int .i64 0, .int .i64 0, .int .i64 0, .int .i64 0, .int .i64 0, .int .i64 0] 49)).cell? ⟨b, 13, none⟩ = some (.int .i64 0) := by simp [World.cell?, hb1, dcells, zeroD]
    have x8 : (w.alloc (.cells #[.int .i64 0, .int .i64 0, .int .i64 0, .int .i64 0, .int .i64 0, .int .i64 0, .int .i64 0, .int .i64 0, .int .i64 0] 49)).cell? ⟨b, 14, none⟩ = some (.int .i64 0) := by simp [World.cell?, hb1, dcells, zeroD]
    clear hb1 hb
    go_enter Try.func27, Try.ntmps27
    go_wp2_with fail
    go_returns
    exact ⟨rfl, hB.out⟩
#print axioms Un.countN
end Go.Proofs.Ytpphjojehfhbkaa.Dk
