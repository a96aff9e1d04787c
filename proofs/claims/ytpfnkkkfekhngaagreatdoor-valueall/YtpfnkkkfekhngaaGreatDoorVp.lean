/-
  Room that is spent; whether what a kind does not use is zero.
-/
import Derived.Test.YtpfnkkkfekhngaaGreatDoorVt
namespace Go.Proofs.YtpfnkkkfekhngaaGreatDoor.Va
open Go.RowKit Go.Proofs.YtpfnkkkfekhngaaGreatDoor.Rl
set_option maxRecDepth 100000

/-- At block m, place o, stands the number L, and may be written. -/
def Num (w : World) (m o : Nat) (L : Int) : Prop := w.cell? ⟨m, o, none⟩ = some (.int .i64 L) ∧ w.frozen? ⟨m, o, none⟩ = false
theorem Num.below {w w' : World} {m o : Nat} {L : Int} (h : Num w m o L) (hb : Below w.heap.size w w') : Num w' m o L :=
  ⟨(hb.cell (lt_of_cell h.1)).trans h.1, (hb.frozen (p := ⟨m, o, none⟩) (lt_of_cell h.1)).trans h.2⟩
theorem Num.drew {w : World} {m o : Nat} {L : Int} (h : Num w m o L) : Num w.drew m o L := h
theorem Num.set {w : World} {m o : Nat} {L : Int} (h : Num w m o L) (K : Int) : Num (w.setCell ⟨m, o, none⟩ (.int .i64 K)) m o K :=
  ⟨World.cell?_setCell_same _ _ _ h.1, by rw [World.frozen?_setCell]; exact h.2⟩
theorem spend_yes (w : World) (m o : Nat) (L s : Int) (h : Num w m o L) (hs : 0 ≤ s) (hL : L ≤ 9223372036854775807) (hsl : s ≤ L) :
    Calls Tryz.prog 54 #[.pointer (some ⟨m, o, none⟩), .int .i64 s] w fun e w' => e = .returned (.bool true) ∧ w' = w.setCell ⟨m, o, none⟩ (.int .i64 (L - s)) := by
  obtain ⟨h1, h2⟩ := h
  have hn : ¬ L < s := by omega
  have hd : decide (s > L) = false := by simp; omega
  go_enter Tryz.func54, Tryz.ntmps54
  go_wp2
  all_goals first | omega | (go_ret; exact ⟨rfl, by simp⟩)
theorem spend_no (w : World) (m o : Nat) (L s : Int) (h : Num w m o L) (hsl : L < s) :
    Calls Tryz.prog 54 #[.pointer (some ⟨m, o, none⟩), .int .i64 s] w fun e w' => e = .returned (.bool false) ∧ w' = w := by
  obtain ⟨h1, h2⟩ := h
  go_enter Tryz.func54, Tryz.ntmps54
  go_wp2
  all_goals first | omega | (go_ret; exact ⟨rfl, rfl⟩)
/-- What the kind does not use is zero. -/
def unz (k n : Int) (r : Nat) (t : List UInt8) (l : List Val) : Bool := (decide (k = 2) || decide (k = 3) || decide (n = 0)) && (decide (k = 4) || decide (r = 0)) && (decide (k = 5) || t.isEmpty) && (decide (k = 6) || l.isEmpty)
set_option maxHeartbeats 2000000 in
theorem unz_any (w : World) (k n : Int) (r : Nat) (t : List UInt8) (l : List Val) (ao : Option Addr) (cap : Nat) :
    Calls Tryz.prog 65 #[.agg #[.int .i64 k, .int .i64 n, .float .f64 r, .string (bstr t), .slice ao l.length cap]] w fun e w' => e = .returned (.bool (unz k n r t l)) ∧ Below w.heap.size w w' := by
  have k1 := bits_run
  have kst : ∀ (w : World) (a : Addr) (x : Nat) (m : Mode), (store a (.float .f64 x) m).run Tryz.prog w = stored Tryz.prog w a (.float .f64 x) m := fun w a x m => run_store Tryz.prog w a _ m rfl
  have kt : ((bstr t).toList == ([] : List UInt8)) = t.isEmpty := by rw [bstr_list]; cases t <;> rfl
  obtain ⟨T, hT⟩ : ∃ T, Hid (t.isEmpty = T) := ⟨_, rfl⟩
  rw [hT.out] at kt
  obtain ⟨m, hm⟩ : ∃ m, Hid (l.length = m) := ⟨_, rfl⟩
  have hl : Hid (l.isEmpty = decide (m = 0)) := by show _ = _; rw [← hm.out]; cases l <;> simp
  rw [hm.out]
  obtain ⟨U, hU⟩ : ∃ U, Hid (unz k n r t l = U) := ⟨_, rfl⟩
  have hU2 : Hid (U = ((decide (k = 2) || decide (k = 3) || decide (n = 0)) && (decide (k = 4) || decide (r = 0)) && (decide (k = 5) || T) && (decide (k = 6) || decide (m = 0)))) := by show _ = _; rw [← hU.out, unz, hT.out, hl.out]
  rw [hU.out]
  by_cases e2 : k = 2
  · subst e2
    go_enter Tryz.func65, Tryz.ntmps65
    go_wp2
    all_goals (go_ret; refine ⟨congrArg (fun b => Ending.returned (Value.bool b)) (?_ : _ = U), box_below _ _⟩; rw [hU2.out]; simp_all <;> (rw [Bool.eq_iff_iff]; simp))
  by_cases e3 : k = 3
  · subst e3
    go_enter Tryz.func65, Tryz.ntmps65
    go_wp2
    all_goals (go_ret; refine ⟨congrArg (fun b => Ending.returned (Value.bool b)) (?_ : _ = U), box_below _ _⟩; rw [hU2.out]; simp_all <;> (rw [Bool.eq_iff_iff]; simp))
  by_cases e4 : k = 4
  · subst e4
    go_enter Tryz.func65, Tryz.ntmps65
    go_wp2
    all_goals (go_ret; refine ⟨congrArg (fun b => Ending.returned (Value.bool b)) (?_ : _ = U), box_below _ _⟩; rw [hU2.out]; simp_all <;> (rw [Bool.eq_iff_iff]; simp))
  by_cases e5 : k = 5
  · subst e5
    go_enter Tryz.func65, Tryz.ntmps65
    go_wp2
    all_goals (go_ret; refine ⟨congrArg (fun b => Ending.returned (Value.bool b)) (?_ : _ = U), box_below _ _⟩; rw [hU2.out]; simp_all <;> (rw [Bool.eq_iff_iff]; simp))
  by_cases e6 : k = 6
  · subst e6
    go_enter Tryz.func65, Tryz.ntmps65
    go_wp2
    all_goals (go_ret; refine ⟨congrArg (fun b => Ending.returned (Value.bool b)) (?_ : _ = U), box_below _ _⟩; rw [hU2.out]; simp_all <;> (rw [Bool.eq_iff_iff]; simp))
  go_enter Tryz.func65, Tryz.ntmps65
  go_wp2
  all_goals (go_ret; refine ⟨congrArg (fun b => Ending.returned (Value.bool b)) (?_ : _ = U), box_below _ _⟩; rw [hU2.out]; simp_all <;> (rw [Bool.eq_iff_iff]; simp))
end Go.Proofs.YtpfnkkkfekhngaaGreatDoor.Va
