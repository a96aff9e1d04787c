/-
  A value as a thing; whether it may be; its size.
-/
import Derived.Test.YtpfnkkkfekhngaaGreatDoorVj
import Derived.Test.YtpfnkkkfekhngaaGreatDoorVs
import Derived.Test.YtpfnkkkfekhngaaGreatDoorVg
namespace Go.Proofs.YtpfnkkkfekhngaaGreatDoor.Va
open Go.RowKit Go.Proofs.YtpfnkkkfekhngaaGreatDoor.Rl
set_option maxRecDepth 100000

theorem box_free (w : World) (cs : Array Value) (T : TypeId) (j : Nat) : (w.alloc (.cells cs T)).frozen? ⟨w.heap.size, j, none⟩ = false := by
  unfold World.frozen?
  simp only [heap_alloc_new]
  simp
theorem thingOf_any (w : World) (v : Value) (x : Val) (hv : IsV w v x) :
    Calls Tryz.prog 32 #[v] w fun e w' => ∃ tv, e = .returned (.tuple #[tv, .bool (mayV x)]) ∧ (mayV x = false → tv = .nilIface) ∧ (mayV x = true → IsT (fun b => w.heap.size ≤ b) w' tv x) ∧ Below w.heap.size w w' := by
  have hd := thing_any x
  obtain ⟨k, n, r, t, l⟩ := x
  have hv0 := hv
  rw [IsV] at hv
  obtain ⟨ao, cap, rfl, _⟩ := hv
  obtain ⟨m, hm⟩ : ∃ m, Hid (l.length = m) := ⟨_, rfl⟩
  rw [hm.out] at hv0 ⊢
  obtain ⟨X, hX⟩ : ∃ X, Hid (Val.mk k n r t l = X) := ⟨_, rfl⟩
  rw [hX.out] at hv0 hd ⊢
  replace hv0 : Hid (IsV w (.agg #[.int .i64 k, .int .i64 n, .float .f64 r, .string (bstr t), .slice ao m cap]) X) := hv0
  replace hd : Hid (DoesThing X) := hd
  obtain ⟨M, hM⟩ : ∃ M, Hid (mayV X = M) := ⟨mayV X, rfl⟩
  have hM2 : Hid ((okV 0 X && decide ((szV X : Int) ≤ 65536)) = M) := by
    show _ = _
    rw [← hM.out, mayV]
    congr 1
    rw [Bool.eq_iff_iff]; simp; omega
  rw [hM.out]
  obtain ⟨wa, hwa⟩ : ∃ wa, Hid ((w.alloc (.cells #[.int .i64 k, .int .i64 n, .float .f64 r, .string (bstr t), .slice ao m cap] 35)).alloc (.cells #[.int .i64 65536] 75) = wa) := ⟨_, rfl⟩
  have e1 : ∀ A : Obj, (w.alloc A).heap.size = w.heap.size + 1 := fun A => by simp
  have hBa : Hid (Below w.heap.size w wa) := by rw [← hwa.out]; exact (box_below _ _).alloc (by rw [e1]; omega) _
  have hNa : Hid (Num wa (w.heap.size + 1) 0 65536) := by
    have h := box_cell (w.alloc (.cells #[.int .i64 k, .int .i64 n, .float .f64 r, .string (bstr t), .slice ao m cap] 35)) #[.int .i64 65536] 75 0 (.int .i64 65536) rfl
    rw [e1, hwa.out] at h
    refine ⟨h, ?_⟩
    rw [← hwa.out]
    have := box_free (w.alloc (.cells #[.int .i64 k, .int .i64 n, .float .f64 r, .string (bstr t), .slice ao m cap] 35)) #[.int .i64 65536] 75 0
    rw [e1] at this
    exact this
  have hx : Hid (∀ (j : Nat) (v : Value), #[.int .i64 k, .int .i64 n, .float .f64 r, .string (bstr t), .slice ao m cap][j]? = some v → wa.cell? ⟨w.heap.size, j, none⟩ = some v) := fun j v hv => by
    have h1 := box_cell w _ 35 j v hv
    rw [← hwa.out]
    exact ((box_below _ _).cell (lt_of_cell h1)).trans h1
  have hsz : Hid (w.heap.size < wa.heap.size) := by show _ < _; rw [← hwa.out]; simp; omega
  have hcall : Hid (Calls Tryz.prog 42 #[.pointer (some ⟨w.heap.size + 1, 0, none⟩), .agg #[.int .i64 k, .int .i64 n, .float .f64 r, .string (bstr t), .slice ao m cap], .int .i64 0] wa (Made (w.heap.size + 1) 65536 M (szV X) wa X)) := by
    have := hd.out w wa _ (w.heap.size + 1) 65536 0 hv0.out (by omega) hBa.out hNa.out (by omega) (by omega) (by omega)
    rw [hM2.out] at this
    exact this
  have x0 := hx.out 0 _ rfl
  have x1 := hx.out 1 _ rfl
  have x2 := hx.out 2 _ rfl
  have x3 := hx.out 3 _ rfl
  have x4 := hx.out 4 _ rfl
  clear e1
  go_enter Tryz.func32, Tryz.ntmps32
  go_wp2_with fail
  rw [hwa.out]
  refine hcall.out.mono ?_
  rintro e w1 ⟨hb, tv, rfl, hno, hyes⟩
  have hB1 : Hid (Below w.heap.size w w1) := hBa.out.trans (hb.below (by omega) (by have := hsz.out; omega))
  have hno' : Hid (M = false → tv = .nilIface) := hno
  have hyes' : Hid (M = true → IsT (fun b => w.heap.size ≤ b) w1 tv X) := fun h => (hyes h).1.down fun b hb _ => by have := hsz.out; have hb' : wa.heap.size ≤ b := hb; omega
  clear hno hyes hb x0 x1 x2 x3 x4
  go_wp2_with fail
  go_returns
  exact ⟨tv, rfl, hno'.out, hyes'.out, hB1.out⟩
theorem may_any : Does1 12 fun x => .bool (mayV x) := by
  intro w v x hv _
  have hc := fun q (hq : Below w.heap.size w q) => thingOf_any q v x (IsV.below hq x v hv)
  obtain ⟨k, n, r, t, l⟩ := x
  rw [IsV] at hv
  obtain ⟨ao, cap, rfl, _⟩ := hv
  obtain ⟨X, hX⟩ : ∃ X, Hid (Val.mk k n r t l = X) := ⟨_, rfl⟩
  rw [hX.out] at hc ⊢
  replace hc : Hid (∀ q, Below w.heap.size w q → _) := hc
  go_enter Tryz.func12, Tryz.ntmps12
  go_wp2_with fail
  refine (hc.out _ (box_below _ _)).mono ?_
  rintro e w1 ⟨tv, rfl, _, _, hb⟩
  have hB : Hid (Below w.heap.size w w1) := keepV hb (box_below _ _)
  clear hb
  go_wp2_with fail
  go_ret
  exact ⟨rfl, hB.out⟩
theorem Size_any : Does1 14 fun x => .int .i64 (sizeO x) := by
  intro w v x hv _
  have hc := fun q (hq : Below w.heap.size w q) => thingOf_any q v x (IsV.below hq x v hv)
  have hs := fun (q : World) (tv : Value) (h : mayV x = true) (S : Nat → Prop) (ht : IsT S q tv x) => size_any x 0 S q tv (may_parts h).1 (may_parts h).2 ht
  obtain ⟨k, n, r, t, l⟩ := x
  rw [IsV] at hv
  obtain ⟨ao, cap, rfl, _⟩ := hv
  obtain ⟨X, hX⟩ : ∃ X, Hid (Val.mk k n r t l = X) := ⟨_, rfl⟩
  rw [hX.out] at hc hs
  show Calls _ _ _ _ fun e w' => e = .returned (.int .i64 (sizeO (Val.mk k n r t l))) ∧ Below w.heap.size w w'
  rw [hX.out]
  replace hc : Hid (∀ q, Below w.heap.size w q → _) := hc
  replace hs : Hid (∀ (q : World) (tv : Value), mayV X = true → ∀ S : Nat → Prop, IsT S q tv X → Disp "flume/value.size" tv [] q fun e w' => e = .returned (.int .i64 (szV X : Int)) ∧ Below q.heap.size q w') := hs
  obtain ⟨M, hM⟩ : ∃ M, Hid (mayV X = M) := ⟨mayV X, rfl⟩
  obtain ⟨Z, hZ⟩ : ∃ Z, Hid (sizeO X = Z) := ⟨sizeO X, rfl⟩
  have hZ2 : Hid (Z = if M then (szV X : Int) else 0) := by show _ = _; rw [← hZ.out, sizeO, hM.out]
  rw [hZ.out]
  go_enter Tryz.func14, Tryz.ntmps14
  go_wp2_with fail
  refine (hc.out _ (box_below _ _)).mono ?_
  rintro e w1 ⟨tv, rfl, hno, hyes, hb⟩
  have hB : Hid (Below w.heap.size w w1) := keepV hb (box_below _ _)
  rw [hM.out] at hno hyes ⊢
  clear hb
  cases M with
  | false =>
    have hZ3 : Hid (Z = 0) := hZ2.out
    clear hno hyes
    go_wp2_with fail
    go_ret
    exact ⟨by rw [hZ3.out]; rfl, hB.out⟩
  | true =>
    have hZ3 : Hid (Z = (szV X : Int)) := hZ2.out
    obtain ⟨T, u, f, rfl, hme, hen, hcall⟩ := hs.out w1 tv hM.out _ (hyes rfl)
    rw [← hZ3.out] at hcall
    replace hcall : Hid (Calls Tryz.prog f [u].toArray w1 fun e w' => e = .returned (.int .i64 Z) ∧ Below w1.heap.size w1 w') := hcall
    clear hno hyes
    go_wp2_with fail
    refine hcall.out.mono ?_
    rintro e w2 ⟨rfl, hb⟩
    have hB2 : Hid (Below w.heap.size w w2) := keepV hb hB.out
    clear hb
    go_wp2_with fail
    go_ret
    exact ⟨rfl, hB2.out⟩
end Go.Proofs.YtpfnkkkfekhngaaGreatDoor.Va
