/-
  value.Compare and value.Same.
-/
import Derived.Test.YtdojfdnglmmhmaaGreatDoorVd
namespace Go.Proofs.YtdojfdnglmmhmaaGreatDoor.Va
open Go.RowKit Go.Proofs.YtdojfdnglmmhmaaGreatDoor.Rl
set_option maxRecDepth 100000

set_option maxHeartbeats 1000000 in
theorem compare_all (x : Val) : DoesCmp x := by
  induction x using Val.ind with
  | h k n r t l ih =>
    intro y S S' w a b d d' ho ho' hw hw' ha hb
    obtain ⟨k', n', r', t', l'⟩ := y
    obtain ⟨T, u, f, rfl, hme, hen, hk⟩ := kind_any S w a k n r t l ha
    obtain ⟨T', u', f', rfl, hme', hen', hk'⟩ := kind_any S' w b k' n' r' t' l' hb
    have hal := alike_any (.mk k n r t l) (fun _ _ _ _ _ e => by simp only [Val.mk.injEq] at e; rw [← e.2.2.2.2]; exact ih)
    replace hk : Hid (∀ q0, Calls Tryz.prog f [u].toArray q0 fun e w' => e = .returned (.int .i64 k) ∧ Below q0.heap.size q0 w') := hk
    replace hk' : Hid (∀ q0, Calls Tryz.prog f' [u'].toArray q0 fun e w' => e = .returned (.int .i64 k') ∧ Below q0.heap.size q0 w') := hk'
    by_cases hkk : k = k'
    · subst hkk
      replace hal : Hid (∀ q, Below w.heap.size w q → Disp "flume/value.compareAlike" (.iface T u) [.iface T' u'] q fun e w' => e = .returned (.int .i64 (cmpV (.mk k n r t l) (.mk k n' r' t' l'))) ∧ Below q.heap.size q w') := fun q hq => hal (.mk k n' r' t' l') S S' q _ _ d d' ho ho' hw hw' (ha.below hq) (hb.below hq) ⟨_, _, _, _, _, _, _, _, _, rfl, rfl⟩
      obtain ⟨C, hC⟩ : ∃ C, Hid (cmpV (.mk k n r t l) (.mk k n' r' t' l') = C) := ⟨_, rfl⟩
      rw [hC.out] at hal ⊢
      clear ih ho ho' hw hw' ha hb
      go_enter Tryz.func38, Tryz.ntmps38
      go_wp2_with fail
      refine (hk.out _).mono ?_
      rintro e w1 ⟨rfl, hb1⟩
      go_wp2_with fail
      refine (hk'.out _).mono ?_
      rintro e w2 ⟨rfl, hb2⟩
      have hB2 : Hid (Below w.heap.size w w2) := keepV hb2 hb1
      clear hb1 hb2
      obtain ⟨T2, u2, f2, e2, hme2, hen2, hcall⟩ := hal.out w2 hB2.out
      simp only [Value.iface.injEq] at e2
      obtain ⟨rfl, rfl⟩ := e2
      replace hcall : Hid (Calls Tryz.prog f2 [u, .iface T' u'].toArray w2 fun e w' => e = .returned (.int .i64 C) ∧ Below w2.heap.size w2 w') := hcall
      clear hme hme' hen hen'
      go_wp2_with fail
      refine hcall.out.mono ?_
      rintro e w3 ⟨rfl, hb3⟩
      have hB3 : Hid (Below w.heap.size w w3) := keepV hb3 hB2.out
      clear hb3
      go_wp2_with fail
      go_ret
      exact ⟨rfl, hB3.out⟩
    · have hv : Hid (cmpV (.mk k n r t l) (.mk k' n' r' t' l') = cmpZ k k') := by show _ = _; rw [cmpV, if_pos hkk]
      have kne : (k != k') = true := by simpa using hkk
      rw [hv.out]
      clear ih ho ho' hw hw' ha hb hal
      go_enter Tryz.func38, Tryz.ntmps38
      go_wp2_with fail
      refine (hk.out _).mono ?_
      rintro e w1 ⟨rfl, hb1⟩
      go_wp2_with fail
      refine (hk'.out _).mono ?_
      rintro e w2 ⟨rfl, hb2⟩
      have hB2 : Hid (Below w.heap.size w w2) := keepV hb2 hb1
      clear hb1 hb2
      go_wp2_with fail
      refine (hk.out _).mono ?_
      rintro e w3 ⟨rfl, hb3⟩
      go_wp2_with fail
      refine (hk'.out _).mono ?_
      rintro e w4 ⟨rfl, hb4⟩
      have hB4 : Hid (Below w.heap.size w w4) := keepV hb4 (keepV hb3 hB2.out)
      clear hb3 hb4
      go_wp2_with fail
      refine (cmpI_any _ k k').mono ?_
      rintro e w5 ⟨rfl, rfl⟩
      go_wp2_with fail
      go_ret
      exact ⟨rfl, hB4.out⟩
set_option maxHeartbeats 1000000 in
theorem Compare_any : Does2 21 fun x y => .int .i64 (compV x y) := by
  intro w v v' x y hv hv' hw hw'
  have hc := fun q (hq : Below w.heap.size w q) => thingOf_any q v x (IsV.below hq x v hv)
  have hc' := fun q (hq : Below w.heap.size w q) => thingOf_any q v' y (IsV.below hq y v' hv')
  have hcmp := compare_all x y
  obtain ⟨k, n, r, t, l⟩ := x
  obtain ⟨k', n', r', t', l'⟩ := y
  rw [IsV] at hv hv'
  obtain ⟨ao, cap, rfl, _⟩ := hv
  obtain ⟨ao', cap', rfl, _⟩ := hv'
  obtain ⟨X, hX⟩ : ∃ X, Hid (Val.mk k n r t l = X) := ⟨_, rfl⟩
  obtain ⟨Y, hY⟩ : ∃ X, Hid (Val.mk k' n' r' t' l' = X) := ⟨_, rfl⟩
  rw [hX.out] at hc hw hcmp
  rw [hY.out] at hc' hw' hcmp
  show Calls _ _ _ _ fun e w' => e = .returned (.int .i64 (compV (Val.mk k n r t l) (Val.mk k' n' r' t' l'))) ∧ Below w.heap.size w w'
  rw [hX.out, hY.out]
  replace hc : Hid (∀ q, Below w.heap.size w q → _) := hc
  replace hc' : Hid (∀ q, Below w.heap.size w q → _) := hc'
  replace hcmp : Hid (∀ (q : World) (a b : Value) (S S' : Nat → Prop), mayV X = true → mayV Y = true → IsT S q a X → IsT S' q b Y → Calls Tryz.prog 38 #[a, b] q fun e w' => e = .returned (.int .i64 (cmpV X Y)) ∧ Below q.heap.size q w') := fun q a b S S' h1 h2 h3 h4 => hcmp S S' q a b 0 0 (may_parts h1).1 (may_parts h2).1 hw hw' h3 h4
  obtain ⟨M, hM⟩ : ∃ M, Hid (mayV X = M) := ⟨mayV X, rfl⟩
  obtain ⟨M', hM'⟩ : ∃ M, Hid (mayV Y = M) := ⟨mayV Y, rfl⟩
  obtain ⟨C, hC⟩ : ∃ C, Hid (compV X Y = C) := ⟨compV X Y, rfl⟩
  have hC2 : Hid (C = if M then (if M' then cmpV X Y else -1) else (if M' then 1 else 0)) := by show _ = _; rw [← hC.out, compV, hM.out, hM'.out]
  rw [hC.out]
  have hT0 : Hid (Two w ((w.alloc (.cells #[.int .i64 k, .int .i64 n, .float .f64 r, .string (bstr t), .slice ao l.length cap] 35)).alloc (.cells #[.int .i64 k', .int .i64 n', .float .f64 r', .string (bstr t'), .slice ao' l'.length cap'] 35)) k n r t ao l cap k' n' r' t' ao' l' cap') := two_new w k n r t ao l cap k' n' r' t' ao' l' cap' _
  clear hw hw'
  go_enter Tryz.func21, Tryz.ntmps21
  go_wp2_with fail
  refine (hc.out _ hT0.out.1).mono ?_
  rintro e w1 ⟨tv, rfl, hno, hyes, hb⟩
  have hT1 : Hid (Two w w1 k n r t ao l cap k' n' r' t' ao' l' cap') := hT0.out.below hb
  rw [hM.out] at hno hyes ⊢
  replace hyes : Hid (M = true → ∃ S : Nat → Prop, IsT S w1 tv X) := fun h => ⟨_, hyes h⟩
  clear hb hT0 hno
  obtain ⟨_, d0, d1, d2, d3, d4, d5, d6, d7, d8, d9⟩ := hT1.out
  go_wp2_with fail
  clear d0 d1 d2 d3 d4 d5 d6 d7 d8 d9
  refine (hc'.out _ hT1.out.1).mono ?_
  rintro e w2 ⟨tv', rfl, hno', hyes', hb⟩
  have hT2 : Hid (Below w.heap.size w w2) := (hT1.out.below hb).1
  rw [hM'.out] at hno' hyes' ⊢
  replace hyes' : Hid (M' = true → ∃ S : Nat → Prop, IsT S w2 tv' Y) := fun h => ⟨_, hyes' h⟩
  replace hyes : Hid (M = true → ∃ S : Nat → Prop, IsT S w2 tv X) := fun h => by obtain ⟨S, h'⟩ := hyes.out h; exact ⟨S, h'.below hb⟩
  clear hb hT1 hno'
  cases M with
  | false =>
    cases M' with
    | false =>
      have hC3 : Hid (C = 0) := hC2.out
      go_wp2_with fail
      go_ret
      exact ⟨by rw [hC3.out]; rfl, hT2.out⟩
    | true =>
      have hC3 : Hid (C = 1) := hC2.out
      go_wp2_with fail
      go_ret
      exact ⟨by rw [hC3.out]; rfl, hT2.out⟩
  | true =>
    cases M' with
    | false =>
      have hC3 : Hid (C = -1) := hC2.out
      go_wp2_with fail
      go_ret
      exact ⟨by rw [hC3.out]; rfl, hT2.out⟩
    | true =>
      have hC3 : Hid (C = cmpV X Y) := hC2.out
      obtain ⟨S, hx⟩ := hyes.out rfl
      obtain ⟨S', hy⟩ := hyes'.out rfl
      have hcall := hcmp.out w2 tv tv' S S' hM.out hM'.out hx hy
      rw [← hC3.out] at hcall
      replace hcall : Hid (Calls Tryz.prog 38 #[tv, tv'] w2 fun e w' => e = .returned (.int .i64 C) ∧ Below w2.heap.size w2 w') := hcall
      clear hx hy
      go_wp2_with fail
      refine hcall.out.mono ?_
      rintro e w3 ⟨rfl, hb⟩
      have hB3 : Hid (Below w.heap.size w w3) := keepV hb hT2.out
      clear hb
      go_wp2_with fail
      go_ret
      exact ⟨rfl, hB3.out⟩
theorem same_comp (X Y : Val) : sameV X Y = (mayV X && decide (compV X Y = 0)) := by
  unfold sameV compV
  cases mayV X <;> cases mayV Y <;> simp
set_option maxHeartbeats 1000000 in
theorem Same_any : Does2 23 fun x y => .bool (sameV x y) := by
  intro w v v' x y hv hv' hw hw'
  have hm := fun q (hq : Below w.heap.size w q) => may_any q v x (IsV.below hq x v hv) hw
  have hc := fun q (hq : Below w.heap.size w q) => Compare_any q v v' x y (IsV.below hq x v hv) (IsV.below hq y v' hv') hw hw'
  obtain ⟨k, n, r, t, l⟩ := x
  obtain ⟨k', n', r', t', l'⟩ := y
  rw [IsV] at hv hv'
  obtain ⟨ao, cap, rfl, _⟩ := hv
  obtain ⟨ao', cap', rfl, _⟩ := hv'
  show Calls _ _ _ _ fun e w' => e = .returned (.bool (sameV (Val.mk k n r t l) (Val.mk k' n' r' t' l'))) ∧ Below w.heap.size w w'
  obtain ⟨X, hX⟩ : ∃ X, Hid (Val.mk k n r t l = X) := ⟨_, rfl⟩
  obtain ⟨Y, hY⟩ : ∃ X, Hid (Val.mk k' n' r' t' l' = X) := ⟨_, rfl⟩
  rw [hX.out] at hm hc ⊢
  rw [hY.out] at hc ⊢
  obtain ⟨M, hM⟩ : ∃ M, Hid (mayV X = M) := ⟨mayV X, rfl⟩
  obtain ⟨C, hC⟩ : ∃ C, Hid (compV X Y = C) := ⟨compV X Y, rfl⟩
  obtain ⟨Z, hZ⟩ : ∃ C, Hid (sameV X Y = C) := ⟨sameV X Y, rfl⟩
  have hZ2 : Hid (Z = (M && decide (C = 0))) := by show _ = _; rw [← hZ.out, same_comp, hM.out, hC.out]
  replace hm : Hid (∀ q, Below w.heap.size w q → Calls Tryz.prog 12 _ q fun e w' => e = .returned (.bool (mayV X)) ∧ Below q.heap.size q w') := hm
  replace hc : Hid (∀ q, Below w.heap.size w q → Calls Tryz.prog 21 _ q fun e w' => e = .returned (.int .i64 (compV X Y)) ∧ Below q.heap.size q w') := hc
  rw [hM.out] at hm
  rw [hC.out] at hc
  rw [hZ.out]
  have hT0 : Hid (Two w ((w.alloc (.cells #[.int .i64 k, .int .i64 n, .float .f64 r, .string (bstr t), .slice ao l.length cap] 35)).alloc (.cells #[.int .i64 k', .int .i64 n', .float .f64 r', .string (bstr t'), .slice ao' l'.length cap'] 35)) k n r t ao l cap k' n' r' t' ao' l' cap') := two_new w k n r t ao l cap k' n' r' t' ao' l' cap' _
  clear hw hw'
  go_enter Tryz.func23, Tryz.ntmps23
  go_wp2_with fail
  refine (hm.out _ hT0.out.1).mono ?_
  rintro e w1 ⟨rfl, hb⟩
  have hT1 : Hid (Two w w1 k n r t ao l cap k' n' r' t' ao' l' cap') := hT0.out.below hb
  clear hb hT0
  cases M with
  | false =>
    have hZ3 : Hid (Z = false) := hZ2.out
    go_wp2_with fail
    go_ret
    exact ⟨by rw [hZ3.out]; rfl, hT1.out.1⟩
  | true =>
    have hZ3 : Hid (Z = (C == 0)) := by show _ = _; rw [hZ2.out, Bool.true_and, Bool.eq_iff_iff]; simp
    obtain ⟨_, d0, d1, d2, d3, d4, d5, d6, d7, d8, d9⟩ := hT1.out
    go_wp2_with fail
    clear d0 d1 d2 d3 d4 d5 d6 d7 d8 d9
    refine (hc.out _ hT1.out.1).mono ?_
    rintro e w2 ⟨rfl, hb⟩
    have hT2 : Hid (Below w.heap.size w w2) := (hT1.out.below hb).1
    clear hb hT1
    go_wp2_with fail
    go_ret
    exact ⟨by rw [hZ3.out]; rfl, hT2.out⟩
#print axioms Same_any
end Go.Proofs.YtdojfdnglmmhmaaGreatDoor.Va
