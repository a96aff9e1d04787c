/-
  Things held against one another.
-/
import Derived.Test.YtdojfdnglmmhmaaGreatDoorVc
import Derived.Test.YtdojfdnglmmhmaaGreatDoorVf
namespace Go.Proofs.YtdojfdnglmmhmaaGreatDoor.Va
open Go.RowKit Go.Proofs.YtdojfdnglmmhmaaGreatDoor.Rl
set_option maxRecDepth 100000

theorem two_new (w : World) (xk xn : Int) (xr : Nat) (xt : List UInt8) (xo : Option Addr) (xl : List Val) (xc : Nat) (yk yn : Int) (yr : Nat) (yt : List UInt8) (yo : Option Addr) (yl : List Val) (yc : Nat) (T : TypeId) :
    Two w ((w.alloc (.cells #[.int .i64 xk, .int .i64 xn, .float .f64 xr, .string (bstr xt), .slice xo xl.length xc] T)).alloc (.cells #[.int .i64 yk, .int .i64 yn, .float .f64 yr, .string (bstr yt), .slice yo yl.length yc] T)) xk xn xr xt xo xl xc yk yn yr yt yo yl yc := by
  unfold Two
  have e1 : ∀ A : Obj, (w.alloc A).heap.size = w.heap.size + 1 := fun A => by simp
  have n0 : ∀ (cs : Array Value) (T : TypeId) (B : Obj) (j : Nat) (v : Value), cs[j]? = some v → ((w.alloc (.cells cs T)).alloc B).cell? ⟨w.heap.size, j, none⟩ = some v := fun cs T B j v hv => by
    have h := box_cell w cs T j v hv
    exact ((box_below (w.alloc (.cells cs T)) B).cell (lt_of_cell h)).trans h
  have n1 : ∀ (A : Obj) (cs : Array Value) (T : TypeId) (j : Nat) (v : Value), cs[j]? = some v → ((w.alloc A).alloc (.cells cs T)).cell? ⟨w.heap.size + 1, j, none⟩ = some v := fun A cs T j v hv => by
    have h := box_cell (w.alloc A) cs T j v hv
    rw [e1] at h
    exact h
  refine ⟨(box_below _ _).alloc (by rw [e1]; omega) _, n0 _ _ _ _ _ rfl, n0 _ _ _ _ _ rfl, n0 _ _ _ _ _ rfl, n0 _ _ _ _ _ rfl, n0 _ _ _ _ _ rfl, n1 _ _ _ _ _ rfl, n1 _ _ _ _ _ rfl, n1 _ _ _ _ _ rfl, n1 _ _ _ _ _ rfl, n1 _ _ _ _ _ rfl⟩
def DoesCmp (x : Val) : Prop := ∀ (y : Val) (S S' : Nat → Prop) (w : World) (a b : Value) (d d' : Nat), okV d x = true → okV d' y = true → wtV x → wtV y → IsT S w a x → IsT S' w b y →
  Calls Tryz.prog 38 #[a, b] w fun e w' => e = .returned (.int .i64 (cmpV x y)) ∧ Below w.heap.size w w'
theorem cmpL_nil {l : List Val} : cmpL [] l = if 0 < l.length then -1 else 0 := by
  cases l <;> simp [cmpL]
set_option maxHeartbeats 1000000 in
theorem lists_cmp (l l' : List Val) (ih : ∀ x ∈ l, DoesCmp x) (S S' : Nat → Prop) (w : World) (ao ao' : Option Addr) (cap cap' d d' : Nat) (h1 : okL d l = true) (h1' : okL d' l' = true) (hw : wtL l) (hw' : wtL l') (hl : IsTL S w ao 0 l) (hl' : IsTL S' w ao' 0 l') (h2 : l.length ≤ cap) (h2' : l'.length ≤ cap') (h3 : cap ≤ maxLen) (h3' : cap' ≤ maxLen) :
    Calls Tryz.prog 150 #[.slice ao l.length cap, .slice ao' l'.length cap', .func (.func 38) #[] #[]] w fun e w' => e = .returned (.int .i64 (cmpL l l')) ∧ Below w.heap.size w w' := by
  obtain ⟨n, hn⟩ : ∃ n, Hid (l.length = n) := ⟨_, rfl⟩
  obtain ⟨n', hn'⟩ : ∃ n, Hid (l'.length = n) := ⟨_, rfl⟩
  rw [hn.out] at h2 ⊢
  rw [hn'.out] at h2' ⊢
  have hcap : n ≤ 9223372036854775807 := by unfold maxLen at h3; omega
  have hcap' : n' ≤ 9223372036854775807 := by unfold maxLen at h3'; omega
  replace hl : Hid (IsTL S w ao 0 l) := hl
  replace hl' : Hid (IsTL S' w ao' 0 l') := hl'
  replace ih : Hid (∀ x ∈ l, DoesCmp x) := ih
  replace h1 : Hid (okL d l = true) := h1
  replace h1' : Hid (okL d' l' = true) := h1'
  replace hw : Hid (wtL l) := hw
  replace hw' : Hid (wtL l') := hw'
  obtain ⟨C, hC⟩ : ∃ C, Hid (cmpL l l' = C) := ⟨_, rfl⟩
  rw [hC.out]
  clear h3 h3' h2 h2'
  go_enter Tryz.func150, Tryz.ntmps150
  go_wp2_with fail
  go_loopw [13] (fun v13 wr => ∃ i : Nat, i ≤ n ∧ i ≤ n' ∧ v13 = .int .i64 (i : Int) ∧ Hid (C = cmpL (l.drop i) (l'.drop i)) ∧ Hid (Below w.heap.size w wr)) (fun v _ => n - (intOf v).toNat)
  case atStart => exact ⟨0, by omega, by omega, rfl, by show _ = _; rw [List.drop_zero, List.drop_zero, hC.out], Below.refl _ _⟩
  case round =>
    obtain ⟨i, hi, hi', rfl, hz, hB⟩ := hrel
    by_cases hin : i = n
    · have hz2 : Hid (C = if (n : Int) < (n' : Int) then -1 else 0) := by
        show _ = _
        have g1 := hn.out
        have g2 := hn'.out
        rw [hz.out, List.drop_of_length_le (by omega), cmpL_nil, List.length_drop]
        by_cases g : (n : Int) < (n' : Int)
        · rw [if_pos g, if_pos (by omega)]
        · rw [if_neg g, if_neg (by omega)]
      subst hin
      by_cases g : (i : Int) < (n' : Int)
      · have hz3 : Hid (C = -1) := by show _ = _; rw [hz2.out, if_pos g]
        go_wp2_with fail
        go_ret
        exact ⟨by rw [hz3.out]; rfl, hB.out⟩
      · have hz3 : Hid (C = 0) := by show _ = _; rw [hz2.out, if_neg g]
        go_wp2_with fail
        go_ret
        exact ⟨by rw [hz3.out]; rfl, hB.out⟩
    · have hil : i < l.length := by have := hn.out; omega
      have i1 : (i : Int) < (n : Int) := by omega
      have i2 : (0 : Int) ≤ (i : Int) := by omega
      obtain ⟨b, off, c, rfl, _, hc, hx⟩ := IsTL.get hl.out i hil
      rw [Nat.zero_add] at hc
      replace hc := (hB.out.cell (lt_of_cell hc)).trans hc
      replace hx := hx.below hB.out
      by_cases hin' : i = n'
      · have hz3 : Hid (C = 1) := by
          show _ = _
          rw [hz.out, List.drop_eq_getElem_cons hil, List.drop_of_length_le (l := l') (by have := hn'.out; omega), cmpL]
        have i3 : ¬ (i : Int) < (n' : Int) := by omega
        subst hin'
        clear hx
        go_wp2_with fail
        go_ret
        exact ⟨by rw [hz3.out]; rfl, hB.out⟩
      · have hil' : i < l'.length := by have := hn'.out; omega
        have i3 : (i : Int) < (n' : Int) := by omega
        obtain ⟨b', off', c', rfl, _, hc', hx'⟩ := IsTL.get hl'.out i hil'
        rw [Nat.zero_add] at hc'
        replace hc' := (hB.out.cell (lt_of_cell hc')).trans hc'
        replace hx' := hx'.below hB.out
        have hcall := ih.out l[i] (List.getElem_mem hil) l'[i] S S' wr c c' d d' (okL_at h1.out hil) (okL_at h1'.out hil') (wtL_at hw.out i hil) (wtL_at hw'.out i hil') hx hx'
        have hz2 : Hid (C = if cmpV l[i] l'[i] = 0 then cmpL (l.drop (i + 1)) (l'.drop (i + 1)) else cmpV l[i] l'[i]) := by
          show _ = _
          rw [hz.out, List.drop_eq_getElem_cons hil, List.drop_eq_getElem_cons hil', cmpL]
        obtain ⟨s, hs⟩ : ∃ s, Hid (cmpV l[i] l'[i] = s) := ⟨cmpV l[i] l'[i], rfl⟩
        rw [hs.out] at hcall hz2
        replace hcall : Hid (Calls Tryz.prog 38 #[c, c'] wr fun e w' => e = .returned (.int .i64 s) ∧ Below wr.heap.size wr w') := hcall
        obtain ⟨T, u, rfl⟩ := hx.shape
        obtain ⟨T', u', rfl⟩ := hx'.shape
        clear hx hx'
        go_wp2_with fail
        refine hcall.out.mono ?_
        rintro e w1 ⟨rfl, hb⟩
        have hB1 : Hid (Below w.heap.size w w1) := keepV hb hB.out
        clear hc hc' hb
        by_cases hs0 : s = 0
        · have hz3 : Hid (C = cmpL (l.drop (i + 1)) (l'.drop (i + 1))) := by show _ = _; rw [hz2.out, if_pos hs0]
          subst hs0
          go_wp2_with fail
          go_roundw
          case rel => exact ⟨i + 1, by omega, by omega, by go_num, hz3.out, hB1.out⟩
          case measure => simp [intOf]; omega
        · have hz3 : Hid (C = s) := by show _ = _; rw [hz2.out, if_neg hs0]
          have ks : (s != 0) = true := by simpa using hs0
          go_wp2_with fail
          go_ret
          exact ⟨by rw [hz3.out]; rfl, hB1.out⟩
def DoesAlike (x : Val) : Prop := ∀ (y : Val) (S S' : Nat → Prop) (w : World) (a b : Value) (d d' : Nat), okV d x = true → okV d' y = true → wtV x → wtV y → IsT S w a x → IsT S' w b y → (∃ k n r t l n' r' t' l', x = .mk k n r t l ∧ y = .mk k n' r' t' l') →
  Disp "flume/value.compareAlike" a [b] w fun e w' => e = .returned (.int .i64 (cmpV x y)) ∧ Below w.heap.size w w'
set_option maxHeartbeats 1000000 in
theorem alike_any (x : Val) (ih : ∀ k n r t l, x = .mk k n r t l → ∀ z ∈ l, DoesCmp z) : DoesAlike x := by
  rintro y S S' w a b d d' ho ho' hw hw' ha hb ⟨k, n, r, t, l, n', r', t', l', rfl, rfl⟩
  have hlist := lists_cmp l l' (ih k n r t l rfl) S S' w
  obtain ⟨f1, f2, f3, f4, f5, f6, f7⟩ := ok_free ho
  obtain ⟨f1', f2', f3', f4', f5', f6', f7'⟩ := ok_free ho'
  rw [wtV] at hw hw'
  rw [IsT] at ha hb
  rcases ha with ⟨rfl, rfl⟩ | ⟨rfl, rfl⟩ | ⟨rfl, rfl⟩ | ⟨rfl, rfl⟩ | ⟨rfl, rfl⟩ | ⟨rfl, ao, cap, rfl, h2, h3, h4⟩
  · rcases hb with ⟨_, rfl⟩ | ⟨h, _⟩ | ⟨h, _⟩ | ⟨h, _⟩ | ⟨h, _⟩ | ⟨h, _⟩
    all_goals first | omega | skip
    have hv : Hid (cmpV (.mk 1 n r t l) (.mk 1 n' r' t' l') = 0) := by
      show _ = _
      rw [cmpV, f1 (by omega), f1' (by omega)]; simp [cmpL]
    rw [hv.out]
    refine ⟨_, _, 106, rfl, fun q => by kernel_rfl, fun a q => by kernel_rfl, ?_⟩
    clear hlist
    go_enter Tryz.func106, Tryz.ntmps106
    go_wp2
    go_ret
    exact ⟨rfl, box_below _ _⟩
  · rcases hb with ⟨h, _⟩ | ⟨_, rfl⟩ | ⟨h, _⟩ | ⟨h, _⟩ | ⟨h, _⟩ | ⟨h, _⟩
    all_goals first | omega | skip
    have hv : Hid (cmpV (.mk 2 n r t l) (.mk 2 n' r' t' l') = cmpZ n n') := by show _ = _; rw [cmpV]; simp
    rw [hv.out]
    refine ⟨_, _, 111, rfl, fun q => by kernel_rfl, fun a q => by kernel_rfl, ?_⟩
    have hta : ∀ u : World, (Instr.typeAssert (.iface 100 (.int .i64 n')) 56 100 true).run Tryz.prog u = .ok (.tuple #[.int .i64 n', .bool true]) u := fun _ => by kernel_rfl
    clear hlist
    go_enter Tryz.func111, Tryz.ntmps111
    go_wp2_with fail
    refine (cmpB_any _ n n').mono ?_
    rintro e w1 ⟨rfl, rfl⟩
    go_wp2_with fail
    go_ret
    exact ⟨rfl, Below.refl _ _⟩
  · rcases hb with ⟨h, _⟩ | ⟨h, _⟩ | ⟨_, rfl⟩ | ⟨h, _⟩ | ⟨h, _⟩ | ⟨h, _⟩
    all_goals first | omega | skip
    have hv : Hid (cmpV (.mk 3 n r t l) (.mk 3 n' r' t' l') = cmpZ n n') := by show _ = _; rw [cmpV]; simp
    rw [hv.out]
    refine ⟨_, _, 118, rfl, fun q => by kernel_rfl, fun a q => by kernel_rfl, ?_⟩
    have hta : ∀ u : World, (Instr.typeAssert (.iface 101 (.int .i64 n')) 56 101 true).run Tryz.prog u = .ok (.tuple #[.int .i64 n', .bool true]) u := fun _ => by kernel_rfl
    clear hlist
    go_enter Tryz.func118, Tryz.ntmps118
    go_wp2_with fail
    refine (cmpN_any _ n n').mono ?_
    rintro e w1 ⟨rfl, rfl⟩
    go_wp2_with fail
    go_ret
    exact ⟨rfl, Below.refl _ _⟩
  · rcases hb with ⟨h, _⟩ | ⟨h, _⟩ | ⟨h, _⟩ | ⟨_, rfl⟩ | ⟨h, _⟩ | ⟨h, _⟩
    all_goals first | omega | skip
    have hv : Hid (cmpV (.mk 4 n r t l) (.mk 4 n' r' t' l') = cmpB r r') := by show _ = _; rw [cmpV]; simp
    rw [hv.out]
    refine ⟨_, _, 126, rfl, fun q => by kernel_rfl, fun a q => by kernel_rfl, ?_⟩
    have hta : ∀ u : World, (Instr.typeAssert (.iface 102 (.float .f64 r')) 56 102 true).run Tryz.prog u = .ok (.tuple #[.float .f64 r', .bool true]) u := fun _ => by kernel_rfl
    have hre : Hid (∀ q, Calls Tryz.prog 131 #[.float .f64 r, .float .f64 r'] q fun e w' => e = .returned (.int .i64 (cmpB r r')) ∧ w' = q) := fun q => compare_any q r r' hw.2.2.1 hw'.2.2.1
    clear hlist hw hw'
    go_enter Tryz.func126, Tryz.ntmps126
    go_wp2_with fail
    refine (hre.out _).mono ?_
    rintro e w1 ⟨rfl, rfl⟩
    go_wp2_with fail
    go_ret
    exact ⟨rfl, Below.refl _ _⟩
  · rcases hb with ⟨h, _⟩ | ⟨h, _⟩ | ⟨h, _⟩ | ⟨h, _⟩ | ⟨_, rfl⟩ | ⟨h, _⟩
    all_goals first | omega | skip
    have hv : Hid (cmpV (.mk 5 n r t l) (.mk 5 n' r' t' l') = cmpT t t') := by show _ = _; rw [cmpV]; simp
    rw [hv.out]
    refine ⟨_, _, 137, rfl, fun q => by kernel_rfl, fun a q => by kernel_rfl, ?_⟩
    have hta : ∀ u : World, (Instr.typeAssert (.iface 103 (.string (bstr t'))) 56 103 true).run Tryz.prog u = .ok (.tuple #[.string (bstr t'), .bool true]) u := fun _ => by kernel_rfl
    clear hlist
    go_enter Tryz.func137, Tryz.ntmps137
    go_wp2_with fail
    refine (cmpT_any _ t t').mono ?_
    rintro e w1 ⟨rfl, rfl⟩
    go_wp2_with fail
    go_ret
    exact ⟨rfl, Below.refl _ _⟩
  · rcases hb with ⟨h, _⟩ | ⟨h, _⟩ | ⟨h, _⟩ | ⟨h, _⟩ | ⟨h, _⟩ | ⟨_, ao', cap', rfl, h2', h3', h4'⟩
    all_goals first | omega | skip
    have hv : Hid (cmpV (.mk 6 n r t l) (.mk 6 n' r' t' l') = cmpL l l') := by show _ = _; rw [cmpV]; simp
    rw [hv.out]
    refine ⟨_, _, 146, rfl, fun q => by kernel_rfl, fun a q => by kernel_rfl, ?_⟩
    have hcall := hlist ao ao' cap cap' (d + 1) (d' + 1) f7 f7' hw.2.2.2 hw'.2.2.2 h4 h4' h2 h2' h3 h3'
    obtain ⟨m, hm⟩ : ∃ m, Hid (l.length = m) := ⟨_, rfl⟩
    obtain ⟨m', hm'⟩ : ∃ m, Hid (l'.length = m) := ⟨_, rfl⟩
    rw [hm.out, hm'.out] at hcall ⊢
    have hta : ∀ u : World, (Instr.typeAssert (.iface 109 (.slice ao' m' cap')) 56 109 true).run Tryz.prog u = .ok (.tuple #[.slice ao' m' cap', .bool true]) u := fun _ => by kernel_rfl
    replace hcall : Hid (Calls Tryz.prog _ _ w _) := hcall
    clear hlist hw hw' h2 h2' h3 h3' h4 h4'
    go_enter Tryz.func146, Tryz.ntmps146
    go_wp2_with fail
    refine hcall.out.mono ?_
    rintro e w1 ⟨rfl, hb⟩
    have hb' : Hid (Below w.heap.size w w1) := hb
    clear hb
    go_wp2_with fail
    go_ret
    exact ⟨rfl, hb'.out⟩
end Go.Proofs.YtdojfdnglmmhmaaGreatDoor.Va
