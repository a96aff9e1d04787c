/-
  A thing's methods: which function a call through the interface comes to; kind and size.
-/
import Derived.Test.YtpfnkkkfekhngaaGreatDoorVh
namespace Go.Proofs.YtpfnkkkfekhngaaGreatDoor.Va
open Go.RowKit Go.Proofs.YtpfnkkkfekhngaaGreatDoor.Rl
set_option maxRecDepth 100000

/-- A method, called through the interface. -/
def Disp (name : String) (tv : Value) (args : List Value) (w : World) (Q : Ending → World → Prop) : Prop :=
  ∃ T u f, tv = .iface T u ∧ (∀ q, (method 258 T u name).run Tryz.prog q = .ok (f, u) q) ∧ (∀ a q, (callFunc f a).run Tryz.prog q = .ok (.enter f a) q) ∧ Calls Tryz.prog f (u :: args).toArray w Q
theorem okL_at {d : Nat} {l : List Val} {i : Nat} (h : okL d l = true) (hi : i < l.length) : okV d l[i] = true := by
  have h1 := okL_split d l (i + 1)
  rw [okL_take _ hi, h] at h1
  simp at h1
  exact h1.1.2
theorem size_list (l : List Val) (d : Nat) (S : Nat → Prop) (w : World) (ao : Option Addr) (cap : Nat) (ih : ∀ x ∈ l, ∀ q tv, okV d x = true → szV x ≤ 65536 → IsT S q tv x → Disp "flume/value.size" tv [] q fun e w' => e = .returned (.int .i64 (szV x : Int)) ∧ Below q.heap.size q w')
    (hok : okL d l = true) (hsz : szL l ≤ 65535) (hl : IsTL S w ao 0 l) (h2 : l.length ≤ cap) (h3 : cap ≤ maxLen) :
    Calls Tryz.prog 149 #[.slice ao l.length cap] w fun e w' => e = .returned (.int .i64 ((1 + szL l : Nat) : Int)) ∧ Below w.heap.size w w' := by
  obtain ⟨n, hn⟩ : ∃ n, Hid (l.length = n) := ⟨_, rfl⟩
  rw [hn.out] at h2 ⊢
  have hcap : n ≤ 9223372036854775807 := by unfold maxLen at h3; omega
  replace hl : Hid (IsTL S w ao 0 l) := hl
  replace ih : Hid (∀ x ∈ l, ∀ q tv, okV d x = true → szV x ≤ 65536 → IsT S q tv x → Disp "flume/value.size" tv [] q fun e w' => e = .returned (.int .i64 (szV x : Int)) ∧ Below q.heap.size q w') := ih
  replace hok : Hid (okL d l = true) := hok
  replace hsz : Hid (szL l ≤ 65535) := hsz
  clear h3
  go_enter Tryz.func149, Tryz.ntmps149
  go_wp2_with fail
  go_loopw [3, 8] (fun v3 v8 wr => ∃ (i z : Nat), i ≤ n ∧ v8 = .int .i64 (i : Int) ∧ v3 = .int .i64 (z : Int) ∧ Hid (z = 1 + szL (l.take i)) ∧ Hid (Below w.heap.size w wr)) (fun _ v _ => n - (intOf v).toNat)
  case atStart => exact ⟨0, 1, by omega, rfl, rfl, by show _ = _; rw [List.take_zero, szL], Below.refl _ _⟩
  case round =>
    obtain ⟨i, z, hi, rfl, rfl, hz, hB⟩ := hrel
    by_cases hin : i = n
    · have hil : Hid (z = 1 + szL l) := by show _ = _; rw [hz.out, List.take_of_length_le (by have := hn.out; omega)]
      subst hin
      go_wp2_with fail
      go_ret
      exact ⟨by rw [← hil.out]; rfl, hB.out⟩
    · have hil : i < l.length := by have := hn.out; omega
      have i1 : (i : Int) < (n : Int) := by omega
      have i2 : (0 : Int) ≤ (i : Int) := by omega
      obtain ⟨b, off, c, rfl, _, hc, hx⟩ := IsTL.get hl.out i hil
      rw [Nat.zero_add] at hc
      replace hc := (hB.out.cell (lt_of_cell hc)).trans hc
      replace hx := hx.below hB.out
      have hsp := szL_split l (i + 1)
      rw [szL_take hil] at hsp
      have hsx : szV l[i] ≤ 65536 := by have := hsz.out; omega
      obtain ⟨T, u, f, rfl, hme, hen, hcall⟩ := ih.out l[i] (List.getElem_mem hil) wr c (okL_at hok.out hil) hsx hx
      obtain ⟨s, hs⟩ : ∃ s, Hid (szV l[i] = s) := ⟨szV l[i], rfl⟩
      rw [hs.out] at hcall hsx
      have hz1 : z + s ≤ 65536 := by have := hz.out; have := hs.out; have := hsz.out; omega
      have hz2 : Hid (z + s = 1 + szL (l.take (i + 1))) := by show _ = _; rw [szL_take hil, hs.out, hz.out]; omega
      replace hcall : Hid (Calls Tryz.prog f [u].toArray wr fun e w' => e = .returned (.int .i64 (s : Int)) ∧ Below wr.heap.size wr w') := hcall
      clear hsp hx
      go_wp2_with fail
      refine hcall.out.mono ?_
      rintro e w1 ⟨rfl, hb⟩
      have hB1 : Hid (Below w.heap.size w w1) := keepV hb hB.out
      clear hc hb
      go_wp2_with fail
      go_roundw
      case rel => exact ⟨i + 1, z + s, by omega, by go_num, by go_num, hz2.out, hB1.out⟩
      case measure => simp [intOf]; omega
/-- A value that has its form, by its kind. -/
theorem ok_free {d : Nat} {k n : Int} {r : Nat} {t : List UInt8} {l : List Val} (h : okV d (.mk k n r t l) = true) : (k ≠ 6 → l = []) ∧ (k ≠ 5 → t = []) ∧ (k ≠ 4 → r = 0) ∧ (k ≠ 2 → k ≠ 3 → n = 0) ∧ (k = 2 → 0 ≤ n ∧ n ≤ 1) ∧ (k = 6 → d < 8) ∧ okL (d + 1) l = true := by
  obtain ⟨p1, q1, r1⟩ := okV_parts h
  obtain ⟨a1, a2, a3, a4, a5, a6, a7⟩ := plain_of p1
  exact ⟨fun e => by simpa using a6 e, a5, a4, a3, a7, q1, r1⟩
theorem nilSize (w : World) : Calls Tryz.prog 109 #[.agg #[]] w fun e w' => e = .returned (.int .i64 1) ∧ Below w.heap.size w w' := by
  go_enter Tryz.func109, Tryz.ntmps109
  go_wp2
  go_ret
  exact ⟨rfl, by first | exact Below.refl _ _ | exact box_below _ _⟩
theorem boolSize (w : World) (n : Int) : Calls Tryz.prog 114 #[.int .i64 n] w fun e w' => e = .returned (.int .i64 1) ∧ Below w.heap.size w w' := by
  go_enter Tryz.func114, Tryz.ntmps114
  go_wp2
  go_ret
  exact ⟨rfl, by first | exact Below.refl _ _ | exact box_below _ _⟩
theorem intSize (w : World) (n : Int) : Calls Tryz.prog 121 #[.int .i64 n] w fun e w' => e = .returned (.int .i64 1) ∧ Below w.heap.size w w' := by
  go_enter Tryz.func121, Tryz.ntmps121
  go_wp2
  go_ret
  exact ⟨rfl, by first | exact Below.refl _ _ | exact box_below _ _⟩
theorem realSize (w : World) (r : Nat) : Calls Tryz.prog 129 #[.float .f64 r] w fun e w' => e = .returned (.int .i64 1) ∧ Below w.heap.size w w' := by
  go_enter Tryz.func129, Tryz.ntmps129
  go_wp2
  go_ret
  exact ⟨rfl, by first | exact Below.refl _ _ | exact box_below _ _⟩
theorem textSize (w : World) (t : List UInt8) (h : t.length ≤ 65535) : Calls Tryz.prog 140 #[.string (bstr t)] w fun e w' => e = .returned (.int .i64 ((1 + t.length : Nat) : Int)) ∧ Below w.heap.size w w' := by
  obtain ⟨s, hs⟩ : ∃ s, Hid (t.length = s) := ⟨_, rfl⟩
  have kbs : (bstr t).size = s := by rw [← hs.out]; rfl
  rw [hs.out] at h ⊢
  go_enter Tryz.func140, Tryz.ntmps140
  go_wp2
  go_ret
  exact ⟨ret_int (by omega), Below.refl _ _⟩
theorem size_any (x : Val) : ∀ (d : Nat) (S : Nat → Prop) (w : World) (tv : Value), okV d x = true → szV x ≤ 65536 → IsT S w tv x → Disp "flume/value.size" tv [] w fun e w' => e = .returned (.int .i64 (szV x : Int)) ∧ Below w.heap.size w w' := by
  induction x using Val.ind with
  | h k n r t l ih =>
    intro d S w tv ho hs ht
    obtain ⟨f1, f2, f3, f4, f5, f6, f7⟩ := ok_free ho
    rw [szV] at hs ⊢
    rw [IsT] at ht
    have z0 : szL ([] : List Val) = 0 := by rw [szL]
    rcases ht with ⟨rfl, rfl⟩ | ⟨rfl, rfl⟩ | ⟨rfl, rfl⟩ | ⟨rfl, rfl⟩ | ⟨rfl, rfl⟩ | ⟨rfl, ao, cap, rfl, h2, h3, h4⟩
    · rw [f1 (by omega), f2 (by omega), z0]
      exact ⟨_, _, 109, rfl, fun q => by kernel_rfl, fun a q => by kernel_rfl, nilSize w⟩
    · rw [f1 (by omega), f2 (by omega), z0]
      exact ⟨_, _, 114, rfl, fun q => by kernel_rfl, fun a q => by kernel_rfl, boolSize w n⟩
    · rw [f1 (by omega), f2 (by omega), z0]
      exact ⟨_, _, 121, rfl, fun q => by kernel_rfl, fun a q => by kernel_rfl, intSize w n⟩
    · rw [f1 (by omega), f2 (by omega), z0]
      exact ⟨_, _, 129, rfl, fun q => by kernel_rfl, fun a q => by kernel_rfl, realSize w r⟩
    · rw [f1 (by omega), z0] at hs ⊢
      exact ⟨_, _, 140, rfl, fun q => by kernel_rfl, fun a q => by kernel_rfl, textSize w t (by omega)⟩
    · rw [f2 (by omega)] at hs ⊢
      refine ⟨_, _, 149, rfl, fun q => by kernel_rfl, fun a q => by kernel_rfl, ?_⟩
      simp only [List.length_nil, Nat.add_zero] at hs ⊢
      exact size_list l (d + 1) S w ao cap (fun x hx q tv a b c => ih x hx (d + 1) S q tv a b c) f7 (by omega) h4 h2 h3
theorem kind_any (S : Nat → Prop) (w : World) (tv : Value) (k n : Int) (r : Nat) (t : List UInt8) (l : List Val) (h : IsT S w tv (.mk k n r t l)) : ∃ T u f, tv = .iface T u ∧ (∀ q, (method 258 T u "flume/value.kind").run Tryz.prog q = .ok (f, u) q) ∧ (∀ a q, (callFunc f a).run Tryz.prog q = .ok (.enter f a) q) ∧ ∀ q0, Calls Tryz.prog f [u].toArray q0 fun e w' => e = .returned (.int .i64 k) ∧ Below q0.heap.size q0 w' := by
  rw [IsT] at h
  rcases h with ⟨rfl, rfl⟩ | ⟨rfl, rfl⟩ | ⟨rfl, rfl⟩ | ⟨rfl, rfl⟩ | ⟨rfl, rfl⟩ | ⟨rfl, ao, cap, rfl, h2, h3, h4⟩
  · refine ⟨_, _, 107, rfl, fun q => by kernel_rfl, fun a q => by kernel_rfl, fun q0 => ?_⟩
    go_enter Tryz.func107, Tryz.ntmps107
    go_wp2
    go_ret
    exact ⟨rfl, by first | exact Below.refl _ _ | exact box_below _ _⟩
  · refine ⟨_, _, 112, rfl, fun q => by kernel_rfl, fun a q => by kernel_rfl, fun q0 => ?_⟩
    go_enter Tryz.func112, Tryz.ntmps112
    go_wp2
    go_ret
    exact ⟨rfl, by first | exact Below.refl _ _ | exact box_below _ _⟩
  · refine ⟨_, _, 119, rfl, fun q => by kernel_rfl, fun a q => by kernel_rfl, fun q0 => ?_⟩
    go_enter Tryz.func119, Tryz.ntmps119
    go_wp2
    go_ret
    exact ⟨rfl, by first | exact Below.refl _ _ | exact box_below _ _⟩
  · refine ⟨_, _, 127, rfl, fun q => by kernel_rfl, fun a q => by kernel_rfl, fun q0 => ?_⟩
    go_enter Tryz.func127, Tryz.ntmps127
    go_wp2
    go_ret
    exact ⟨rfl, by first | exact Below.refl _ _ | exact box_below _ _⟩
  · refine ⟨_, _, 138, rfl, fun q => by kernel_rfl, fun a q => by kernel_rfl, fun q0 => ?_⟩
    go_enter Tryz.func138, Tryz.ntmps138
    go_wp2
    go_ret
    exact ⟨rfl, by first | exact Below.refl _ _ | exact box_below _ _⟩
  · refine ⟨_, _, 147, rfl, fun q => by kernel_rfl, fun a q => by kernel_rfl, fun q0 => ?_⟩
    go_enter Tryz.func147, Tryz.ntmps147
    go_wp2
    go_ret
    exact ⟨rfl, by first | exact Below.refl _ _ | exact box_below _ _⟩
end Go.Proofs.YtpfnkkkfekhngaaGreatDoor.Va
