/-
  A reader of keys in memory; what next and stop do.
-/
import Derived.Test.YtpfnkkkfekhngaaGreatDoorVl
import Derived.Test.YtpfnkkkfekhngaaGreatDoorVm
namespace Go.Proofs.YtpfnkkkfekhngaaGreatDoor.Va
open Go.RowKit Go.Proofs.YtpfnkkkfekhngaaGreatDoor.Rl
set_option maxRecDepth 100000

theorem hide {p : Prop} (h : p) : Hid p := h
/-- At block rb lies a reader. -/
def Rst (w : World) (rb : Nat) (bv : Value) (p e L : Int) : Prop := w.heap[rb]? = some (.cells #[bv, .int .i64 p, .int .i64 e, .int .i64 L] 68 (0, 0))
theorem Rst.cells {w : World} {rb : Nat} {bv : Value} {p e L : Int} (h : Rst w rb bv p e L) : w.cell? ⟨rb, 0, none⟩ = some bv ∧ w.cell? ⟨rb, 1, none⟩ = some (.int .i64 p) ∧ w.cell? ⟨rb, 2, none⟩ = some (.int .i64 e) ∧ w.cell? ⟨rb, 3, none⟩ = some (.int .i64 L) := by
  unfold Rst at h
  refine ⟨?_, ?_, ?_, ?_⟩ <;> simp [World.cell?, h]
theorem Rst.free {w : World} {rb : Nat} {bv : Value} {p e L : Int} (h : Rst w rb bv p e L) (j : Nat) : w.frozen? ⟨rb, j, none⟩ = false := by
  unfold Rst at h
  simp [World.frozen?, h]
theorem Rst.lt {w : World} {rb : Nat} {bv : Value} {p e L : Int} (h : Rst w rb bv p e L) : rb < w.heap.size := heap_lt h
theorem Rst.num {w : World} {rb : Nat} {bv : Value} {p e L : Int} (h : Rst w rb bv p e L) : Num w rb 3 L := ⟨h.cells.2.2.2, h.free 3⟩
theorem Rst.at {w : World} {rb : Nat} {bv : Value} {p e L : Int} (h : Rst w rb bv p e L) (q : Int) : Rst (w.setCell ⟨rb, 1, none⟩ (.int .i64 q)) rb bv q e L := heap_setCell_same _ _ _ _ _ _ h
theorem Rst.err {w : World} {rb : Nat} {bv : Value} {p e L : Int} (h : Rst w rb bv p e L) (q : Int) : Rst (w.setCell ⟨rb, 2, none⟩ (.int .i64 q)) rb bv p q L := heap_setCell_same _ _ _ _ _ _ h
theorem Rst.left {w : World} {rb : Nat} {bv : Value} {p e L : Int} (h : Rst w rb bv p e L) (q : Int) : Rst (w.setCell ⟨rb, 3, none⟩ (.int .i64 q)) rb bv p e q := heap_setCell_same _ _ _ _ _ _ h
theorem Rst.drewN {w : World} {rb : Nat} {bv : Value} {p e L : Int} (h : Rst w rb bv p e L) (k : Nat) : Rst (w.drewN k) rb bv p e L := h
theorem Rst.same {w w' : World} {rb : Nat} {bv : Value} {p e L : Int} (h : Rst w rb bv p e L) (hb : w'.heap[rb]? = w.heap[rb]?) : Rst w' rb bv p e L := hb.trans h
/-- The bytes that it reads lie below it. -/
structure Src (w0 w : World) (rb : Nat) (ao : Option Addr) (B : List UInt8) : Prop where
  rd0 : Rd w0 ao B
  low : w0.heap.size ≤ rb
  bel : Below w0.heap.size w0 w
theorem Src.but {w0 w w' : World} {rb : Nat} {ao : Option Addr} {B : List UInt8} (h : Src w0 w rb ao B) (hb : But rb w w') : Src w0 w' rb ao B := ⟨h.rd0, h.low, h.bel.trans (hb.below h.low h.bel.size)⟩
theorem Src.rd {w0 w : World} {rb : Nat} {ao : Option Addr} {B : List UInt8} (h : Src w0 w rb ao B) : Rd w ao B := Below.rd h.bel h.rd0
theorem But.drewN {m : Nat} {a b : World} (h : But m a b) (k : Nat) : But m a (b.drewN k) := h.trans (But.of (Qt.below ⟨k, rfl⟩ _))
set_option maxHeartbeats 1000000 in
theorem next_ok (w0 w : World) (rb : Nat) (ao : Option Addr) (B : List UInt8) (c p : Nat) (er L : Int) (hs : Src w0 w rb ao B) (hl : B.length ≤ maxLen) (hr : Rst w rb (.slice ao B.length c) p er L) (hp : p < B.length) :
    Calls Tryz.prog 52 #[.pointer (some ⟨rb, 0, none⟩)] w fun e w' => e = .returned (.tuple #[.int .u8 (B[p].toNat : Int), .bool true]) ∧ Rst w' rb (.slice ao B.length c) ((p + 1 : Nat) : Int) er L ∧ But rb w w' := by
  obtain ⟨b, off, rfl, hc⟩ := hs.rd p hp
  obtain ⟨n, hn⟩ : ∃ n, Hid (B.length = n) := ⟨_, rfl⟩
  obtain ⟨u, hu⟩ : ∃ u, Hid ((B[p].toNat : Int) = u) := ⟨(B[p].toNat : Int), rfl⟩
  rw [hu.out] at hc ⊢
  rw [hn.out] at hl hr ⊢
  have hp2 : p < n := by rw [← hn.out]; exact hp
  have i0 : ((p : Int) == (n : Int)) = false := by simp; omega
  have i1 : (p : Int) < (n : Int) := by omega
  have i2 : (0 : Int) ≤ (p : Int) := by omega
  have hmx : n ≤ 9223372036854775807 := by unfold maxLen at hl; omega
  obtain ⟨c0, c1, c2, c3⟩ := hr.cells
  have f1 : ∀ k, (w.drewN k).frozen? ⟨rb, 1, none⟩ = false := fun k => hr.free 1
  replace hr : Hid (Rst w rb (.slice (some ⟨b, off, none⟩) n c) p er L) := hr
  clear hu hs hl hp
  go_enter Tryz.func52, Tryz.ntmps52
  go_wp2_with fail
  go_quiet (fail)
  go_wp2_with fail
  go_quiet (fail)
  go_wp2_with fail
  go_returns
  exact ⟨rfl, (hr.out.drewN _).at _, (But.drewN (But.refl _ _) _).trans (But.set _ _ _ _)⟩
theorem next_end (w : World) (rb : Nat) (ao : Option Addr) (n c : Nat) (er L : Int) (hr : Rst w rb (.slice ao n c) n er L) :
    Calls Tryz.prog 52 #[.pointer (some ⟨rb, 0, none⟩)] w fun e w' => e = .returned (.tuple #[.int .u8 0, .bool false]) ∧ Rst w' rb (.slice ao n c) n 2 L ∧ But rb w w' := by
  obtain ⟨c0, c1, c2, c3⟩ := hr.cells
  have f1 : ∀ k, (w.drewN k).frozen? ⟨rb, 2, none⟩ = false := fun k => hr.free 2
  replace hr : Hid (Rst w rb (.slice ao n c) n er L) := hr
  go_enter Tryz.func52, Tryz.ntmps52
  go_wp2_with fail
  go_quiet (fail)
  go_wp2_with fail
  go_returns
  exact ⟨rfl, (hr.out.drewN _).err _, (But.drewN (But.refl _ _) _).trans (But.set _ _ _ _)⟩
theorem stop_any (w : World) (rb : Nat) (bv : Value) (p er L q e2 : Int) (hr : Rst w rb bv p er L) :
    Calls Tryz.prog 53 #[.pointer (some ⟨rb, 0, none⟩), .int .i64 q, .int .i64 e2] w fun e w' => e = .returned (.tuple #[.nilIface, .bool false]) ∧ Rst w' rb bv q e2 L ∧ But rb w w' := by
  obtain ⟨c0, c1, c2, c3⟩ := hr.cells
  have f1 := hr.free 1
  have f2 := hr.free 2
  replace hr : Hid (Rst w rb bv p er L) := hr
  go_enter Tryz.func53, Tryz.ntmps53
  go_wp2_with fail
  go_returns
  exact ⟨rfl, (hr.out.at _).err _, (But.set _ _ _ _).trans (But.set _ _ _ _)⟩
/-- What reading comes to. -/
def RdRes (rb : Nat) (bv : Value) (w : World) (res : Res) (e : Ending) (w' : World) : Prop := But rb w w' ∧
  match res with
  | .bad q er => e = .returned (.tuple #[.nilIface, .bool false]) ∧ ∃ L : Int, Rst w' rb bv (q : Int) er L
  | .ok x q left _ => ∃ tv, e = .returned (.tuple #[tv, .bool true]) ∧ IsT (fun b => w.heap.size ≤ b) w' tv x ∧ Rst w' rb bv (q : Int) 0 (left : Int)
theorem RdRes.bad {rb : Nat} {bv : Value} {w w' : World} {q : Nat} {er L : Int} (hb : But rb w w') (h : Rst w' rb bv q er L) : RdRes rb bv w (.bad q er) (.returned (.tuple #[.nilIface, .bool false])) w' := ⟨hb, rfl, L, h⟩
theorem RdRes.ok {rb : Nat} {bv : Value} {w w' : World} {x : Val} {q left : Nat} {s : List UInt8} {tv : Value} (hb : But rb w w') (ht : IsT (fun b => w.heap.size ≤ b) w' tv x) (h : Rst w' rb bv q 0 left) : RdRes rb bv w (.ok x q left s) (.returned (.tuple #[tv, .bool true])) w' := ⟨hb, tv, rfl, ht, h⟩
def truthR (p left : Nat) (s : List UInt8) : Res := match s with
  | [] => .bad p 2
  | c :: s' => if 1 < c.toNat then .bad p 4 else .ok (.mk 2 c.toNat 0 [] []) (p + 1) left s'
theorem truth_any (w0 w : World) (rb : Nat) (ao : Option Addr) (B : List UInt8) (c p left : Nat) (hs : Src w0 w rb ao B) (hl : B.length ≤ maxLen) (hr : Rst w rb (.slice ao B.length c) p 0 left) (hp : p ≤ B.length) :
    Calls Tryz.prog 55 #[.pointer (some ⟨rb, 0, none⟩)] w (RdRes rb (.slice ao B.length c) w (truthR p left (B.drop p))) := by
  by_cases hpe : p = B.length
  · subst hpe
    have hres : Hid (truthR B.length left (B.drop B.length) = .bad B.length 2) := by show _ = _; rw [List.drop_length]; rfl
    rw [hres.out]
    have hc := hide (next_end w rb ao B.length c 0 left hr)
    obtain ⟨n, hn⟩ : ∃ n, Hid (B.length = n) := ⟨_, rfl⟩
    rw [hn.out] at hc ⊢
    clear hr hs hl hp hres
    go_enter Tryz.func55, Tryz.ntmps55
    go_wp2_with fail
    refine hc.out.mono ?_
    rintro e w1 ⟨rfl, hr1, hb⟩
    have hfin := hide (RdRes.bad hb hr1)
    clear hr1 hb
    go_wp2_with fail
    go_returns
    exact hfin.out
  · have hlt : p < B.length := by omega
    have hc := next_ok w0 w rb ao B c p 0 left hs hl hr hlt
    have hdr : B.drop p = B[p] :: B.drop (p + 1) := List.drop_eq_getElem_cons hlt
    obtain ⟨u, hu⟩ : ∃ u, Hid (B[p] = u) := ⟨B[p], rfl⟩
    rw [hu.out] at hc hdr
    have hres : Hid (truthR p left (B.drop p) = if 1 < u.toNat then .bad p 4 else .ok (.mk 2 u.toNat 0 [] []) (p + 1) left (B.drop (p + 1))) := by show _ = _; rw [hdr]; rfl
    rw [hres.out]
    have hmx : p < 9223372036854775807 := by unfold maxLen at hl; omega
    have hstop : Hid (∀ q : World, Rst q rb (.slice ao B.length c) ((p + 1 : Nat) : Int) 0 left → Calls Tryz.prog 53 #[.pointer (some ⟨rb, 0, none⟩), .int .i64 (p : Int), .int .i64 4] q fun e w' => e = .returned (.tuple #[.nilIface, .bool false]) ∧ Rst w' rb (.slice ao B.length c) p 4 left ∧ But rb q w') := fun q hq => stop_any q rb _ _ 0 left p 4 hq
    replace hc := hide (hc)
    obtain ⟨n, hn⟩ : ∃ n, Hid (B.length = n) := ⟨_, rfl⟩
    rw [hn.out] at hc hstop ⊢
    clear hu hr hs hl hp hdr hres hlt hpe
    obtain ⟨U, hU⟩ : ∃ U : Nat, Hid (u.toNat = U) := ⟨_, rfl⟩
    have hUlt : U < 256 := by rw [← hU.out]; exact u.toNat_lt
    rw [hU.out] at hc ⊢
    obtain ⟨R, hR⟩ : ∃ R, Hid ((if 1 < U then Res.bad p 4 else .ok (.mk 2 (U : Int) 0 [] []) (p + 1) left (B.drop (p + 1))) = R) := ⟨_, rfl⟩
    rw [hR.out]
    go_enter Tryz.func55, Tryz.ntmps55
    go_wp2_with fail
    refine hc.out.mono ?_
    rintro e w1 ⟨rfl, hr1, hb⟩
    have hb' : Hid (But rb w w1) := hb
    have hr1' : Hid (Rst w1 rb (.slice ao n c) ((p + 1 : Nat) : Int) 0 left) := hr1
    obtain ⟨c0, c1, c2, c3⟩ := hr1.cells
    clear hr1 hb
    by_cases hU1 : 1 < U
    · have hR2 : Hid (R = .bad p 4) := by show _ = _; rw [← hR.out, if_pos hU1]
      go_wp2_with fail
      refine (hstop.out _ hr1'.out).mono ?_
      rintro e w2 ⟨rfl, hr2, hb2⟩
      have hfin := hide (RdRes.bad (hb'.out.trans hb2) hr2)
      clear hr2 hb2
      go_wp2_with fail
      go_returns
      rw [hR2.out]
      exact hfin.out
    · have hR2 : Hid (R = .ok (.mk 2 (U : Int) 0 [] []) (p + 1) left (B.drop (p + 1))) := by show _ = _; rw [← hR.out, if_neg hU1]
      have hfin := hide (RdRes.ok (s := B.drop (p + 1)) (x := .mk 2 (U : Int) 0 [] []) (tv := .iface 100 (.int .i64 (U : Int))) hb'.out (by rw [IsT]; exact Or.inr (Or.inl ⟨rfl, rfl⟩)) hr1'.out)
      go_wp2_with fail
      go_returns
      rw [hR2.out]
      exact hfin.out
theorem or_byte (n c : Nat) (hn : n < 72057594037927936) (hc : c < 256) : bits .or .u64 ((n : Int) * 256) (c : Int) = ((n * 256 + c : Nat) : Int) := by
  show bits .or .u64 ((n * 256 : Nat) : Int) (c : Int) = _
  have h := bits_or_u64_nat (n * 256) c (by omega) (by omega)
  rw [h]
  have h2 := Nat.two_pow_add_eq_or_of_lt (b := c) (i := 8) (by omega) n
  rw [show 2 ^ 8 * n = n * 256 by omega] at h2
  rw [← h2]
set_option maxHeartbeats 1000000 in
/-- Eight bytes, or the end. -/
theorem eight_any (w0 w : World) (rb : Nat) (ao : Option Addr) (B : List UInt8) (c p left : Nat) (hs : Src w0 w rb ao B) (hl : B.length ≤ maxLen) (hr : Rst w rb (.slice ao B.length c) p 0 left) (hp : p ≤ B.length) :
    Calls Tryz.prog 70 #[.pointer (some ⟨rb, 0, none⟩)] w fun e w' => But rb w w' ∧ (((B.drop p).length < 8 ∧ e = .returned (.tuple #[.int .u64 0, .bool false]) ∧ Rst w' rb (.slice ao B.length c) B.length 2 left) ∨ (¬ (B.drop p).length < 8 ∧ e = .returned (.tuple #[.int .u64 (ofBig ((B.drop p).take 8) : Int), .bool true]) ∧ Rst w' rb (.slice ao B.length c) ((p + 8 : Nat) : Int) 0 left)) := by
  replace hs := hide hs
  replace hr := hide hr
  replace hp := hide hp
  replace hl := hide hl
  go_enter Tryz.func70, Tryz.ntmps70
  go_wp2_with fail
  go_loopw [4, 7] (fun v4 v7 wr => ∃ (i m : Nat), i ≤ 8 ∧ v7 = .int .i64 (i : Int) ∧ v4 = .int .u64 (m : Int) ∧ Hid (m = ofBig ((B.drop p).take i) ∧ p + i ≤ B.length ∧ Rst wr rb (.slice ao B.length c) ((p + i : Nat) : Int) 0 left ∧ But rb w wr)) (fun _ v _ => 8 - (intOf v).toNat)
  case atStart => exact ⟨0, 0, by omega, rfl, rfl, by rw [List.take_zero]; rfl, by have := hp.out; omega, hr.out, But.refl _ _⟩
  case round =>
    obtain ⟨i, m, hi, rfl, rfl, hI⟩ := hrel
    have hm : m < 256 ^ i ∧ ((B.drop p).take i).length = i := by
      have h1 := ofBig_lt ((B.drop p).take i)
      have h2 : ((B.drop p).take i).length = i := by rw [List.length_take, List.length_drop]; have := hI.out.2.1; omega
      rw [h2] at h1
      exact ⟨by rw [hI.out.1]; exact h1, h2⟩
    by_cases h8 : i = 8
    · subst h8
      have h1 := hide hI.out.2.2.2
      have h2 : Hid (¬ (B.drop p).length < 8) := by show ¬ _; rw [List.length_drop]; have := hI.out.2.1; omega
      have h3 := hide hI.out.1
      have h4 := hide hI.out.2.2.1
      clear hm
      go_wp2_with fail
      go_returns
      exact ⟨h1.out, Or.inr ⟨h2.out, by rw [← h3.out]; rfl, h4.out⟩⟩
    · by_cases hpe : p + i = B.length
      · have hcall := hide (next_end wr rb ao B.length c 0 left (by have := hI.out.2.2.1; rw [hpe] at this; exact this))
        have hlt : Hid ((B.drop p).length < 8) := by show _ < _; rw [List.length_drop]; omega
        have i1 : (i : Int) < 8 := by omega
        clear hm
        go_wp2_with fail
        refine hcall.out.mono ?_
        rintro e w1 ⟨rfl, hr1, hb⟩
        have h1 := hide (hI.out.2.2.2.trans hb)
        have h2 := hide hr1
        clear hr1 hb
        go_wp2_with fail
        go_returns
        exact ⟨h1.out, Or.inl ⟨hlt.out, rfl, h2.out⟩⟩
      · have hlt : p + i < B.length := by have := hI.out.2.1; omega
        have hcall := next_ok w0 wr rb ao B c (p + i) 0 left (hs.out.but hI.out.2.2.2) hl.out hI.out.2.2.1 hlt
        obtain ⟨U, hU⟩ : ∃ U : Nat, Hid (B[p + i].toNat = U) := ⟨B[p + i].toNat, rfl⟩
        have hUlt : U < 256 := by rw [← hU.out]; exact B[p + i].toNat_lt
        rw [hU.out] at hcall
        replace hcall := hide hcall
        have h7 : i ≤ 7 := by omega
        have hm7 : m < 72057594037927936 := by
          have h1 := hm.1
          have h2 : 256 ^ i ≤ 256 ^ 7 := Nat.pow_le_pow_right (by omega) h7
          have h3 : (256 : Nat) ^ 7 = 72057594037927936 := by decide
          omega
        have hor := or_byte m U hm7 hUlt
        have hstep : Hid (m * 256 + U = ofBig ((B.drop p).take (i + 1))) := by
          show _ = _
          have hdl : i < (B.drop p).length := by rw [List.length_drop]; omega
          have hg : (B.drop p)[i] = B[p + i] := List.getElem_drop ..
          rw [List.take_succ_eq_append_getElem hdl, ofBig_snoc, hI.out.1, hg, hU.out]
        have i1 : (i : Int) < 8 := by omega
        have hm8 : m * 256 < 18446744073709551616 := by omega
        clear hm hpe
        go_wp2_with fail
        refine hcall.out.mono ?_
        rintro e w1 ⟨rfl, hr1, hb⟩
        have hI2 := hide (show m * 256 + U = ofBig ((B.drop p).take (i + 1)) ∧ p + (i + 1) ≤ B.length ∧ Rst w1 rb (.slice ao B.length c) ((p + (i + 1) : Nat) : Int) 0 left ∧ But rb w w1 from ⟨hstep.out, by omega, hr1, hI.out.2.2.2.trans hb⟩)
        clear hr1 hb
        go_wp2_with fail
        go_roundw
        case rel => exact ⟨i + 1, m * 256 + U, by omega, by go_num, rfl, hI2.out⟩
        case measure => simp [intOf]; omega
theorem int_back (n : Nat) (hn : n < 18446744073709551616) : IntKind.i64.wrap (bits .xor .u64 (n : Int) 9223372036854775808) = (n : Int) - 9223372036854775808 := by
  have h := top_xor (n := (n : Int) - 9223372036854775808) (by omega) (by omega)
  rw [show ((n : Int) - 9223372036854775808 + 9223372036854775808).toNat = n by omega] at h
  have h2 : bits .xor .u64 (n : Int) 9223372036854775808 = ((((n : Int) - 9223372036854775808) % 18446744073709551616).toNat : Int) := by
    obtain ⟨a, ha⟩ : ∃ a : Nat, ((n : Int) - 9223372036854775808) % 18446744073709551616 = (a : Int) := ⟨(((n : Int) - 9223372036854775808) % 18446744073709551616).toNat, by omega⟩
    rw [ha] at h ⊢
    have ha2 : a < 18446744073709551616 := by omega
    have h9 : (9223372036854775808 : Int) = ((9223372036854775808 : Nat) : Int) := rfl
    rw [h9] at h ⊢
    rw [bits_xor_u64_nat a _ ha2 (by omega)] at h
    have h3 : a ^^^ 9223372036854775808 = n := by exact_mod_cast h
    rw [bits_xor_u64_nat n _ hn (by omega), ← h3, Nat.xor_assoc, Nat.xor_self, Nat.xor_zero]
    omega
  rw [h2, IntKind.wrap_i64]
  omega
def wholeR (p left : Nat) (s : List UInt8) : Res := if s.length < 8 then .bad (p + s.length) 2 else .ok (.mk 3 ((ofBig (s.take 8) : Int) - 9223372036854775808) 0 [] []) (p + 8) left (s.drop 8)
def realR (p left : Nat) (s : List UInt8) : Res := if s.length < 8 then .bad (p + s.length) 2 else if isKey (ofBig (s.take 8)) then .ok (.mk 4 0 (unkeyB (ofBig (s.take 8))) [] []) (p + 8) left (s.drop 8) else .bad p 4
theorem big8 {s : List UInt8} : ofBig (s.take 8) < 18446744073709551616 := by
  have h1 := ofBig_lt (s.take 8)
  have h2 : (s.take 8).length ≤ 8 := by rw [List.length_take]; omega
  have h3 : 256 ^ (s.take 8).length ≤ 256 ^ 8 := Nat.pow_le_pow_right (by omega) h2
  have h4 : (256 : Nat) ^ 8 = 18446744073709551616 := by decide
  omega
set_option maxHeartbeats 1000000 in
theorem whole_any (w0 w : World) (rb : Nat) (ao : Option Addr) (B : List UInt8) (c p left : Nat) (hs : Src w0 w rb ao B) (hl : B.length ≤ maxLen) (hr : Rst w rb (.slice ao B.length c) p 0 left) (hp : p ≤ B.length) :
    Calls Tryz.prog 56 #[.pointer (some ⟨rb, 0, none⟩)] w (RdRes rb (.slice ao B.length c) w (wholeR p left (B.drop p))) := by
  have hcall := hide (eight_any w0 w rb ao B c p left hs hl hr hp)
  have hle : (B.drop p).length = B.length - p := List.length_drop
  obtain ⟨R, hR⟩ : ∃ R, Hid (wholeR p left (B.drop p) = R) := ⟨_, rfl⟩
  rw [hR.out]
  have hx := int_back (ofBig ((B.drop p).take 8)) big8
  obtain ⟨m, hm⟩ : ∃ m, Hid (ofBig ((B.drop p).take 8) = m) := ⟨_, rfl⟩
  rw [hm.out] at hcall hx
  go_enter Tryz.func56, Tryz.ntmps56
  go_wp2_with fail
  refine hcall.out.mono ?_
  rintro e w1 ⟨hb, ⟨h1, rfl, hr1⟩ | ⟨h1, rfl, hr1⟩⟩
  · have hR2 : Hid (R = .bad B.length 2) := by show _ = _; rw [← hR.out, wholeR, if_pos h1, hle, show p + (B.length - p) = B.length by omega]
    have hb' := hide hb
    have hr' := hide hr1
    clear hb hr1 hr hs hl hle h1 hx
    go_wp2_with fail
    go_returns
    rw [hR2.out]
    exact RdRes.bad hb'.out hr'.out
  · have hR2 : Hid (R = .ok (.mk 3 ((m : Int) - 9223372036854775808) 0 [] []) (p + 8) left ((B.drop p).drop 8)) := by show _ = _; rw [← hR.out, wholeR, if_neg h1, hm.out]
    have hb' := hide hb
    have hr' := hide hr1
    have hx' := hide hx
    clear hb hr1 hr hs hl hle h1
    go_wp2_with fail
    go_returns
    rw [hR2.out]
    refine RdRes.ok hb'.out ?_ hr'.out
    rw [IsT]
    exact Or.inr (Or.inr (Or.inl ⟨rfl, by rw [← hx'.out]; rfl⟩))
set_option maxHeartbeats 1000000 in
theorem floating_any (w0 w : World) (rb : Nat) (ao : Option Addr) (B : List UInt8) (c p left : Nat) (hs : Src w0 w rb ao B) (hl : B.length ≤ maxLen) (hr : Rst w rb (.slice ao B.length c) p 0 left) (hp : p ≤ B.length) :
    Calls Tryz.prog 57 #[.pointer (some ⟨rb, 0, none⟩)] w (RdRes rb (.slice ao B.length c) w (realR p left (B.drop p))) := by
  have hcall := hide (eight_any w0 w rb ao B c p left hs hl hr hp)
  have hle : (B.drop p).length = B.length - p := List.length_drop
  obtain ⟨c0, c1, c2, c3⟩ := hr.cells
  obtain ⟨R, hR⟩ : ∃ R, Hid (realR p left (B.drop p) = R) := ⟨_, rfl⟩
  rw [hR.out]
  have hun := fun q => unkey_any q (ofBig ((B.drop p).take 8)) big8
  obtain ⟨m, hm⟩ : ∃ m, Hid (ofBig ((B.drop p).take 8) = m) := ⟨_, rfl⟩
  rw [hm.out] at hcall hun
  replace hun := hide hun
  go_enter Tryz.func57, Tryz.ntmps57
  go_wp2_with fail
  refine hcall.out.mono ?_
  rintro e w1 ⟨hb, ⟨h1, rfl, hr1⟩ | ⟨h1, rfl, hr1⟩⟩
  · have hR2 : Hid (R = .bad B.length 2) := by show _ = _; rw [← hR.out, realR, if_pos h1, hle, show p + (B.length - p) = B.length by omega]
    have hb' := hide hb
    have hr' := hide hr1
    clear hb hr1 hr hs hl hle h1 c0 c1 c2 c3
    go_wp2_with fail
    go_returns
    rw [hR2.out]
    exact RdRes.bad hb'.out hr'.out
  · have hb' := hide hb
    have hr' := hide hr1
    have hRk : Hid (R = if isKey m then .ok (.mk 4 0 (unkeyB m) [] []) (p + 8) left ((B.drop p).drop 8) else .bad p 4) := by show _ = _; rw [← hR.out, realR, if_neg h1, hm.out]
    clear hb hr1 hr hs hl hle h1 c0 c1 c2 c3
    go_wp2_with fail
    refine (hun.out _).mono ?_
    rintro e _ ⟨rfl, rfl⟩
    obtain ⟨K, hK⟩ : ∃ K, Hid (isKey m = K) := ⟨_, rfl⟩
    obtain ⟨u, hu⟩ : ∃ u, Hid (unkeyB m = u) := ⟨_, rfl⟩
    rw [hK.out, hu.out] at hRk ⊢
    cases K with
    | false =>
      have hR2 : Hid (R = .bad p 4) := hRk.out
      have hst := hide (stop_any _ rb _ _ 0 left p 4 hr'.out)
      go_wp2_with fail
      refine hst.out.mono ?_
      rintro e w2 ⟨rfl, hr2, hb2⟩
      have hb3 := hide (hb'.out.trans hb2)
      have hr3 := hide hr2
      clear hr2 hb2
      go_wp2_with fail
      go_returns
      rw [hR2.out]
      exact RdRes.bad hb3.out hr3.out
    | true =>
      have hR2 : Hid (R = .ok (.mk 4 0 u [] []) (p + 8) left ((B.drop p).drop 8)) := hRk.out
      go_wp2_with fail
      go_returns
      rw [hR2.out]
      refine RdRes.ok hb'.out ?_ hr'.out
      rw [IsT]
      exact Or.inr (Or.inr (Or.inr (Or.inl ⟨rfl, rfl⟩)))
end Go.Proofs.YtpfnkkkfekhngaaGreatDoor.Va
