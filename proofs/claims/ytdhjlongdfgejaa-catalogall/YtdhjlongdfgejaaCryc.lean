/-
  What flumeref1's Varint, Fixed, String, Zig and Zag answer: the same forms.
-/
import Derived.Test.YtdhjlongdfgejaaFixed
import Derived.Test.YtdhjlongdfgejaaStr
import Derived.Test.YtdhjlongdfgejaaCrcz
import Derived.Deep.RegionHeld3
import Derived.Test.YtdhjlongdfgejaaCtV
import Derived.Test.YtdhjlongdfgejaaCtJ
import Derived.Test.YtdhjlongdfgejaaCtD
namespace Go.Proofs.Ytdhjlongdfgejaa
open Go.RowKit

theorem bval_add (m : Nat) : Value.int .u8 ((m : Int) % 128 + 128) = bval (UInt8.ofNat (m % 128 + 128)) := by
  rw [← u8_of _ (by omega)]
  simp
set_option maxRecDepth 100000 in
set_option maxHeartbeats 800000 in
theorem refVarint_any (w : World) (n : Int) (h0 : 0 ≤ n) (hn : n < 18446744073709551616) :
    Calls Try.prog 30 #[.int .u64 n] w fun e w' => ∃ v', e = .returned v' ∧ w'.ownsRow w.heap.size 5 1 v' (enc n.toNat).length (bvals (enc n.toNat)) ∧ Below w.heap.size w w' := by
  obtain ⟨n, rfl⟩ := Int.eq_ofNat_of_zero_le h0
  rw [Int.toNat_natCast]
  have HN : n < 18446744073709551616 := by omega
  clear h0 hn
  obtain ⟨i0, hi, hz0, hz1, hz2⟩ := info_parts Try.infoU8
  go_enter Try.func30, Try.ntmps30
  go_wp2
  go_loopw [0, 3] (fun x v wr => ∃ (m : Nat) (d : List UInt8), m < 18446744073709551616 ∧ x = .int .u64 m ∧ Hid (enc n = d ++ enc m) ∧ wr.ownsRow w.heap.size 5 1 v d.length (bvals d) ∧ Below w.heap.size w wr) (fun x _ _ => (intOf x).toNat)
  case atStart => exact ⟨n, [], HN, rfl, by simp [Hid], World.ownsRow_nil _ _ _ _, Below.refl _ _⟩
  case round =>
    obtain ⟨m, d, hm, rfl, henc, hown, hbel⟩ := hrel
    have hel := enc_len n
    have hsz := hbel.size
    by_cases hlt : m < 128
    · have hd : d.length ≤ 9 := by
        have h1 := enc_pos m
        rw [henc.out, List.length_append] at hel; omega
      clear hel
      go_wp2_with (at_builtin; refine wpList_append_own _ rfl (.tmp 15) (.tmp 18) 31 rfl w.heap.size 5 i0 (.int .u8 0) 1 1 Try.underlying31 hi hz0 hz1 hz2 rfl (by decide) _ _ _ rfl (hown.alloc _) ⟨wr.heap.size, 0, none⟩ 1 1 [.int .u8 m] rfl rfl (cell_one_new _ _ _) (by simp [Value.oneCell']) (by simp [maxLen]; omega) (by simp; omega) (by simp; omega) ?_)
      intro v' w1 hown' hgrow _
      rw [u8_of m (by omega), bvals_one] at hown'
      have hb1 : Below w.heap.size w w1 := (hbel.alloc (by omega) _).grown hgrow (by simp; omega) (fun k hk => (hown.lt k hk).1)
      go_wp2
      go_ret
      refine ⟨_, rfl, ?_, hb1⟩
      rw [henc.out, enc_small hlt]
      simpa [Nat.add_assoc] using hown'
    · have hd : d.length ≤ 8 := by
        have h1 := enc_pos (m / 128)
        rw [henc.out, enc_big (by omega) (by omega), List.length_append, List.length_cons] at hel; omega
      clear hel
      go_wp2_with (at_builtin; refine wpList_append_own _ rfl (.tmp 6) (.tmp 11) 31 rfl w.heap.size 5 i0 (.int .u8 0) 1 1 Try.underlying31 hi hz0 hz1 hz2 rfl (by decide) _ _ _ rfl (hown.alloc _) ⟨wr.heap.size, 0, none⟩ 1 1 [_] rfl rfl (cell_one_new _ _ _) (by simp [Value.oneCell']) (by simp [maxLen]; omega) (by simp; omega) (by simp; omega) ?_)
      intro v' w1 hown' hgrow _
      rw [bval_add, bvals_one] at hown'
      have hb1 : Below w.heap.size w w1 := (hbel.alloc (by omega) _).grown hgrow (by simp; omega) (fun k hk => (hown.lt k hk).1)
      go_wp2
      go_roundw
      case rel =>
        refine ⟨m / 128, d ++ [UInt8.ofNat (m % 128 + 128)], by omega, by go_num, ?_, ?_, hb1⟩
        · show _ = _
          rw [henc.out, enc_big (by omega) hm]; simp
        · simpa [Nat.add_assoc] using hown'
      case measure => simp [intOf]; omega
set_option maxRecDepth 100000 in
set_option maxHeartbeats 800000 in
theorem refFixed_any (w : World) (n : Int) (s : Nat) (h0 : 0 ≤ n) (hn : n < 18446744073709551616) (hs : s ≤ 8) :
    Calls Try.prog 31 #[.int .u64 n, .int .i64 (s : Int)] w fun e w' => ∃ v', e = .returned v' ∧ w'.ownsRow w.heap.size 5 1 v' (fx s n.toNat).length (bvals (fx s n.toNat)) ∧ Below w.heap.size w w' := by
  obtain ⟨n, rfl⟩ := Int.eq_ofNat_of_zero_le h0
  rw [Int.toNat_natCast]
  have HN : n < 18446744073709551616 := by omega
  clear h0 hn
  obtain ⟨i0, hi, hz0, hz1, hz2⟩ := info_parts Try.infoU8
  go_enter Try.func31, Try.ntmps31
  go_wp2
  go_loopw [0, 5, 6] (fun x v i wr => ∃ (k m : Nat) (d : List UInt8), k ≤ s ∧ m < 18446744073709551616 ∧ x = .int .u64 m ∧ i = .int .i64 k ∧ Hid (fx s n = d ++ fx (s - k) m) ∧ d.length = k ∧ wr.ownsRow w.heap.size 5 1 v d.length (bvals d) ∧ Below w.heap.size w wr) (fun _ _ i _ => s - (intOf i).toNat)
  case atStart => exact ⟨0, n, [], Nat.zero_le _, HN, rfl, rfl, by simp [Hid], rfl, World.ownsRow_nil _ _ _ _, Below.refl _ _⟩
  case round =>
    obtain ⟨k, m, d, hk, hm, rfl, rfl, henc, hdl, hown, hbel⟩ := hrel
    have hsz := hbel.size
    have HDL : Hid (d.length = k) := hdl
    have hd8 : d.length ≤ 8 := by omega
    clear hdl
    by_cases hlt : k < s
    · go_wp2_with (at_builtin; refine wpList_append_own _ rfl (.tmp 12) (.tmp 16) 31 rfl w.heap.size 5 i0 (.int .u8 0) 1 1 Try.underlying31 hi hz0 hz1 hz2 rfl (by decide) _ _ _ rfl (hown.alloc _) ⟨wr.heap.size, 0, none⟩ 1 1 [_] rfl rfl (cell_one_new _ _ _) (by simp [Value.oneCell']) (by simp [maxLen]; omega) (by simp; omega) (by simp; omega) ?_)
      intro v' w1 hown' hgrow _
      have eb : Value.int .u8 ((m : Int) % 256) = bval (UInt8.ofNat (m % 256)) := by rw [← u8_of _ (by omega)]; simp
      rw [eb, bvals_one] at hown'
      have hb1 : Below w.heap.size w w1 := (hbel.alloc (by omega) _).grown hgrow (by simp; omega) (fun k hk => (hown.lt k hk).1)
      clear eb
      go_wp2
      go_roundw
      case rel =>
        refine ⟨k + 1, m / 256, d ++ [UInt8.ofNat (m % 256)], by omega, by omega, by go_num, by go_num, ?_, by simp [HDL.out], ?_, hb1⟩
        · show _ = _
          obtain ⟨q, hq⟩ : ∃ q, s - k = q + 1 := ⟨s - k - 1, by omega⟩
          rw [henc.out, hq, fx, show s - (k + 1) = q by omega]; simp
        · simpa using hown'
      case measure => simp [intOf]; omega
    · have HE : Hid (fx s n = d) := by
        show _ = _
        rw [henc.out, show s - k = 0 by omega]; simp [fx]
      go_wp2
      go_ret
      exact ⟨_, rfl, by rw [HE.out]; exact hown, hbel⟩
end Go.Proofs.Ytdhjlongdfgejaa

/-
  What the document's own functions of the second layer answer (flumeref2): step, More, Sum, do, moved, Join, Zeros.
-/
namespace Go.Proofs.Ytdhjlongdfgejaa.Crc
open Go.RowKit

theorem mod2 (c : R) : (c.toNat : Int) % 2 = if c.getLsbD 0 then 1 else 0 := by
  have h : c.getLsbD 0 = decide (c.toNat % 2 = 1) := by rw [BitVec.getLsbD, Nat.testBit_zero]
  rw [h]
  by_cases h1 : c.toNat % 2 = 1
  · simp [h1]; omega
  · rw [if_neg (by simpa using h1)]; omega

set_option maxRecDepth 100000 in
set_option maxHeartbeats 400000 in
theorem refStep_any (w : World) (c : R) :
    Calls Try.prog 68 #[.int .u32 (c.toNat : Int)] w fun e w' => e = .returned (.int .u32 ((st 8 c).toNat : Int)) ∧ w' = w := by
  go_enter Try.func68, Try.ntmps68
  go_wp2
  go_loopw [0, 3] (fun vc vi wr => ∃ k : Nat, k ≤ 8 ∧ vc = .int .u32 ((st k c).toNat : Int) ∧ vi = .int .i64 (k : Int) ∧ wr = w) (fun _ i _ => 8 - (intOf i).toNat)
  case atStart => exact ⟨0, by omega, rfl, rfl, rfl⟩
  case round =>
    obtain ⟨k, hk, rfl, rfl, rfl⟩ := hrel
    by_cases h8 : k < 8
    · have hlt := lt32 (st k c)
      have hm := mod2 (st k c)
      cases hb : (st k c).getLsbD 0 with
      | true =>
        rw [hb, if_pos rfl] at hm
        have hx := xor_poly (st k c)
        have HN : Hid ((st k c) >>> 1 ^^^ poly = st (k + 1) c) := by show _ = _; rw [st_succ', s1, hb]; rfl
        rw [HN.out] at hx
        clear hb
        go_wp2
        go_roundw
        case rel => exact ⟨k + 1, by omega, rfl, by go_num, by trivial⟩
        case measure => simp [intOf]; omega
      | false =>
        rw [hb] at hm
        simp only [Bool.false_eq_true, if_false] at hm
        have hx := half (st k c)
        have HN : Hid ((st k c) >>> 1 = st (k + 1) c) := by show _ = _; rw [st_succ', s1, hb]; rfl
        rw [HN.out] at hx
        clear hb
        go_wp2
        go_roundw
        case rel => exact ⟨k + 1, by omega, rfl, by go_num, by trivial⟩
        case measure => simp [intOf]; omega
    · obtain rfl : k = 8 := by omega
      go_wp2
      go_ret
      exact ⟨rfl, rfl⟩

theorem xor_byte (c : R) (x : UInt8) : bits BinOp.xor IntKind.u32 (c.toNat : Int) (x.toNat : Int) = ((c ^^^ byte x).toNat : Int) := by
  have h2 : x.toNat < 2 ^ 32 := by have := x.toNat_lt; omega
  have e : (byte x).toNat = x.toNat := by rw [byte, BitVec.toNat_ofNat, Nat.mod_eq_of_lt h2]
  rw [← b_xor, e]

set_option maxRecDepth 100000 in
set_option maxHeartbeats 400000 in
theorem refMore_any (w : World) (sum : R) (v : Value) (l : List UInt8) (hv : Sl w v l) :
    Calls Try.prog 52 #[.int .u32 (sum.toNat : Int), v] w fun e w' => e = .returned (.int .u32 ((more sum l).toNat : Int)) ∧ w' = w := by
  obtain ⟨ao, ca, rfl, h2, h3, h4, h5⟩ := hv
  have hca : ca ≤ 9223372036854775807 := by unfold maxLen at h4; omega
  clear h2 h4
  have hxo := xor_ones sum
  obtain ⟨c0, hc0⟩ : ∃ c0, c0 = sum ^^^ ones := ⟨_, rfl⟩
  have HM : Hid (more sum l = feed c0 l ^^^ ones) := by show _ = _; rw [hc0]; rfl
  rw [← hc0] at hxo
  clear hc0
  go_enter Try.func52, Try.ntmps52
  go_wp2
  clear hxo
  go_loopw [5, 6] (fun vc vi wr => ∃ k : Nat, k ≤ l.length ∧ vc = .int .u32 ((feed c0 (l.take k)).toNat : Int) ∧ vi = .int .i64 (k : Int) ∧ wr = w) (fun _ i _ => l.length - (intOf i).toNat)
  case atStart => exact ⟨0, Nat.zero_le _, rfl, rfl, rfl⟩
  case round =>
    obtain ⟨k, hk, rfl, rfl, rfl⟩ := hrel
    by_cases hlt : k < l.length
    · obtain ⟨b1, o1, rfl, hb⟩ := h5.at (by omega)
      have d2 := hb k hlt
      have HF : Hid (st 8 (feed c0 (l.take k) ^^^ byte l[k]) = feed c0 (l.take (k + 1))) := (feed_snoc c0 l k hlt).symm
      obtain ⟨c, hc⟩ : ∃ c, c = feed c0 (l.take k) := ⟨_, rfl⟩
      obtain ⟨x, hx⟩ : ∃ x, x = l[k] := ⟨_, rfl⟩
      rw [← hx] at d2 HF
      rw [← hc] at HF ⊢
      have hxb := xor_byte c x
      obtain ⟨d, hd⟩ : ∃ d, d = c ^^^ byte x := ⟨_, rfl⟩
      rw [← hd] at hxb HF
      have hxl8 := x.toNat_lt
      clear hx hc hb hd
      go_wp2_with fail
      refine (refStep_any _ d).mono ?_
      rintro e _ ⟨rfl, rfl⟩
      rw [HF.out]
      go_wp2_with fail
      go_roundw
      case rel => exact ⟨k + 1, by omega, rfl, by go_num, by trivial⟩
      case measure => simp [intOf]; omega
    · obtain rfl : k = l.length := by omega
      have hxo := xor_ones (feed c0 l)
      rw [List.take_length]
      rw [← HM.out] at hxo
      go_wp2_with fail
      go_ret
      exact ⟨rfl, rfl⟩

theorem refSum_any (w : World) (v : Value) (l : List UInt8) (hv : Sl w v l) :
    Calls Try.prog 32 #[v] w fun e w' => e = .returned (.int .u32 ((more 0#32 l).toNat : Int)) ∧ w' = w := by
  have hv0 := hv
  obtain ⟨ao, ca, rfl, h2, h3, h4, h5⟩ := hv
  clear h2 h3 h4 h5
  go_enter Try.func32, Try.ntmps32
  go_wp2_with fail
  refine (refMore_any _ 0#32 _ l hv0).mono ?_
  rintro e w1 ⟨rfl, rfl⟩
  go_wp2
  go_ret
  exact ⟨rfl, rfl⟩
#print axioms refSum_any
end Go.Proofs.Ytdhjlongdfgejaa.Crc

/-
  The document's Write and At.
-/
namespace Go.Proofs.Ytdhjlongdfgejaa.Ct
open Go.RowKit

/-- Bytes that are being written, beside a catalog in block cb and something else in block xb. -/
structure Wb (w u : World) (v : Value) (out : List UInt8) (cb : Nat) (cs : Array Value) (xb : Nat) (xs : Array Value) (xT : TypeId) : Prop where
  be : Below w.heap.size w u
  bf : Bf w.heap.size u v out
  cg : u.heap[cb]? = some (.cells cs 29 (0, 0))
  xg : u.heap[xb]? = some (.cells xs xT (0, 0))
  xn : xT ≠ 5
theorem Wb.below {w u u' : World} {v : Value} {out : List UInt8} {cb : Nat} {cs : Array Value} {xb : Nat} {xs : Array Value} {xT : TypeId} (h : Wb w u v out cb cs xb xs xT) (hb : Below u.heap.size u u') : Wb w u' v out cb cs xb xs xT :=
  ⟨keepF h.be hb, h.bf.below hb, by rw [hb.block _ (heap_lt h.cg)]; exact h.cg, by rw [hb.block _ (heap_lt h.xg)]; exact h.xg, h.xn⟩
theorem Wb.app {w u u' : World} {v v' : Value} {out out' : List UInt8} {cb : Nat} {cs : Array Value} {xb : Nat} {xs : Array Value} {xT : TypeId} (h : Wb w u v out cb cs xb xs xT) (hb : Bs w.heap.size u' v' out') (hg : u.grownBy u' v.ownBlock) : Wb w u' v' out' cb cs xb xs xT :=
  ⟨Below.grown h.be hg h.be.size (fun k hk => (h.bf.lt k hk).1), .inl hb, by rw [hg.block _ (heap_lt h.cg) (fun e => h.bf.no h.cg (by decide) e.symm)]; exact h.cg, by rw [hg.block _ (heap_lt h.xg) (fun e => h.bf.no h.xg h.xn e.symm)]; exact h.xg, h.xn⟩
theorem Wb.other {w u : World} {v : Value} {out : List UInt8} {cb : Nat} {cs : Array Value} {xb : Nat} {xs : Array Value} {xT : TypeId} (h : Wb w u v out cb cs xb xs xT) {yb : Nat} {ys : Array Value} {yT : TypeId} (hy : u.heap[yb]? = some (.cells ys yT (0, 0))) (hn : yT ≠ 5) : Wb w u v out cb cs yb ys yT := ⟨h.be, h.bf, h.cg, hy, hn⟩
def enc3 (ns : List Nat) : List UInt8 := ns.flatMap enc
theorem three3 {w : World} {b : Nat} {a0 a1 a2 : Value} {T : TypeId} (h : w.heap[b]? = some (.cells #[a0, a1, a2] T (0, 0))) (i : Nat) (x : Value) (hx : (#[a0, a1, a2] : Array Value)[i]? = some x) : w.cell? ⟨b, i, none⟩ = some x := by
  simp only [World.cell?, h]
  simpa using hx
set_option maxRecDepth 20000 in
set_option maxHeartbeats 4000000 in
theorem refWrite_any : DoesWrite 10 := by
  intro w g fi v l hv hg hfi
  obtain ⟨N, hN⟩ : ∃ N, Hid (l.length = N) := ⟨_, rfl⟩
  obtain ⟨ao, ca, rfl, q1, q2⟩ := hv.form
  rw [hN.out] at hv q1 ⊢
  have hB := hide (box_below w (.cells #[.int .i64 g, .int .i64 fi, .slice ao N ca] 29))
  have CALL := hide (refMay_any _ g fi _ l (hv.below hB.out))
  have hb1 := hide (heap_alloc_new w (.cells #[.int .i64 g, .int .i64 fi, .slice ao N ca] 29))
  by_cases hm : ¬ May g fi l
  · rw [mayB_f hm] at CALL
    have hE : Hid (writeF g fi l = (4, [])) := by show _ = _; unfold writeF; rw [if_neg hm]
    clear hv hm
    go_enter Try.func10, Try.ntmps10
    go_wp2_with fail
    refine CALL.out.mono ?_
    rintro e w2 ⟨rfl, b2⟩
    have B2 := hide (keepF hB.out b2)
    clear b2 CALL
    go_wp2_with fail
    go_ret2
    rw [hE.out]
    exact ⟨_, rfl, World.ownsRow_nil _ _ _ _, B2.out⟩
  replace hm := Classical.not_not.1 hm
  rw [mayB_t hm] at CALL
  have HM := hide hm
  have HA := hide hv.1
  have hE : Hid (writeF g fi l = (0, bytesC g fi l)) := by show _ = _; unfold writeF; rw [if_pos hm]
  obtain ⟨b, off, ca', e, _, _, hc⟩ := hv.at hm.n1
  rw [hN.out] at e hc
  simp only [Value.slice.injEq, true_and] at e
  obtain ⟨rfl, rfl⟩ := e
  have hn1 := hm.n1
  have hn2 := hm.n2
  rw [hN.out] at hn1 hn2
  have HC := hide hc
  have hg1 := hm.g1
  have hf1 := hm.f0
  clear hv hm hc
  obtain ⟨G, rfl⟩ : ∃ G : Nat, g = (G : Int) := ⟨g.toNat, by omega⟩
  obtain ⟨F, rfl⟩ : ∃ F : Nat, fi = (F : Int) := ⟨fi.toNat, by omega⟩
  have wG : IntKind.u64.wrap (G : Int) = (G : Int) := wrap_u64_in _ (by omega) (by omega)
  have wF : IntKind.u64.wrap (F : Int) = (F : Int) := wrap_u64_in _ (by omega) (by omega)
  have wN : IntKind.u64.wrap (N : Int) = (N : Int) := wrap_u64_in _ (by omega) (by omega)
  go_enter Try.func10, Try.ntmps10
  go_wp2_with fail
  refine CALL.out.mono ?_
  rintro e w2 ⟨rfl, b2⟩
  have B2 := hide (keepF hB.out b2)
  have r1 : Hid (w2.heap[w.heap.size]? = some (.cells #[.int .i64 (G : Int), .int .i64 (F : Int), .slice (some ⟨b, off, none⟩) N ca] 29 (0, 0))) := by show _ = _; rw [b2.block _ (heap_lt hb1.out)]; exact hb1.out
  obtain ⟨c0, c1, c2⟩ := three_cells r1.out
  clear b2 CALL
  have ke := hide (Lib.run_convert_bytes_const (P := Try.prog) w2 31 5 #[.int .u8 70, .int .u8 67, .int .u8 65, .int .u8 84] 4 4 Try.underlying31 Try.underlying5)
  go_wp2_with fail
  rw [ke.out]
  have hb3 := hide (box_below w2 (.cells #[.int .u8 70, .int .u8 67, .int .u8 65, .int .u8 84] 5 (4, 5)))
  have F0 : Hid (Bf w.heap.size (w2.alloc (.cells #[.int .u8 70, .int .u8 67, .int .u8 65, .int .u8 84] 5 (4, 5))) (.slice (some ⟨w2.heap.size, 0, none⟩) 4 4) markC) := .inr ⟨w2.heap.size, (4, 5), rfl, heap_alloc_new _ _, B2.out.size, by decide⟩
  have B3 := hide (keepF B2.out hb3.out)
  have r3 : Hid ((w2.alloc (.cells #[.int .u8 70, .int .u8 67, .int .u8 65, .int .u8 84] 5 (4, 5))).heap[w.heap.size]? = some (.cells #[.int .i64 (G : Int), .int .i64 (F : Int), .slice (some ⟨b, off, none⟩) N ca] 29 (0, 0))) := by show _ = _; rw [hb3.out.block _ (heap_lt r1.out)]; exact r1.out
  generalize hq : (w2.alloc (.cells #[.int .u8 70, .int .u8 67, .int .u8 65, .int .u8 84] 5 (4, 5))) = w3 at *
  generalize hq2 : w2.heap.size = mb at *
  clear ke hb3 hq hq2 c0 c1 c2 r1
  obtain ⟨c0, c1, c2⟩ := three_cells r3.out
  go_upto_region 5 with fail
  have X0 := hide (box_below w3 (.cells #[.int .u64 (G : Int), .int .u64 (F : Int), .int .u64 (N : Int)] 59))
  have X1 := hide (heap_alloc_new w3 (.cells #[.int .u64 (G : Int), .int .u64 (F : Int), .int .u64 (N : Int)] 59))
  have W4 : Hid (Wb w (w3.alloc (.cells #[.int .u64 (G : Int), .int .u64 (F : Int), .int .u64 (N : Int)] 59)) (.slice (some ⟨mb, 0, none⟩) 4 4) markC w.heap.size #[.int .i64 (G : Int), .int .i64 (F : Int), .slice (some ⟨b, off, none⟩) N ca] w3.heap.size #[.int .u64 (G : Int), .int .u64 (F : Int), .int .u64 (N : Int)] 59) := ⟨keepF B3.out X0.out, F0.out.below X0.out, by rw [X0.out.block _ (heap_lt r3.out)]; exact r3.out, X1.out, by decide⟩
  generalize w3.alloc (.cells #[.int .u64 (G : Int), .int .u64 (F : Int), .int .u64 (N : Int)] 59) = w4 at *
  generalize w3.heap.size = lb at *
  clear c0 c1 c2 X0 X1 F0 B3 r3
  have enc3_snoc : Hid (∀ i, i < 3 → markC ++ enc3 ([G, F, N].take (i + 1)) = (markC ++ enc3 ([G, F, N].take i)) ++ enc ([G, F, N].getD i 0)) := by
    intro i hi
    match i, hi with
    | 0, _ => simp [enc3]
    | 1, _ => simp [enc3]
    | 2, _ => simp [enc3]
  have enc3_len : Hid (∀ i, (markC ++ enc3 ([G, F, N].take i)).length ≤ 34) := by
    intro i
    have a := enc_len G
    have b := enc_len F
    have c := enc_len N
    have m : markC.length = 4 := rfl
    match i with
    | 0 => simp [enc3, m]
    | 1 => simp [enc3, m]; omega
    | 2 => simp [enc3, m]; omega
    | k + 3 => simp [enc3, m]; omega
  go_wp2_with fail
  go_loopg [4, 6] 3 (fun kx vb vi wr => ∃ i : Nat, i ≤ 3 ∧ 3 - i ≤ kx ∧ vi = .int .i64 (i : Int) ∧ Hid (Wb w wr vb (markC ++ enc3 ([G, F, N].take i)) w.heap.size #[.int .i64 (G : Int), .int .i64 (F : Int), .slice (some ⟨b, off, none⟩) N ca] lb #[.int .u64 (G : Int), .int .u64 (F : Int), .int .u64 (N : Int)] 59))
  case atStart => exact ⟨0, by omega, Nat.le_refl _, rfl, by show Wb _ _ _ _ _ _ _ _ _; simpa [enc3] using W4.out⟩
  case round =>
    obtain ⟨i, hi, hkx, rfl, hW⟩ := hrel
    have hol := enc3_len.out i
    obtain ⟨aov, cav, rfl⟩ := hW.out.bf.form
    by_cases hlt : i < 3
    · have hlt' : (i : Int) < 3 := by omega
      have hsn := hide (enc3_snoc.out i hlt)
      obtain ⟨nn, hnn⟩ : ∃ nn, Hid ([G, F, N].getD i 0 = nn) := ⟨_, rfl⟩
      have hn64 : nn < 18446744073709551616 := by
        rw [← hnn.out]
        match i, hlt with
        | 0, _ => show G < _; omega
        | 1, _ => show F < _; omega
        | 2, _ => show N < _; omega
      have d0 : wr.cell? ⟨lb, i, none⟩ = some (.int .u64 (nn : Int)) := three3 hW.out.xg i _ (by
        rw [← hnn.out]
        match i, hlt with
        | 0, _ => rfl
        | 1, _ => rfl
        | 2, _ => rfl)
      rw [hnn.out] at hsn
      have hz : Hid ((0 : Nat) + i = i) := by show _ = _; omega
      generalize markC ++ enc3 ([G, F, N].take i) = O at *
      clear hnn
      go_wp2_with fail
      refine (refVarint_any wr (nn : Int) (by omega) (by omega)).mono ?_
      rintro e w5 ⟨v5, rfl, o5, b5⟩
      rw [Int.toNat_natCast] at o5
      have s5 := hide (Sl.of_owns o5)
      have W5 := hide (hW.out.below b5)
      have he := enc_len nn
      have hep := enc_pos nn
      clear o5 b5 d0
      go_wp2_with (at_builtin; refine wpList_append_bytesF rfl (.tmp 29) (.tmp 34) 31 rfl w.heap.size Try.infoU8 Try.underlying31 (.slice aov O.length cav) v5 O (enc nn) rfl W5.out.bf rfl s5.out hep (by omega) (by omega) W5.out.be.size ?_; intro v6 w6 o6 g6 h6)
      have W6 := hide (W5.out.app o6 g6)
      rw [← hsn.out] at W6
      clear o6 g6 h6 W5 s5
      go_wp2_with fail
      go_roundg (3 - (i + 1))
      case measure => omega
      case rel => exact ⟨i + 1, by omega, Nat.le_refl _, by go_num, W6⟩
    · obtain rfl : i = 3 := by omega
      have hng : ¬ ((3 : Int) < 3) := by omega
      clear enc3_snoc enc3_len
      obtain ⟨P, hP⟩ : ∃ P, Hid (markC ++ enc3 ([G, F, N].take 3) = P) := ⟨_, rfl⟩
      rw [hP.out] at hW hol
      have hfr : Hid (frontC (G : Int) (F : Int) l = P ++ bodyC l) := by
        show _ = _
        rw [← hP.out, frontC, midC, hN.out, Int.toNat_natCast, Int.toNat_natCast]
        simp [enc3]
      rw [hP.out]
      have HW := hW
      go_wp2_with fail
      go_loopg [4, 7] N (fun kx vb vi wr => ∃ i : Nat, i ≤ N ∧ N - i ≤ kx ∧ vi = .int .i64 (i : Int) ∧ Hid (Wb w wr vb (P ++ bodyC (l.take i)) w.heap.size #[.int .i64 (G : Int), .int .i64 (F : Int), .slice (some ⟨b, off, none⟩) N ca] w.heap.size #[.int .i64 (G : Int), .int .i64 (F : Int), .slice (some ⟨b, off, none⟩) N ca] 29))
      case atStart => exact ⟨0, by omega, Nat.le_refl _, rfl, by show Wb _ _ _ _ _ _ _ _ _; rw [List.take_zero, show bodyC [] = [] from rfl, List.append_nil]; exact HW.out.other HW.out.cg (by decide)⟩
      case round =>
        obtain ⟨i, hi, hkx, rfl, hW⟩ := hrel
        clear HW
        have hPl := hol
        have hol : (P ++ bodyC (l.take i)).length ≤ 4000 := by
          have := bodyC_len (l.take i)
          simp at this ⊢
          omega
        clear hPl
        obtain ⟨aov, cav, rfl⟩ := hW.out.bf.form
        obtain ⟨c0, c1, c2⟩ := three_cells hW.out.cg
        by_cases hlt : i < N
        · have hix : i < l.length := by rw [hN.out]; exact hlt
          obtain ⟨k0, k1, k2, k3, k4⟩ := (HC.out i hlt).below hW.out.be
          obtain ⟨m1, m2, m3, m4⟩ := HM.out.range hix
          have hin := HA.out.sg i
          have z1 := hin.a2
          have z2 := hin.b2
          have z3 := hin.c
          have z4 := hin.d2
          have z5 := hin.e2
          have hsn : Hid (P ++ bodyC (l.take (i + 1)) = (P ++ bodyC (l.take i)) ++ segB (sg l i)) := by
            show _ = _
            rw [List.take_succ_eq_append_getElem hix, bodyC_snoc, ← sg_get hix, List.append_assoc]
          clear hin
          generalize sg l i = s at *
          obtain ⟨nm, ba, se, en, sz⟩ := s
          dsimp only at k0 k1 k2 k3 k4 m1 m2 m3 m4 z1 z2 z3 z4 z5
          generalize P ++ bodyC (l.take i) = O at *
          have u0 : IntKind.u64.wrap nm = nm := wrap_u64_in _ (by omega) (by omega)
          have u1 : IntKind.u64.wrap ba = ba := wrap_u64_in _ (by omega) (by omega)
          have u2 : IntKind.u64.wrap (se : Int) = (se : Int) := wrap_u64_in _ (by omega) (by omega)
          have u3 : IntKind.u64.wrap en = en := wrap_u64_in _ (by omega) (by omega)
          have u4 : IntKind.u64.wrap sz = sz := wrap_u64_in _ (by omega) (by omega)
          have hlt' : (i : Int) < (N : Int) := by omega
          have Y0 := hide (box_below wr (.cells #[.int .i64 nm, .int .i64 ba, .int .u32 (se : Int), .int .i64 en, .int .i64 sz] 53))
          have S0 := hide (heap_alloc_new wr (.cells #[.int .i64 nm, .int .i64 ba, .int .u32 (se : Int), .int .i64 en, .int .i64 sz] 53))
          have Wx0 := hide ((hW.out.below Y0.out).other S0.out (by decide))
          go_upto_region 13 with fail
          generalize wr.alloc (.cells #[.int .i64 nm, .int .i64 ba, .int .u32 (se : Int), .int .i64 en, .int .i64 sz] 53) = q0 at *
          generalize wr.heap.size = sb at *
          clear k0 k1 k2 k3 k4 Y0 S0 c0 c1 c2
          have hO0 : O.length ≤ 4000 := hol
          clear hol
          obtain ⟨d0, d1, d2, d3, d4⟩ := five_cells Wx0.out.xg
          go_wp2_with fail
          refine (refVarint_any q0 nm (by omega) (by omega)).mono ?_
          rintro e q1 ⟨v5, rfl, o5, b5⟩
          have s5 := hide (Sl.of_owns o5)
          have Wx1 := hide (Wx0.out.below b5)
          clear o5 b5 d0 d1 d2 d3 d4 Wx0
          obtain ⟨O1, hO1⟩ : ∃ Z, Hid (O ++ enc nm.toNat = Z) := ⟨_, rfl⟩
          have he := enc_len nm.toNat
          have hep := enc_pos nm.toNat
          have hl1 : O1.length ≤ 4010 := by rw [← hO1.out, List.length_append]; omega
          go_wp2_with (at_builtin; refine wpList_append_bytesF rfl (.tmp 48) (.tmp 52) 31 rfl w.heap.size Try.infoU8 Try.underlying31 (.slice aov O.length cav) v5 O (enc nm.toNat) rfl Wx1.out.bf rfl s5.out hep (by omega) (by omega) Wx1.out.be.size ?_; intro vy q2 o6 g6 h6; have Wx2 := hide (Wx1.out.app o6 g6); rw [hO1.out] at Wx2; obtain ⟨ao1, ca1, rfl⟩ := Wx2.out.bf.form; obtain ⟨d0, d1, d2, d3, d4⟩ := five_cells Wx2.out.xg)
          clear o6 g6 h6 Wx1 s5 he hep
          go_wp2_with fail
          refine (refVarint_any q2 ba (by omega) (by omega)).mono ?_
          rintro e q3 ⟨v5, rfl, o5, b5⟩
          have s5 := hide (Sl.of_owns o5)
          have Wx3 := hide (Wx2.out.below b5)
          clear o5 b5 d0 d1 d2 d3 d4 Wx2
          obtain ⟨O2, hO2⟩ : ∃ Z, Hid (O1 ++ enc ba.toNat = Z) := ⟨_, rfl⟩
          have he := enc_len ba.toNat
          have hep := enc_pos ba.toNat
          have hl2 : O2.length ≤ 4020 := by rw [← hO2.out, List.length_append]; omega
          go_wp2_with (at_builtin; refine wpList_append_bytesF rfl (.tmp 54) (.tmp 58) 31 rfl w.heap.size Try.infoU8 Try.underlying31 (.slice ao1 O1.length ca1) v5 O1 (enc ba.toNat) rfl Wx3.out.bf rfl s5.out hep (by omega) (by omega) Wx3.out.be.size ?_; intro vy q4 o6 g6 h6; have Wx4 := hide (Wx3.out.app o6 g6); rw [hO2.out] at Wx4; obtain ⟨ao2, ca2, rfl⟩ := Wx4.out.bf.form; obtain ⟨d0, d1, d2, d3, d4⟩ := five_cells Wx4.out.xg)
          clear o6 g6 h6 Wx3 s5 he hep
          go_wp2_with fail
          refine (refFixed_any q4 (se : Int) 4 (by omega) (by omega) (by decide)).mono ?_
          rintro e q5 ⟨v5, rfl, o5, b5⟩
          rw [Int.toNat_natCast] at o5
          have s5 := hide (Sl.of_owns o5)
          have Wx5 := hide (Wx4.out.below b5)
          clear o5 b5 d0 d1 d2 d3 d4 Wx4
          obtain ⟨O3, hO3⟩ : ∃ Z, Hid (O2 ++ fx 4 se = Z) := ⟨_, rfl⟩
          have he := fx_len 4 se
          have hep : 0 < (fx 4 se).length := by omega
          have hl3 : O3.length ≤ 4030 := by rw [← hO3.out, List.length_append]; omega
          go_wp2_with (at_builtin; refine wpList_append_bytesF rfl (.tmp 60) (.tmp 64) 31 rfl w.heap.size Try.infoU8 Try.underlying31 (.slice ao2 O2.length ca2) v5 O2 (fx 4 se) rfl Wx5.out.bf rfl s5.out hep (by omega) (by omega) Wx5.out.be.size ?_; intro vy q6 o6 g6 h6; have Wx6 := hide (Wx5.out.app o6 g6); rw [hO3.out] at Wx6; obtain ⟨ao3, ca3, rfl⟩ := Wx6.out.bf.form; obtain ⟨d0, d1, d2, d3, d4⟩ := five_cells Wx6.out.xg)
          clear o6 g6 h6 Wx5 s5 he hep
          go_wp2_with fail
          refine (refVarint_any q6 en (by omega) (by omega)).mono ?_
          rintro e q7 ⟨v5, rfl, o5, b5⟩
          have s5 := hide (Sl.of_owns o5)
          have Wx7 := hide (Wx6.out.below b5)
          clear o5 b5 d0 d1 d2 d3 d4 Wx6
          obtain ⟨O4, hO4⟩ : ∃ Z, Hid (O3 ++ enc en.toNat = Z) := ⟨_, rfl⟩
          have he := enc_len en.toNat
          have hep := enc_pos en.toNat
          have hl4 : O4.length ≤ 4040 := by rw [← hO4.out, List.length_append]; omega
          go_wp2_with (at_builtin; refine wpList_append_bytesF rfl (.tmp 66) (.tmp 70) 31 rfl w.heap.size Try.infoU8 Try.underlying31 (.slice ao3 O3.length ca3) v5 O3 (enc en.toNat) rfl Wx7.out.bf rfl s5.out hep (by omega) (by omega) Wx7.out.be.size ?_; intro vy q8 o6 g6 h6; have Wx8 := hide (Wx7.out.app o6 g6); rw [hO4.out] at Wx8; obtain ⟨ao4, ca4, rfl⟩ := Wx8.out.bf.form; obtain ⟨d0, d1, d2, d3, d4⟩ := five_cells Wx8.out.xg)
          clear o6 g6 h6 Wx7 s5 he hep
          go_wp2_with fail
          refine (refVarint_any q8 sz (by omega) (by omega)).mono ?_
          rintro e q9 ⟨v5, rfl, o5, b5⟩
          have s5 := hide (Sl.of_owns o5)
          have Wx9 := hide (Wx8.out.below b5)
          clear o5 b5 d0 d1 d2 d3 d4 Wx8
          obtain ⟨O5, hO5⟩ : ∃ Z, Hid (O4 ++ enc sz.toNat = Z) := ⟨_, rfl⟩
          have he := enc_len sz.toNat
          have hep := enc_pos sz.toNat
          have hl5 : O5.length ≤ 4050 := by rw [← hO5.out, List.length_append]; omega
          go_wp2_with (at_builtin; refine wpList_append_bytesF rfl (.tmp 72) (.tmp 76) 31 rfl w.heap.size Try.infoU8 Try.underlying31 (.slice ao4 O4.length ca4) v5 O4 (enc sz.toNat) rfl Wx9.out.bf rfl s5.out hep (by omega) (by omega) Wx9.out.be.size ?_; intro vy q10 o6 g6 h6; have Wx10 := hide (Wx9.out.app o6 g6); rw [hO5.out] at Wx10; obtain ⟨ao5, ca5, rfl⟩ := Wx10.out.bf.form; obtain ⟨d0, d1, d2, d3, d4⟩ := five_cells Wx10.out.xg)
          clear o6 g6 h6 Wx9 s5 he hep
          have hfin : Hid (O5 = P ++ bodyC (l.take (i + 1))) := by
            show _ = _
            rw [hsn.out, ← hO5.out, ← hO4.out, ← hO3.out, ← hO2.out, ← hO1.out]
            simp [segB]
          rw [hfin.out] at Wx10
          clear d0 d1 d2 d3 d4
          go_wp2_with fail
          go_roundg (N - (i + 1))
          case measure => omega
          case rel => exact ⟨i + 1, by omega, Nat.le_refl _, by go_num, by rw [hfin.out]; exact Wx10.out.other Wx10.out.cg (by decide)⟩
        · obtain rfl : i = N := by omega
          have hng2 : ¬ ((i : Int) < (i : Int)) := by omega
          have hTe : Hid (l.take i = l) := by show _ = _; rw [← hN.out, List.take_length]
          rw [hTe.out, ← hfr.out] at hW hol ⊢
          have hE2 : Hid (writeF (G : Int) (F : Int) l = (0, frontC (G : Int) (F : Int) l ++ fx 4 (Crc.more 0#32 (frontC (G : Int) (F : Int) l)).toNat)) := hE.out
          generalize frontC (G : Int) (F : Int) l = FF at *
          have sl0 := hide hW.out.bf.sl
          go_wp2_with fail
          refine (Crc.refSum_any _ _ FF sl0.out).mono ?_
          rintro e w5 ⟨rfl, hw5⟩
          subst hw5
          have hcr := (Crc.more 0#32 FF).isLt
          obtain ⟨cr, hcre⟩ : ∃ cr, Hid ((Crc.more 0#32 FF).toNat = cr) := ⟨_, rfl⟩
          rw [hcre.out] at hcr hE2 ⊢
          have ucr : IntKind.u64.wrap (cr : Int) = (cr : Int) := wrap_u64_in _ (by omega) (by omega)
          clear sl0
          go_wp2_with fail
          refine (refFixed_any _ (cr : Int) 4 (by omega) (by omega) (by decide)).mono ?_
          rintro e w7 ⟨v7, rfl, o7, b7⟩
          rw [Int.toNat_natCast] at o7
          have s7 := hide (Sl.of_owns o7)
          have W7 := hide (hW.out.below b7)
          have hf4 := fx_len 4 cr
          have hep : 0 < (fx 4 cr).length := by omega
          clear o7 b7 c0 c1 c2
          go_wp2_with (at_builtin; refine wpList_append_bytesF rfl (.tmp 78) (.tmp 82) 31 rfl w.heap.size Try.infoU8 Try.underlying31 (.slice aov FF.length cav) v7 FF (fx 4 cr) rfl W7.out.bf rfl s7.out hep (by omega) (by omega) W7.out.be.size ?_; intro v8 w8 o8 g8 h8)
          have B8 := hide (W7.out.app o8 g8).be
          replace o8 := hide o8
          clear g8 h8
          go_wp2_with fail
          go_ret2
          rw [hE2.out]
          exact ⟨_, rfl, o8.out, B8.out⟩
#print axioms refWrite_any
end Go.Proofs.Ytdhjlongdfgejaa.Ct

/-
  The document's At.
-/
namespace Go.Proofs.Ytdhjlongdfgejaa.Ct
open Go.RowKit

set_option maxHeartbeats 2000000 in
theorem refAt_any : DoesAt 12 := by
  intro w g fi v l n hv
  obtain ⟨N, hN⟩ : ∃ N, Hid (l.length = N) := ⟨_, rfl⟩
  obtain ⟨ao, ca, rfl, q1, q2⟩ := hv.form
  rw [hN.out] at hv q1 ⊢
  have hB := hide (box_below w (.cells #[.int .i64 g, .int .i64 fi, .slice ao N ca] 29))
  have CALL := hide (refMay_any _ g fi _ l (hv.below hB.out))
  have hbx := hide (heap_alloc_new w (.cells #[.int .i64 g, .int .i64 fi, .slice ao N ca] 29))
  by_cases hm : ¬ May g fi l
  · rw [mayB_f hm] at CALL
    have hE := hide (atF_no (n := n) (.inl hm))
    clear hv hm
    go_enter Try.func12, Try.ntmps12
    go_wp2_with fail
    refine CALL.out.mono ?_
    rintro e w2 ⟨rfl, b2⟩
    have B2 := hide (keepF hB.out b2)
    clear b2 CALL
    go_wp2_with fail
    go_ret2
    rw [hE.out]
    exact ⟨rfl, B2.out⟩
  replace hm := Classical.not_not.1 hm
  rw [mayB_t hm] at CALL
  have HM := hide hm
  obtain ⟨b, off, ca', e, _, _, hc⟩ := hv.at hm.n1
  rw [hN.out] at e hc
  simp only [Value.slice.injEq, true_and] at e
  obtain ⟨rfl, rfl⟩ := e
  have HC := hide hc
  have hn1 := hm.n1
  have hn2 := hm.n2
  rw [hN.out] at hn1 hn2
  clear hv hm hc
  go_enter Try.func12, Try.ntmps12
  go_wp2_with fail
  refine CALL.out.mono ?_
  rintro e w2 ⟨rfl, b2⟩
  have B2 := hide (keepF hB.out b2)
  obtain ⟨_, c1, c2⟩ := three_cells (show w2.heap[w.heap.size]? = _ by rw [b2.block _ (heap_lt hbx.out)]; exact hbx.out)
  clear b2 CALL
  by_cases h2 : n < fi
  · have hE := hide (atF_no (g := g) (l := l) (.inr h2))
    go_wp2_with fail
    go_ret2
    rw [hE.out]
    exact ⟨rfl, B2.out⟩
  have HC2 : Hid (∀ i, i < N → SAt w2 b (off + i * 5) (sg l i)) := fun i hi => (HC.out i hi).below B2.out
  clear HC
  go_wp2_with fail
  generalize hq0 : w.heap.size = cb at *
  replace hq0 := hide hq0
  go_loopw [6, 7] (fun va vi wr => ∃ i a : Nat, i ≤ N ∧ vi = .int .i64 (i : Int) ∧ va = .int .i64 (a : Int) ∧ wr = w2 ∧ Hid ((i = 0 → a = 0) ∧ (0 < i → a < i ∧ (sg l a).ba ≤ n ∧ ∀ j, a < j → j < i → n < (sg l j).ba))) (fun _ vi _ => N - (intOf vi).toNat)
  case atStart => exact ⟨0, 0, Nat.zero_le _, rfl, rfl, rfl, fun _ => rfl, fun h => by omega⟩
  case round =>
    obtain ⟨i, a, hi, rfl, rfl, rfl, hJ⟩ := hrel
    by_cases hlt : i < N
    · obtain ⟨k0, k1, k2, k3, k4⟩ := HC2.out i hlt
      have hlt' : (i : Int) < (N : Int) := by omega
      obtain ⟨s, hs⟩ : ∃ s, Hid (sg l i = s) := ⟨_, rfl⟩
      rw [hs.out] at k0 k1 k2 k3 k4
      obtain ⟨nm, ba, se, en, sz⟩ := s
      dsimp only at k0 k1 k2 k3 k4
      by_cases hb : ba ≤ n
      · have HJ : Hid (((i + 1 = 0 → i = 0) ∧ (0 < i + 1 → i < i + 1 ∧ (sg l i).ba ≤ n ∧ ∀ j, i < j → j < i + 1 → n < (sg l j).ba))) := ⟨fun h => by omega, fun _ => ⟨by omega, by rw [hs.out]; exact hb, fun j h1 h2 => by omega⟩⟩
        go_wp2_with fail
        go_roundw
        case rel => exact ⟨i + 1, i, by omega, by go_num, by first | rfl | trivial, by first | rfl | trivial, HJ⟩
        case measure => simp [intOf]; omega
      · have HJ : Hid (((i + 1 = 0 → a = 0) ∧ (0 < i + 1 → a < i + 1 ∧ (sg l a).ba ≤ n ∧ ∀ j, a < j → j < i + 1 → n < (sg l j).ba))) := by
          refine ⟨fun h => by omega, fun _ => ?_⟩
          have hi0 : 0 < i := by
            refine Nat.pos_of_ne_zero fun e => ?_
            subst e
            have := HM.out.be.1
            rw [hs.out] at this
            dsimp only at this
            omega
          obtain ⟨p, q, r⟩ := hJ.out.2 hi0
          refine ⟨by omega, q, fun j h1 h2 => ?_⟩
          by_cases e : j = i
          · subst e; rw [hs.out]; dsimp only; omega
          · exact r j h1 (by omega)
        have hb' : ¬ ba ≤ n := hb
        go_wp2_with fail
        go_roundw
        case rel => exact ⟨i + 1, a, by omega, by go_num, by first | rfl | trivial, by first | rfl | trivial, HJ⟩
        case measure => simp [intOf]; omega
    · obtain rfl : i = N := by omega
      have hng : ¬ ((i : Int) < (i : Int)) := by omega
      obtain ⟨p, q, r⟩ := hJ.out.2 (by omega)
      have hE := hide (atF_at HM.out (n := n) (i := a) (by omega) ⟨by rw [hN.out]; exact p, q, fun j h1 h2 => r j h1 (by rw [hN.out] at h2; exact h2)⟩)
      clear p q r
      go_wp2_with fail
      go_ret2
      rw [hE.out]
      exact ⟨rfl, by rw [hq0.out]; exact B2.out⟩
#print axioms refAt_any
end Go.Proofs.Ytdhjlongdfgejaa.Ct

