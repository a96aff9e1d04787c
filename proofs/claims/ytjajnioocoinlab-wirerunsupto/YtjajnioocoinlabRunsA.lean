/-
  WireRuns, its first loop: the fields are written one behind the other.
-/
import Derived.Test.YtjajnioocoinlabRuns
namespace Go.Proofs.Ytjajnioocoinlab
open Go.RowKit

/-- Values f 0 .. f (n - 1) lie from address ao on. -/
def AtF (w : World) (ao : Option Addr) (n : Nat) (f : Nat → Value) : Prop := ∀ i, i < n → ∃ b off, ao = some ⟨b, off, none⟩ ∧ w.cell? ⟨b, off + i, none⟩ = some (f i)
theorem AtF.get {w : World} {ao : Option Addr} {n : Nat} {f : Nat → Value} (h : AtF w ao n f) {k : Nat} (hk : k < n) : ∃ b off, ao = some ⟨b, off, none⟩ ∧ w.cell? ⟨b, off + k, none⟩ = some (f k) := h k hk

set_option maxRecDepth 100000 in
set_option maxHeartbeats 2000000 in
theorem runs_walk (w : World) (a1 a2 a3 : Option Addr) (c1 c2 c3 n : Nat) (U I : Nat → Int) (V : Nat → Value) (L : Nat → List UInt8) (hn : n ≤ 60)
    (h1 : AtF w a1 n (fun i => .int .u64 (U i))) (h2 : AtF w a2 n (fun i => .int .i64 (I i))) (h3 : AtF w a3 n V) (hS : ∀ i, i < n → Sl w (V i) (L i))
    (hU : ∀ i, i < n → 0 ≤ U i ∧ U i < 18446744073709551616) (hI : ∀ i, i < n → -9223372036854775808 ≤ I i ∧ I i ≤ 9223372036854775807)
    (hL : ∀ i, i < n → (L i).length ≤ 1048576) (hR : ∀ k, k ≤ n → (runs (fun i => piece (U i) (I i) (L i)) k).length ≤ 1200000) :
    Calls Try.prog 4 #[.slice a1 n c1, .slice a2 n c2, .slice a3 n c3] w fun e w' => e = .returned (.bool true) ∧ Below w.heap.size w w' := by
  have HU : Hid (∀ i, i < n → 0 ≤ U i ∧ U i < 18446744073709551616) := hU
  have HI : Hid (∀ i, i < n → -9223372036854775808 ≤ I i ∧ I i ≤ 9223372036854775807) := hI
  have HL : Hid (∀ i, i < n → (L i).length ≤ 1048576) := hL
  have HS : Hid (∀ i, i < n → Sl w (V i) (L i)) := hS
  have HR : Hid (∀ k, k ≤ n → (runs (fun i => piece (U i) (I i) (L i)) k).length ≤ 1200000) := hR
  clear hU hI hL hS hR
  go_enter Try.func4, Try.ntmps4
  go_wp2_with fail
  refine (begun_any w).mono ?_
  rintro e w1 ⟨rfl, b1⟩
  go_wp2_with fail
  go_loopw [7, 8] (fun v i wr => ∃ (k : Nat) (R : List UInt8), k ≤ n ∧ i = .int .i64 k ∧ Hid (R = runs (fun i => piece (U i) (I i) (L i)) k) ∧ wr.ownsRow w.heap.size 5 1 v R.length (bvals R) ∧ Below w.heap.size w wr) (fun _ i _ => n - (intOf i).toNat)
  case atStart => exact ⟨0, [], Nat.zero_le _, rfl, rfl, World.ownsRow_nil _ _ _ _, b1⟩
  case round =>
    clear b1
    obtain ⟨k, R, hk, rfl, hR, hown, hbel⟩ := hrel
    have hRl : R.length ≤ 1200000 := by rw [hR.out]; exact HR.out k hk
    by_cases hlt : k < n
    · obtain ⟨x1, o1, rfl, d1⟩ := h1.get hlt
      obtain ⟨x2, o2, rfl, d2⟩ := h2.get hlt
      obtain ⟨x3, o3, rfl, d3⟩ := h3.get hlt
      have e1 := (hbel.cell (lt_of_cell d1)).trans d1
      have hU := HU.out k hlt
      have hI := HI.out k hlt
      have hLk := HL.out k hlt
      have hSk := HS.out k hlt
      generalize hu : U k = u at *
      generalize hi : I k = ii at *
      generalize hv : V k = vv at *
      generalize hl : L k = ll at *
      have HRR : Hid (runs (fun i => piece (U i) (I i) (L i)) (k + 1) = runs (fun i => piece (U i) (I i) (L i)) k ++ piece u ii ll) := by
        show _ = _
        rw [runs, hu, hi, hl]
      have hel1 := enc_len u.toNat
      have hel2 := enc_len (zig ii).toNat
      have hel3 := enc_len ll.length
      have hz := zig_bounds ii hI.1 hI.2
      clear hu hi hv hl
      go_wp2_with fail
      refine (varint_any wr u hU.1 hU.2).mono ?_
      rintro e w2 ⟨v2, rfl, q2, b2⟩
      have hown2 := ownsRow_below hown b2
      have s2 := Sl.of_owns q2
      have hb2 := hbel.trans (b2.mono hbel.size)
      have hz2 := hb2.size
      clear hown hbel b2 q2 e1
      go_wp2_with (at_builtin; refine wpList_append_name rfl (.tmp 38) (.tmp 43) 23 rfl w.heap.size 5 Try.infoU8 Try.underlying23 _ _ R _ rfl hown2 rfl s2 (by omega) (by omega) ?_)
      intro v3 w3 R3 hR3 hl3 hown3 b3
      have hb3 := hb2.trans b3
      have e2 := (hb3.cell (lt_of_cell d2)).trans d2
      clear hown2 hb2 hz2 b3 s2
      go_wp2_with fail
      refine (zig_any w3 ii hI.1 hI.2).mono ?_
      rintro e w4 ⟨rfl, hw⟩
      subst hw
      generalize hzz : zig ii = zi at *
      have HZ : Hid (zig ii = zi) := hzz
      clear hzz
      go_wp2_with fail
      refine (varint_any _ zi hz.1 hz.2).mono ?_
      rintro e w5 ⟨v5, rfl, q5, b5⟩
      have hown5 := ownsRow_below hown3 b5
      have s5 := Sl.of_owns q5
      have hb5 := hb3.trans (b5.mono hb3.size)
      have hz5 := hb5.size
      clear hown3 hb3 b5 q5 e2
      go_wp2_with (at_builtin; refine wpList_append_name rfl (.tmp 45) (.tmp 51) 23 rfl w.heap.size 5 Try.infoU8 Try.underlying23 _ _ R3 _ rfl hown5 rfl s5 (by omega) (by omega) ?_)
      intro v6 w6 R6 hR6 hl6 hown6 b6
      have hb6 := hb5.trans b6
      have e3 := (hb6.cell (lt_of_cell d1)).trans d1
      clear hown5 hb5 hz5 b6 s5
      go_wp2_with fail
      refine (fixed32_any w6 (u % 4294967296) (by omega) (by omega)).mono ?_
      rintro e w7 ⟨v7, rfl, q7, b7⟩
      have hown7 := ownsRow_below hown6 b7
      have s7 := Sl.of_owns q7
      have hb7 := hb6.trans (b7.mono hb6.size)
      have hz7 := hb7.size
      have hf4 := fx_len 4 (u % 4294967296).toNat
      clear hown6 hb6 b7 q7 e3
      go_wp2_with (at_builtin; refine wpList_append_name rfl (.tmp 53) (.tmp 59) 23 rfl w.heap.size 5 Try.infoU8 Try.underlying23 _ _ R6 _ rfl hown7 rfl s7 (by omega) (by omega) ?_)
      intro v8 w8 R8 hR8 hl8 hown8 b8
      have hb8 := hb7.trans b8
      have e4 := (hb8.cell (lt_of_cell d1)).trans d1
      clear hown7 hb7 hz7 b8 s7
      go_wp2_with fail
      refine (fixed64_any w8 u hU.1 hU.2).mono ?_
      rintro e w9 ⟨v9, rfl, q9, b9⟩
      have hown9 := ownsRow_below hown8 b9
      have s9 := Sl.of_owns q9
      have hb9 := hb8.trans (b9.mono hb8.size)
      have hz9 := hb9.size
      have hf8 := fx_len 8 u.toNat
      clear hown8 hb8 b9 q9 e4
      go_wp2_with (at_builtin; refine wpList_append_name rfl (.tmp 61) (.tmp 66) 23 rfl w.heap.size 5 Try.infoU8 Try.underlying23 _ _ R8 _ rfl hown9 rfl s9 (by omega) (by omega) ?_)
      intro v10 w10 R10 hR10 hl10 hown10 b10
      have hb10 := hb9.trans b10
      have e5 := (hb10.cell (lt_of_cell d3)).trans d3
      have s10 := Below.sl hb10 hSk
      clear hown9 hb9 hz9 b10 s9
      go_wp2_with fail
      refine (string_any w10 vv ll s10 (by omega)).mono ?_
      rintro e w11 ⟨v11, rfl, q11, b11⟩
      have hown11 := ownsRow_below hown10 b11
      have s11 := Sl.of_owns q11
      have hb11 := hb10.trans (b11.mono hb10.size)
      have hz11 := hb11.size
      have hls : (enc ll.length ++ ll).length = (enc ll.length).length + ll.length := by simp
      generalize hLL : enc ll.length ++ ll = LL at *
      have HLL : Hid (enc ll.length ++ ll = LL) := hLL
      clear hown10 hb10 b11 q11 e5 s10 hLL
      go_wp2_with (at_builtin; refine wpList_append_name rfl (.tmp 68) (.tmp 73) 23 rfl w.heap.size 5 Try.infoU8 Try.underlying23 _ _ R10 LL rfl hown11 rfl s11 (by omega) (by omega) ?_)
      intro v12 w12 R12 hR12 hl12 hown12 b12
      have hb12 := hb11.trans b12
      have HR12 : Hid (R12 = runs (fun i => piece (U i) (I i) (L i)) (k + 1)) := by
        show _ = _
        rw [HRR.out, hR12.out, hR10.out, hR8.out, hR6.out, hR3.out, hR.out, ← HLL.out, ← HZ.out, piece]
        simp only [List.append_assoc]
      clear hown11 hb11 hz11 b12 s11 hls hl3 hl6 hl8 hl10 hl12 hU hI hz hSk d1 d2 d3
      go_wp2
      go_roundw
      case rel => exact ⟨k + 1, R12, by omega, by go_num, HR12, hown12, hb12⟩
      case measure => simp [intOf]; omega
    · obtain rfl : k = n := by omega
      have s1 := Sl.of_owns hown
      have hbz := hbel.size
      go_wp2_with fail
      refine (newReader_any wr _ R s1 (by omega)).mono ?_
      rintro e w2 ⟨rb, rfl, hr, b2, hrb⟩
      have hb2 := hbel.trans (b2.mono hbel.size)
      have hrw : w.heap.size ≤ rb := by omega
      obtain ⟨so, sc, rfl⟩ := own_slice hown
      clear hown hbel b2 s1 hrb
      go_wp2_with fail
      go_loopw [10] (fun i wr => ∃ (j : Nat), j ≤ k ∧ i = .int .i64 j ∧ RdrAt wr rb R (runs (fun i => piece (U i) (I i) (L i)) j).length 0 ∧ Below w.heap.size w wr) (fun i _ => k - (intOf i).toNat)
      case atStart => exact ⟨0, Nat.zero_le _, rfl, hr, hb2⟩
      case round =>
        clear hr hb2
        obtain ⟨j, hj, rfl, hr, hb⟩ := hrel
        by_cases hlt2 : j < k
        · obtain ⟨x1, o1, rfl, d1⟩ := h1.get hlt2
          obtain ⟨x2, o2, rfl, d2⟩ := h2.get hlt2
          obtain ⟨x3, o3, rfl, d3⟩ := h3.get hlt2
          obtain ⟨r, hsp⟩ := runs_split (fun i => piece (U i) (I i) (L i)) j k hlt2
          have hU := HU.out j hlt2
          have hI := HI.out j hlt2
          have hz := zig_bounds (I j) hI.1 hI.2
          have hlj := HL.out j hlt2
          have hsj := HS.out j hlt2
          have hR' : R = runs (fun i => piece (U i) (I i) (L i)) j ++ (enc (U j).toNat ++ (enc (zig (I j)).toNat ++ (fx 4 (U j % 4294967296).toNat ++ (fx 8 (U j).toNat ++ (enc (L j).length ++ (L j ++ r)))))) := by
            rw [hR.out, hsp, piece]; simp only [List.append_assoc]
          obtain ⟨p1, p2, p3, p4, f1, f2, f3, f4, f5⟩ := read_piece R _ r (L j) (U j).toNat (zig (I j)).toNat (U j % 4294967296).toNat rb hR' (by omega) (by omega) (by omega) hlj
          have hp5 : (runs (fun i => piece (U i) (I i) (L i)) j ++ (enc (U j).toNat ++ (enc (zig (I j)).toNat ++ (fx 4 (U j % 4294967296).toNat ++ (fx 8 (U j).toNat ++ (enc (L j).length ++ L j)))))).length = (runs (fun i => piece (U i) (I i) (L i)) (j + 1)).length := by
            rw [runs, piece]
          rw [hp5] at f5
          have t1 : (((U j).toNat : Nat) : Int) = U j := by omega
          have t2 : (((zig (I j)).toNat : Nat) : Int) = zig (I j) := by omega
          have t3 : (((U j % 4294967296).toNat : Nat) : Int) = U j % 4294967296 := by omega
          rw [t1] at f1 f4
          rw [t2, zag_zig] at f2
          rw [t3] at f3
          have F1 := (show Hid _ from f1)
          have F2 := (show Hid _ from f2)
          have F3 := (show Hid _ from f3)
          have F4 := (show Hid _ from f4)
          have F5 := (show Hid _ from f5)
          obtain ⟨vo, vc, hvv, _⟩ := id hsj
          rw [hvv] at d3 hsj
          have l1 := lt_of_cell d1
          have l2 := lt_of_cell d2
          have l3 := lt_of_cell d3
          have hS0 : Below w.heap.size w wr.drew ∧ wr.drew.cell? ⟨x1, o1 + j, none⟩ = some (.int .u64 (U j)) ∧ wr.drew.cell? ⟨x2, o2 + j, none⟩ = some (.int .i64 (I j)) ∧ wr.drew.cell? ⟨x3, o3 + j, none⟩ = some (.slice vo (L j).length vc) :=
            ⟨hb.drew, (hb.cell l1).trans d1, (hb.cell l2).trans d2, (hb.cell l3).trans d3⟩
          have hw32 : IntKind.u32.wrap (U j) = U j % 4294967296 := by simp [IntKind.wrap, IntKind.bits, IntKind.signed]
          have hw33 : (U j % 4294967296 != U j % 4294967296) = false := by simp
          have hjj : (0 : Int) ≤ (j : Int) := by omega
          have hjn : (j : Int) < (k : Int) := by omega
          have hu0 := hU.1
          have hul : (L j).length ≤ 1048576 := hlj
          generalize U j = u at *
          generalize I j = ii at *
          generalize L j = ll at *
          clear f1 f2 f3 f4 f5 hR' hsp hp5 t1 t2 t3 hz hlj d1 d2 d3 hvv hU hI
          go_wp2_with fail
          go_region_held3 (fun q => Below w.heap.size w q ∧ q.cell? ⟨x1, o1 + j, none⟩ = some (.int .u64 u) ∧ q.cell? ⟨x2, o2 + j, none⟩ = some (.int .i64 ii) ∧ q.cell? ⟨x3, o3 + j, none⟩ = some (.slice vo ll.length vc)) (first | exact hS0 | exact keep3 (by assumption) (by assumption) hrw l1 l2 l3 | exact keep3 (by assumption) (Qt.grown (by assumption) _) hrw l1 l2 l3)
            (first
              | (go_at_call 15; refine Calls.mono (F1.out _ hr.drew) ?_; rintro e u1 ⟨rfl, r1, g1⟩)
              | (go_at_call 16; refine Calls.mono (F2.out _ r1) ?_; rintro e u2 ⟨rfl, r2, g2⟩)
              | (go_at_call 17; refine Calls.mono (F3.out _ r2) ?_; rintro e u3 ⟨rfl, r3, g3⟩)
              | (go_at_call 18; refine Calls.mono (F4.out _ r3) ?_; rintro e u4 ⟨rfl, r4, g4⟩)
              | (go_at_call 19; refine Calls.mono (F5.out _ r4) ?_; rintro e u5 ⟨v5, rfl, s5, r5, g5⟩)
              | (go_at_call 9; refine (eq_sl _ _ _ ll ll s5 (Below.sl (And.left (by assumption)) hsj)).mono ?_; rintro e u6 ⟨rfl, q6⟩))
          have r6 := r5.below (q6.below _)
          have hS6 : Below w.heap.size w u6 := And.left (by assumption)
          clear hw32 hw33 hS0 hsj
          go_wp2
          go_roundw
          case rel => exact ⟨j + 1, by omega, by go_num, r6, hS6⟩
          case measure => simp [intOf]; omega
        · obtain rfl : j = k := by omega
          have HRJ : Hid (R.length = (runs (fun i => piece (U i) (I i) (L i)) j).length) := by show _ = _; rw [hR.out]
          rw [← HRJ.out] at hr
          go_wp2_with fail
          refine (err_any wr rb R R.length 0 hr).mono ?_
          rintro e w3 ⟨rfl, q3⟩
          rw [if_pos rfl]
          have hr3 := hr.below (q3.below _)
          have hb3 := hb.trans (q3.below _)
          clear hr hb q3
          go_wp2_with fail
          refine (left_any w3 rb R R.length 0 hr3).mono ?_
          rintro e w4 ⟨rfl, q4⟩
          have hr4 := hr3.below (q4.below _)
          have hb4 := hb3.trans (q4.below _)
          clear hr3 hb3 q4
          rw [Int.sub_self]
          go_wp2_with fail
          refine (at_any w4 rb R R.length 0 hr4).mono ?_
          rintro e w5 ⟨rfl, hw⟩
          subst hw
          go_wp2
          go_ret
          exact ⟨by simp, hb4⟩
end Go.Proofs.Ytjajnioocoinlab
