/-
  What flumeref2.moved answers, and flumeref2.Join and Zeros by it.
-/
import Derived.Test.YtmhbcpbppcihfaaCrcD
import Derived.Test.YtmhbcpbppcihfaaCrcH
import Derived.Deep.CutRange
namespace Go.Proofs.Ytmhbcpbppcihfaa.Crc
open Go.RowKit

theorem do_turn (w : World) (T : Array Value) (m : Nat) (c : R) (h : Turns T m) :
    Calls Try.prog 29 #[.agg T, .int .u32 (c.toNat : Int)] w fun e w' => e = .returned (.int .u32 ((st m c).toNat : Int)) ∧ Below w.heap.size w w' := by
  refine (do_any w T (fun i => st m (1#32 <<< i)) c h.1 h.2.1 h.2.2).mono ?_
  rintro e w' ⟨rfl, hb⟩
  rw [st_pick m _ c (fun i _ => rfl)]
  exact ⟨rfl, hb⟩
theorem pow_bit : ∀ k : Fin 32, ((2 : Int) ^ k.val % 4294967296) = ((1#32 <<< k.val).toNat : Int) := by decide +kernel

theorem keepT {w q u : World} {b k : Nat} {T : Array Value} {v : Value} (hk : T[k]? = some v) (hq : Below q.heap.size q u) (h : q.rangeAt b 0 T.toList ∧ q.cell? ⟨b, k, none⟩ = some v ∧ Holds q b T ∧ Below w.heap.size w q) :
    u.rangeAt b 0 T.toList ∧ u.cell? ⟨b, k, none⟩ = some v ∧ Holds u b T ∧ Below w.heap.size w u := by
  have hh := h.2.2.1.below hq
  exact ⟨hh.2.1, hh.cell _ hk, hh, h.2.2.2.trans (hq.mono h.2.2.2.size)⟩
theorem keepU {w q : World} {k g : Nat} {T : Array Value} {v y : Value} (hk : T[k]? = some v) (h : q.rangeAt w.heap.size 0 T.toList ∧ q.cell? ⟨w.heap.size, k, none⟩ = some v ∧ Holds q w.heap.size T ∧ Below w.heap.size w q) (hg : g ≠ w.heap.size) (hg2 : w.heap.size ≤ g) {i : Nat} :
    (q.setCell ⟨g, i, none⟩ y).rangeAt w.heap.size 0 T.toList ∧ (q.setCell ⟨g, i, none⟩ y).cell? ⟨w.heap.size, k, none⟩ = some v ∧ Holds (q.setCell ⟨g, i, none⟩ y) w.heap.size T ∧ Below w.heap.size w (q.setCell ⟨g, i, none⟩ y) := by
  have hh := h.2.2.1.setCell_other (i := i) hg y
  exact ⟨hh.2.1, hh.cell _ hk, hh, h.2.2.2.setCell hg2 y⟩

set_option maxRecDepth 100000 in
set_option maxHeartbeats 2000000 in
theorem moved_any (w : World) (c : R) (n : Nat) (hn : n ≤ 9223372036854775807) :
    Calls Try.prog 26 #[.int .u32 (c.toNat : Int), .int .i64 (n : Int)] w fun e w' => e = .returned (.int .u32 ((st (8 * n) c).toNat : Int)) ∧ Below w.heap.size w w' := by
  go_enter Try.func26, Try.ntmps26
  go_wp2_with fail
  go_loopw [6] (fun vi wr => ∃ (k : Nat) (f : Nat → R), k ≤ 32 ∧ vi = .int .i64 (k : Int) ∧ Hid (∀ j, j < k → f j = st 8 (1#32 <<< j)) ∧ wr = w.alloc (.cells (row f 32) 44)) (fun i _ => 32 - (intOf i).toNat)
  case atStart => exact ⟨0, fun _ => 0#32, by omega, rfl, fun j hj => by omega, by rw [row_zero]; rfl⟩
  case round =>
    obtain ⟨k, f, hk, rfl, hf, rfl⟩ := hrel
    by_cases h32 : k < 32
    · have hc := row_get f 32 k h32
      have HR : Hid ((row f 32).setIfInBounds k (.int .u32 ((st 8 (1#32 <<< k)).toNat : Int)) = row (upd f k (st 8 (1#32 <<< k))) 32) := row_set _ _ _ _
      have HF2 : Hid (∀ j, j < k + 1 → upd f k (st 8 (1#32 <<< k)) j = st 8 (1#32 <<< j)) := by
        intro j hj
        unfold upd
        by_cases e : j = k
        · subst e; rw [if_pos rfl]
        · rw [if_neg e]; exact hf.out j (by omega)
      obtain ⟨d, hd⟩ : ∃ d, d = 1#32 <<< k := ⟨_, rfl⟩
      have hp : (2 : Int) ^ k % 4294967296 = (d.toNat : Int) := by rw [hd]; exact pow_bit ⟨k, h32⟩
      rw [← hd] at HR HF2
      obtain ⟨C, hC⟩ : ∃ C, C = row f 32 := ⟨_, rfl⟩
      rw [← hC] at hc HR ⊢
      clear hC hd hf
      go_wp2_with fail
      refine (refStep_any _ d).mono ?_
      rintro e _ ⟨rfl, rfl⟩
      go_wp2_with fail
      go_roundw
      case rel => exact ⟨k + 1, _, by omega, by go_num, HF2.out, by rw [HR.out]⟩
      case measure => simp [intOf]; omega
    · have HT0 : Hid (Turns (row f 32) (8 * 1)) := turns_row fun j hj => hf.out j (by omega)
      have hkn : ¬ ((k : Int) < 32) := by omega
      have HH0 : Hid (Holds (w.alloc (.cells (row f 32) 44)) w.heap.size (row f 32)) := Holds.new _ _ _
      have HB0 : Hid (Below w.heap.size w (w.alloc (.cells (row f 32) 44))) := box_below _ _
      obtain ⟨C, hC⟩ : ∃ C, C = row f 32 := ⟨_, rfl⟩
      rw [← hC] at HT0 HH0 HB0 ⊢
      clear hC hf h32 hk
      obtain ⟨w1, hw1⟩ : ∃ w1, w1 = w.alloc (.cells C 44) := ⟨_, rfl⟩
      rw [← hw1] at HH0 HB0 ⊢
      clear hw1
      go_wp2_with fail
      go_loopw [0, 1] (fun vc vn wr => ∃ (d p m : Nat) (T : Array Value), vc = .int .u32 ((st (8 * d) c).toNat : Int) ∧ vn = .int .i64 (m : Int) ∧ Hid (d + p * m = n) ∧ m ≤ 9223372036854775807 ∧ Hid (Turns T (8 * p)) ∧ Hid (Holds wr w.heap.size T) ∧ Hid (Below w.heap.size w wr)) (fun _ m _ => (intOf m).toNat)
      case atStart => exact ⟨0, 1, n, C, rfl, rfl, by show _ = _; omega, hn, HT0.out, HH0.out, HB0.out⟩
      case round =>
        obtain ⟨d, p, m, T, rfl, rfl, hd, hm, hT, hH, hB⟩ := hrel
        by_cases h0 : 0 < m
        · have HI : Hid ((Try.prog.info? 44).map (·.size) = some T.toList.length) := by show _ = _; rw [Array.length_toList, hT.out.1]; exact zero32.2
          obtain ⟨d2, hd2⟩ : ∃ d2, ((m % 2 = 1 ∧ d2 = d + p) ∨ (m % 2 = 0 ∧ d2 = d)) := by
            rcases Nat.mod_two_eq_zero_or_one m with h | h
            · exact ⟨d, .inr ⟨h, rfl⟩⟩
            · exact ⟨d + p, .inl ⟨h, rfl⟩⟩
          have HD : Hid (d2 + 2 * p * (m / 2) = n) := by
            show _ = _
            rw [← hd.out]
            rcases hd2 with ⟨h, rfl⟩ | ⟨h, rfl⟩
            · have : m = 2 * (m / 2) + 1 := by omega
              conv => rhs; rw [this, Nat.mul_add, ← Nat.mul_assoc, Nat.mul_comm p 2]
              omega
            · have : m = 2 * (m / 2) := by omega
              conv => rhs; rw [this, ← Nat.mul_assoc, Nat.mul_comm p 2]
          go_upto_if 22 with fail
          go_cut [0] from 18 to 39 (fun s0 wx => s0 = .int .u32 ((st (8 * d2) c).toNat : Int) ∧ Hid (Holds wx w.heap.size T) ∧ Hid (Below w.heap.size w wx))
          case first =>
            rcases hd2 with ⟨h, rfl⟩ | ⟨h, rfl⟩
            · have h1' : (m : Int) % 2 = 1 := by omega
              have HE : Hid (st (8 * p) (st (8 * d) c) = st (8 * (d + p)) c) := by show _ = _; rw [← st_add, show 8 * (d + p) = 8 * p + 8 * d by omega]
              go_wp2_with (refine wpList_load_mid rfl 44 (.tmp 5) rfl w.heap.size 0 rfl T.toList _ hH.out.2.1 Try.underlying44 rfl HI.out ?_; rw [Array.toArray_toList])
              refine (do_turn _ T (8 * p) _ hT.out).mono ?_
              rintro e w2 ⟨rfl, q⟩
              rw [HE.out]
              have HH2 : Hid (Holds w2 w.heap.size T) := hH.out.below q
              have HB2 : Hid (Below w.heap.size w w2) := hB.out.trans (q.mono hB.out.size)
              clear q
              go_wp2_with fail
              go_meet
              case rel => exact ⟨rfl, HH2.out, HB2.out⟩
            · have h1' : (m : Int) % 2 = 0 := by omega
              go_wp2_with fail
              go_meet
              case rel => exact ⟨rfl, hH.out, hB.out⟩
          case rest =>
            obtain ⟨rfl, hH1, hB1⟩ := hcut
            clear hd2 hH hB hd
            go_wp2_with fail
            have hlt := hH1.out.1
            go_loopw [8] (fun vi wr => ∃ (k : Nat) (f : Nat → R), k ≤ 32 ∧ vi = .int .i64 (k : Int) ∧ Hid (∀ j, j < k → f j = st (8 * (2 * p)) (1#32 <<< j)) ∧ Hid (Holds wr wc.heap.size (row f 32)) ∧ Hid (Holds wr w.heap.size T) ∧ Hid (Below w.heap.size w wr)) (fun i _ => 32 - (intOf i).toNat)
            case atStart => exact ⟨0, fun _ => 0#32, by omega, rfl, fun j hj => by omega, by rw [row_zero]; exact Holds.new wc (Array.replicate 32 (.int .u32 0)) _, hH1.out.alloc _, hB1.out.alloc hB1.out.size _⟩
            case round =>
              obtain ⟨k, f, hk2, rfl, hf, hU, hH, hB⟩ := hrel
              by_cases hk32 : k < 32
              · have hg := hT.out.2.2 k hk32
                obtain ⟨x, hx⟩ : ∃ x, x = st (8 * p) (1#32 <<< k) := ⟨_, rfl⟩
                rw [← hx] at hg
                have HE : Hid (st (8 * p) x = st (8 * (2 * p)) (1#32 <<< k)) := by show _ = _; rw [hx, ← st_add, show 8 * (2 * p) = 8 * p + 8 * p by omega]
                obtain ⟨y, hy⟩ : ∃ y, y = st (8 * (2 * p)) (1#32 <<< k) := ⟨_, rfl⟩
                have HF2 : Hid (∀ j, j < k + 1 → upd f k y j = st (8 * (2 * p)) (1#32 <<< j)) := by
                  intro j hj
                  unfold upd
                  by_cases e : j = k
                  · subst e; rw [if_pos rfl, hy]
                  · rw [if_neg e]; exact hf.out j (by omega)
                rw [← hy] at HE
                have hS0 : wr.drew.rangeAt w.heap.size 0 T.toList ∧ wr.drew.cell? ⟨w.heap.size, k, none⟩ = some (.int .u32 (x.toNat : Int)) ∧ Holds wr.drew w.heap.size T ∧ Below w.heap.size w wr.drew := ⟨hH.out.2.1, hH.out.cell _ hg, hH.out.drew, hB.out.drew⟩
                have HG : Hid (T[k]? = some (.int .u32 (x.toNat : Int))) := hg
                have huT := Try.underlying44
                have hiT := HI.out
                have hlt2 : Hid (wc.heap.size < wr.heap.size) := hU.out.1
                have hcu : Hid (wr.cell? ⟨wc.heap.size, k, none⟩ = some (.int .u32 ((f k).toNat : Int))) := hU.out.cell _ (row_get f 32 k hk32)
                have hfu : Hid (wr.frozen? ⟨wc.heap.size, k, none⟩ = false) := hU.out.frozen (by rw [row_size]; exact hk32)
                clear hx hy hf hH hB hg
                go_wp2_with fail
                go_region_held3 (fun q => q.rangeAt w.heap.size 0 T.toList ∧ q.cell? ⟨w.heap.size, k, none⟩ = some (.int .u32 (x.toNat : Int)) ∧ Holds q w.heap.size T ∧ Below w.heap.size w q)
                  (first | exact hS0 | assumption | exact keepT HG.out (by assumption) (by assumption) | exact keepU HG.out (by assumption) (Nat.ne_of_gt hlt) (Nat.le_of_lt hlt))
                  (first
                    | (go_at_call 29; rw [Array.toArray_toList]; refine (do_turn _ T (8 * p) x hT.out).mono ?_; rw [HE.out]; rintro e u1 ⟨rfl, q1⟩; have hc1 : u1.cell? ⟨wc.heap.size, k, none⟩ = some (.int .u32 ((f k).toNat : Int)) := (q1.cell (p := ⟨wc.heap.size, k, none⟩) hlt2.out).trans hcu.out; have hf1 : u1.frozen? ⟨wc.heap.size, k, none⟩ = false := (q1.frozen (p := ⟨wc.heap.size, k, none⟩) hlt2.out).trans hfu.out)
                    | fail)
                rename_i hSn
                have HUn : Hid (Holds (u1.setCell ⟨wc.heap.size, k, none⟩ (.int .u32 (y.toNat : Int))) wc.heap.size (row (upd f k y) 32)) := by
                  have := (hU.out.drew.below q1).setCell (i := k) (by rw [row_size]; exact hk32) (.int .u32 (y.toNat : Int))
                  rw [row_set] at this
                  exact this
                have HHn : Hid (Holds (u1.setCell ⟨wc.heap.size, k, none⟩ (.int .u32 (y.toNat : Int))) w.heap.size T) := hSn.2.2.1
                have HBn : Hid (Below w.heap.size w (u1.setCell ⟨wc.heap.size, k, none⟩ (.int .u32 (y.toNat : Int)))) := hSn.2.2.2
                clear hSn hS0 q1 hc1 hf1
                go_wp2_with fail
                go_roundw
                case rel => exact ⟨k + 1, upd f k y, by omega, by go_num, HF2.out, HUn.out, HHn.out, HBn.out⟩
                case measure => simp [intOf]; omega
              · obtain rfl : k = 32 := by omega
                have HTU : Hid (Turns (row f 32) (8 * (2 * p))) := turns_row hf.out
                obtain ⟨U, hUe⟩ : ∃ U, U = row f 32 := ⟨_, rfl⟩
                rw [← hUe] at hU HTU
                clear hUe hf
                have HIU : Hid ((Try.prog.info? 44).map (·.size) = some U.toList.length) := by show _ = _; rw [Array.length_toList, HTU.out.1]; exact zero32.2
                have HIU2 : Hid ((Try.prog.info? 44).map (·.size) = some U.size) := by show _ = _; rw [HTU.out.1]; exact zero32.2
                have HTh : Hid (wr.there w.heap.size 0 U.size) := by have := hH.out.2.2; rw [hT.out.1] at this; show wr.there _ _ _; rw [HTU.out.1]; exact this
                have HHn : Hid (Holds (wr.setCells w.heap.size 0 U.toList) w.heap.size U) := hH.out.setCells U (by rw [HTU.out.1, hT.out.1])
                have HBn : Hid (Below w.heap.size w (wr.setCells w.heap.size 0 U.toList)) := below_setCells (Nat.le_refl _) _ _ hB.out
                go_wp2_with (first
                  | (refine wpList_load_mid rfl 44 (.tmp 7) rfl wc.heap.size 0 rfl U.toList _ hU.out.2.1 Try.underlying44 rfl HIU.out ?_; rw [Array.toArray_toList])
                  | (refine wpList_store_mid rfl 44 (.tmp 5) (.tmp 37) rfl w.heap.size 0 U rfl rfl HTh.out HIU2.out HTU.out.2.1 ?_))
                go_roundw
                case rel => exact ⟨d2, 2 * p, m / 2, U, rfl, by go_num, HD.out, by omega, HTU.out, HHn.out, HBn.out⟩
                case measure => simp [intOf]; omega
        · obtain rfl : m = 0 := by omega
          have : d = n := by have := hd.out; omega
          subst this
          go_wp2_with fail
          go_ret
          exact ⟨rfl, hB.out⟩

theorem refJoin_any (w : World) (a b : R) (n : Int) (h0 : -9223372036854775808 ≤ n) (h1 : n ≤ 9223372036854775807) :
    Calls Try.prog 19 #[.int .u32 (a.toNat : Int), .int .u32 (b.toNat : Int), .int .i64 n] w fun e w' => e = .returned (.int .u32 ((joinOf a b n).toNat : Int)) ∧ Below w.heap.size w w' := by
  by_cases hn : n < 0
  · go_enter Try.func19, Try.ntmps19
    go_wp2
    go_ret
    refine ⟨?_, Below.refl _ _⟩
    rw [joinOf, if_pos hn]; rfl
  · obtain ⟨m, rfl⟩ : ∃ m : Nat, n = (m : Int) := ⟨n.toNat, by omega⟩
    have hx := b_xor (st (8 * m) a) b
    have HJ : Hid (joinOf a b (m : Int) = st (8 * m) a ^^^ b) := by show _ = _; rw [joinOf, if_neg hn]; rfl
    rw [← HJ.out] at hx
    clear h0
    go_enter Try.func19, Try.ntmps19
    go_wp2_with fail
    refine (moved_any _ _ m (by omega)).mono ?_
    rintro e w1 ⟨rfl, q⟩
    go_wp2
    go_ret
    exact ⟨rfl, q⟩
theorem refZeros_any (w : World) (c : R) (n : Int) (h0 : -9223372036854775808 ≤ n) (h1 : n ≤ 9223372036854775807) :
    Calls Try.prog 21 #[.int .u32 (c.toNat : Int), .int .i64 n] w fun e w' => e = .returned (.int .u32 ((zerosOf c n).toNat : Int)) ∧ Below w.heap.size w w' := by
  by_cases hn : n < 0
  · go_enter Try.func21, Try.ntmps21
    go_wp2
    go_ret
    refine ⟨?_, Below.refl _ _⟩
    rw [zerosOf, if_pos hn]; rfl
  · obtain ⟨m, rfl⟩ : ∃ m : Nat, n = (m : Int) := ⟨n.toNat, by omega⟩
    have HJ : Hid (zerosOf c (m : Int) = st (8 * m) (c ^^^ ones) ^^^ ones) := by show _ = _; rw [zerosOf, if_neg hn]; rfl
    have hy := xor_ones c
    obtain ⟨d, hd⟩ : ∃ d, d = c ^^^ ones := ⟨_, rfl⟩
    rw [← hd] at hy HJ
    have hx := xor_ones (st (8 * m) d)
    rw [← HJ.out] at hx
    clear h0 hd
    go_enter Try.func21, Try.ntmps21
    go_wp2_with fail
    refine (moved_any _ _ m (by omega)).mono ?_
    rintro e w1 ⟨rfl, q⟩
    go_wp2
    go_ret
    exact ⟨rfl, q⟩
#print axioms refZeros_any
end Go.Proofs.Ytmhbcpbppcihfaa.Crc
