/-
  What crc.More and crc.Sum answer.
-/
import Derived.Test.YtdhjlongdfgejaaCrcB
import Derived.Test.YtdhjlongdfgejaaCrcT
namespace Go.Proofs.Ytdhjlongdfgejaa.Crc
open Go.RowKit

theorem feed_snoc (c : R) (l : List UInt8) (k : Nat) (h : k < l.length) : feed c (l.take (k + 1)) = st 8 (feed c (l.take k) ^^^ byte l[k]) := by
  rw [take_snoc l k h, feed_append]; rfl
theorem byte_idx (c : R) (x : UInt8) : bits BinOp.xor IntKind.u8 ((c.toNat : Int) % 256) (x.toNat : Int) = ((c.toNat % 256 ^^^ x.toNat : Nat) : Int) := by
  have := u8_xor_nat (c.toNat % 256) x.toNat (by omega) x.toNat_lt
  simpa using this
theorem byte_idx_lt (c : R) (x : UInt8) : c.toNat % 256 ^^^ x.toNat < 256 := by
  have := Nat.xor_lt_two_pow (n := 8) (show c.toNat % 256 < 2 ^ 8 by omega) (show x.toNat < 2 ^ 8 from x.toNat_lt)
  simpa using this
theorem shr8 (c : R) : (c.toNat : Int) / (256 : Int) = ((c >>> 8).toNat : Int) := by
  rw [BitVec.toNat_ushiftRight, Nat.shiftRight_eq_div_pow]; omega
theorem more_step (c : R) (x : UInt8) : bits BinOp.xor IntKind.u32 ((c.toNat : Int) / (256 : Int)) ((st 8 (BitVec.ofNat 32 (c.toNat % 256 ^^^ x.toNat))).toNat : Int) = ((st 8 (c ^^^ byte x)).toNat : Int) := by
  rw [shr8, b_xor, ← st8_split]

theorem table_some (w : World) :
    Calls Try.prog 67 #[] w fun e w' => ∃ T : Array Value, e = .returned (.agg T) ∧ Below w.heap.size w w' ∧ Hid (T.size = 256) ∧ Hid (T.all (·.oneCell') = true) ∧ Hid (∀ i, i < 256 → T[i]? = some (.int .u32 ((st 8 (BitVec.ofNat 32 i)).toNat : Int))) :=
  (table_any w).mono fun _ _ ⟨h, hb⟩ => ⟨tbl, h, hb, row_size _ _, row_one _ _, fun i hi => row_get _ 256 i hi⟩

set_option maxRecDepth 100000 in
set_option maxHeartbeats 1000000 in
theorem more_any (w : World) (sum : R) (v : Value) (l : List UInt8) (hv : Sl w v l) :
    Calls Try.prog 51 #[.int .u32 (sum.toNat : Int), v] w fun e w' => e = .returned (.int .u32 ((more sum l).toNat : Int)) ∧ Below w.heap.size w w' := by
  obtain ⟨ao, ca, rfl, h2, h3, h4, h5⟩ := hv
  have hca : ca ≤ 9223372036854775807 := by unfold maxLen at h4; omega
  clear h2 h4
  by_cases h0 : l.length = 0
  · have hl : l = [] := List.length_eq_zero_iff.1 h0
    subst hl
    clear h5 h0
    go_enter Try.func51, Try.ntmps51
    go_wp2_with fail
    go_ret
    exact ⟨by rw [more_nil]; rfl, Below.refl _ _⟩
  · have hz := zero256.1
    have h0' : ¬ ((l.length : Int) = 0) := by omega
    have HZ : Hid (∀ n, ((l.length : Int) == 0) = n → n = false) := by show ∀ n, _; intro n hn; rw [← hn]; simpa using h0
    go_enter Try.func51, Try.ntmps51
    go_wp2_with fail
    refine (table_some _).mono ?_
    rintro e w1 ⟨T, rfl, hb1, hs, h1, hT⟩
    have hi : Hid ((Try.prog.info? 96).map (·.size) = some T.size) := by show _ = _; rw [hs.out]; exact zero256.2
    have ht : Hid ((w1.alloc (.cells (Array.replicate 256 (.int .u32 0)) 96)).there w1.heap.size 0 256) := there_of (heap_new w1 _) (by simp)
    have hbl : Hid (Below w.heap.size w ((w1.alloc (.cells (Array.replicate 256 (.int .u32 0)) 96)).setCells w1.heap.size 0 T.toList)) := below_setCells hb1.size _ _ (hb1.alloc hb1.size _)
    have hcl : Hid (∀ i, i < 256 → ((w1.alloc (.cells (Array.replicate 256 (.int .u32 0)) 96)).setCells w1.heap.size 0 T.toList).cell? ⟨w1.heap.size, i, none⟩ = some (.int .u32 ((st 8 (BitVec.ofNat 32 i)).toNat : Int))) := by
      intro i hi
      have := World.rangeAt_setCells_same (w1.alloc (.cells (Array.replicate 256 (.int .u32 0)) 96)) w1.heap.size 0 T.toList (by rw [Array.length_toList, hs.out]; exact ht.out) i (.int .u32 ((st 8 (BitVec.ofNat 32 i)).toNat : Int)) (by rw [Array.getElem?_toList]; exact hT.out i hi)
      rwa [Nat.zero_add] at this
    go_wp2_with (refine wpList_store_mid rfl 96 (.tmp 5) (.tmp 13) rfl w1.heap.size 0 T rfl rfl (by rw [hs.out]; exact ht.out) hi.out h1.out ?_)
    rw [xor_ones]
    have hg := h5
    generalize hwv : (w1.alloc (.cells (Array.replicate 256 (.int .u32 0)) 96)).setCells w1.heap.size 0 T.toList = wv at *
    have h5v : Rd wv ao l := Below.rd hbl.out h5
    have hxl := fun c : R => xor_ones c
    have HXL : Hid (∀ c : R, bits .xor .u32 (c.toNat : Int) 4294967295 = ((c ^^^ ones).toNat : Int)) := hxl
    clear hwv hg h5 ht hi h1 hT hs hz hxl hb1 h0' HZ
    obtain ⟨c0, hc0⟩ : ∃ c0, c0 = sum ^^^ ones := ⟨_, rfl⟩
    have HM : Hid (more sum l = feed c0 l ^^^ ones) := by show _ = _; rw [hc0]; rfl
    rw [← hc0]
    clear hc0
    go_loopw [6, 8, 18] (fun vc _ vi wr => ∃ k : Nat, k ≤ l.length ∧ vc = .int .u32 ((feed c0 (l.take k)).toNat : Int) ∧ vi = .int .i64 (k : Int) ∧ wr = wv) (fun _ _ i _ => l.length - (intOf i).toNat)
    case atStart => exact ⟨0, Nat.zero_le _, rfl, rfl, rfl⟩
    case round =>
      obtain ⟨k, hk, rfl, rfl, rfl⟩ := hrel
      by_cases hlt : k < l.length
      · obtain ⟨b1, o1, rfl, hb⟩ := h5v.at (by omega)
        have d2 := hb k hlt
        have HF : Hid (st 8 (feed c0 (l.take k) ^^^ byte l[k]) = feed c0 (l.take (k + 1))) := (feed_snoc c0 l k hlt).symm
        obtain ⟨c, hc⟩ : ∃ c, c = feed c0 (l.take k) := ⟨_, rfl⟩
        obtain ⟨x, hx⟩ : ∃ x, x = l[k] := ⟨_, rfl⟩
        rw [← hx] at d2 HF
        rw [← hc] at HF ⊢
        have hix := byte_idx c x
        have hms := more_step c x
        rw [HF.out] at hms
        obtain ⟨y, hy⟩ : ∃ y, y = c.toNat % 256 ^^^ x.toNat := ⟨_, rfl⟩
        have hyl : y < 256 := by rw [hy]; exact byte_idx_lt c x
        rw [← hy] at hix hms
        have hcy := hcl.out y hyl
        have hcl32 := lt32 c
        have hxl8 := x.toNat_lt
        clear hy hx hc HF hb
        go_wp2_with fail
        go_roundw
        case rel => exact ⟨k + 1, by omega, rfl, by go_num, by trivial⟩
        case measure => simp [intOf]; omega
      · obtain rfl : k = l.length := by omega
        have hxo := HXL.out (feed c0 l)
        rw [List.take_length, ← HM.out] at *
        go_wp2_with fail
        go_ret
        exact ⟨rfl, hbl.out⟩
#print axioms more_any
end Go.Proofs.Ytdhjlongdfgejaa.Crc
