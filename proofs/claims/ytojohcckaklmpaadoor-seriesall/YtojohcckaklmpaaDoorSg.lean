/-
  The document's own Pack: a number's lowest bits, a number's ends.
-/
import Derived.Test.YtojohcckaklmpaaDoorSp
import Derived.Test.YtojohcckaklmpaaDoorRefV
namespace Go.Proofs.YtojohcckaklmpaaDoor.Sr
open Go.RowKit
open Go.Proofs.YtojohcckaklmpaaDoor.Rl (fvals Bs uvals)
set_option maxRecDepth 100000
set_option linter.unusedVariables false

/-- Bits as bytes. -/
def bb (l : List Nat) : List UInt8 := l.map UInt8.ofNat
theorem bb_append (l m : List Nat) : bb (l ++ m) = bb l ++ bb m := by simp [bb]
@[simp] theorem bb_len (l : List Nat) : (bb l).length = l.length := by simp [bb]
theorem bb_get (B : List Nat) (hB : IsB B) (i : Nat) (h : i < B.length) : ((bb B)[i]'(by simpa using h)).toNat = B[i] := by
  have := hB _ (List.getElem_mem h)
  unfold bb
  rw [List.getElem_map, UInt8.toNat_ofNat_of_lt' (by simp only [UInt8.size]; omega)]
theorem one_bit (b : Nat) (hb : b < 2) : Value.int .u8 (b : Int) = bval (UInt8.ofNat b) := u8_of b (by omega)
set_option maxHeartbeats 2000000 in
theorem rput_any (w : World) (base : Nat) (v : Value) (B : List Nat) (x W : Nat) (hx : x < 18446744073709551616) (hW : W ≤ 64) (hbase : base ≤ w.heap.size) (ho : w.ownsRow base 5 1 v B.length (bvals (bb B))) (hB : B.length + 64 ≤ 1000000) :
    Calls Tryd.prog 26 #[v, .int .u64 (x : Int), .int .i64 (W : Int)] w fun e w' => ∃ v', e = .returned v' ∧ w'.ownsRow base 5 1 v' (B ++ bitsOf x W).length (bvals (bb (B ++ bitsOf x W))) ∧ Below base w w' := by
  obtain ⟨i0, hi, hz0, hz1, hz2⟩ := info_parts Tryd.infoU8
  go_enter Tryd.func26, Tryd.ntmps26
  go_wp2_with fail
  go_loopw [0, 7] (fun vl v wr => ∃ (k : Nat) (B' : List Nat), k ≤ W ∧ v = .int .i64 ((k : Int) - 1) ∧ wr.ownsRow base 5 1 vl B'.length (bvals (bb B')) ∧ Hid (Below base w wr) ∧ Hid (B ++ bitsOf x W = B' ++ bitsOf x k) ∧ B'.length + k = B.length + W) (fun _ v _ => (intOf v + 1).toNat)
  case atStart => exact ⟨W, B, Nat.le_refl _, by go_num, ho, Below.refl _ _, rfl, rfl⟩
  case round =>
    clear ho
    obtain ⟨k, B', hk, rfl, ho, hbl, he, hlen⟩ := hrel
    by_cases h0 : k = 0
    · subst h0
      replace ho : Hid (wr.ownsRow base 5 1 u0 B'.length (bvals (bb B'))) := ho
      have he2 : Hid (B ++ bitsOf x W = B') := by show _ = _; have := he.out; simpa [bitsOf] using this
      go_wp2
      go_ret
      exact ⟨u0, rfl, by rw [he2.out]; exact ho.out, hbl.out⟩
    · obtain ⟨j, rfl⟩ : ∃ j, k = j + 1 := ⟨k - 1, by omega⟩
      have hj : ((j + 1 : Nat) : Int) - 1 = (j : Int) := by omega
      rw [hj]
      have hj0 : (0 : Int) ≤ (j : Int) := by omega
      have hj1 : (j : Int) < 64 := by omega
      have ha := and_one (x / 2 ^ j) (Nat.lt_of_le_of_lt (Nat.div_le_self _ _) hx)
      rw [show ((x / 2 ^ j : Nat) : Int) = (x : Int) / 2 ^ j by simp] at ha
      obtain ⟨b, hbv⟩ : ∃ b, Hid (x / 2 ^ j % 2 = b) := ⟨_, rfl⟩
      rw [hbv.out] at ha
      have hb2 : b < 2 := by rw [← hbv.out]; omega
      have hbs := hbl.out.size
      have hh1 : ∀ u ∈ [Value.int .u8 (b : Int)], u.oneCell' = true := by simp [Value.oneCell']
      have hh2 : B'.length + 1 ≤ maxLen := by unfold maxLen; omega
      have hh3 : (B'.length + 1) * 1 ≤ 140737488355328 := by omega
      go_wp2_with (at_builtin; refine wpList_append_own _ rfl (.tmp 14) (.tmp 20) 27 rfl base 5 i0 (.int .u8 0) 1 1 Tryd.underlying27 hi hz0 hz1 hz2 rfl (by decide) _ _ _ rfl (ho.alloc _) ⟨wr.heap.size, 0, none⟩ 1 1 [.int .u8 (b : Int)] rfl rfl (cell_one_new _ _ _) hh1 hh2 hh3 (by simp; omega) ?_)
      intro v' w2 ho2 hg2 _
      have hb3 : Hid (Below base w w2) := (hbl.out.alloc (by omega) _).grown hg2 (by simp; omega) (fun k hk => (ho.lt k hk).1)
      have ho3 : Hid (w2.ownsRow base 5 1 v' (B' ++ [b]).length (bvals (bb (B' ++ [b])))) := by
        rw [one_bit b hb2, bvals_one] at ho2
        rw [bb_append]
        show World.ownsRow _ _ _ _ _ _ _
        simpa [bb] using ho2
      clear ho ho2 hg2
      go_wp2_with fail
      go_roundw
      case rel =>
        refine ⟨j, B' ++ [b], by omega, by go_num, ho3.out, hb3, ?_, by simp; omega⟩
        show _ = _
        rw [he.out, bitsOf, hbv.out]; simp
      case measure => simp [intOf]
#print axioms rput_any
set_option maxHeartbeats 2000000 in
theorem ends_any (w : World) (x : Nat) (hx : x < 18446744073709551616) (h0 : x ≠ 0) :
    Calls Tryd.prog 27 #[.int .u64 (x : Int)] w fun e w' => e = .returned (.tuple #[.int .i64 ((64 - Lib.bitLen x : Nat) : Int), .int .i64 ((Lib.bitLen x - Lib.ctz 64 x : Nat) : Int)]) ∧ w' = w := by
  obtain ⟨m, hm, htL, hL64, hd, hls⟩ := ends_of hx h0
  have hLS := bitLen_S hx
  generalize Lib.bitLen x = L at *
  generalize Lib.ctz 64 x = t at *
  replace hLS : Hid (LenS x L) := hLS
  replace hm : Hid (x = 2 ^ t * (2 * m + 1)) := hm
  replace hx : Hid (x < 18446744073709551616) := hx
  clear hd hls
  go_enter Tryd.func27, Tryd.ntmps27
  go_wp2_with fail
  go_loopw [4] (fun v wr => ∃ f : Nat, f ≤ 63 ∧ v = .int .i64 (f : Int) ∧ Hid (x < 2 ^ (f + 1)) ∧ wr = w) (fun v _ => (intOf v).toNat)
  case atStart => exact ⟨63, by omega, rfl, by have := hx.out; show _ < _; omega, rfl⟩
  case round =>
    obtain ⟨f, hf, rfl, hxf, rfl⟩ := hrel
    have hf0 : (0 : Int) ≤ (f : Int) := by omega
    have hf1 : (f : Int) < 64 := by omega
    have hd : (x : Int) / 2 ^ f = ((x / 2 ^ f : Nat) : Int) := by simp
    by_cases hz : x / 2 ^ f = 0
    · have hz2 : ((x : Int) / 2 ^ f == 0) = true := by rw [hd, hz]; rfl
      have hfp : f ≠ 0 := by rintro rfl; simp at hz; exact h0 hz
      obtain ⟨g, rfl⟩ : ∃ g, f = g + 1 := ⟨f - 1, by omega⟩
      have hlt : Hid (x < 2 ^ (g + 1)) := by
        apply Nat.lt_of_not_le
        intro hle
        have : 0 < x / 2 ^ (g + 1) := Nat.div_pos hle (Nat.two_pow_pos _)
        omega
      obtain ⟨G, hG⟩ : ∃ G, Hid (g + 1 = G) := ⟨_, rfl⟩
      rw [hG.out] at hf hxf hf0 hf1 hz2 hd hz ⊢
      have hgi : (G : Int) - 1 = (g : Int) := by have := hG.out; omega
      clear hz hd hfp
      go_wp2_with fail
      go_roundw
      case rel => exact ⟨g, by have := hG.out; omega, by go_num, hlt, by trivial⟩
      case measure => simp [intOf]; have := hG.out; omega
    · have hz2 : ((x : Int) / 2 ^ f == 0) = false := by rw [hd]; simp only [beq_eq_false_iff_ne, ne_eq]; omega
      have hfL : f + 1 = L := by
        refine LenS.uniq ⟨hxf.out, Or.inr ?_⟩ hLS.out
        rw [Nat.add_sub_cancel]
        apply Nat.le_of_not_lt
        intro hlt
        exact hz (Nat.div_eq_of_lt hlt)
      replace hfL : Hid (f + 1 = L) := hfL
      clear hz hd
      go_wp2_with fail
      go_loopw [5] (fun v wr' => ∃ s : Nat, s ≤ t ∧ v = .int .i64 (s : Int) ∧ wr' = wr) (fun v _ => t - (intOf v).toNat)
      case atStart => exact ⟨0, by omega, rfl, rfl⟩
      case round =>
        obtain ⟨s, hs, rfl, hwr⟩ := hrel
        subst hwr
        have hs0 : (0 : Int) ≤ (s : Int) := by omega
        have hs1 : (s : Int) < 64 := by omega
        have ha := and_one (x / 2 ^ s) (Nat.lt_of_le_of_lt (Nat.div_le_self _ _) hx.out)
        rw [show ((x / 2 ^ s : Nat) : Int) = (x : Int) / 2 ^ s by simp] at ha
        by_cases hst : s = t
        · subst hst
          have hodd : x / 2 ^ s % 2 = 1 := by rw [hm.out, Nat.mul_div_cancel_left _ (Nat.two_pow_pos _)]; omega
          rw [hodd] at ha
          replace ha : bits .and .u64 ((x : Int) / 2 ^ s) 1 = 1 := ha
          clear hodd
          have hfL2 : (f : Int) + 1 = (L : Int) := by have := hfL.out; omega
          go_wp2
          go_ret2
          refine ⟨?_, rfl⟩
          simp
          omega
        · have heven : x / 2 ^ s % 2 = 0 := by
            obtain ⟨d, rfl⟩ : ∃ d, t = s + (d + 1) := ⟨t - s - 1, by omega⟩
            rw [hm.out, Nat.pow_add, Nat.mul_assoc, Nat.mul_div_cancel_left _ (Nat.two_pow_pos _), Nat.pow_succ, Nat.mul_comm (2 ^ d), Nat.mul_assoc, Nat.mul_mod_right]
          rw [heven] at ha
          replace ha : bits .and .u64 ((x : Int) / 2 ^ s) 1 = 0 := ha
          clear heven
          go_wp2_with fail
          go_roundw
          case rel => exact ⟨s + 1, by omega, by go_num, by trivial⟩
          case measure => simp [intOf]; omega
#print axioms ends_any
/-- Bits, the last byte's rest filled with 0. -/
def padded (B : List Nat) : List Nat := B ++ List.replicate (padN B) 0
theorem padded_len (B : List Nat) : (padded B).length = 8 * ((B.length + 7) / 8) := by unfold padded padN; simp; omega
theorem padded_get (B : List Nat) (i : Nat) (h : i < (padded B).length) : (padded B)[i]? = some (B.getD i 0) := by
  have hl := padded_len B
  unfold padded at h ⊢
  by_cases hi : i < B.length
  · rw [List.getElem?_append_left hi, List.getD_eq_getElem?_getD, List.getElem?_eq_getElem hi]; rfl
  · rw [List.getElem?_append_right (by omega), List.getD_eq_getElem?_getD, List.getElem?_eq_none (by omega : B.length ≤ i)]
    rw [List.getElem?_replicate, if_pos]
    · rfl
    · rw [List.length_append, List.length_replicate] at h; omega
theorem putNext_isB (i x : Nat) : IsB (putNext i x) := by
  unfold putNext
  split
  · exact bitsOf_isB _ _
  · unfold diffB
    split
    · exact IsB.cons (by decide) IsB.nil
    · exact IsB.cons (by decide) ((bitsOf_isB _ _).append ((bitsOf_isB _ _).append (bitsOf_isB _ _)))
theorem putAll_isB (us : List Nat) : ∀ i was, IsB (putAll i was us) := by
  induction us with
  | nil => intro i was; exact IsB.nil
  | cons u us ih => intro i was; exact (putNext_isB _ _).append (ih _ _)
theorem ofB_snoc2 (l : List Nat) (b : Nat) : ofB 0 (l ++ [b]) = 2 * ofB 0 l + b := by rw [ofB_append]; rfl
theorem group_step (P : List Nat) (o k : Nat) (h : o + k < P.length) : ofB 0 ((P.drop o).take (k + 1)) = 2 * ofB 0 ((P.drop o).take k) + P[o + k] := by
  have hk : k < (P.drop o).length := by rw [List.length_drop]; omega
  rw [List.take_succ_eq_append_getElem hk, ofB_snoc2, List.getElem_drop]
theorem padded_isB {B : List Nat} (h : IsB B) : IsB (padded B) := h.append (fun b hb => by rw [(List.mem_replicate.1 hb).2]; decide)
theorem unb_snoc (m : List UInt8) (c : Nat) (hc : c < 256) : unb (m ++ [UInt8.ofNat c]) = unb m ++ bitsOf c 8 := by
  rw [unb_append]; simp only [unb, List.append_nil]; rw [UInt8.toNat_ofNat_of_lt' (by simpa using hc)]
theorem owns_mono0 {w : World} {base base' e n : Nat} {v : Value} {xs : List Value} (h : w.ownsRow base e 1 v n xs) (hb : base' ≤ base) : w.ownsRow base' e 1 v n xs := by
  obtain ⟨h1, h2⟩ := h
  refine ⟨h1, ?_⟩
  rcases h2 with h2 | ⟨g, cap, cur, hv, hg, r⟩
  · exact Or.inl h2
  · exact Or.inr ⟨g, cap, cur, hv, by omega, r⟩
theorem rpack_many (w : World) (v : Value) (us : List Nat) (hx : Row w v (fvals us)) (hm : 4096 < us.length) :
    Calls Tryd.prog 10 #[v] w fun e w' => e = .returned (.tuple #[.slice none 0 0, .int .i64 9]) ∧ w' = w := by
  obtain ⟨ao, cap, rfl, h1, h2, h3, h4⟩ := hx
  rw [show (fvals us).length = us.length by simp [fvals]]
  clear h1 h2 h4
  go_enter Tryd.func10, Tryd.ntmps10
  go_wp2
  go_ret2
  exact ⟨rfl, rfl⟩
#print axioms rpack_many
set_option maxHeartbeats 8000000 in
theorem rpack_any (w : World) (v : Value) (us : List Nat) (hx : Row w v (fvals us)) (hb : Bs us) (hm : us.length ≤ 4096) :
    Calls Tryd.prog 10 #[v] w fun e w' => ∃ v' m, e = .returned (.tuple #[v', .int .i64 0]) ∧ Pk (putAll 0 0 us) m ∧ w'.ownsRow w.heap.size 5 1 v' (enc us.length ++ m).length (bvals (enc us.length ++ m)) ∧ Below w.heap.size w w' := by
  obtain ⟨u0, hu, hz0, hz1, hz2⟩ := info_parts Tryd.infoU8
  obtain ⟨ao, cap, rfl, h1, h2, h3, h4⟩ := hx
  have hfl : (fvals us).length = us.length := by simp [fvals]
  have hat : Hid (At w ao (fvals us)) := h4
  rw [hfl]
  clear h1 h2 h3 h4 hfl
  obtain ⟨n, hn⟩ : ∃ n, Hid (us.length = n) := ⟨_, rfl⟩
  rw [hn.out] at hm ⊢
  replace hb : Hid (Bs us) := hb
  have k1 := Rl.bits_run
  have hdec : decide ((4096 : Int) < (n : Int)) = false := by simp; omega
  have hnm : ¬ (4096 : Int) < (n : Int) := by omega
  have hvar : Hid (∀ q : World, Calls Tryd.prog 28 #[.int .u64 (n : Int)] q fun e w' => ∃ v', e = .returned v' ∧ w'.ownsRow q.heap.size 5 1 v' (enc n).length (bvals (enc n)) ∧ Below q.heap.size q w') := fun q => by
    have := refVarint_any q (n : Int) (by omega) (by omega)
    rwa [Int.toNat_natCast] at this
  have hel := enc_len n
  obtain ⟨E, hE⟩ : ∃ E, Hid (enc n = E) := ⟨_, rfl⟩
  rw [hE.out] at hvar hel ⊢
  go_enter Tryd.func10, Tryd.ntmps10
  go_wp2_with fail
  (try simp only [hdec])
  go_loopw [4, 5, 6] (fun vl va vi wr => ∃ (i a : Nat) (B : List Nat), i ≤ n ∧ vi = .int .i64 (i : Int) ∧ va = .int .u64 (a : Int) ∧ Hid ((us.take i).getLastD 0 = a) ∧ Hid (putAll 0 0 (us.take i) = B) ∧ wr.ownsRow w.heap.size 5 1 vl B.length (bvals (bb B)) ∧ Hid (Below w.heap.size w wr)) (fun _ _ v _ => n - (intOf v).toNat)
  case atStart => exact ⟨0, 0, [], by omega, rfl, rfl, rfl, rfl, World.ownsRow_nil _ _ _ _, Below.refl _ _⟩
  case round =>
    obtain ⟨i, a, B, hi, rfl, rfl, ha, hBB, ho, hBl⟩ := hrel
    have hBlen : B.length ≤ 77 * 4096 := by
      rw [← hBB.out]
      refine Nat.le_trans (putAll_len _ 0 0 (fun c hc => hb.out c (List.mem_of_mem_take hc)) (by omega)) ?_
      rw [List.length_take]; omega
    have hBs := hBl.out.size
    by_cases hin : i = n
    · subst hin
      obtain ⟨wA, hwA⟩ : ∃ wA, wA = wr := ⟨wr, rfl⟩
      subst hwA
      have hBB2 : Hid (putAll 0 0 us = B) := by
        have := hBB.out
        rwa [List.take_of_length_le (by have := hn.out; omega)] at this
      have hIB : Hid (IsB B) := by rw [← hBB2.out]; exact putAll_isB _ _ _
      obtain ⟨ao4, ca4, hv4⟩ := own_slice ho
      subst hv4
      have hsl : Hid (Sl wA (.slice ao4 B.length ca4) (bb B)) := Sl.of_owns2 ho (by simp)
      obtain ⟨M, hM⟩ : ∃ M, Hid (B.length = M) := ⟨_, rfl⟩
      rw [hM.out] at hsl hBlen ⊢
      have hPl : (padded B).length = 8 * ((M + 7) / 8) := by rw [padded_len, hM.out]
      clear ho
      go_wp2_with fail
      refine (hvar.out _).mono ?_
      rintro e w3 ⟨v3, rfl, ho3, hb3⟩
      replace hb3 : Hid (Below wA.heap.size wA w3) := hb3
      go_wp2_with fail
      go_loopw [11, 12] (fun vo vi wB => ∃ (j : Nat) (m : List UInt8), j ≤ (M + 7) / 8 ∧ vi = .int .i64 ((8 * j : Nat) : Int) ∧ m.length = j ∧ Hid (unb m = (padded B).take (8 * j)) ∧ wB.ownsRow wA.heap.size 5 1 vo (E ++ m).length (bvals (E ++ m)) ∧ Hid (Below wA.heap.size wA wB)) (fun _ v _ => 8 * ((M + 7) / 8) - (intOf v).toNat)
      case atStart => exact ⟨0, [], by omega, rfl, rfl, by rw [Nat.mul_zero, List.take_zero]; rfl, by rw [List.append_nil]; exact ho3, hb3⟩
      case round =>
        clear ho3 hb3 hvar
        obtain ⟨j, m, hj, rfl, hml, hum, hom, hBq⟩ := hrel
        obtain ⟨wB, hwB⟩ : ∃ wB, wB = wr := ⟨wr, rfl⟩
        subst hwB
        obtain ⟨o, ho8⟩ : ∃ o, Hid (8 * j = o) := ⟨_, rfl⟩
        rw [ho8.out] at hum ⊢
        by_cases hend : M ≤ o
        · have hoe : Hid (o = 8 * ((M + 7) / 8)) := by have := ho8.out; show _ = _; omega
          have hpk : Hid (Pk (putAll 0 0 us) m) := by
            show unb m = _
            rw [hum.out, List.take_of_length_le (by have := hoe.out; omega), hBB2.out]; rfl
          have g1 : ¬ (o : Int) < (M : Int) := by omega
          replace hom : Hid (wB.ownsRow wA.heap.size 5 1 u11 (E ++ m).length (bvals (E ++ m))) := hom
          go_wp2
          go_ret2
          refine ⟨u11, rfl, m, hpk.out, owns_mono0 (by have := hom.out; rwa [List.length_append] at this) hBs, hBl.out.trans (hBq.out.mono hBs)⟩
        · have g1 : (o : Int) < (M : Int) := by omega
          have g0 : (0 : Int) ≤ (o : Int) := by omega
          go_wp2_with fail
          go_loopw [13, 14] (fun vc vk wr => ∃ k c : Nat, k ≤ 8 ∧ vk = .int .i64 (k : Int) ∧ vc = .int .i64 (c : Int) ∧ c < 256 ∧ Hid (ofB 0 (((padded B).drop o).take k) = c) ∧ wr = wB) (fun _ v _ => 8 - (intOf v).toNat)
          case atStart => exact ⟨0, 0, by omega, rfl, rfl, by omega, rfl, rfl⟩
          case round =>
            obtain ⟨k, c, hk, rfl, rfl, hc, hcv, hwz⟩ := hrel
            subst hwz
            have hopl : o + 8 ≤ (padded B).length := by have := ho8.out; omega
            by_cases hk8 : k = 8
            · subst hk8
              have hbits : bitsOf c 8 = ((padded B).drop o).take 8 := by
                rw [← hcv.out]
                exact bitsOf_eq (((padded_isB hIB.out).drop o).take 8) (by rw [List.length_take, List.length_drop]; omega)
              have hum2 : Hid (unb (m ++ [UInt8.ofNat c]) = (padded B).take (8 * (j + 1))) := by
                show _ = _
                rw [unb_snoc m c hc, hum.out, hbits, ← List.take_add, show 8 * (j + 1) = o + 8 by have := ho8.out; omega]
              have hh1 : ∀ u ∈ [Value.int .u8 (c : Int)], u.oneCell' = true := by simp [Value.oneCell']
              have hEm : (E ++ m).length ≤ 100000 := by rw [List.length_append]; omega
              have hh2 : (E ++ m).length + 1 ≤ maxLen := by unfold maxLen; omega
              have hh3 : ((E ++ m).length + 1) * 1 ≤ 140737488355328 := by omega
              have hci : (c : Int) < 256 := by omega
              have hBq2 := hBq.out.size
              clear hbits hcv
              go_wp2_with (at_builtin; refine wpList_append_own _ rfl (.tmp 102) (.tmp 105) 27 rfl wA.heap.size 5 u0 (.int .u8 0) 1 1 Tryd.underlying27 hu hz0 hz1 hz2 rfl (by decide) _ _ _ rfl (hom.alloc _) ⟨wr.heap.size, 0, none⟩ 1 1 [.int .u8 (c : Int)] rfl rfl (cell_one_new _ _ _) hh1 hh2 hh3 (by simp; omega) ?_)
              intro v5 w5 ho5 hg5 _
              have hb5 : Hid (Below wA.heap.size wA w5) := (hBq.out.alloc (by omega) _).grown hg5 (by simp; omega) (fun k hk => (hom.lt k hk).1)
              have ho6 : Hid (w5.ownsRow wA.heap.size 5 1 v5 (E ++ (m ++ [UInt8.ofNat c])).length (bvals (E ++ (m ++ [UInt8.ofNat c])))) := by
                show World.ownsRow _ _ _ _ _ _ _
                rw [u8_of c hc, bvals_one] at ho5
                have hl : (E ++ (m ++ [UInt8.ofNat c])).length = E.length + j + 1 := by simp [hml]; omega
                rw [hl, ← List.append_assoc]
                exact ho5
              clear hom ho5 hg5
              go_wp2_with fail
              go_roundw
              case rel => exact ⟨j + 1, m ++ [UInt8.ofNat c], by have := ho8.out; omega, by have := ho8.out; go_num, by simp; omega, hum2, ho6.out, hb5⟩
              case measure => simp [intOf]; have := ho8.out; omega
            · have k1 : (k : Int) < 8 := by omega
              have k0 : (0 : Int) ≤ (k : Int) := by omega
              have hok : o + k < (padded B).length := by omega
              have hstep := group_step (padded B) o k hok
              have hget := padded_get B (o + k) hok
              rw [List.getElem?_eq_getElem hok] at hget
              rw [Option.some.inj hget, hcv.out] at hstep
              have hcn : ofB 0 (((padded B).drop o).take (k + 1)) < 256 := by
                have h1 := ofB_lt0 (((padded_isB hIB.out).drop o).take (k + 1)) (n := k + 1) (by rw [List.length_take, List.length_drop]; omega)
                have h2 : 2 ^ (k + 1) ≤ 2 ^ 8 := Nat.pow_le_pow_right (by decide) (by omega)
                omega
              by_cases hin2 : o + k < M
              · have hlt : o + k < B.length := by rw [hM.out]; exact hin2
                obtain ⟨b, hbv⟩ : ∃ b, Hid (B[o + k] = b) := ⟨B[o + k], rfl⟩
                have hb2 : b < 2 := by rw [← hbv.out]; exact hIB.out _ (List.getElem_mem _)
                rw [List.getD_eq_getElem?_getD, List.getElem?_eq_getElem hlt] at hstep
                simp only [Option.getD_some] at hstep
                rw [hbv.out] at hstep
                obtain ⟨C, hC⟩ : ∃ C, Hid (2 * c + b = C) := ⟨_, rfl⟩
                rw [hstep, hC.out] at hcn
                rw [hC.out] at hstep
                have hCi : (c : Int) * 2 + (b : Int) = (C : Int) := by have := hC.out; omega
                obtain ⟨ao5, ca5, hv5, _, _, _, hrd⟩ := hsl.out
                simp only [Value.slice.injEq] at hv5
                obtain ⟨rfl, _, rfl⟩ := hv5
                obtain ⟨bb1, off1, rfl, hcell⟩ := hrd (o + k) (by simpa using hlt)
                have hcx : wr.cell? ⟨bb1, off1 + (o + k), none⟩ = some (.int .u8 (b : Int)) := by
                  rw [hBq.out.cell (p := ⟨bb1, off1 + (o + k), none⟩) (lt_of_cell hcell), hcell, bb_get B hIB.out _ hlt, hbv.out]
                have s1 : (o : Int) + (k : Int) < (M : Int) := by omega
                have s2 : (0 : Int) ≤ (o : Int) + (k : Int) := by omega
                replace hstep : Hid (ofB 0 (((padded B).drop o).take (k + 1)) = C) := hstep
                clear hrd hcell hget
                go_wp2_with fail
                go_roundw
                case rel => exact ⟨k + 1, C, by omega, by go_num, by go_num, hcn, hstep, by trivial⟩
                case measure => simp [intOf]; omega
              · have hnb : B.getD (o + k) 0 = 0 := by rw [List.getD_eq_getElem?_getD, List.getElem?_eq_none (by rw [hM.out]; omega)]; rfl
                rw [hnb, Nat.add_zero] at hstep
                rw [hstep] at hcn
                have s1 : ¬ (o : Int) + (k : Int) < (M : Int) := by omega
                obtain ⟨C, hC⟩ : ∃ C, Hid (2 * c = C) := ⟨_, rfl⟩
                rw [hC.out] at hstep hcn
                have hCi : (c : Int) * 2 = (C : Int) := by have := hC.out; omega
                replace hstep : Hid (ofB 0 (((padded B).drop o).take (k + 1)) = C) := hstep
                clear hget hnb
                go_wp2_with fail
                go_roundw
                case rel => exact ⟨k + 1, C, by omega, by go_num, by go_num, hcn, hstep, by trivial⟩
                case measure => simp [intOf]; omega
    · have hil : i < us.length := by have := hn.out; omega
      obtain ⟨x, hx⟩ : ∃ x, Hid (us[i] = x) := ⟨us[i], rfl⟩
      have hx64 : x < 18446744073709551616 := by rw [← hx.out]; exact hb.out _ (List.getElem_mem _)
      have ha64 : a < 18446744073709551616 := by rw [← ha.out]; exact lastD_lt _ (fun c hc => hb.out c (List.mem_of_mem_take hc))
      obtain ⟨rb, off, rfl, hcell⟩ := hat.out i (by simp [fvals]; omega)
      have hcx : wr.cell? ⟨rb, off + i, none⟩ = some (.float .f64 x) := by
        rw [hBl.out.cell (p := ⟨rb, off + i, none⟩) (lt_of_cell hcell), hcell, ← hx.out]
        simp [fvals]
      clear hcell
      have ha2 : Hid ((us.take (i + 1)).getLastD 0 = x) := by
        show _ = _
        rw [take_last us i hil, hx.out]
      have hst : Hid (putAll 0 0 (us.take (i + 1)) = B ++ putNext i (x ^^^ a)) := by
        show _ = _
        rw [putAll_step us i hil, hBB.out, hx.out, ha.out]
      have i1 : (i : Int) < (n : Int) := by omega
      have i2 : (0 : Int) ≤ (i : Int) := by omega
      have hx2 := xor_nat x a hx64 ha64
      obtain ⟨D, hD⟩ : ∃ D, Hid (x ^^^ a = D) := ⟨_, rfl⟩
      rw [hD.out] at hx2 hst
      have hD64 : D < 18446744073709551616 := by rw [← hD.out]; exact xor_lt hx64 ha64
      by_cases hi0 : i = 0
      · have ha0 : a = 0 := by rw [← ha.out, hi0]; rfl
        have hi1 : ((i : Int) == 0) = true := by simp; omega
        have hput : Hid (Calls Tryd.prog 26 #[u4, .int .u64 (x : Int), .int .i64 64] wr fun e w' => ∃ v', e = .returned v' ∧ w'.ownsRow w.heap.size 5 1 v' (B ++ bitsOf x 64).length (bvals (bb (B ++ bitsOf x 64))) ∧ Below w.heap.size wr w') := rput_any wr _ u4 B x 64 hx64 (by omega) hBs ho (by omega)
        replace hst : Hid (putAll 0 0 (us.take (i + 1)) = B ++ bitsOf x 64) := by
          have := hst.out
          unfold putNext at this
          rwa [if_pos hi0, ← hD.out, ha0, Nat.xor_zero] at this
        clear hx64 ha64 hi0 ha0 ho hD64
        go_wp2_with fail
        refine hput.out.mono ?_
        rintro e w3 ⟨v3, rfl, ho3, hb3⟩
        replace ho3 : Hid (w3.ownsRow w.heap.size 5 1 v3 (B ++ bitsOf x 64).length (bvals (bb (B ++ bitsOf x 64)))) := ho3
        replace hb3 : Hid (Below w.heap.size w w3) := hBl.out.trans hb3
        clear hput hBl hcx
        go_wp2_with fail
        go_roundw
        case rel => exact ⟨i + 1, x, B ++ bitsOf x 64, by omega, by go_num, rfl, ha2, hst, ho3.out, hb3⟩
        case measure => simp [intOf]; omega
      · have hi1 : ((i : Int) == 0) = false := by simp; omega
        replace hst : Hid (putAll 0 0 (us.take (i + 1)) = B ++ diffB D) := by
          have := hst.out
          unfold putNext at this
          rwa [if_neg hi0] at this
        by_cases hD0 : D = 0
        · subst hD0
          have hst0 : Hid (putAll 0 0 (us.take (i + 1)) = B ++ [0]) := hst.out
          have hh1 : ∀ u ∈ [Value.int .u8 0], u.oneCell' = true := by simp [Value.oneCell']
          have hh2 : B.length + 1 ≤ maxLen := by unfold maxLen; omega
          have hh3 : (B.length + 1) * 1 ≤ 140737488355328 := by omega
          clear hst hx64 ha64 hi0 hD64
          go_wp2_with (at_builtin; refine wpList_append_own _ rfl (.tmp 68) (.tmp 69) 27 rfl w.heap.size 5 u0 (.int .u8 0) 1 1 Tryd.underlying27 hu hz0 hz1 hz2 rfl (by decide) _ _ _ rfl (ho.alloc _) ⟨wr.heap.size, 0, none⟩ 1 1 [.int .u8 0] rfl rfl (cell_one_new _ _ _) hh1 hh2 hh3 (by simp; omega) ?_)
          intro v' w2 ho2 hg2 _
          have hb3 : Hid (Below w.heap.size w w2) := (hBl.out.alloc (by omega) _).grown hg2 (by simp; omega) (fun k hk => (ho.lt k hk).1)
          have ho3 : Hid (w2.ownsRow w.heap.size 5 1 v' (B ++ [0]).length (bvals (bb (B ++ [0])))) := by
            show World.ownsRow _ _ _ _ _ _ _
            have e1 : bvals (bb (B ++ [0])) = bvals (bb B) ++ [.int .u8 0] := by rw [bb_append, bvals_append]; rfl
            rw [e1]; simpa using ho2
          clear ho ho2 hg2 hcx hBl
          go_wp2_with fail
          go_roundw
          case rel => exact ⟨i + 1, x, B ++ [0], by omega, by go_num, rfl, ha2, hst0, ho3.out, hb3⟩
          case measure => simp [intOf]; omega
        · obtain ⟨mm, hmm, htL, hL64, hd, hls⟩ := ends_of hD64 hD0
          have hends := ends_any wr D hD64 hD0
          have hdB : Hid (diffB D = 1 :: (bitsOf (64 - Lib.bitLen D) 6 ++ (bitsOf (Lib.bitLen D - Lib.ctz 64 D - 1) 6 ++ bitsOf (D / 2 ^ Lib.ctz 64 D) (Lib.bitLen D - Lib.ctz 64 D)))) := by
            show _ = _
            unfold diffB; rw [if_neg hD0]
          have hxt : D / 2 ^ Lib.ctz 64 D < 18446744073709551616 := Nat.lt_of_le_of_lt (Nat.div_le_self _ _) hD64
          generalize Lib.bitLen D = L at *
          generalize Lib.ctz 64 D = t at *
          obtain ⟨z, hz⟩ : ∃ z, Hid (64 - L = z) := ⟨_, rfl⟩
          obtain ⟨Wd, hWd⟩ : ∃ W, Hid (L - t = W) := ⟨_, rfl⟩
          rw [hz.out, hWd.out] at hends hdB
          replace hends : Hid (Calls Tryd.prog 27 #[.int .u64 (D : Int)] wr fun e w' => e = .returned (.tuple #[.int .i64 (z : Int), .int .i64 (Wd : Int)]) ∧ w' = wr) := hends
          have hD0' : ((D : Int) == 0) = false := by simp; omega
          have z1 : (z : Int) ≤ 63 := by have := hz.out; omega
          have z0 : (0 : Int) ≤ (z : Int) := by omega
          have w1 : (1 : Int) ≤ (Wd : Int) := by have := hWd.out; omega
          have w2 : (Wd : Int) ≤ 64 := by have := hWd.out; omega
          have hti : 64 - (z : Int) - (Wd : Int) = (t : Int) := by have := hz.out; have := hWd.out; omega
          have t0 : (0 : Int) ≤ (t : Int) := by omega
          have t1 : (t : Int) < 64 := by omega
          replace hxt : Hid (D / 2 ^ t < 18446744073709551616) := hxt
          have hh1 : ∀ u ∈ [Value.int .u8 1], u.oneCell' = true := by simp [Value.oneCell']
          have hh2 : B.length + 1 ≤ maxLen := by unfold maxLen; omega
          have hh3 : (B.length + 1) * 1 ≤ 140737488355328 := by omega
          clear hmm htL hL64 hd hls hD0 hx64 ha64 hi0 hD64
          go_wp2_with fail
          refine hends.out.mono ?_
          rintro e w3 ⟨rfl, rfl⟩
          go_wp2_with (at_builtin; refine wpList_append_own _ rfl (.tmp 38) (.tmp 39) 27 rfl w.heap.size 5 u0 (.int .u8 0) 1 1 Tryd.underlying27 hu hz0 hz1 hz2 rfl (by decide) _ _ _ rfl (ho.alloc _) ⟨w3.heap.size, 0, none⟩ 1 1 [.int .u8 1] rfl rfl (cell_one_new _ _ _) hh1 hh2 hh3 (by simp; omega) ?_)
          intro v4 w4 ho4 hg4 _
          have hb4 : Hid (Below w.heap.size w w4) := (hBl.out.alloc (by omega) _).grown hg4 (by simp; omega) (fun k hk => (ho.lt k hk).1)
          have ho5 : w4.ownsRow w.heap.size 5 1 v4 (B ++ [1]).length (bvals (bb (B ++ [1]))) := by
            have e1 : bvals (bb (B ++ [1])) = bvals (bb B) ++ [.int .u8 1] := by rw [bb_append, bvals_append]; rfl
            rw [e1]; simpa using ho4
          have hput1 : Hid (Calls Tryd.prog 26 #[v4, .int .u64 (z : Int), .int .i64 6] w4 fun e w' => ∃ v', e = .returned v' ∧ w'.ownsRow w.heap.size 5 1 v' (B ++ [1] ++ bitsOf z 6).length (bvals (bb (B ++ [1] ++ bitsOf z 6))) ∧ Below w.heap.size w4 w') := rput_any w4 _ v4 (B ++ [1]) z 6 (by omega) (by omega) hb4.out.size ho5 (by simp; omega)
          clear ho ho4 hg4 ho5 hcx hends hBl
          go_wp2_with fail
          refine hput1.out.mono ?_
          rintro e w5 ⟨v5, rfl, ho5, hb5⟩
          replace hb5 : Hid (Below w.heap.size w w5) := hb4.out.trans hb5
          have hput2 : Hid (Calls Tryd.prog 26 #[v5, .int .u64 ((Wd : Int) - 1), .int .i64 6] w5 fun e w' => ∃ v', e = .returned v' ∧ w'.ownsRow w.heap.size 5 1 v' (B ++ [1] ++ bitsOf z 6 ++ bitsOf (Wd - 1) 6).length (bvals (bb (B ++ [1] ++ bitsOf z 6 ++ bitsOf (Wd - 1) 6))) ∧ Below w.heap.size w5 w') := by
            have := rput_any w5 _ v5 (B ++ [1] ++ bitsOf z 6) (Wd - 1) 6 (by omega) (by omega) hb5.out.size ho5 (by simp; omega)
            rwa [show ((Wd - 1 : Nat) : Int) = (Wd : Int) - 1 by omega] at this
          clear ho5 hput1 hb4
          go_wp2_with fail
          refine hput2.out.mono ?_
          rintro e w6 ⟨v6, rfl, ho6, hb6⟩
          replace hb6 : Hid (Below w.heap.size w w6) := hb5.out.trans hb6
          have hput3 : Hid (Calls Tryd.prog 26 #[v6, .int .u64 ((D : Int) / 2 ^ t), .int .i64 (Wd : Int)] w6 fun e w' => ∃ v', e = .returned v' ∧ w'.ownsRow w.heap.size 5 1 v' (B ++ [1] ++ bitsOf z 6 ++ bitsOf (Wd - 1) 6 ++ bitsOf (D / 2 ^ t) Wd).length (bvals (bb (B ++ [1] ++ bitsOf z 6 ++ bitsOf (Wd - 1) 6 ++ bitsOf (D / 2 ^ t) Wd))) ∧ Below w.heap.size w6 w') := by
            have := rput_any w6 _ v6 (B ++ [1] ++ bitsOf z 6 ++ bitsOf (Wd - 1) 6) (D / 2 ^ t) Wd hxt.out (by omega) hb6.out.size ho6 (by simp; omega)
            rwa [show ((D / 2 ^ t : Nat) : Int) = (D : Int) / 2 ^ t by simp] at this
          clear ho6 hput2 hb5
          go_wp2_with fail
          refine hput3.out.mono ?_
          rintro e w7 ⟨v7, rfl, ho7, hb7⟩
          replace hb7 : Hid (Below w.heap.size w w7) := hb6.out.trans hb7
          have hBd : B ++ [1] ++ bitsOf z 6 ++ bitsOf (Wd - 1) 6 ++ bitsOf (D / 2 ^ t) Wd = B ++ diffB D := by rw [hdB.out]; simp
          rw [hBd] at ho7
          replace ho7 : Hid (w7.ownsRow w.heap.size 5 1 v7 (B ++ diffB D).length (bvals (bb (B ++ diffB D)))) := ho7
          clear hput3 hb6 hBd
          go_wp2_with fail
          go_roundw
          case rel => exact ⟨i + 1, x, B ++ diffB D, by omega, by go_num, rfl, ha2, hst, ho7.out, hb7⟩
          case measure => simp [intOf]; omega
#print axioms rpack_any
end Go.Proofs.YtojohcckaklmpaaDoor.Sr
