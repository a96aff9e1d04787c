/-
  What series.Pack answers.
-/
import Derived.Test.YtojohcckaklmpaaDoorSk3
import Derived.Test.YtojohcckaklmpaaDoorRlOf
import Derived.Test.YtojohcckaklmpaaDoorForms
namespace Go.Proofs.YtojohcckaklmpaaDoor.Sr
open Go.RowKit
open Go.Proofs.YtojohcckaklmpaaDoor.Rl (fvals Bs uvals)
set_option maxRecDepth 100000
set_option linter.unusedVariables false

theorem putNext_len (i x : Nat) (hx : x < 18446744073709551616) : (putNext i x).length ≤ 77 := by
  unfold putNext
  split
  · simp
  · unfold diffB
    split
    · simp
    · rename_i h0
      obtain ⟨m, _, h1, h2, _⟩ := ends_of hx h0
      simp only [List.length_cons, List.length_append, bitsOf_len]
      omega
theorem putAll_len (us : List Nat) : ∀ i was, B64 us → was < 18446744073709551616 → (putAll i was us).length ≤ 77 * us.length := by
  induction us with
  | nil => intro i was _ _; simp [putAll]
  | cons u us ih =>
    intro i was hb hw
    have hu := hb u (List.mem_cons_self ..)
    have h1 := ih (i + 1) u (fun c hc => hb c (List.mem_cons_of_mem _ hc)) hu
    have h2 := putNext_len i (u ^^^ was) (xor_lt hu hw)
    rw [putAll, List.length_append, List.length_cons]
    omega
theorem Tab.lt {w : World} (h : Tab w) : 1 < w.heap.size := lt_of_cell (h 0 (by decide))
theorem xor_nat (a b : Nat) (ha : a < 18446744073709551616) (hb : b < 18446744073709551616) : bits .xor .u64 (a : Int) (b : Int) = ((a ^^^ b : Nat) : Int) := by
  show IntKind.u64.wrap ((BitVec.ofInt 64 (a : Int) ^^^ BitVec.ofInt 64 (b : Int)).toNat : Int) = _
  have hx := xor_lt ha hb
  rw [BitVec.toNat_xor, Rl.ofInt64 a ha, Rl.ofInt64 b hb, IntKind.wrap_u64]
  omega
theorem take_last (us : List Nat) (i : Nat) (hi : i < us.length) : (us.take (i + 1)).getLastD 0 = us[i] := by
  rw [List.take_succ_eq_append_getElem hi, List.getLastD_concat]
theorem putAll_step (us : List Nat) (i : Nat) (hi : i < us.length) : putAll 0 0 (us.take (i + 1)) = putAll 0 0 (us.take i) ++ putNext i (us[i] ^^^ (us.take i).getLastD 0) := by
  rw [List.take_succ_eq_append_getElem hi, putAll_snoc]
  congr 2
  rw [List.length_take]; omega
theorem lastD_lt (us : List Nat) (hb : B64 us) : us.getLastD 0 < 18446744073709551616 := by
  cases us with
  | nil => decide
  | cons u us => exact hb _ (by rw [List.getLastD_cons]; exact List.getLastD_mem_cons)

theorem Took.new (w : World) (base : Nat) (vd : Value) (l0 : List UInt8) (p : Nat) (hp : w.heap[p]? = some (.cells #[vd, .int .u8 0, .int .i64 0] 50 (0, 0))) (ho : w.ownsRow base 5 1 vd l0.length (bvals l0)) : Took w base p l0 [] :=
  ⟨[], 0, 0, ⟨vd, hp, by simpa using ho⟩, Snk.nil⟩
theorem pack_many (w : World) (v : Value) (us : List Nat) (hx : Row w v (fvals us)) (hm : 4096 < us.length) :
    Calls Tryd.prog 9 #[v] w fun e w' => e = .returned (.tuple #[.slice none 0 0, .int .i64 9]) ∧ w' = w := by
  obtain ⟨ao, cap, rfl, h1, h2, h3, h4⟩ := hx
  rw [show (fvals us).length = us.length by simp [fvals]]
  clear h1 h2 h4
  go_enter Tryd.func9, Tryd.ntmps9
  go_wp2
  go_ret2
  exact ⟨rfl, rfl⟩
#print axioms pack_many
set_option maxHeartbeats 4000000 in
theorem pack_any (w : World) (v : Value) (us : List Nat) (hx : Row w v (fvals us)) (hb : Bs us) (hT : Tab w) (hm : us.length ≤ 4096) :
    Calls Tryd.prog 9 #[v] w fun e w' => ∃ v' m, e = .returned (.tuple #[v', .int .i64 0]) ∧ Pk (putAll 0 0 us) m ∧ w'.ownsRow w.heap.size 5 1 v' (enc us.length ++ m).length (bvals (enc us.length ++ m)) ∧ Below w.heap.size w w' := by
  obtain ⟨ao, cap, rfl, h1, h2, h3, h4⟩ := hx
  have hfl : (fvals us).length = us.length := by simp [fvals]
  have hat : Hid (At w ao (fvals us)) := h4
  rw [hfl]
  clear h1 h2 h3 h4 hfl
  obtain ⟨n, hn⟩ : ∃ n, Hid (us.length = n) := ⟨_, rfl⟩
  rw [hn.out] at hm ⊢
  replace hT : Hid (Tab w) := hT
  replace hb : Hid (Bs us) := hb
  have k1 := Rl.bits_run
  have hg := hT.out.lt
  have hvar : Hid (∀ q : World, Calls Tryd.prog 21 #[.int .u64 (n : Int)] q fun e w' => ∃ v', e = .returned v' ∧ w'.ownsRow q.heap.size 5 1 v' (enc n).length (bvals (enc n)) ∧ Below q.heap.size q w') := fun q => by
    have := varint_any q (n : Int) (by omega) (by omega)
    rwa [Int.toNat_natCast] at this
  have hel := enc_len n
  obtain ⟨E, hE⟩ : ∃ E, Hid (enc n = E) := ⟨_, rfl⟩
  rw [hE.out] at hvar hel ⊢
  go_enter Tryd.func9, Tryd.ntmps9
  go_wp2_with fail
  refine (hvar.out _).mono ?_
  rintro e w1 ⟨v1, rfl, ho1, hb1⟩
  obtain ⟨ao1, ca1, rfl⟩ := own_slice ho1
  have hdec : decide ((4096 : Int) < (n : Int)) = false := by simp; omega
  go_wp2_with fail
  (try simp only [hdec])
  obtain ⟨p, hp⟩ : ∃ p, Hid (w1.heap.size = p) := ⟨_, rfl⟩
  have hbp : w.heap.size ≤ p := by have := hb1.size; have := hp.out; omega
  have hT2 : Took (w1.alloc (.cells #[.slice ao1 E.length ca1, .int .u8 0, .int .i64 0] 50)) w.heap.size p E [] := Took.new _ _ _ _ _ (by rw [← hp.out]; exact heap_alloc_new _ _) (ho1.alloc _)
  have hB2 : Below w.heap.size w (w1.alloc (.cells #[.slice ao1 E.length ca1, .int .u8 0, .int .i64 0] 50)) := hb1.trans (Below.mono (box_below _ _) hb1.size)
  rw [hp.out]
  generalize w1.alloc (.cells #[.slice ao1 E.length ca1, .int .u8 0, .int .i64 0] 50) = w2 at *
  replace hT2 : Hid (Took w2 w.heap.size p E []) := hT2
  replace hB2 : Hid (Below w.heap.size w w2) := hB2
  clear ho1 hb1 hvar hp hdec
  go_loopw [5, 19] (fun va vi wr => ∃ (i a : Nat) (B : List Nat), i ≤ n ∧ vi = .int .i64 (i : Int) ∧ va = .int .u64 (a : Int) ∧ Hid ((us.take i).getLastD 0 = a) ∧ Hid (putAll 0 0 (us.take i) = B) ∧ Hid (Took wr w.heap.size p E B) ∧ Hid (Below w.heap.size w wr)) (fun _ v _ => n - (intOf v).toNat)
  case atStart => exact ⟨0, 0, [], by omega, rfl, rfl, rfl, rfl, hT2, hB2⟩
  case round =>
    clear hT2 hB2
    obtain ⟨i, a, B, hi, rfl, rfl, ha, hBB, hTk, hBl⟩ := hrel
    have hBlen : B.length ≤ 77 * 4096 := by
      rw [← hBB.out]
      refine Nat.le_trans (putAll_len _ 0 0 (fun c hc => hb.out c (List.mem_of_mem_take hc)) (by omega)) ?_
      rw [List.length_take]; omega
    by_cases hin : i = n
    · subst hin
      have hBB2 : Hid (putAll 0 0 us = B) := by
        have := hBB.out
        rwa [List.take_of_length_le (by have := hn.out; omega)] at this
      go_wp2_with fail
      refine (end_any _ _ p E B hTk.out hbp hel (by omega)).mono ?_
      rintro e w3 ⟨v3, m, rfl, hpk, ho3, hb3⟩
      replace hpk : Hid (Pk B m) := hpk
      replace ho3 : Hid (w3.ownsRow w.heap.size 5 1 v3 (E ++ m).length (bvals (E ++ m))) := ho3
      replace hb3 : Hid (Below w.heap.size w w3) := hBl.out.trans hb3
      go_wp2
      go_ret2
      exact ⟨v3, m, rfl, by rw [hBB2.out]; exact hpk.out, ho3.out, hb3.out⟩
    · have hil : i < us.length := by have := hn.out; omega
      obtain ⟨x, hx⟩ : ∃ x, Hid (us[i] = x) := ⟨us[i], rfl⟩
      have hx64 : x < 18446744073709551616 := by rw [← hx.out]; exact hb.out _ (List.getElem_mem _)
      have ha64 : a < 18446744073709551616 := by rw [← ha.out]; exact lastD_lt _ (fun c hc => hb.out c (List.mem_of_mem_take hc))
      obtain ⟨rb, off, rfl, hcell⟩ := hat.out i (by simp [fvals]; omega)
      have hcx : wr.cell? ⟨rb, off + i, none⟩ = some (.float .f64 x) := by
        rw [hBl.out.cell (p := ⟨rb, off + i, none⟩) (lt_of_cell hcell), hcell, ← hx.out]
        simp [fvals]
      clear hcell
      have ha2 : Hid ((us.take (i + 1)).getLastD 0 = x) := by
        show _ = _
        rw [take_last us i hil, hx.out]
      have hst : Hid (putAll 0 0 (us.take (i + 1)) = B ++ putNext i (x ^^^ a)) := by
        show _ = _
        rw [putAll_step us i hil, hBB.out, hx.out, ha.out]
      have i1 : (i : Int) < (n : Int) := by omega
      have i2 : (0 : Int) ≤ (i : Int) := by omega
      have hTb : Hid (Tab wr) := hT.out.below2 hg hBl.out
      by_cases hi0 : i = 0
      · have ha0 : a = 0 := by rw [← ha.out, hi0]; rfl
        have hi1 : ((i : Int) == 0) = true := by simp; omega
        have hput : Hid (Calls Tryd.prog 23 #[.pointer (some ⟨p, 0, none⟩), .int .u64 (x : Int), .int .i64 64] wr fun e w' => e = .returned (.tuple #[]) ∧ Took w' w.heap.size p E (B ++ bitsOf x 64) ∧ Below w.heap.size wr w') := put_any wr _ p E B x 64 hx64 (by omega) hTk.out hbp hel (by omega)
        replace hst : Hid (putAll 0 0 (us.take (i + 1)) = B ++ bitsOf x 64) := by
          have := hst.out
          unfold putNext at this
          rwa [if_pos hi0, ha0, Nat.xor_zero] at this
        clear hx64 ha64 hi0 ha0
        go_wp2_with fail
        refine hput.out.mono ?_
        rintro e w3 ⟨rfl, hT3, hb3⟩
        replace hT3 : Hid (Took w3 w.heap.size p E (B ++ bitsOf x 64)) := hT3
        replace hb3 : Hid (Below w.heap.size w w3) := hBl.out.trans hb3
        clear hput hTk hBl hTb hcx
        go_wp2_with fail
        go_roundw
        case rel => exact ⟨i + 1, x, B ++ bitsOf x 64, by omega, by go_num, rfl, ha2, hst, hT3, hb3⟩
        case measure => simp [intOf]; omega
      · have hx2 := xor_nat x a hx64 ha64
        obtain ⟨D, hD⟩ : ∃ D, Hid (x ^^^ a = D) := ⟨_, rfl⟩
        rw [hD.out] at hx2
        have hput : Hid (Calls Tryd.prog 24 #[.pointer (some ⟨p, 0, none⟩), .int .u64 (D : Int)] wr fun e w' => e = .returned (.tuple #[]) ∧ Took w' w.heap.size p E (B ++ diffB D) ∧ Below w.heap.size wr w') := putDiff_any wr _ p E B D (by rw [← hD.out]; exact xor_lt hx64 ha64) hTk.out hTb.out hg hbp hel (by omega)
        replace hst : Hid (putAll 0 0 (us.take (i + 1)) = B ++ diffB D) := by
          have := hst.out
          rw [hD.out] at this
          unfold putNext at this
          rwa [if_neg hi0] at this
        have hi1 : ((i : Int) == 0) = false := by simp; omega
        clear hx64 ha64 hi0
        go_wp2_with fail
        refine hput.out.mono ?_
        rintro e w3 ⟨rfl, hT3, hb3⟩
        replace hT3 : Hid (Took w3 w.heap.size p E (B ++ diffB D)) := hT3
        replace hb3 : Hid (Below w.heap.size w w3) := hBl.out.trans hb3
        clear hput hTk hBl hTb hcx
        go_wp2_with fail
        go_roundw
        case rel => exact ⟨i + 1, x, B ++ diffB D, by omega, by go_num, rfl, ha2, hst, hT3, hb3⟩
        case measure => simp [intOf]; omega
#print axioms pack_any
end Go.Proofs.YtojohcckaklmpaaDoor.Sr
