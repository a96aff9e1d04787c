/-
  The walk of SeriesSame.
-/
import Derived.Test.YtojohcckaklmpaaDoorSz
namespace Go.Proofs.YtojohcckaklmpaaDoor.Sr
open Go.RowKit
open Go.Proofs.YtojohcckaklmpaaDoor.Rl (fvals Bs uvals)
set_option maxRecDepth 100000
set_option linter.unusedVariables false

theorem same_tail (u : Nat) : ∀ (k i : Nat), 0 < i → (putAll i u (List.replicate k u)).length = k
  | 0, i, _ => rfl
  | k + 1, i, hi => by
    rw [List.replicate_succ, putAll, List.length_append, same_tail u k (i + 1) (by omega), Nat.xor_self]
    unfold putNext
    rw [if_neg (by omega)]
    simp [diffB]; omega
theorem same_len (u k : Nat) : (putAll 0 0 (List.replicate (k + 1) u)).length = 64 + k := by
  rw [List.replicate_succ, putAll, List.length_append, same_tail u k (0 + 1) (by omega)]
  unfold putNext
  rw [if_pos rfl, bitsOf_len]
theorem enc_small_len {n : Nat} (h : n < 128) : (enc n).length = 1 := by rw [enc_small h]; rfl
theorem enc_mid_len {n : Nat} (h1 : 128 ≤ n) (h2 : n ≤ 4096) : (enc n).length = 2 := by
  rw [enc_big h1 (by omega), List.length_cons, enc_small_len (by omega)]
theorem Tryd.infoU64 : (Tryd.prog.info? 45).map (fun i => (i.zero, i.size, i.bytes)) = some (some (.int .u64 0), 1, 8) := by kernel_rfl
theorem infoU_parts {P : Program} {e : TypeId} (h : (P.info? e).map (fun i => (i.zero, i.size, i.bytes)) = some (some (.int .u64 0), 1, 8)) : ∃ i, P.info? e = some i ∧ i.zero = some (.int .u64 0) ∧ i.size = 1 ∧ i.bytes = 8 := by
  cases hi : P.info? e with
  | none => rw [hi] at h; cases h
  | some i =>
    rw [hi] at h
    simp only [Option.map_some, Option.some.injEq, Prod.mk.injEq] at h
    exact ⟨i, rfl, h.1, h.2.1, h.2.2⟩
theorem uvals_snoc (k u : Nat) : uvals (List.replicate k u) ++ [.int .u64 (u : Int)] = uvals (List.replicate (k + 1) u) := by
  rw [List.replicate_succ', uvals, uvals, List.map_append]; rfl
set_option maxHeartbeats 4000000 in
theorem same_walk (W : World) (U n : Int) (hL : Tab W) (hu : 0 ≤ U ∧ U < 18446744073709551616) (hn : -9223372036854775808 ≤ n ∧ n ≤ 9223372036854775807) :
    Calls Tryd.prog 6 #[.int .u64 U, .int .i64 n] W fun e w' => e = .returned (.bool true) ∧ Below W.heap.size W w' := by
  obtain ⟨u, rfl⟩ := Int.eq_ofNat_of_zero_le hu.1
  have hu64 : u < 18446744073709551616 := by omega
  replace hL : Hid (Tab W) := hL
  replace hu64 : Hid (u < 18446744073709551616) := hu64
  clear hu
  by_cases hn1 : n < 1
  · go_enter Tryd.func6, Tryd.ntmps6
    go_wp2_with fail
    refine (begun_any _ hL.out).mono ?_
    rintro e w1 ⟨rfl, hb1⟩
    go_wp2
    go_ret
    exact ⟨rfl, hb1⟩
  · by_cases hn2 : (4096 : Int) < n
    · go_enter Tryd.func6, Tryd.ntmps6
      go_wp2_with fail
      refine (begun_any _ hL.out).mono ?_
      rintro e w1 ⟨rfl, hb1⟩
      go_wp2
      go_ret
      exact ⟨rfl, hb1⟩
    · obtain ⟨N, rfl⟩ := Int.eq_ofNat_of_zero_le (by omega : 0 ≤ n)
      have hN1 : 1 ≤ N := by omega
      have hN2 : N ≤ 4096 := by omega
      have g1 : ¬ (N : Int) < 1 := by omega
      have g2 : ¬ (4096 : Int) < (N : Int) := by omega
      have dec1 : decide ((N : Int) < 1) = false := by simp; omega
      have dec2 : decide ((4096 : Int) < (N : Int)) = false := by simp; omega
      clear hn hn1 hn2
      obtain ⟨i0, hi0, hz0, hz1, hz2⟩ := infoU_parts Tryd.infoU64
      go_enter Tryd.func6, Tryd.ntmps6
      go_wp2_with fail
      refine (begun_any _ hL.out).mono ?_
      rintro e w1 ⟨rfl, hb1⟩
      replace hb1 : Hid (Below W.heap.size W w1) := hb1
      go_wp2_with fail
      (try simp only [dec1, dec2])
      go_loopw [5, 6] (fun v vi wr => ∃ i : Nat, i ≤ N ∧ vi = .int .i64 (i : Int) ∧ wr.ownsRow w1.heap.size 45 1 v i (uvals (List.replicate i u)) ∧ Hid (Below w1.heap.size w1 wr)) (fun _ v _ => N - (intOf v).toNat)
      case atStart => exact ⟨0, by omega, rfl, ⟨by simp [uvals], Or.inl ⟨rfl, rfl⟩⟩, Below.refl _ _⟩
      case round =>
        obtain ⟨i, hi, rfl, ho, hB⟩ := hrel
        by_cases hiN : i = N
        · subst hiN
          have hr := Rl.Row.of_owns ho
          replace hr : Hid (Row wr u5 (uvals (List.replicate i u))) := hr
          have hof : Hid (Calls Tryd.prog 8 #[u5] wr fun e w' => ∃ v', e = .returned v' ∧ w'.ownsRow wr.heap.size 26 1 v' (List.replicate i u).length (fvals (List.replicate i u)) ∧ Below wr.heap.size wr w') := Rl.of_any wr u5 _ hr.out (by simp; omega)
          clear ho hr
          go_wp2_with fail
          refine hof.out.mono ?_
          rintro e w2 ⟨v2, rfl, ho2, hb2⟩
          have hr2 : Hid (Row w2 v2 (fvals (List.replicate i u))) := Rl.Row.of_owns ho2
          have hb3 : Hid (Below W.heap.size W w2) := (hb1.out.trans (hB.out.mono hb1.out.size)).trans (hb2.mono (Nat.le_trans hb1.out.size hB.out.size))
          have hT2 : Hid (Tab w2) := hL.out.below hb3.out
          clear ho2 hb2 hof
          have hpk : Hid (Calls Tryd.prog 9 #[v2] w2 fun e w' => ∃ v' m, e = .returned (.tuple #[v', .int .i64 0]) ∧ Pk (putAll 0 0 (List.replicate i u)) m ∧ w'.ownsRow w2.heap.size 5 1 v' (enc (List.replicate i u).length ++ m).length (bvals (enc (List.replicate i u).length ++ m)) ∧ Below w2.heap.size w2 w') := pack_any w2 v2 _ hr2.out (fun b hb => by rw [(List.mem_replicate.1 hb).2]; exact hu64.out) hT2.out (by simp; omega)
          go_wp2_with fail
          refine hpk.out.mono ?_
          rintro e w3 ⟨v3, m, rfl, hm, ho3, hb4⟩
          have hlen := hm.len
          have hlen2 : m.length = (i + 70) / 8 := by
            obtain ⟨k, rfl⟩ : ∃ k, i = k + 1 := ⟨i - 1, by omega⟩
            rw [same_len] at hlen
            omega
          obtain ⟨ao3, ca3, rfl⟩ := own_slice ho3
          obtain ⟨LL, hLL⟩ : ∃ LL, Hid ((enc i).length + m.length = LL) := ⟨_, rfl⟩
          rw [List.length_append, List.length_replicate, hLL.out]
          replace hb4 : Hid (Below W.heap.size W w3) := hb3.out.trans (hb4.mono hb3.out.size)
          have hLL2 : Hid (LL = if 127 < i then 10 + (i + 6) / 8 else 9 + (i + 6) / 8) := by
            show _ = _
            rw [← hLL.out, hlen2]
            by_cases h : 127 < i
            · rw [if_pos h, enc_mid_len (by omega) (by omega)]; omega
            · rw [if_neg h, enc_small_len (by omega)]; omega
          clear hlen hlen2 hm ho3 hpk
          by_cases h : (127 : Int) < (i : Int)
          · have hLL3 : LL = 10 + (i + 6) / 8 := hLL2.out.trans (if_pos (by omega))
            replace hLL3 : Hid (LL = 10 + (i + 6) / 8) := hLL3
            go_wp2
            go_ret
            refine ⟨ret_bool ?_, hb4.out⟩
            have := hLL3.out
            simp
            omega
          · have hLL3 : LL = 9 + (i + 6) / 8 := hLL2.out.trans (if_neg (by omega))
            replace hLL3 : Hid (LL = 9 + (i + 6) / 8) := hLL3
            go_wp2
            go_ret
            refine ⟨ret_bool ?_, hb4.out⟩
            have := hLL3.out
            simp
            omega
        · have i1 : (i : Int) < (N : Int) := by omega
          have hBs := hB.out.size
          have hh1 : ∀ u' ∈ [Value.int .u64 (u : Int)], u'.oneCell' = true := by simp [Value.oneCell']
          have hh2 : i + 1 ≤ maxLen := by unfold maxLen; omega
          have hh3 : (i + 1) * 8 ≤ 140737488355328 := by omega
          go_wp2_with (at_builtin; refine wpList_append_own _ rfl (.tmp 23) (.tmp 25) 22 rfl w1.heap.size 45 i0 (.int .u64 0) 1 8 Tryd.underlying22 hi0 hz0 hz1 hz2 rfl (by decide) _ _ _ rfl (ho.alloc _) ⟨wr.heap.size, 0, none⟩ 1 1 [.int .u64 (u : Int)] rfl rfl (cell_one_new _ _ _) hh1 hh2 hh3 (by simp; omega) ?_)
          intro v' w2 ho2 hg2 _
          have hb2 : Hid (Below w1.heap.size w1 w2) := (hB.out.alloc (by omega) _).grown hg2 (by simp; omega) (fun k hk => (ho.lt k hk).1)
          have ho3 : Hid (w2.ownsRow w1.heap.size 45 1 v' (i + 1) (uvals (List.replicate (i + 1) u))) := by rw [← uvals_snoc]; exact ho2
          clear ho ho2 hg2
          go_wp2_with fail
          go_roundw
          case rel => exact ⟨i + 1, by omega, by go_num, ho3.out, hb2⟩
          case measure => simp [intOf]; omega
#print axioms same_walk
end Go.Proofs.YtojohcckaklmpaaDoor.Sr
