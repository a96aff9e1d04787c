/-
  Keys put behind bytes: texts, lists, and value.Key.
-/
import Derived.Test.YtpfnkkkfekhngaaGreatDoorVl
namespace Go.Proofs.YtpfnkkkfekhngaaGreatDoor.Va
open Go.RowKit Go.Proofs.YtpfnkkkfekhngaaGreatDoor.Rl
set_option maxRecDepth 100000

mutual
theorem keyV_le : ∀ (x : Val) (d : Nat), okV d x = true → (keyV x).length ≤ 9 * szV x
  | .mk k n r t l, d, h => by
    obtain ⟨f1, f2, f3, f4, f5, f6, f7⟩ := ok_free h
    have hl := keyL_le l (d + 1) f7
    have he : (esc t).length ≤ 2 * t.length := esc_le2 t
    rw [keyV, szV]
    simp only [List.length_cons]
    split
    · simp only [List.length_cons, List.length_nil]; omega
    split
    · rw [bigN_len]; omega
    split
    · rw [bigN_len]; omega
    split
    · rw [List.length_append]; simp only [List.length_cons, List.length_nil]; omega
    split
    · rw [List.length_append]; simp only [List.length_cons, List.length_nil]; omega
    · simp only [List.length_nil]; omega
theorem keyL_le : ∀ (l : List Val) (d : Nat), okL d l = true → (keyL l).length ≤ 9 * szL l
  | [], _, _ => by rw [keyL]; simp
  | x :: r, d, h => by
    rw [okL, Bool.and_eq_true] at h
    have h1 := keyV_le x d h.1
    have h2 := keyL_le r d h.2
    rw [keyL, szL, List.length_append]
    omega
theorem esc_le2 : ∀ t : List UInt8, (esc t).length ≤ 2 * t.length
  | [] => by simp [esc]
  | c :: r => by
    have := esc_le2 r
    rw [esc]
    split <;> simp only [List.length_cons] <;> omega
end
theorem keyL_append : ∀ a b : List Val, keyL (a ++ b) = keyL a ++ keyL b
  | [], b => by rw [List.nil_append, keyL]; rfl
  | x :: r, b => by rw [List.cons_append, keyL, keyL, keyL_append r b, List.append_assoc]
theorem keyL_take {l : List Val} {i : Nat} (h : i < l.length) : keyL (l.take (i + 1)) = keyL (l.take i) ++ keyV l[i] := by
  rw [List.take_succ_eq_append_getElem h, keyL_append, keyL, keyL, List.append_nil]
theorem keyL_split (l : List Val) (i : Nat) : keyL l = keyL (l.take i) ++ keyL (l.drop i) := by
  conv => lhs; rw [← List.take_append_drop i l, keyL_append]
theorem esc_app : ∀ a b : List UInt8, esc (a ++ b) = esc a ++ esc b
  | [], b => rfl
  | c :: r, b => by
    rw [List.cons_append, esc, esc, esc_app r b]
    split <;> rfl
set_option maxHeartbeats 1000000 in
theorem textApp (w : World) (base : Nat) (b : Value) (l t : List UInt8) (hbase : base ≤ w.heap.size) (hown : w.ownsRow base 5 1 b l.length (bvals l)) (ht : t.length ≤ 65536) (hlen : l.length + 1000000 ≤ 140737488355328) :
    Calls Tryz.prog 136 #[.string (bstr t), b] w (Puts base w (l ++ 5 :: (esc t ++ [0, 1]))) := by
  replace hown : Hid (w.ownsRow base 5 1 b l.length (bvals l)) := hown
  obtain ⟨s, hs0⟩ : ∃ s, Hid (t.length = s) := ⟨_, rfl⟩
  have kbs : (bstr t).size = s := by rw [← hs0.out]; rfl
  rw [hs0.out] at ht
  go_enter Tryz.func136, Tryz.ntmps136
  go_wp2_with (at_builtin; refine wpList_append_bytes rfl (.tmp 6) (.tmp 7) 40 rfl base 5 Tryz.infoU8 Tryz.underlying40 _ _ l [5] rfl (hown.out.alloc _) rfl (Sl.one _ _ _ _ rfl) (by simp; omega) (by simp; omega) ?_)
  intro v' w1 ho hb
  have hq : Hid (w1.ownsRow base 5 1 v' (l ++ [5]).length (bvals (l ++ [5])) ∧ Below base w w1) := ⟨by simpa using ho, ((Below.refl _ _).alloc hbase _).trans hb⟩
  clear ho hb
  go_wp2_with fail
  go_loopw [1, 11] (fun v x wr => ∃ i : Nat, i ≤ s ∧ x = .int .i64 (i : Int) ∧ Hid (wr.ownsRow base 5 1 v (l ++ 5 :: esc (t.take i)).length (bvals (l ++ 5 :: esc (t.take i))) ∧ Below base w wr)) (fun _ x _ => s - (intOf x).toNat)
  case atStart => exact ⟨0, by omega, rfl, hq.out⟩
  case round =>
    obtain ⟨i, hi, rfl, hw⟩ := hrel
    clear hown hq
    have hsz := hw.out.2.size
    have hel : (esc (t.take i)).length ≤ 2 * i := by
      have := esc_le2 (t.take i)
      have h2 : (t.take i).length ≤ i := by rw [List.length_take]; omega
      omega
    by_cases hin : i = s
    · have htk : t.take i = t := List.take_of_length_le (by have := hs0.out; omega)
      rw [htk] at hw hel
      subst hin
      go_wp2_with (at_builtin; refine wpList_append_bytes rfl (.tmp 28) (.tmp 29) 40 rfl base 5 Tryz.infoU8 Tryz.underlying40 _ _ (l ++ 5 :: esc t) [0, 1] rfl (hw.out.1.alloc _) rfl (Sl.two _ _ _ _ _ _ rfl rfl) (by simp; omega) (by simp; omega) ?_)
      intro v2 w2 ho hb
      have hq2 : Hid (w2.ownsRow base 5 1 v2 (l ++ 5 :: (esc t ++ [0, 1])).length (bvals (l ++ 5 :: (esc t ++ [0, 1]))) ∧ Below base w w2) := ⟨owns_name ho (by simp) (by simp), (hw.out.2.alloc (by omega) _).trans hb⟩
      clear ho hb
      go_wp2_with fail
      go_ret
      exact ⟨_, rfl, hq2.out⟩
    · have hil : i < t.length := by have := hs0.out; omega
      have i1 : (i : Int) < (s : Int) := by omega
      have i2 : (0 : Int) ≤ (i : Int) := by omega
      obtain ⟨c, hc⟩ : ∃ c, Hid (t[i] = c) := ⟨t[i], rfl⟩
      have hix : ∀ h : i < (bstr t).size, (bstr t)[i] = c := fun h => by
        rw [← hc.out]
        show (bstr t).data[i] = _
        simp [bstr]
      have hstep : Hid (esc (t.take (i + 1)) = esc (t.take i) ++ esc [c]) := by
        show _ = _
        rw [List.take_succ_eq_append_getElem hil, esc_app, hc.out]
      go_wp2_with (at_builtin; refine wpList_append_bytes rfl (.tmp 14) (.tmp 18) 40 rfl base 5 Tryz.infoU8 Tryz.underlying40 _ _ (l ++ 5 :: esc (t.take i)) [c] rfl (hw.out.1.alloc _) rfl (Sl.one _ _ _ _ rfl) (by simp; omega) (by simp; omega) ?_)
      intro v2 w2 ho hb
      have hq2 : Hid (w2.ownsRow base 5 1 v2 (l ++ 5 :: (esc (t.take i) ++ [c])).length (bvals (l ++ 5 :: (esc (t.take i) ++ [c]))) ∧ Below base w w2) := ⟨owns_name ho (by simp) (by simp), (hw.out.2.alloc (by omega) _).trans hb⟩
      have hsz2 := hq2.out.2.size
      clear ho hb hw
      by_cases hc0 : c = 0
      · subst hc0
        go_wp2_with (at_builtin; refine wpList_append_bytes rfl (.tmp 24) (.tmp 25) 40 rfl base 5 Tryz.infoU8 Tryz.underlying40 _ _ (l ++ 5 :: (esc (t.take i) ++ [0])) [255] rfl (hq2.out.1.alloc _) rfl (Sl.one _ _ _ _ rfl) (by simp; omega) (by simp; omega) ?_)
        intro v3 w3 ho hb
        have hq3 : Hid (w3.ownsRow base 5 1 v3 (l ++ 5 :: esc (t.take (i + 1))).length (bvals (l ++ 5 :: esc (t.take (i + 1)))) ∧ Below base w w3) := by
          rw [hstep.out]
          exact ⟨owns_name ho (by simp [esc]) (by simp [esc]), (hq2.out.2.alloc (by omega) _).trans hb⟩
        clear ho hb
        go_wp2_with fail
        go_roundw
        case rel => exact ⟨i + 1, by omega, by go_num, hq3.out⟩
        case measure => simp [intOf]; omega
      · have kc : ((c.toNat : Int) == 0) = false := by
          simp only [beq_eq_false_iff_ne, ne_eq]
          intro h
          exact hc0 (UInt8.toNat_inj.1 (by show c.toNat = 0; omega))
        have hq3 : Hid (w2.ownsRow base 5 1 v2 (l ++ 5 :: esc (t.take (i + 1))).length (bvals (l ++ 5 :: esc (t.take (i + 1)))) ∧ Below base w w2) := by
          rw [hstep.out, show esc [c] = [c] by simp [esc, hc0]]
          exact hq2.out
        clear hc0
        go_wp2_with fail
        go_roundw
        case rel => exact ⟨i + 1, by omega, by go_num, hq3.out⟩
        case measure => simp [intOf]; omega
end Go.Proofs.YtpfnkkkfekhngaaGreatDoor.Va
