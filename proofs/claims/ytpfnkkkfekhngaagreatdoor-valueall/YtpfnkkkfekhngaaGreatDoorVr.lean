/-
  Values read from bytes: a value's key, read back, is the value; what is read, as a key, is what was read. No program is named here.
-/
import Derived.Test.YtpfnkkkfekhngaaGreatDoorVk
namespace Go.Proofs.YtpfnkkkfekhngaaGreatDoor.Va
open Go.RowKit Go.Proofs.YtpfnkkkfekhngaaGreatDoor.Rl

mutual
def canonV : Val → Val
  | .mk k n r t l => .mk k n (canonB r) t (canonL l)
def canonL : List Val → List Val
  | [] => []
  | x :: r => canonV x :: canonL r
end
inductive TRes where
  | short
  | form (p : Nat)
  | done (t : List UInt8) (p : Nat) (s : List UInt8)
/-- A text behind its 05. -/
def rdT : List UInt8 → Nat → List UInt8 → TRes
  | [], _, _ => .short
  | [c], p, acc => if c ≠ 0 then rdT [] (p + 1) (acc ++ [c]) else .short
  | c :: d :: r, p, acc => if c ≠ 0 then rdT (d :: r) (p + 1) (acc ++ [c]) else if d = 255 then rdT r (p + 2) (acc ++ [0]) else if d = 1 then .done acc (p + 2) r else .form (p + 1)
def ofBig (s : List UInt8) : Nat := s.foldl (fun n c => n * 256 + c.toNat) 0
inductive Res where
  | bad (p : Nat) (e : Int)
  | ok (x : Val) (p left : Nat) (s : List UInt8)
mutual
/-- The next value, within d lists. -/
def rdV : Nat → Nat → Nat → Nat → List UInt8 → Res
  | 0, _, _, p, _ => .bad p 9
  | _ + 1, _, _, p, [] => .bad p 2
  | f + 1, d, left, p, k :: s =>
    if k.toNat < 1 ∨ 6 < k.toNat then .bad p 4
    else if k.toNat = 6 ∧ d = 8 then .bad p 3
    else if k.toNat = 5 then
      (match rdT s (p + 1) [] with
      | .short => .bad (p + 1 + s.length) 2
      | .form q => .bad q 4
      | .done t q s' => if left < 1 + t.length then .bad p 3 else .ok (.mk 5 0 0 t []) q (left - 1 - t.length) s')
    else if left < 1 then .bad p 3
    else if k.toNat = 2 then
      (match s with
      | [] => .bad (p + 1) 2
      | c :: s' => if 1 < c.toNat then .bad (p + 1) 4 else .ok (.mk 2 c.toNat 0 [] []) (p + 2) (left - 1) s')
    else if k.toNat = 3 then
      (if s.length < 8 then .bad (p + 1 + s.length) 2 else .ok (.mk 3 ((ofBig (s.take 8) : Int) - 9223372036854775808) 0 [] []) (p + 9) (left - 1) (s.drop 8))
    else if k.toNat = 4 then
      (if s.length < 8 then .bad (p + 1 + s.length) 2 else if isKey (ofBig (s.take 8)) then .ok (.mk 4 0 (unkeyB (ofBig (s.take 8))) [] []) (p + 9) (left - 1) (s.drop 8) else .bad (p + 1) 4)
    else if k.toNat = 6 then rdL f (d + 1) (left - 1) (p + 1) s []
    else .ok (.mk 1 0 0 [] []) (p + 1) (left - 1) s
def rdL : Nat → Nat → Nat → Nat → List UInt8 → List Val → Res
  | 0, _, _, p, _, _ => .bad p 9
  | _ + 1, _, _, p, [], _ => .bad p 2
  | f + 1, d, left, p, k :: s, acc =>
    if k = 0 then .ok (.mk 6 0 0 [] acc) (p + 1) left s
    else (match rdV f d left p (k :: s) with
      | .bad q e => .bad q e
      | .ok x q left' s' => rdL f d left' q s' (acc ++ [x]))
end
theorem rdV_cons (f d left p : Nat) (k : UInt8) (s : List UInt8) : rdV (f + 1) d left p (k :: s) =
    (if k.toNat < 1 ∨ 6 < k.toNat then .bad p 4
    else if k.toNat = 6 ∧ d = 8 then .bad p 3
    else if k.toNat = 5 then
      (match rdT s (p + 1) [] with
      | .short => .bad (p + 1 + s.length) 2
      | .form q => .bad q 4
      | .done t q s' => if left < 1 + t.length then .bad p 3 else .ok (.mk 5 0 0 t []) q (left - 1 - t.length) s')
    else if left < 1 then .bad p 3
    else if k.toNat = 2 then
      (match s with
      | [] => .bad (p + 1) 2
      | c :: s' => if 1 < c.toNat then .bad (p + 1) 4 else .ok (.mk 2 c.toNat 0 [] []) (p + 2) (left - 1) s')
    else if k.toNat = 3 then
      (if s.length < 8 then .bad (p + 1 + s.length) 2 else .ok (.mk 3 ((ofBig (s.take 8) : Int) - 9223372036854775808) 0 [] []) (p + 9) (left - 1) (s.drop 8))
    else if k.toNat = 4 then
      (if s.length < 8 then .bad (p + 1 + s.length) 2 else if isKey (ofBig (s.take 8)) then .ok (.mk 4 0 (unkeyB (ofBig (s.take 8))) [] []) (p + 9) (left - 1) (s.drop 8) else .bad (p + 1) 4)
    else if k.toNat = 6 then rdL f (d + 1) (left - 1) (p + 1) s []
    else .ok (.mk 1 0 0 [] []) (p + 1) (left - 1) s) := by rw [rdV.eq_def]
theorem rdL_cons (f d left p : Nat) (k : UInt8) (s : List UInt8) (acc : List Val) : rdL (f + 1) d left p (k :: s) acc =
    (if k = 0 then .ok (.mk 6 0 0 [] acc) (p + 1) left s
    else (match rdV f d left p (k :: s) with
      | .bad q e => .bad q e
      | .ok x q left' s' => rdL f d left' q s' (acc ++ [x]))) := by rw [rdL.eq_def]
theorem rdT_esc : ∀ (t s : List UInt8) (p : Nat) (acc : List UInt8), rdT (esc t ++ 0 :: 1 :: s) p acc = .done (acc ++ t) (p + (esc t).length + 2) s
  | [], s, p, acc => by rw [esc, List.nil_append, rdT, if_neg (by simp), if_neg (by decide), if_pos rfl]; simp
  | c :: r, s, p, acc => by
    rw [esc]
    by_cases h : c = 0
    · rw [if_pos h, List.cons_append, List.cons_append, rdT, if_neg (by simp), if_pos rfl, rdT_esc r s (p + 2) (acc ++ [0]), h]
      simp
      omega
    · rw [if_neg h, List.cons_append]
      have e : ∃ d u, esc r ++ 0 :: 1 :: s = d :: u := by cases hr : esc r with | nil => exact ⟨_, _, rfl⟩ | cons a b => exact ⟨_, _, rfl⟩
      obtain ⟨d, u, e⟩ := e
      rw [e, rdT, if_pos h, ← e, rdT_esc r s (p + 1) (acc ++ [c])]
      simp
      omega
theorem rdT_done : ∀ (n : Nat) (s : List UInt8) (p : Nat) (acc t : List UInt8) (q : Nat) (u : List UInt8), s.length ≤ n → rdT s p acc = .done t q u → ∃ v, t = acc ++ v ∧ s = esc v ++ 0 :: 1 :: u ∧ q = p + (esc v).length + 2
  | _, [], _, _, _, _, _, _, h => by rw [rdT] at h; cases h
  | _, [c], _, _, _, _, _, _, h => by
    rw [rdT] at h
    split at h
    · rw [rdT] at h; cases h
    · cases h
  | 0, c :: d :: r, _, _, _, _, _, hn, _ => by simp at hn
  | n + 1, c :: d :: r, p, acc, t, q, u, hn, h => by
    simp only [List.length_cons] at hn
    rw [rdT] at h
    by_cases c0 : c ≠ 0
    · rw [if_pos c0] at h
      obtain ⟨v, e1, e2, e3⟩ := rdT_done n (d :: r) _ _ _ _ _ (by simp; omega) h
      refine ⟨c :: v, by rw [e1]; simp, by rw [e2, esc, if_neg c0]; simp, by rw [e3, esc, if_neg c0]; simp; omega⟩
    · have c0' : c = 0 := Classical.not_not.1 c0
      rw [if_neg c0] at h
      by_cases d1 : d = 255
      · rw [if_pos d1] at h
        obtain ⟨v, e1, e2, e3⟩ := rdT_done n r _ _ _ _ _ (by omega) h
        refine ⟨0 :: v, by rw [e1]; simp, by rw [e2, esc, if_pos rfl, c0', d1]; simp, by rw [e3, esc, if_pos rfl]; simp; omega⟩
      · rw [if_neg d1] at h
        by_cases d2 : d = 1
        · rw [if_pos d2] at h
          simp only [TRes.done.injEq] at h
          obtain ⟨rfl, rfl, rfl⟩ := h
          exact ⟨[], by simp, by rw [esc, c0', d2]; rfl, by simp [esc]⟩
        · rw [if_neg d2] at h; cases h
theorem ofBig_snoc (s : List UInt8) (c : UInt8) : ofBig (s ++ [c]) = ofBig s * 256 + c.toNat := by unfold ofBig; rw [List.foldl_append]; rfl
theorem foldl_big (s : List UInt8) (a : Nat) : s.foldl (fun n c => n * 256 + c.toNat) a = a * 256 ^ s.length + ofBig s := by
  induction s generalizing a with
  | nil => simp [ofBig]
  | cons c r ih =>
    unfold ofBig
    rw [List.foldl_cons, List.foldl_cons, ih, ih (0 * 256 + c.toNat), List.length_cons, Nat.pow_succ, Nat.zero_mul, Nat.zero_add, Nat.add_mul, Nat.mul_assoc, Nat.mul_comm 256]
    omega
theorem ofBig_cons (c : UInt8) (s : List UInt8) : ofBig (c :: s) = c.toNat * 256 ^ s.length + ofBig s := by
  show s.foldl _ (0 * 256 + c.toNat) = _
  rw [foldl_big, Nat.zero_mul, Nat.zero_add]
theorem ofBig_lt : ∀ s : List UInt8, ofBig s < 256 ^ s.length
  | [] => by simp [ofBig]
  | c :: r => by
    rw [ofBig_cons, List.length_cons, Nat.pow_succ]
    have h1 := ofBig_lt r
    have h2 : c.toNat < 256 := c.toNat_lt
    have h3 : (c.toNat + 1) * 256 ^ r.length ≤ 256 * 256 ^ r.length := Nat.mul_le_mul_right _ (by omega)
    rw [Nat.add_mul, Nat.one_mul] at h3
    rw [Nat.mul_comm (256 ^ r.length)]
    omega
theorem bigN_ofBig : ∀ s : List UInt8, bigN s.length (ofBig s) = s
  | [] => rfl
  | c :: r => by
    have h1 := ofBig_lt r
    have hp : 0 < 256 ^ r.length := Nat.pow_pos (by omega)
    rw [List.length_cons, bigN, ofBig_cons]
    rw [Nat.mul_comm, Nat.mul_add_mod, Nat.mod_eq_of_lt h1, Nat.mul_add_div hp, Nat.div_eq_of_lt h1, Nat.add_zero, bigN_ofBig r]
    congr 1
    exact UInt8.ofNat_toNat
theorem ofBig_bigN : ∀ k n, n < 256 ^ k → ofBig (bigN k n) = n
  | 0, n, h => by simp at h; subst h; rfl
  | k + 1, n, h => by
    have hp : 0 < 256 ^ k := Nat.pow_pos (by omega)
    have h1 : n / 256 ^ k < 256 := by apply Nat.div_lt_of_lt_mul; rw [← Nat.pow_succ]; exact h
    rw [bigN, ofBig_cons, bigN_len, ofBig_bigN k _ (Nat.mod_lt _ hp)]
    simp only [UInt8.toNat_ofNat', Nat.reducePow]
    rw [Nat.mod_eq_of_lt h1, Nat.mul_comm]
    exact Nat.div_add_mod _ _
theorem big_read (n : Nat) (s : List UInt8) (hn : n < 18446744073709551616) : ofBig ((bigN 8 n ++ s).take 8) = n ∧ (bigN 8 n ++ s).drop 8 = s ∧ ¬ (bigN 8 n ++ s).length < 8 := by
  have hl := bigN_len 8 n
  refine ⟨?_, ?_, ?_⟩
  · rw [List.take_append_of_le_length (by omega), List.take_of_length_le (by omega)]; exact ofBig_bigN 8 n hn
  · rw [List.drop_append_of_le_length (by omega), List.drop_of_length_le (by omega), List.nil_append]
  · rw [List.length_append, hl]; omega
theorem canon_len : ∀ l : List Val, (canonL l).length = l.length
  | [] => rfl
  | x :: r => by rw [canonL, List.length_cons, List.length_cons, canon_len r]
theorem key_pos (x : Val) : 1 ≤ (keyV x).length := by
  obtain ⟨k, n, r, t, l⟩ := x
  rw [keyV]; simp
theorem unkey_key {b : Nat} (hb : b < 18446744073709551616) : isKey (keyB b) = true ∧ unkeyB (keyB b) = canonB b := by
  unfold isKey unkeyB keyB canonB
  cases hn : nanB b
  · have h0 : ¬ b % 9223372036854775808 > 9218868437227405312 := of_decide_eq_false hn
    simp only [Bool.false_eq_true, if_false]
    by_cases h : b < 9223372036854775808
    · rw [if_pos h]
      refine ⟨decide_eq_true (by omega), ?_⟩
      rw [if_neg (by omega), if_neg (by omega), if_neg (by omega)]; omega
    · rw [if_neg h]
      refine ⟨decide_eq_true (by omega), ?_⟩
      rw [if_neg (by omega), if_neg (by omega), if_pos (by omega)]; omega
  · simp
theorem key_unkey {k : Nat} (hk : k < 18446744073709551616) (hi : isKey k = true) : keyB (unkeyB k) = k ∧ unkeyB k < 18446744073709551616 ∧ canonB (unkeyB k) = unkeyB k := by
  have h := of_decide_eq_true (show decide _ = true from hi)
  by_cases h1 : k = 18446744073709551615
  · subst h1; decide +kernel
  · have hu : unkeyB k = if k < 9223372036854775808 then 18446744073709551615 - k else k - 9223372036854775808 := by
      unfold unkeyB; rw [if_neg h1, if_neg (by omega)]
    have hlt : unkeyB k < 18446744073709551616 := by rw [hu]; split <;> omega
    have hn : nanB (unkeyB k) = false := by
      unfold nanB
      apply decide_eq_false
      rw [hu]; split <;> omega
    refine ⟨?_, hlt, ?_⟩
    · unfold keyB
      rw [hn]
      simp only [Bool.false_eq_true, if_false]
      rw [hu]
      by_cases h2 : k < 9223372036854775808
      · rw [if_pos h2, if_neg (by omega)]; omega
      · rw [if_neg h2, if_pos (by omega)]; omega
    · unfold canonB; rw [hn]; simp
theorem key_nil : keyV (.mk 1 0 0 [] []) = [1] := by rw [keyV]; rfl
theorem key_bool (n : Int) : keyV (.mk 2 n 0 [] []) = [2, UInt8.ofNat n.toNat] := by rw [keyV]; rfl
theorem key_int (n : Int) : keyV (.mk 3 n 0 [] []) = 3 :: bigN 8 (n + 9223372036854775808).toNat := by rw [keyV, if_neg (by omega), if_pos rfl]; rfl
theorem key_real (r : Nat) : keyV (.mk 4 0 r [] []) = 4 :: bigN 8 (keyB r) := by rw [keyV, if_neg (by omega), if_neg (by omega), if_pos rfl]; rfl
theorem key_text (t : List UInt8) : keyV (.mk 5 0 0 t []) = 5 :: (esc t ++ [0, 1]) := by rw [keyV, if_neg (by omega), if_neg (by omega), if_neg (by omega), if_pos rfl]; rfl
theorem key_list (l : List Val) : keyV (.mk 6 0 0 [] l) = 6 :: (keyL l ++ [0]) := by rw [keyV, if_neg (by omega), if_neg (by omega), if_neg (by omega), if_neg (by omega), if_pos rfl]; rfl
theorem rd_nil (f d left p : Nat) (s : List UInt8) (hl : 1 ≤ left) : rdV (f + 1) d left p (1 :: s) = .ok (.mk 1 0 0 [] []) (p + 1) (left - 1) s := by
  rw [rdV_cons, if_neg (by decide), if_neg (fun h => absurd h.1 (by decide)), if_neg (by decide), if_neg (by omega), if_neg (by decide), if_neg (by decide), if_neg (by decide), if_neg (by decide)]
theorem rd_bool (f d left p : Nat) (c : UInt8) (s : List UInt8) (hl : 1 ≤ left) (hc : c.toNat ≤ 1) : rdV (f + 1) d left p (2 :: c :: s) = .ok (.mk 2 c.toNat 0 [] []) (p + 2) (left - 1) s := by
  rw [rdV_cons, if_neg (by decide), if_neg (fun h => absurd h.1 (by decide)), if_neg (by decide), if_neg (by omega), if_pos (by decide)]
  simp only
  rw [if_neg (by omega)]
theorem rd_int (f d left p : Nat) (s : List UInt8) (hl : 1 ≤ left) (h8 : ¬ s.length < 8) : rdV (f + 1) d left p (3 :: s) = .ok (.mk 3 ((ofBig (s.take 8) : Int) - 9223372036854775808) 0 [] []) (p + 9) (left - 1) (s.drop 8) := by
  rw [rdV_cons, if_neg (by decide), if_neg (fun h => absurd h.1 (by decide)), if_neg (by decide), if_neg (by omega), if_neg (by decide), if_pos (by decide), if_neg h8]
theorem rd_real (f d left p : Nat) (s : List UInt8) (hl : 1 ≤ left) (h8 : ¬ s.length < 8) (hk : isKey (ofBig (s.take 8)) = true) : rdV (f + 1) d left p (4 :: s) = .ok (.mk 4 0 (unkeyB (ofBig (s.take 8))) [] []) (p + 9) (left - 1) (s.drop 8) := by
  rw [rdV_cons, if_neg (by decide), if_neg (fun h => absurd h.1 (by decide)), if_neg (by decide), if_neg (by omega), if_neg (by decide), if_neg (by decide), if_pos (by decide), if_neg h8, if_pos hk]
theorem rd_text (f d left p : Nat) (t s : List UInt8) (hl : 1 + t.length ≤ left) : rdV (f + 1) d left p (5 :: (esc t ++ 0 :: 1 :: s)) = .ok (.mk 5 0 0 t []) (p + 1 + (esc t).length + 2) (left - 1 - t.length) s := by
  rw [rdV_cons, if_neg (by decide), if_neg (fun h => absurd h.1 (by decide)), if_pos (by decide), rdT_esc]
  simp only [List.nil_append]
  rw [if_neg (by omega)]
theorem rd_list (f d left p : Nat) (s : List UInt8) (hl : 1 ≤ left) (hd : d ≠ 8) : rdV (f + 1) d left p (6 :: s) = rdL f (d + 1) (left - 1) (p + 1) s [] := by
  rw [rdV_cons, if_neg (by decide), if_neg (fun h => hd h.2), if_neg (by decide), if_neg (by omega), if_neg (by decide), if_neg (by decide), if_neg (by decide), if_pos (by decide)]
theorem canon0 : canonB 0 = 0 := by decide +kernel
mutual
/-- A value's key, read back. -/
theorem read_key : ∀ (x : Val) (f d left p : Nat) (s : List UInt8), wtV x → okV d x = true → szV x ≤ left → 2 * (keyV x).length ≤ f → rdV f d left p (keyV x ++ s) = .ok (canonV x) (p + (keyV x).length) (left - szV x) s
  | .mk k n r t l, f, d, left, p, s, hw, ho, hs, hf => by
    have hkp := key_pos (.mk k n r t l)
    obtain ⟨g, rfl⟩ : ∃ g, f = g + 1 := ⟨f - 1, by omega⟩
    obtain ⟨p1, q1, r1⟩ := okV_parts ho
    obtain ⟨a1, a2, a3, a4, a5, a6, a7⟩ := plain_of p1
    rw [wtV] at hw
    rw [szV] at hs
    rw [canonV, szV]
    clear hkp ho p1
    have hcases : k = 1 ∨ k = 2 ∨ k = 3 ∨ k = 4 ∨ k = 5 ∨ k = 6 := by omega
    rcases hcases with rfl | rfl | rfl | rfl | rfl | rfl
    · have e1 : l = [] := by simpa using a6 (by omega)
      have e2 := a4 (by omega)
      have e3 := a3 (by omega) (by omega)
      have e4 := a5 (by omega)
      subst e1 e2 e3 e4
      rw [key_nil, List.singleton_append, rd_nil _ _ _ _ _ (by simp at hs; omega), szL, canonL, canon0]; rfl
    · have e1 : l = [] := by simpa using a6 (by omega)
      have e2 := a4 (by omega)
      have e3 := a7 rfl
      have e4 := a5 (by omega)
      subst e1 e2 e4
      have hn : (UInt8.ofNat n.toNat).toNat = n.toNat := by simp only [UInt8.toNat_ofNat', Nat.reducePow]; omega
      rw [key_bool, List.cons_append, List.singleton_append, rd_bool _ _ _ _ _ _ (by simp at hs; omega) (by omega), szL, canonL, canon0, hn, show ((n.toNat : Nat) : Int) = n by omega]; rfl
    · have e1 : l = [] := by simpa using a6 (by omega)
      have e2 := a4 (by omega)
      have e4 := a5 (by omega)
      subst e1 e2 e4
      obtain ⟨b1, b2, b3⟩ := big_read (n + 9223372036854775808).toNat s (by omega)
      rw [key_int, List.cons_append, rd_int _ _ _ _ _ (by simp at hs; omega) b3, b1, b2, szL, canonL, canon0, show (((n + 9223372036854775808).toNat : Nat) : Int) - 9223372036854775808 = n by omega, List.length_cons, bigN_len]; rfl
    · have e1 : l = [] := by simpa using a6 (by omega)
      have e3 := a3 (by omega) (by omega)
      have e4 := a5 (by omega)
      subst e1 e3 e4
      obtain ⟨b1, b2, b3⟩ := big_read (keyB r) s (keyB_lt hw.2.2.1)
      obtain ⟨u1, u2⟩ := unkey_key hw.2.2.1
      rw [key_real, List.cons_append, rd_real _ _ _ _ _ (by simp at hs; omega) b3 (by rw [b1]; exact u1), b1, b2, u2, szL, canonL, List.length_cons, bigN_len]; rfl
    · have e1 : l = [] := by simpa using a6 (by omega)
      have e2 := a4 (by omega)
      have e3 := a3 (by omega) (by omega)
      subst e1 e2 e3
      rw [szL] at hs ⊢
      rw [key_text, List.cons_append, List.append_assoc]
      show rdV (g + 1) d left p (5 :: (esc t ++ 0 :: 1 :: s)) = _
      rw [rd_text _ _ _ _ _ _ (by omega), canonL, canon0, List.length_cons, List.length_append]
      simp only [List.length_cons, List.length_nil]
      rw [show p + 1 + (esc t).length + 2 = p + ((esc t).length + (0 + 1 + 1) + 1) by omega, show left - 1 - t.length = left - (1 + t.length + 0) by omega]
    · have e2 := a4 (by omega)
      have e3 := a3 (by omega) (by omega)
      have e4 := a5 (by omega)
      subst e2 e3 e4
      rw [key_list] at hf ⊢
      simp only [List.length_cons, List.length_append, List.length_nil] at hf hs ⊢
      have hd := q1 rfl
      rw [List.cons_append, List.append_assoc, List.singleton_append, rd_list _ _ _ _ _ (by omega) (by omega), read_list l g (d + 1) (left - 1) (p + 1) s [] hw.2.2.2 r1 (by omega) (by omega), List.nil_append, canon0]
      rw [show p + 1 + (keyL l).length + 1 = p + ((keyL l).length + (0 + 1) + 1) by omega, show left - 1 - szL l = left - (1 + 0 + szL l) by omega]
theorem read_list : ∀ (l : List Val) (f d left p : Nat) (s : List UInt8) (acc : List Val), wtL l → okL d l = true → szL l ≤ left → 2 * (keyL l).length + 1 ≤ f → rdL f d left p (keyL l ++ 0 :: s) acc = .ok (.mk 6 0 0 [] (acc ++ canonL l)) (p + (keyL l).length + 1) (left - szL l) s
  | [], f, d, left, p, s, acc, _, _, _, hf => by
    obtain ⟨g, rfl⟩ : ∃ g, f = g + 1 := ⟨f - 1, by omega⟩
    rw [keyL, List.nil_append, rdL_cons, if_pos rfl, canonL, szL]
    simp
  | x :: r, f, d, left, p, s, acc, hw, ho, hs, hf => by
    obtain ⟨g, rfl⟩ : ∃ g, f = g + 1 := ⟨f - 1, by omega⟩
    rw [wtL] at hw
    rw [okL, Bool.and_eq_true] at ho
    rw [szL] at hs
    rw [keyL, List.length_append] at hf
    have hkp := key_pos x
    obtain ⟨c, u, e, h1, _⟩ := key_head ho.1
    have hx := read_key x g d left p (keyL r ++ 0 :: s) hw.1 ho.1 (by omega) (by omega)
    have hr := read_list r g d (left - szV x) (p + (keyV x).length) s (acc ++ [canonV x]) hw.2 ho.2 (by omega) (by omega)
    rw [keyL, List.append_assoc]
    rw [e] at hx ⊢
    rw [List.cons_append] at hx ⊢
    rw [rdL_cons, if_neg (by rintro rfl; simp at h1), hx]
    simp only
    rw [← e, hr, canonL, szL, List.length_append]
    congr 1
    · simp
    · omega
    · omega
end
theorem u8_is {c : UInt8} {n : Nat} (h : c.toNat = n) (d : UInt8) (hd : d.toNat = n) : c = d := UInt8.toNat_inj.1 (by omega)
theorem wtL_append : ∀ a b, wtL a → wtL b → wtL (a ++ b)
  | [], _, _, h => h
  | x :: r, b, ha, hb => by rw [wtL] at ha; rw [List.cons_append, wtL]; exact ⟨ha.1, wtL_append r b ha.2 hb⟩
mutual
/-- What is read is a value that may be there, and its key is what was read. -/
theorem read_sound : ∀ (f d left p : Nat) (s : List UInt8) (x : Val) (q left' : Nat) (s' : List UInt8), d ≤ 8 → rdV f d left p s = .ok x q left' s' →
    wtV x ∧ okV d x = true ∧ szV x + left' = left ∧ s = keyV x ++ s' ∧ q = p + (keyV x).length ∧ canonV x = x
  | 0, d, left, p, s, x, q, left', s', _, h => by rw [rdV] at h; cases h
  | f + 1, d, left, p, [], x, q, left', s', _, h => by rw [rdV] at h; cases h
  | f + 1, d, left, p, k :: s, x, q, left', s', hd, h => by
    rw [rdV_cons] at h
    by_cases c0 : k.toNat < 1 ∨ 6 < k.toNat
    · rw [if_pos c0] at h; cases h
    rw [if_neg c0] at h
    by_cases c8 : k.toNat = 6 ∧ d = 8
    · rw [if_pos c8] at h; cases h
    rw [if_neg c8] at h
    by_cases c5 : k.toNat = 5
    · rw [if_pos c5] at h
      obtain rfl := u8_is c5 5 rfl
      cases ht : rdT s (p + 1) [] with
      | short => rw [ht] at h; cases h
      | form z => rw [ht] at h; cases h
      | done t z u =>
        rw [ht] at h
        simp only at h
        by_cases hl : left < 1 + t.length
        · rw [if_pos hl] at h; cases h
        · rw [if_neg hl] at h
          simp only [Res.ok.injEq] at h
          obtain ⟨rfl, rfl, rfl, rfl⟩ := h
          obtain ⟨v, e1, e2, e3⟩ := rdT_done _ s (p + 1) [] t z u (Nat.le_refl _) ht
          rw [List.nil_append] at e1
          subst e1
          refine ⟨by rw [wtV]; simp [wtL], by simp [okV, okL, plain], by rw [szV, szL]; omega, by rw [key_text, e2]; simp, by rw [key_text, e3]; simp; omega, by rw [canonV, canon0, canonL]⟩
    rw [if_neg c5] at h
    by_cases hl : left < 1
    · rw [if_pos hl] at h; cases h
    rw [if_neg hl] at h
    by_cases c2 : k.toNat = 2
    · rw [if_pos c2] at h
      obtain rfl := u8_is c2 2 rfl
      cases s with
      | nil => cases h
      | cons c u =>
        simp only at h
        by_cases hc : 1 < c.toNat
        · rw [if_pos hc] at h; cases h
        · rw [if_neg hc] at h
          simp only [Res.ok.injEq] at h
          obtain ⟨rfl, rfl, rfl, rfl⟩ := h
          refine ⟨by rw [wtV]; simp [wtL]; omega, by simp [okV, okL, plain]; omega, by rw [szV, szL]; simp; omega, by rw [key_bool]; simp, by rw [key_bool]; rfl, by rw [canonV, canon0, canonL]⟩
    rw [if_neg c2] at h
    by_cases c3 : k.toNat = 3
    · rw [if_pos c3] at h
      obtain rfl := u8_is c3 3 rfl
      by_cases h8 : s.length < 8
      · rw [if_pos h8] at h; cases h
      · rw [if_neg h8] at h
        simp only [Res.ok.injEq] at h
        obtain ⟨rfl, rfl, rfl, rfl⟩ := h
        have hlen : (s.take 8).length = 8 := by rw [List.length_take]; omega
        have hb := ofBig_lt (s.take 8)
        rw [hlen] at hb
        have hback := bigN_ofBig (s.take 8)
        rw [hlen] at hback
        refine ⟨by rw [wtV]; simp [wtL]; omega, by simp [okV, okL, plain], by rw [szV, szL]; simp; omega, ?_, by rw [key_int, List.length_cons, bigN_len], by rw [canonV, canon0, canonL]⟩
        rw [key_int, show ((ofBig (s.take 8) : Int) - 9223372036854775808 + 9223372036854775808).toNat = ofBig (s.take 8) by omega, hback, List.cons_append, List.take_append_drop]
    rw [if_neg c3] at h
    by_cases c4 : k.toNat = 4
    · rw [if_pos c4] at h
      obtain rfl := u8_is c4 4 rfl
      by_cases h8 : s.length < 8
      · rw [if_pos h8] at h; cases h
      · rw [if_neg h8] at h
        by_cases hi : isKey (ofBig (s.take 8)) = true
        · rw [if_pos hi] at h
          simp only [Res.ok.injEq] at h
          obtain ⟨rfl, rfl, rfl, rfl⟩ := h
          have hlen : (s.take 8).length = 8 := by rw [List.length_take]; omega
          have hb := ofBig_lt (s.take 8)
          rw [hlen] at hb
          have hback := bigN_ofBig (s.take 8)
          rw [hlen] at hback
          obtain ⟨u1, u2, u3⟩ := key_unkey (by omega) hi
          refine ⟨by rw [wtV]; simp [wtL]; omega, by simp [okV, okL, plain], by rw [szV, szL]; simp; omega, ?_, by rw [key_real, List.length_cons, bigN_len], by rw [canonV, u3, canonL]⟩
          rw [key_real, u1, hback, List.cons_append, List.take_append_drop]
        · rw [if_neg hi] at h; cases h
    rw [if_neg c4] at h
    by_cases c6 : k.toNat = 6
    · rw [if_pos c6] at h
      obtain rfl := u8_is c6 6 rfl
      obtain ⟨l, rfl, w1, w2, w3, w4, w5, w6⟩ := read_sound_list f (d + 1) (left - 1) (p + 1) s [] x q left' s' (by omega) h
      rw [List.nil_append]
      refine ⟨by rw [wtV]; exact ⟨by omega, by omega, by omega, w1⟩, ?_, by rw [szV]; simp; omega, by rw [key_list, w4]; simp, by rw [key_list, w5]; simp; omega, by rw [canonV, canon0, w6]⟩
      rw [okV, w2]
      simp [plain]; omega
    · rw [if_neg c6] at h
      obtain rfl := u8_is (show k.toNat = 1 by omega) 1 rfl
      simp only [Res.ok.injEq] at h
      obtain ⟨rfl, rfl, rfl, rfl⟩ := h
      refine ⟨by rw [wtV]; simp [wtL], by simp [okV, okL, plain], by rw [szV, szL]; simp; omega, by rw [key_nil]; simp, by rw [key_nil]; rfl, by rw [canonV, canon0, canonL]⟩
theorem read_sound_list : ∀ (f d left p : Nat) (s : List UInt8) (acc : List Val) (x : Val) (q left' : Nat) (s' : List UInt8), d ≤ 8 → rdL f d left p s acc = .ok x q left' s' →
    ∃ l, x = .mk 6 0 0 [] (acc ++ l) ∧ wtL l ∧ okL d l = true ∧ szL l + left' = left ∧ s = keyL l ++ 0 :: s' ∧ q = p + (keyL l).length + 1 ∧ canonL l = l
  | 0, d, left, p, s, acc, x, q, left', s', _, h => by rw [rdL] at h; cases h
  | f + 1, d, left, p, [], acc, x, q, left', s', _, h => by rw [rdL] at h; cases h
  | f + 1, d, left, p, k :: s, acc, x, q, left', s', hd, h => by
    rw [rdL_cons] at h
    by_cases k0 : k = 0
    · rw [if_pos k0] at h
      simp only [Res.ok.injEq] at h
      obtain ⟨rfl, rfl, rfl, rfl⟩ := h
      exact ⟨[], by simp, trivial, rfl, by rw [szL]; omega, by rw [keyL, k0]; rfl, by rw [keyL]; rfl, rfl⟩
    · rw [if_neg k0] at h
      cases hr : rdV f d left p (k :: s) with
      | bad z e => rw [hr] at h; cases h
      | ok y z lf u =>
        rw [hr] at h
        simp only at h
        obtain ⟨v1, v2, v3, v4, v5, v6⟩ := read_sound f d left p (k :: s) y z lf u hd hr
        obtain ⟨l, e, w1, w2, w3, w4, w5, w6⟩ := read_sound_list f d lf z u (acc ++ [y]) x q left' s' hd h
        refine ⟨y :: l, by rw [e]; simp, by rw [wtL]; exact ⟨v1, w1⟩, by rw [okL, v2, w2]; rfl, by rw [szL]; omega, by rw [v4, w4, keyL]; simp, by rw [w5, v5, keyL, List.length_append]; omega, by rw [canonL, v6, w6]⟩
end
#print axioms read_key
#print axioms read_sound
end Go.Proofs.YtpfnkkkfekhngaaGreatDoor.Va
