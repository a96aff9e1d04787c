/-
  Names of files by their bytes: which may be one, a number in sixteen digits, a segment's name, the kinds; their order. No program is named here.
-/
import Derived.Test.YtdelknejmapeaaaBase
namespace Go.Proofs.Ytdelknejmapeaaa.Nm
set_option linter.unusedVariables false

/-- A letter or a digit. -/
def plc (c : UInt8) : Bool := (decide (97 ≤ (c.toNat : Int)) && decide ((c.toNat : Int) ≤ 122)) || (decide (48 ≤ (c.toNat : Int)) && decide ((c.toNat : Int) ≤ 57))
def okc (c : UInt8) : Bool := plc c || ((c.toNat : Int) == 46) || ((c.toNat : Int) == 45)
def may (l : List UInt8) : Bool := decide (1 ≤ l.length) && decide (l.length ≤ 64) && l.all okc && plc (l.getD 0 0) && plc (l.getD (l.length - 1) 0)

/-- The digit that stands for d. -/
def hd (d : Nat) : UInt8 := UInt8.ofNat (if d < 10 then 48 + d else 87 + d)
/-- n in k digits. -/
def hexk : Nat → Nat → List UInt8
  | 0, _ => []
  | k + 1, n => hexk k (n / 16) ++ [hd (n % 16)]
/-- What a digit stands for. -/
def dgv (c : UInt8) : Option Nat := if 48 ≤ c.toNat ∧ c.toNat ≤ 57 then some (c.toNat - 48) else if 97 ≤ c.toNat ∧ c.toNat ≤ 102 then some (c.toNat - 87) else none
/-- The number that digits say. -/
def rdp (l : List UInt8) : Option Nat := l.foldl (fun a c => a.bind fun n => (dgv c).map fun d => n * 16 + d) (some 0)

theorem rdp_snoc (l : List UInt8) (c : UInt8) : rdp (l ++ [c]) = (rdp l).bind fun n => (dgv c).map fun d => n * 16 + d := by
  unfold rdp; rw [List.foldl_append]; rfl
theorem rdp_none (l m : List UInt8) (h : rdp l = none) : rdp (l ++ m) = none := by
  unfold rdp at *
  rw [List.foldl_append, h]
  induction m with
  | nil => rfl
  | cons c r ih => exact ih
theorem hd_nat {d : Nat} (h : d < 16) : (hd d).toNat = if d < 10 then 48 + d else 87 + d := by
  unfold hd
  rw [UInt8.toNat_ofNat_of_lt']
  show _ < 256
  split <;> omega
theorem dgv_hd {d : Nat} (h : d < 16) : dgv (hd d) = some d := by
  unfold dgv
  rw [hd_nat h]
  by_cases h1 : d < 10
  · simp only [h1, if_true]
    rw [if_pos (by omega)]
    congr 1
    omega
  · simp only [h1, if_false]
    rw [if_neg (by omega), if_pos (by omega)]
    congr 1
    omega
theorem hd_dgv {c : UInt8} {d : Nat} (h : dgv c = some d) : d < 16 ∧ hd d = c := by
  unfold dgv at h
  have e : ∀ x : Nat, x < 16 → (if x < 10 then 48 + x else 87 + x) = c.toNat → x < 16 ∧ hd x = c := fun x hx he => ⟨hx, by
    apply UInt8.toNat_inj.1
    rw [hd_nat hx]; exact he⟩
  split at h
  · rename_i h1
    cases h
    exact e _ (by omega) (by rw [if_pos (by omega)]; omega)
  · split at h
    · rename_i h1
      cases h
      exact e _ (by omega) (by rw [if_neg (by omega)]; omega)
    · cases h
theorem hexk_len (k n : Nat) : (hexk k n).length = k := by
  induction k generalizing n with
  | zero => rfl
  | succ k ih => simp [hexk, ih]
theorem rdp_hexk (k n : Nat) : rdp (hexk k n) = some (n % 16 ^ k) := by
  induction k generalizing n with
  | zero => simp [hexk, rdp, Nat.mod_one]
  | succ k ih =>
    rw [hexk, rdp_snoc, ih, dgv_hd (Nat.mod_lt _ (by omega))]
    simp only [Option.bind_some, Option.map_some]
    congr 1
    rw [Nat.pow_succ, Nat.mul_comm (16 ^ k) 16, Nat.mod_mul]
    omega
theorem snoc_ex (k : Nat) (l : List UInt8) (h : l.length = k + 1) : ∃ m c, l = m ++ [c] ∧ m.length = k := by
  refine ⟨l.take k, l[k], ?_, by simp; omega⟩
  rw [← take_snoc l k (by omega), List.take_of_length_le (by omega)]
theorem hex_rdp (k : Nat) : ∀ (l : List UInt8) (n : Nat), l.length = k → rdp l = some n → hexk k n = l ∧ n < 16 ^ k := by
  induction k with
  | zero =>
    intro l n hl h
    obtain rfl := List.length_eq_zero_iff.1 hl
    simp [rdp] at h
    subst h
    exact ⟨rfl, by simp⟩
  | succ k ih =>
    intro l n hl h
    obtain ⟨m, c, rfl, hm⟩ := snoc_ex k l hl
    rw [rdp_snoc] at h
    cases hr : rdp m with
    | none => rw [hr] at h; cases h
    | some a =>
      cases hd' : dgv c with
      | none => rw [hr, hd'] at h; cases h
      | some d =>
        rw [hr, hd'] at h
        simp only [Option.bind_some, Option.map_some, Option.some.injEq] at h
        obtain ⟨h1, h2⟩ := ih m a hm hr
        obtain ⟨h3, h4⟩ := hd_dgv hd'
        subst h
        refine ⟨?_, by rw [Nat.pow_succ]; omega⟩
        rw [hexk, show (a * 16 + d) / 16 = a by omega, show (a * 16 + d) % 16 = d by omega, h1, h4]

/-- A segment's name. -/
def segL (n : Nat) : List UInt8 := [115, 101, 103, 45] ++ hexk 16 n ++ [46, 108, 111, 103]
/-- The number whose segment's name l is; 0: none. -/
def numB (l : List UInt8) : Nat :=
  if l.length = 24 ∧ l.take 4 = [115, 101, 103, 45] ∧ l.drop 20 = [46, 108, 111, 103] then
    match rdp ((l.drop 4).take 16) with
    | some n => if n < 9223372036854775808 then n else 0
    | none => 0
  else 0
theorem segL_len (n : Nat) : (segL n).length = 24 := by simp [segL, hexk_len]
theorem segL_mid (n : Nat) : ((segL n).drop 4).take 16 = hexk 16 n := by
  unfold segL
  rw [List.append_assoc, List.drop_append_of_le_length (by simp)]
  simp only [List.drop_succ_cons, List.drop_zero, List.nil_append]
  rw [List.take_append_of_le_length (by rw [hexk_len]; omega), List.take_of_length_le (by rw [hexk_len]; omega)]
theorem parts (l : List UInt8) (h : l.length = 24) : l = l.take 4 ++ (l.drop 4).take 16 ++ l.drop 20 := by
  have h1 : l.drop 4 = (l.drop 4).take 16 ++ l.drop 20 := by
    conv => lhs; rw [← List.take_append_drop 16 (l.drop 4)]
    rw [List.drop_drop]
  rw [List.append_assoc, ← h1, List.take_append_drop]
theorem numB_seg {n : Nat} (h : n < 9223372036854775808) : numB (segL n) = n := by
  unfold numB
  have hd4 : (segL n).take 4 = [115, 101, 103, 45] := by simp [segL]
  have hd20 : (segL n).drop 20 = [46, 108, 111, 103] := by
    unfold segL
    rw [List.drop_append, List.drop_of_length_le (by simp [hexk_len])]
    simp [hexk_len]
  rw [if_pos ⟨segL_len n, hd4, hd20⟩, segL_mid, rdp_hexk]
  simp only
  rw [Nat.mod_eq_of_lt (by omega), if_pos h]
theorem seg_numB {l : List UInt8} (h : numB l ≠ 0) : l = segL (numB l) ∧ 1 ≤ numB l ∧ numB l < 9223372036854775808 := by
  unfold numB at *
  split at h
  · rename_i hl
    rw [if_pos hl]
    cases hr : rdp ((l.drop 4).take 16) with
    | none => rw [hr] at h; exact absurd rfl h
    | some n =>
      rw [hr] at h
      simp only at h ⊢
      split at h
      · rename_i hn
        rw [if_pos hn]
        refine ⟨?_, by omega, hn⟩
        have := (hex_rdp 16 _ n (by simp; omega) hr).1
        rw [parts l hl.1, hl.2.1, hl.2.2, segL, this]
      · exact absurd rfl h
  · exact absurd rfl h
theorem numB_bound (l : List UInt8) : numB l < 9223372036854775808 := by
  by_cases h : numB l = 0
  · omega
  · exact (seg_numB h).2.2
theorem segL_inj {a b : Nat} (ha : a < 9223372036854775808) (hb : b < 9223372036854775808) (h : segL a = segL b) : a = b := by
  rw [← numB_seg ha, h, numB_seg hb]
/-- A text of 24 bytes whose digits say n: it is n's name just where it is as numB tells. -/
theorem numB_mid {l : List UInt8} {n : Nat} (hl : l.length = 24) (hr : rdp ((l.drop 4).take 16) = some n) (hn : n < 9223372036854775808) : (segL n = l ↔ numB l = n ∧ (n ≠ 0 ∨ segL n = l)) := by
  constructor
  · intro h
    exact ⟨by rw [← h]; exact numB_seg hn, .inr h⟩
  · rintro ⟨h1, h2⟩
    rcases h2 with h2 | h2
    · rw [← h1] at h2 ⊢
      exact (seg_numB h2).1.symm
    · exact h2
theorem numB_none {l : List UInt8} (h : rdp ((l.drop 4).take 16) = none) : numB l = 0 := by
  unfold numB; rw [h]; simp
theorem numB_len {l : List UInt8} (h : l.length ≠ 24) : numB l = 0 := by
  unfold numB; rw [if_neg (fun x => h x.1)]
theorem numB_big {l : List UInt8} {n : Nat} (h : rdp ((l.drop 4).take 16) = some n) (hn : ¬ n < 9223372036854775808) : numB l = 0 := by
  unfold numB; rw [h]; simp [hn]
theorem numB_zero {l : List UInt8} (h : rdp ((l.drop 4).take 16) = some 0) : numB l = 0 := by
  unfold numB; rw [h]; simp
theorem numB_not {l : List UInt8} {n : Nat} (hr : rdp ((l.drop 4).take 16) = some n) (h : segL n ≠ l) : numB l = 0 := by
  by_cases h0 : numB l = 0
  · exact h0
  · exfalso
    obtain ⟨h1, h2, h3⟩ := seg_numB h0
    rw [h1, segL_mid, rdp_hexk, Nat.mod_eq_of_lt (by omega)] at hr
    cases hr
    exact h h1.symm

theorem hd_plc {d : Nat} (h : d < 16) : plc (hd d) = true := by
  unfold plc
  rw [hd_nat h]
  split <;> simp <;> omega
theorem hexk_plc (k n : Nat) : ∀ c ∈ hexk k n, plc c = true := by
  induction k generalizing n with
  | zero => simp [hexk]
  | succ k ih =>
    intro c hc
    rw [hexk, List.mem_append] at hc
    rcases hc with hc | hc
    · exact ih _ c hc
    · rw [List.mem_singleton] at hc
      rw [hc]
      exact hd_plc (Nat.mod_lt _ (by omega))
theorem may_seg (n : Nat) : may (segL n) = true := by
  unfold may
  have h1 : (segL n).all okc = true := by
    rw [List.all_eq_true]
    intro c hc
    unfold segL at hc
    simp only [List.mem_append] at hc
    rcases hc with (hc | hc) | hc
    · simp only [List.mem_cons, List.not_mem_nil, or_false] at hc
      rcases hc with rfl | rfl | rfl | rfl <;> decide
    · unfold okc; rw [hexk_plc _ _ c hc]; rfl
    · simp only [List.mem_cons, List.not_mem_nil, or_false] at hc
      rcases hc with rfl | rfl | rfl | rfl <;> decide
  have h2 : (segL n).getD 0 0 = 115 := by simp [segL]
  have h3 : (segL n).getD 23 0 = 103 := by
    unfold segL
    rw [List.getD_eq_getElem?_getD, List.getElem?_append_right (by simp [hexk_len])]
    simp [hexk_len]
  rw [h1, segL_len, h2, h3]
  decide
/-- The kinds of names. -/
def kindB (l : List UInt8) : Nat :=
  if numB l ≠ 0 then 1 else if l = [99, 97, 116, 97, 108, 111, 103] then 2
  else if l = [99, 97, 116, 97, 108, 111, 103, 45, 110, 101, 120, 116] ∨ l = [115, 101, 103, 109, 101, 110, 116, 45, 110, 101, 120, 116] then 3
  else if may l = true then 4 else 0
theorem may_num {l : List UInt8} (h : numB l ≠ 0) : may l = true := by rw [(seg_numB h).1]; exact may_seg _

/-- The digits of n, as many as it has. -/
def digs (n : Nat) : List UInt8 := if h : n < 16 then [hd n] else digs (n / 16) ++ [hd (n % 16)]
termination_by n
decreasing_by omega
theorem digs_small {n : Nat} (h : n < 16) : digs n = [hd n] := by rw [digs, dif_pos h]
theorem digs_more {n : Nat} (h : ¬ n < 16) : digs n = digs (n / 16) ++ [hd (n % 16)] := by rw [digs, dif_neg h]
theorem hexk_zero (k : Nat) : hexk k 0 = List.replicate k 48 := by
  induction k with
  | zero => rfl
  | succ k ih => rw [hexk, Nat.zero_div, ih, Nat.zero_mod, List.replicate_succ']; rfl
theorem digs_hexk (k : Nat) : ∀ n, n < 16 ^ (k + 1) → (digs n).length ≤ k + 1 ∧ List.replicate (k + 1 - (digs n).length) 48 ++ digs n = hexk (k + 1) n := by
  induction k with
  | zero =>
    intro n hn
    have hn' : n < 16 := by simpa using hn
    rw [digs_small hn']
    refine ⟨by simp, ?_⟩
    simp [hexk, Nat.mod_eq_of_lt hn']
  | succ k ih =>
    intro n hn
    by_cases h : n < 16
    · rw [digs_small h]
      refine ⟨by simp, ?_⟩
      rw [hexk, Nat.div_eq_of_lt h, Nat.mod_eq_of_lt h, hexk_zero]
      simp
    · rw [digs_more h]
      obtain ⟨h1, h2⟩ := ih (n / 16) (by rw [Nat.pow_succ] at hn; exact Nat.div_lt_of_lt_mul (by rw [Nat.mul_comm]; exact hn))
      refine ⟨by simp; omega, ?_⟩
      rw [hexk, ← h2]
      simp only [List.length_append, List.length_cons, List.length_nil, ← List.append_assoc]
      congr 2
      congr 1
      omega
theorem digs_seg {n : Nat} (h : n < 9223372036854775808) : (digs n).length ≤ 16 ∧ [115, 101, 103, 45] ++ List.replicate (16 - (digs n).length) 48 ++ digs n ++ [46, 108, 111, 103] = segL n := by
  obtain ⟨h1, h2⟩ := digs_hexk 15 n (by omega)
  refine ⟨h1, ?_⟩
  rw [segL, ← h2]
  simp
theorem digs_pos (n : Nat) : 1 ≤ (digs n).length := by
  by_cases h : n < 16
  · rw [digs_small h]; simp
  · rw [digs_more h]; simp

/-- Lists of one length stand as their ends do, where their fronts are alike. -/
theorem lt_snoc : ∀ (x y : List UInt8) (c d : UInt8), x.length = y.length → (x ++ [c] < y ++ [d] ↔ x < y ∨ (x = y ∧ c < d))
  | [], [], c, d, _ => by simp [List.cons_lt_cons_iff]
  | [], _ :: _, _, _, h => by simp at h
  | _ :: _, [], _, _, h => by simp at h
  | a :: x, b :: y, c, d, h => by
    have := lt_snoc x y c d (by simpa using h)
    simp only [List.cons_append, List.cons_lt_cons_iff, this, List.cons.injEq]
    constructor
    · rintro (h | ⟨h1, h | ⟨h2, h3⟩⟩)
      · exact .inl (.inl h)
      · exact .inl (.inr ⟨h1, h⟩)
      · exact .inr ⟨⟨h1, h2⟩, h3⟩
    · rintro ((h | ⟨h1, h2⟩) | ⟨⟨h1, h2⟩, h3⟩)
      · exact .inl h
      · exact .inr ⟨h1, .inl h2⟩
      · exact .inr ⟨h1, .inr ⟨h2, h3⟩⟩
theorem hd_lt {a b : Nat} (ha : a < 16) (hb : b < 16) : hd a < hd b ↔ a < b := by
  rw [UInt8.lt_iff_toNat_lt, hd_nat ha, hd_nat hb]
  split <;> split <;> omega
theorem hexk_lt (k : Nat) : ∀ a b, a < 16 ^ k → b < 16 ^ k → (hexk k a < hexk k b ↔ a < b) := by
  induction k with
  | zero => intro a b ha hb; simp at ha hb; subst ha hb; simp [hexk]
  | succ k ih =>
    intro a b ha hb
    rw [Nat.pow_succ] at ha hb
    have ha' : a / 16 < 16 ^ k := Nat.div_lt_of_lt_mul (by rw [Nat.mul_comm]; exact ha)
    have hb' : b / 16 < 16 ^ k := Nat.div_lt_of_lt_mul (by rw [Nat.mul_comm]; exact hb)
    rw [hexk, hexk, lt_snoc _ _ _ _ (by rw [hexk_len, hexk_len]), ih _ _ ha' hb', hd_lt (Nat.mod_lt _ (by omega)) (Nat.mod_lt _ (by omega))]
    have he : hexk k (a / 16) = hexk k (b / 16) ↔ a / 16 = b / 16 := by
      constructor
      · intro h
        have := congrArg rdp h
        rw [rdp_hexk, rdp_hexk, Nat.mod_eq_of_lt ha', Nat.mod_eq_of_lt hb'] at this
        exact Option.some.inj this
      · intro h; rw [h]
    rw [he]
    omega
theorem lt_append : ∀ (p x y : List UInt8), p ++ x < p ++ y ↔ x < y
  | [], x, y => Iff.rfl
  | a :: p, x, y => by
    have := lt_append p x y
    simp only [List.cons_append, List.cons_lt_cons_iff, this]
    constructor
    · rintro (h | ⟨_, h⟩)
      · exact absurd h (UInt8.lt_irrefl a)
      · exact h
    · intro h; exact .inr (by simpa using h)
theorem lt_back : ∀ (x y z : List UInt8), x.length = y.length → (x ++ z < y ++ z ↔ x < y)
  | [], [], z, _ => by simp [List.lt_irrefl]
  | [], _ :: _, _, h => by simp at h
  | _ :: _, [], _, h => by simp at h
  | a :: x, b :: y, z, h => by
    have := lt_back x y z (by simpa using h)
    simp only [List.cons_append, List.cons_lt_cons_iff, this]
theorem segL_lt {a b : Nat} (ha : a < 9223372036854775808) (hb : b < 9223372036854775808) : segL a < segL b ↔ a < b := by
  unfold segL
  rw [List.append_assoc, List.append_assoc, lt_append, lt_back _ _ _ (by rw [hexk_len, hexk_len]), hexk_lt 16 a b (by omega) (by omega)]
end Go.Proofs.Ytdelknejmapeaaa.Nm
