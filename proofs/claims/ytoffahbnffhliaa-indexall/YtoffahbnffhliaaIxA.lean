/-
  The index by data: its entries; what it is told, what is found and cut, how it is written and read.
-/
import Derived.Test.YtoffahbnffhliaaBack
import Derived.Test.YtoffahbnffhliaaFixed
import Derived.Test.YtoffahbnffhliaaCrc0
namespace Go.Proofs.Ytoffahbnffhliaa.Ix

/-- An index: its step, its entries (LSN, Off), the frame that was told last. -/
structure X where
  st : Nat
  l : List (Int × Int)
  la : Int × Int
def zX : X := ⟨0, [], (0, 0)⟩
def lastE (l : List (Int × Int)) : Int × Int := l.getLast?.getD (0, 0)
/-- Add: the error's number, and the index behind it. -/
def addF (x : X) (n o : Int) : Int × X :=
  if n < 1 ∨ o < 0 ∨ 2147483647 < o then (1, x)
  else if x.l ≠ [] ∧ ¬ (n - 1 = x.la.1 ∧ x.la.2 < o) then (63, x)
  else (0, ⟨x.st, if x.l = [] ∨ (x.st : Int) ≤ o - (lastE x.l).2 then x.l ++ [(n, o)] else x.l, (n, o)⟩)
/-- How many entries have an LSN below n. -/
def cnt (l : List (Int × Int)) (n : Int) : Nat := l.countP fun e => decide (e.1 < n)
/-- Find. -/
def findF (l : List (Int × Int)) (n : Int) : (Int × Int) × Bool :=
  match (l.filter fun e => decide (e.1 ≤ n)).getLast? with
  | some e => (e, true)
  | none => ((0, 0), false)
/-- Cut. -/
def cutF (x : X) (n : Int) : Nat × X :=
  if x.l = [] ∨ x.la.1 < n then (0, x)
  else (x.l.length - cnt x.l n, ⟨x.st, x.l.take (cnt x.l n), lastE (x.l.take (cnt x.l n))⟩)
def body : Int × Int → List (Int × Int) → List UInt8
  | _, [] => []
  | p, e :: r => enc (e.1 - p.1).toNat ++ (enc (e.2 - p.2).toNat ++ body e r)
def front (x : X) : List UInt8 := enc x.st ++ (enc x.l.length ++ body (0, 0) x.l)
/-- Bytes. -/
def bytesF (x : X) : List UInt8 := front x ++ fx 4 (Crc.more 0#32 (front x)).toNat
def nx (r : List UInt8) : List UInt8 := r.drop (rv r).2.1
def fldE (r : List UInt8) (least most : Nat) : Int := if (rv r).2.2 = 2 then 2 else if (rv r).2.2 ≠ 0 ∨ most < (rv r).1 ∨ (rv r).1 < least then 4 else 0
def entE (st : Nat) (l : List (Int × Int)) (la : Int × Int) (r : List UInt8) : Int :=
  if fldE r 1 (9223372036854775807 - la.1).toNat ≠ 0 then fldE r 1 (9223372036854775807 - la.1).toNat else fldE (nx r) (if l = [] then 0 else st) (2147483647 - la.2).toNat
def entV (la : Int × Int) (r : List UInt8) : Int × Int := (la.1 + ((rv r).1 : Int), la.2 + ((rv (nx r)).1 : Int))
def loadL (st : Nat) : Nat → List (Int × Int) → Int × Int → List UInt8 → Int × List (Int × Int) × List UInt8
  | 0, l, _, r => (0, l, r)
  | c + 1, l, la, r => if entE st l la r ≠ 0 then (entE st l la r, [], []) else loadL st c (l ++ [entV la r]) (entV la r) (nx (nx r))
/-- What stands ahead of the sum, read. -/
def readF (l : List UInt8) : Int × X :=
  if fldE l 1 1048576 ≠ 0 then (fldE l 1 1048576, zX)
  else if fldE (nx l) 0 18446744073709551615 ≠ 0 then (fldE (nx l) 0 18446744073709551615, zX)
  else if (loadL (rv l).1 (rv (nx l)).1 [] (0, 0) (nx (nx l))).1 ≠ 0 then ((loadL (rv l).1 (rv (nx l)).1 [] (0, 0) (nx (nx l))).1, zX)
  else if (loadL (rv l).1 (rv (nx l)).1 [] (0, 0) (nx (nx l))).2.2 ≠ [] then (4, zX)
  else (0, ⟨(rv l).1, (loadL (rv l).1 (rv (nx l)).1 [] (0, 0) (nx (nx l))).2.1, lastE (loadL (rv l).1 (rv (nx l)).1 [] (0, 0) (nx (nx l))).2.1⟩)
/-- Load. -/
def loadF (b : List UInt8) : Int × X :=
  if b.length < 4 then (2, zX)
  else if num (b.drop (b.length - 4)) ≠ (Crc.more 0#32 (b.take (b.length - 4))).toNat then (5, zX)
  else readF (b.take (b.length - 4))

/-- Entries as an index holds them. -/
structure Srt (st : Nat) (l : List (Int × Int)) : Prop where
  s0 : 1 ≤ st
  s1 : st ≤ 1048576
  up : l.Pairwise fun a b => a.1 < b.1 ∧ a.2 + (st : Int) ≤ b.2
  rng : ∀ e ∈ l, 1 ≤ e.1 ∧ e.1 ≤ 9223372036854775807 ∧ 0 ≤ e.2 ∧ e.2 ≤ 2147483647
structure Ok (x : X) : Prop where
  srt : Srt x.st x.l
  la0 : x.l = [] → x.la = (0, 0)
  la1 : x.l ≠ [] → (lastE x.l).1 ≤ x.la.1 ∧ (lastE x.l).2 ≤ x.la.2 ∧ x.la.1 ≤ 9223372036854775807 ∧ x.la.2 ≤ 2147483647

theorem lastE_nil : lastE [] = (0, 0) := rfl
theorem lastE_snoc (l : List (Int × Int)) (e : Int × Int) : lastE (l ++ [e]) = e := by simp [lastE]
theorem lastE_get {l : List (Int × Int)} (h : l ≠ []) : lastE l = l[l.length - 1]'(by have := List.length_pos_iff.2 h; omega) := by
  unfold lastE
  rw [List.getLast?_eq_getElem?, List.getElem?_eq_getElem (by have := List.length_pos_iff.2 h; omega)]
  rfl
theorem lastE_mem {l : List (Int × Int)} (h : l ≠ []) : lastE l ∈ l := by rw [lastE_get h]; exact List.getElem_mem _
theorem Srt.lt {st : Nat} {l : List (Int × Int)} (h : Srt st l) {i j : Nat} (hi : i < l.length) (hj : j < l.length) (hij : i < j) : l[i].1 < l[j].1 ∧ l[i].2 + (st : Int) ≤ l[j].2 :=
  List.pairwise_iff_getElem.1 h.up i j hi hj hij
theorem Srt.le {st : Nat} {l : List (Int × Int)} (h : Srt st l) {i j : Nat} (hi : i < l.length) (hj : j < l.length) (hij : i ≤ j) : l[i].1 ≤ l[j].1 := by
  by_cases e : i = j
  · subst e; exact Int.le_refl _
  · have := (h.lt hi hj (by omega)).1; omega
theorem Srt.off {st : Nat} {l : List (Int × Int)} (h : Srt st l) : ∀ i (hi : i < l.length), (i : Int) ≤ l[i].2 := by
  intro i
  induction i with
  | zero => intro hi; have := (h.rng _ (List.getElem_mem hi)).2.2.1; simpa using this
  | succ i ih =>
    intro hi
    have a := ih (by omega)
    have b := (h.lt (by omega : i < l.length) hi (by omega)).2
    have := h.s0
    omega
theorem Srt.len {st : Nat} {l : List (Int × Int)} (h : Srt st l) : l.length ≤ 2147483648 := by
  by_cases e : l.length = 0
  · omega
  · have a := h.off (l.length - 1) (by omega)
    have b := (h.rng _ (List.getElem_mem (show l.length - 1 < l.length by omega))).2.2.2
    omega
theorem Srt.take {st : Nat} {l : List (Int × Int)} (h : Srt st l) (k : Nat) : Srt st (l.take k) :=
  ⟨h.s0, h.s1, h.up.sublist (List.take_sublist k l), fun e he => h.rng e (List.mem_of_mem_take he)⟩
theorem Srt.snoc {st : Nat} {l : List (Int × Int)} (h : Srt st l) {e : Int × Int} (h1 : 1 ≤ e.1 ∧ e.1 ≤ 9223372036854775807 ∧ 0 ≤ e.2 ∧ e.2 ≤ 2147483647) (h2 : l ≠ [] → (lastE l).1 < e.1 ∧ (lastE l).2 + (st : Int) ≤ e.2) : Srt st (l ++ [e]) := by
  refine ⟨h.s0, h.s1, ?_, ?_⟩
  · rw [List.pairwise_append]
    refine ⟨h.up, List.pairwise_singleton _ _, ?_⟩
    intro a ha b hb
    rw [List.mem_singleton.1 hb]
    obtain ⟨i, hi, rfl⟩ := List.getElem_of_mem ha
    have hne : l ≠ [] := fun c => by subst c; simp at hi
    obtain ⟨g1, g2⟩ := h2 hne
    rw [lastE_get hne] at g1 g2
    by_cases c : i = l.length - 1
    · subst c; exact ⟨g1, g2⟩
    · have := h.lt hi (show l.length - 1 < l.length by omega) (by omega)
      have := h.s0
      exact ⟨by omega, by omega⟩
  · intro a ha
    rcases List.mem_append.1 ha with ha | ha
    · exact h.rng a ha
    · rw [List.mem_singleton.1 ha]; exact h1
theorem Ok.la {x : X} (h : Ok x) : 0 ≤ x.la.1 ∧ 0 ≤ x.la.2 ∧ x.la.1 ≤ 9223372036854775807 ∧ x.la.2 ≤ 2147483647 ∧ (x.l = [] ↔ x.la.1 = 0) := by
  by_cases e : x.l = []
  · have := h.la0 e
    simp [this, e]
  · obtain ⟨a, b, c, d⟩ := h.la1 e
    have := h.srt.rng _ (lastE_mem e)
    refine ⟨by omega, by omega, c, d, fun g => absurd g e, fun g => by omega⟩
theorem Ok.new {st : Nat} (h0 : 1 ≤ st) (h1 : st ≤ 1048576) : Ok ⟨st, [], (0, 0)⟩ :=
  ⟨⟨h0, h1, List.Pairwise.nil, fun e he => by simp at he⟩, fun _ => rfl, fun h => absurd rfl h⟩
theorem Ok.add {x : X} (h : Ok x) (n o : Int) (hn : n ≤ 9223372036854775807) : Ok (addF x n o).2 := by
  unfold addF
  split
  · exact h
  rename_i h1
  split
  · exact h
  rename_i h2
  refine ⟨?_, ?_, ?_⟩
  · show Srt x.st (if x.l = [] ∨ (x.st : Int) ≤ o - (lastE x.l).2 then x.l ++ [(n, o)] else x.l)
    split
    · rename_i h3
      refine h.srt.snoc ⟨by show 1 ≤ n; omega, hn, by show 0 ≤ o; omega, by show o ≤ 2147483647; omega⟩ fun hne => ?_
      have h4 : n - 1 = x.la.1 ∧ x.la.2 < o := Classical.byContradiction fun c => h2 ⟨hne, c⟩
      obtain ⟨a, b, _⟩ := h.la1 hne
      rcases h3 with h3 | h3
      · exact absurd h3 hne
      · exact ⟨by show _ < n; omega, by show _ ≤ o; omega⟩
    · exact h.srt
  · show (if x.l = [] ∨ (x.st : Int) ≤ o - (lastE x.l).2 then x.l ++ [(n, o)] else x.l) = [] → _
    split
    · intro c; simp at c
    · rename_i h3; intro c; exact absurd (Or.inl c) h3
  · intro _
    show (lastE (if x.l = [] ∨ (x.st : Int) ≤ o - (lastE x.l).2 then x.l ++ [(n, o)] else x.l)).1 ≤ n ∧ (lastE (if x.l = [] ∨ (x.st : Int) ≤ o - (lastE x.l).2 then x.l ++ [(n, o)] else x.l)).2 ≤ o ∧ n ≤ 9223372036854775807 ∧ o ≤ 2147483647
    split
    · rw [lastE_snoc]; exact ⟨Int.le_refl _, Int.le_refl _, hn, by omega⟩
    · rename_i h3
      have hne : x.l ≠ [] := fun c => h3 (Or.inl c)
      have h4 : n - 1 = x.la.1 ∧ x.la.2 < o := Classical.byContradiction fun c => h2 ⟨hne, c⟩
      obtain ⟨a, b, _⟩ := h.la1 hne
      exact ⟨by omega, by omega, hn, by omega⟩
theorem cnt_le (l : List (Int × Int)) (n : Int) : cnt l n ≤ l.length := List.countP_le_length
theorem Ok.last {st : Nat} {l : List (Int × Int)} (h : Srt st l) : Ok ⟨st, l, lastE l⟩ :=
  ⟨h, fun e => by have e' : l = [] := e; subst e'; rfl, fun e => ⟨Int.le_refl _, Int.le_refl _, (h.rng _ (lastE_mem e)).2.1, (h.rng _ (lastE_mem e)).2.2.2⟩⟩
theorem Ok.cut {x : X} (h : Ok x) (n : Int) : Ok (cutF x n).2 := by
  unfold cutF
  split
  · exact h
  · exact Ok.last (h.srt.take _)
/-- An index whose entries below n are its first k. -/
theorem cnt_eq {l : List (Int × Int)} {n : Int} {k : Nat} (hk : k ≤ l.length) (h1 : ∀ i (hi : i < l.length), i < k → l[i].1 < n) (h2 : ∀ i (hi : i < l.length), k ≤ i → n ≤ l[i].1) : cnt l n = k := by
  induction l generalizing k with
  | nil => simp at hk; subst hk; rfl
  | cons a r ih =>
    unfold cnt at ih ⊢
    match k with
    | 0 =>
      rw [List.countP_cons_of_neg (by have := h2 0 (by simp) (by omega); simp at this ⊢; omega), ih (k := 0) (by omega) (fun i hi h => by omega) (fun i hi h => by have := h2 (i + 1) (by simp; omega) (by omega); simpa using this)]
    | k + 1 =>
      rw [List.countP_cons_of_pos (by have := h1 0 (by simp) (by omega); simpa using this), ih (k := k) (by simpa using hk) (fun i hi h => by have := h1 (i + 1) (by simp; omega) (by omega); simpa using this) (fun i hi h => by have := h2 (i + 1) (by simp; omega) (by omega); simpa using this)]
theorem cnt_split {st : Nat} {l : List (Int × Int)} (h : Srt st l) (n : Int) : (∀ i (hi : i < l.length), i < cnt l n → l[i].1 < n) ∧ (∀ i (hi : i < l.length), cnt l n ≤ i → n ≤ l[i].1) := by
  have ex : ∃ k, k ≤ l.length ∧ (∀ i (hi : i < l.length), i < k → l[i].1 < n) ∧ (∀ i (hi : i < l.length), k ≤ i → n ≤ l[i].1) := by
    have : ∀ m, m ≤ l.length → ∃ k, k ≤ m ∧ (∀ i (hi : i < l.length), i < k → l[i].1 < n) ∧ (∀ i (hi : i < l.length), i < m → k ≤ i → n ≤ l[i].1) := by
      intro m
      induction m with
      | zero => exact fun _ => ⟨0, Nat.le_refl _, fun i hi h => by omega, fun i hi h => by omega⟩
      | succ m ih =>
        intro hm
        obtain ⟨k, a, b, c⟩ := ih (by omega)
        by_cases e : l[m].1 < n
        · refine ⟨m + 1, Nat.le_refl _, fun i hi _ => ?_, fun i hi h1 h2 => by omega⟩
          have := h.le hi (show m < l.length by omega) (by omega)
          omega
        · refine ⟨k, by omega, b, fun i hi h1 h2 => ?_⟩
          by_cases g : i = m
          · subst g; omega
          · exact c i hi (by omega) h2
    obtain ⟨k, a, b, c⟩ := this l.length (Nat.le_refl _)
    exact ⟨k, a, b, fun i hi h => c i hi hi h⟩
  obtain ⟨k, a, b, c⟩ := ex
  rw [cnt_eq a b c]
  exact ⟨b, c⟩
theorem find_at {l : List (Int × Int)} {n : Int} {i : Nat} (hi : i < l.length) (h1 : l[i].1 ≤ n) (h2 : ∀ j (hj : j < l.length), i < j → n < l[j].1) : findF l n = (l[i], true) := by
  have e : l = l.take i ++ (l[i] :: l.drop (i + 1)) := by rw [← List.drop_eq_getElem_cons hi, List.take_append_drop]
  have f0 : (l.drop (i + 1)).filter (fun e => decide (e.1 ≤ n)) = [] := by
    rw [List.filter_eq_nil_iff]
    intro a ha
    obtain ⟨j, hj, rfl⟩ := List.getElem_of_mem ha
    rw [List.getElem_drop]
    have := h2 (i + 1 + j) (by simp at hj; omega) (by omega)
    simp; omega
  have : l.filter (fun e => decide (e.1 ≤ n)) = (l.take i).filter (fun e => decide (e.1 ≤ n)) ++ [l[i]] := by
    conv => lhs; rw [e]
    rw [List.filter_append, List.filter_cons_of_pos (by simpa using h1), f0]
  unfold findF
  rw [this]
  simp
theorem find_no {l : List (Int × Int)} {n : Int} (h : ∀ j (hj : j < l.length), n < l[j].1) : findF l n = ((0, 0), false) := by
  have : l.filter (fun e => decide (e.1 ≤ n)) = [] := by
    rw [List.filter_eq_nil_iff]
    intro a ha
    obtain ⟨j, hj, rfl⟩ := List.getElem_of_mem ha
    have := h j hj
    simp; omega
  unfold findF
  rw [this]
  rfl
theorem body_len (l : List (Int × Int)) : ∀ p, (body p l).length ≤ 20 * l.length := by
  induction l with
  | nil => intro p; simp [body]
  | cons e r ih =>
    intro p
    have a := enc_len (e.1 - p.1).toNat
    have b := enc_len (e.2 - p.2).toNat
    have c := ih e
    simp [body]; omega
theorem front_len (x : X) : (front x).length ≤ 20 + 20 * x.l.length := by
  have a := enc_len x.st
  have b := enc_len x.l.length
  have c := body_len x.l (0, 0)
  simp [front]; omega

theorem fld_zero {r : List UInt8} {a b : Nat} (h : fldE r a b = 0) : (rv r).2.2 = 0 ∧ (rv r).1 ≤ b ∧ a ≤ (rv r).1 := by
  unfold fldE at h
  split at h
  · cases h
  split at h
  · cases h
  rename_i h1 h2
  refine ⟨?_, by omega, by omega⟩
  exact Classical.byContradiction fun c => h2 (.inl c)
theorem fld_of {r : List UInt8} {a b : Nat} (h0 : (rv r).2.2 = 0) (h1 : (rv r).1 ≤ b) (h2 : a ≤ (rv r).1) : fldE r a b = 0 := by
  unfold fldE
  rw [if_neg (by omega), if_neg (by omega)]
theorem nx_enc {r : List UInt8} (h : (rv r).2.2 = 0) : enc (rv r).1 ++ nx r = r := by
  rw [(rv_back h).1, nx, List.take_append_drop]
theorem ent_zero {st : Nat} {l : List (Int × Int)} {la : Int × Int} {r : List UInt8} (h : entE st l la r = 0) : fldE r 1 (9223372036854775807 - la.1).toNat = 0 ∧ fldE (nx r) (if l = [] then 0 else st) (2147483647 - la.2).toNat = 0 := by
  unfold entE at h
  split at h
  · rename_i h1; exact absurd h h1
  · rename_i h1
    exact ⟨by simpa using h1, h⟩
theorem ent_ok {st : Nat} {l : List (Int × Int)} {r : List UInt8} (hs : Srt st l) (h : entE st l (lastE l) r = 0) : Srt st (l ++ [entV (lastE l) r]) := by
  obtain ⟨h1, h2⟩ := ent_zero h
  obtain ⟨a1, a2, a3⟩ := fld_zero h1
  obtain ⟨b1, b2, b3⟩ := fld_zero h2
  have hr : 0 ≤ (lastE l).1 ∧ 0 ≤ (lastE l).2 ∧ (lastE l).1 ≤ 9223372036854775807 ∧ (lastE l).2 ≤ 2147483647 := by
    by_cases e : l = []
    · subst e; simp [lastE_nil]
    · have := hs.rng _ (lastE_mem e); omega
  refine hs.snoc ⟨?_, ?_, ?_, ?_⟩ fun hne => ?_
  · show 1 ≤ (lastE l).1 + ((rv r).1 : Int); omega
  · show (lastE l).1 + ((rv r).1 : Int) ≤ _; omega
  · show 0 ≤ (lastE l).2 + ((rv (nx r)).1 : Int); omega
  · show (lastE l).2 + ((rv (nx r)).1 : Int) ≤ _; omega
  · rw [if_neg hne] at b3
    exact ⟨by show _ < (lastE l).1 + ((rv r).1 : Int); omega, by show _ ≤ (lastE l).2 + ((rv (nx r)).1 : Int); omega⟩
theorem load_back {st : Nat} : ∀ (c : Nat) (l : List (Int × Int)) (r : List UInt8), Srt st l → (loadL st c l (lastE l) r).1 = 0 →
    ∃ m, (loadL st c l (lastE l) r).2.1 = l ++ m ∧ m.length = c ∧ r = body (lastE l) m ++ (loadL st c l (lastE l) r).2.2 ∧ Srt st (l ++ m) := by
  intro c
  induction c with
  | zero => exact fun l r hs h => ⟨[], by simp [loadL], rfl, by simp [loadL, body], by simpa using hs⟩
  | succ c ih =>
    intro l r hs h
    rw [loadL] at h ⊢
    split at h
    · rename_i h1; exact absurd h h1
    rename_i h1
    have h1' : entE st l (lastE l) r = 0 := by simpa using h1
    rw [if_neg h1]
    have hs2 := ent_ok hs h1'
    have el : lastE (l ++ [entV (lastE l) r]) = entV (lastE l) r := lastE_snoc _ _
    have := ih (l ++ [entV (lastE l) r]) (nx (nx r)) hs2
    rw [el] at this
    obtain ⟨m, a, b, d, e⟩ := this h
    obtain ⟨g1, g2⟩ := ent_zero h1'
    refine ⟨entV (lastE l) r :: m, by rw [a]; simp, by simp [b], ?_, by simpa using e⟩
    rw [body]
    have z1 : ((entV (lastE l) r).1 - (lastE l).1).toNat = (rv r).1 := by show ((lastE l).1 + ((rv r).1 : Int) - (lastE l).1).toNat = _; omega
    have z2 : ((entV (lastE l) r).2 - (lastE l).2).toNat = (rv (nx r)).1 := by show ((lastE l).2 + ((rv (nx r)).1 : Int) - (lastE l).2).toNat = _; omega
    rw [z1, z2, List.append_assoc, List.append_assoc, ← d, nx_enc (fld_zero g2).1, nx_enc (fld_zero g1).1]
theorem load_of {st : Nat} : ∀ (m l : List (Int × Int)) (r : List UInt8), Srt st (l ++ m) → loadL st m.length l (lastE l) (body (lastE l) m ++ r) = (0, l ++ m, r) := by
  intro m
  induction m with
  | nil => intro l r _; simp [loadL, body]
  | cons e m ih =>
    intro l r hs
    have hs' : Srt st (l ++ [e] ++ m) := by simpa using hs
    have hl : Srt st (l ++ [e]) := by have := hs'.take (l ++ [e]).length; rwa [List.take_left] at this
    have hl0 : Srt st l := by have := hs.take l.length; rwa [List.take_left] at this
    have he := hl.rng e (by simp)
    have hr : 0 ≤ (lastE l).1 ∧ 0 ≤ (lastE l).2 ∧ (lastE l).1 ≤ 9223372036854775807 ∧ (lastE l).2 ≤ 2147483647 := by
      by_cases e : l = []
      · subst e; simp [lastE_nil]
      · have := hl0.rng _ (lastE_mem e); omega
    have hd : (lastE l).1 < e.1 ∧ (if l = [] then (0 : Int) else (st : Int)) ≤ e.2 - (lastE l).2 := by
      by_cases c : l = []
      · subst c; simp [lastE_nil]; omega
      · have := (List.pairwise_append.1 hl.up).2.2 _ (lastE_mem c) e (by simp)
        rw [if_neg c]
        exact ⟨this.1, by omega⟩
    have hst := hl0.s0
    have hst1 := hl0.s1
    have r1 : rv (body (lastE l) (e :: m) ++ r) = ((e.1 - (lastE l).1).toNat, (enc (e.1 - (lastE l).1).toNat).length, 0) := by
      rw [body, List.append_assoc, rv_enc _ _ (by omega)]
    have n1 : nx (body (lastE l) (e :: m) ++ r) = enc (e.2 - (lastE l).2).toNat ++ (body e m ++ r) := by
      rw [nx, r1, body, List.append_assoc, List.append_assoc]; simp
    have r2 : rv (nx (body (lastE l) (e :: m) ++ r)) = ((e.2 - (lastE l).2).toNat, (enc (e.2 - (lastE l).2).toNat).length, 0) := by
      rw [n1, rv_enc _ _ (by omega)]
    have n2 : nx (nx (body (lastE l) (e :: m) ++ r)) = body e m ++ r := by
      rw [nx, r2, n1]; simp
    have E0 : entE st l (lastE l) (body (lastE l) (e :: m) ++ r) = 0 := by
      unfold entE
      have f1 : fldE (body (lastE l) (e :: m) ++ r) 1 (9223372036854775807 - (lastE l).1).toNat = 0 := fld_of (by rw [r1]) (by rw [r1]; show (e.1 - (lastE l).1).toNat ≤ _; omega) (by rw [r1]; show 1 ≤ (e.1 - (lastE l).1).toNat; omega)
      rw [f1, if_neg (by simp)]
      refine fld_of (by rw [r2]) (by rw [r2]; show (e.2 - (lastE l).2).toNat ≤ _; omega) ?_
      rw [r2]
      show _ ≤ (e.2 - (lastE l).2).toNat
      by_cases c : l = []
      · rw [if_pos c]; omega
      · rw [if_neg c]; rw [if_neg c] at hd; omega
    have EV : entV (lastE l) (body (lastE l) (e :: m) ++ r) = e := by
      unfold entV
      rw [r1, r2]
      show ((lastE l).1 + (((e.1 - (lastE l).1).toNat : Nat) : Int), (lastE l).2 + (((e.2 - (lastE l).2).toNat : Nat) : Int)) = e
      have q : (0 : Int) ≤ e.2 - (lastE l).2 := by
        have := hd.2
        split at this <;> omega
      have a1 : (lastE l).1 + (((e.1 - (lastE l).1).toNat : Nat) : Int) = e.1 := by omega
      have a2 : (lastE l).2 + (((e.2 - (lastE l).2).toNat : Nat) : Int) = e.2 := by omega
      rw [a1, a2]
    rw [List.length_cons, loadL, if_neg (by rw [E0]; simp), EV, n2]
    have := ih (l ++ [e]) r hs'
    rw [lastE_snoc] at this
    rw [this]
    simp
/-- What was read, written, is what was read. -/
theorem read_back {l : List UInt8} (h : (readF l).1 = 0) : front (readF l).2 = l ∧ Ok (readF l).2 ∧ (readF l).2.la = lastE (readF l).2.l := by
  unfold readF at h ⊢
  by_cases h1 : fldE l 1 1048576 ≠ 0
  · rw [if_pos h1] at h; exact absurd h h1
  rw [if_neg h1] at h ⊢
  by_cases h2 : fldE (nx l) 0 18446744073709551615 ≠ 0
  · rw [if_pos h2] at h; exact absurd h h2
  rw [if_neg h2] at h ⊢
  by_cases h3 : (loadL (rv l).1 (rv (nx l)).1 [] (0, 0) (nx (nx l))).1 ≠ 0
  · rw [if_pos h3] at h; exact absurd h h3
  rw [if_neg h3] at h ⊢
  by_cases h4 : (loadL (rv l).1 (rv (nx l)).1 [] (0, 0) (nx (nx l))).2.2 ≠ []
  · rw [if_pos h4] at h; cases h
  rw [if_neg h4] at h ⊢
  have g1 := fld_zero (Classical.not_not.1 h1)
  have g2 := fld_zero (Classical.not_not.1 h2)
  have g3 := Classical.not_not.1 h3
  have g4 := Classical.not_not.1 h4
  have hs : Srt (rv l).1 [] := ⟨g1.2.2, g1.2.1, List.Pairwise.nil, fun e he => by simp at he⟩
  obtain ⟨m, a, b, d, e⟩ := load_back (rv (nx l)).1 [] (nx (nx l)) hs g3
  rw [lastE_nil] at a d
  rw [List.nil_append] at a e
  rw [g4, List.append_nil] at d
  refine ⟨?_, ?_, rfl⟩
  · show enc (rv l).1 ++ (enc (loadL (rv l).1 (rv (nx l)).1 [] (0, 0) (nx (nx l))).2.1.length ++ body (0, 0) (loadL (rv l).1 (rv (nx l)).1 [] (0, 0) (nx (nx l))).2.1) = l
    rw [a, b, ← d, nx_enc g2.1, nx_enc g1.1]
  · rw [a]; exact Ok.last e
theorem read_of {x : X} (h : Ok x) : readF (front x) = (0, ⟨x.st, x.l, lastE x.l⟩) := by
  have hl := h.srt.len
  have s0 := h.srt.s0
  have s1 := h.srt.s1
  have r1 : rv (front x) = (x.st, (enc x.st).length, 0) := by rw [front, rv_enc _ _ (by omega)]
  have n1 : nx (front x) = enc x.l.length ++ body (0, 0) x.l := by rw [nx, r1, front]; simp
  have r2 : rv (nx (front x)) = (x.l.length, (enc x.l.length).length, 0) := by rw [n1, rv_enc _ _ (by omega)]
  have n2 : nx (nx (front x)) = body (0, 0) x.l := by rw [nx, r2, n1]; simp
  have f1 : fldE (front x) 1 1048576 = 0 := fld_of (by rw [r1]) (by rw [r1]; exact s1) (by rw [r1]; exact s0)
  have f2 : fldE (nx (front x)) 0 18446744073709551615 = 0 := fld_of (by rw [r2]) (by rw [r2]; show x.l.length ≤ _; omega) (Nat.zero_le _)
  have f3 := load_of x.l [] [] (by simpa using h.srt)
  rw [lastE_nil, List.append_nil, List.nil_append] at f3
  unfold readF
  rw [f1, f2, n2, r1, r2, f3]
  simp
theorem fx_of_num (l : List UInt8) : fx l.length (num l) = l := by
  induction l with
  | nil => rfl
  | cons c l ih =>
    have hc := c.toNat_lt
    have e1 : (c.toNat + 256 * num l) % 256 = c.toNat := by omega
    have e2 : (c.toNat + 256 * num l) / 256 = num l := by omega
    first
      | (show UInt8.ofNat ((c.toNat + 256 * num l) % 256) :: fx l.length ((c.toNat + 256 * num l) / 256) = c :: l; rw [e1, e2, ih]; simp)
      | (simp only [num, fx, List.length_cons, e1, e2, ih]; simp)
theorem load_saved {x : X} (h : Ok x) : loadF (bytesF x) = (0, ⟨x.st, x.l, lastE x.l⟩) := by
  have hn : (bytesF x).length = (front x).length + 4 := by simp [bytesF, fx_len]
  have h1 : (bytesF x).take ((bytesF x).length - 4) = front x := by rw [hn, bytesF]; simp
  have h2 : (bytesF x).drop ((bytesF x).length - 4) = fx 4 (Crc.more 0#32 (front x)).toNat := by rw [hn, bytesF]; simp
  unfold loadF
  rw [if_neg (by omega), h1, h2, fx_num 4 _ (by have := (Crc.more 0#32 (front x)).isLt; omega), if_neg (by simp), read_of h]
theorem save_loaded {b : List UInt8} (h : (loadF b).1 = 0) : bytesF (loadF b).2 = b ∧ Ok (loadF b).2 ∧ (loadF b).2.la = lastE (loadF b).2.l := by
  unfold loadF at h ⊢
  by_cases h1 : b.length < 4
  · rw [if_pos h1] at h; cases h
  rw [if_neg h1] at h ⊢
  by_cases h2 : num (b.drop (b.length - 4)) ≠ (Crc.more 0#32 (b.take (b.length - 4))).toNat
  · rw [if_pos h2] at h; cases h
  rw [if_neg h2] at h ⊢
  obtain ⟨a, c, d⟩ := read_back h
  refine ⟨?_, c, d⟩
  have h2' := Classical.not_not.1 h2
  have := fx_of_num (b.drop (b.length - 4))
  rw [h2', show (b.drop (b.length - 4)).length = 4 by simp; omega] at this
  rw [bytesF, a, this, List.take_append_drop]
theorem fld_cases (r : List UInt8) (a b : Nat) : fldE r a b = 0 ∨ fldE r a b = 2 ∨ fldE r a b = 4 := by
  unfold fldE
  split
  · simp
  split <;> simp
theorem ent_cases (st : Nat) (l : List (Int × Int)) (la : Int × Int) (r : List UInt8) : entE st l la r = 0 ∨ entE st l la r = 2 ∨ entE st l la r = 4 := by
  unfold entE
  split <;> exact fld_cases _ _ _
theorem loadL_cases (st : Nat) : ∀ c l la r, (loadL st c l la r).1 = 0 ∨ (loadL st c l la r).1 = 2 ∨ (loadL st c l la r).1 = 4 := by
  intro c
  induction c with
  | zero => intro l la r; simp [loadL]
  | succ c ih =>
    intro l la r
    rw [loadL]
    split
    · exact ent_cases _ _ _ _
    · exact ih _ _ _
end Go.Proofs.Ytoffahbnffhliaa.Ix
