/-
  A catalog by data: which may be; what its bytes are; what is read, rolled, cut, found.
-/
import Derived.Test.YtdhjlongdfgejaaBack
import Derived.Test.YtdhjlongdfgejaaFixed
import Derived.Test.YtdhjlongdfgejaaCrc0
namespace Go.Proofs.Ytdhjlongdfgejaa.Ct

/-- A segment: Num, Base, Seed, End, Size. -/
structure Sg where
  nm : Int
  ba : Int
  se : Nat
  en : Int
  sz : Int
def zS : Sg := ⟨0, 0, 0, 0, 0⟩
def sg (l : List Sg) (i : Nat) : Sg := l.getD i zS
theorem sg_get {l : List Sg} {i : Nat} (h : i < l.length) : sg l i = l[i] := by
  unfold sg
  rw [List.getD_eq_getElem?_getD, List.getElem?_eq_getElem h]
  rfl
/-- What the cells of a segment can hold. -/
structure SIn (s : Sg) : Prop where
  a1 : -9223372036854775808 ≤ s.nm
  a2 : s.nm ≤ 9223372036854775807
  b1 : -9223372036854775808 ≤ s.ba
  b2 : s.ba ≤ 9223372036854775807
  c : s.se < 4294967296
  d1 : -9223372036854775808 ≤ s.en
  d2 : s.en ≤ 9223372036854775807
  e1 : -9223372036854775808 ≤ s.sz
  e2 : s.sz ≤ 9223372036854775807
theorem zIn : SIn zS := ⟨by decide, by decide, by decide, by decide, by decide, by decide, by decide, by decide, by decide⟩
def AIn (l : List Sg) : Prop := ∀ s ∈ l, SIn s
theorem AIn.sg {l : List Sg} (h : AIn l) (i : Nat) : SIn (sg l i) := by
  by_cases hi : i < l.length
  · rw [sg_get hi]; exact h _ (List.getElem_mem hi)
  · unfold Ct.sg
    rw [List.getD_eq_getElem?_getD, List.getElem?_eq_none (by omega)]
    exact zIn
/-- A sealed segment by itself. -/
def slF (s : Sg) : Prop := 1 ≤ s.nm ∧ 1 ≤ s.ba ∧ s.ba ≤ s.en ∧ 32 ≤ s.sz ∧ s.sz ≤ 2147483647
/-- The next behind it. -/
def foF (s t : Sg) : Prop := s.nm < 9223372036854775807 ∧ t.nm = s.nm + 1 ∧ t.ba = s.en
def sldF (s : Sg) : Prop := s.en ≠ 0 ∨ s.sz ≠ 0
def opF (s : Sg) : Prop := 1 ≤ s.nm ∧ 1 ≤ s.ba ∧ ¬ sldF s
def beF (f : Int) (s : Sg) : Prop := s.ba ≤ f ∧ (sldF s → f ≤ s.en)
/-- It may be. -/
structure May (g f : Int) (l : List Sg) : Prop where
  g1 : 1 ≤ g
  n1 : 1 ≤ l.length
  n2 : l.length ≤ 64
  lk : ∀ i, i + 1 < l.length → slF (sg l i) ∧ foF (sg l i) (sg l (i + 1))
  op : opF (sg l (l.length - 1))
  be : beF f (sg l 0)
noncomputable def mayB (g f : Int) (l : List Sg) : Bool := @decide (May g f l) (Classical.propDecidable _)
theorem mayB_t {g f : Int} {l : List Sg} (h : May g f l) : mayB g f l = true := by unfold mayB; simp [h]
theorem mayB_f {g f : Int} {l : List Sg} (h : ¬ May g f l) : mayB g f l = false := by unfold mayB; simp [h]
theorem mayB_iff {g f : Int} {l : List Sg} : mayB g f l = true ↔ May g f l := by unfold mayB; simp
theorem May.nmba {g f : Int} {l : List Sg} (h : May g f l) {i : Nat} (hi : i < l.length) : 1 ≤ (sg l i).nm ∧ 1 ≤ (sg l i).ba := by
  by_cases e : i + 1 < l.length
  · obtain ⟨⟨a, b, _⟩, _⟩ := h.lk i e; exact ⟨a, b⟩
  · obtain rfl : i = l.length - 1 := by omega
    obtain ⟨a, b, _⟩ := h.op; exact ⟨a, b⟩
theorem May.f0 {g f : Int} {l : List Sg} (h : May g f l) : 1 ≤ f := by
  have a := h.be.1
  have b := (h.nmba (i := 0) (by have := h.n1; omega)).2
  omega
/-- Ends and bases don't fall. -/
theorem May.ba_le {g f : Int} {l : List Sg} (h : May g f l) {i j : Nat} (hij : i ≤ j) (hj : j < l.length) : (sg l i).ba ≤ (sg l j).ba := by
  induction j with
  | zero => obtain rfl : i = 0 := by omega
            exact Int.le_refl _
  | succ j ih =>
    by_cases e : i = j + 1
    · subst e; exact Int.le_refl _
    · have a := ih (by omega) (by omega)
      obtain ⟨⟨_, _, b, _⟩, _, _, c⟩ := h.lk j hj
      omega
theorem May.en_le {g f : Int} {l : List Sg} (h : May g f l) {i j : Nat} (hij : i ≤ j) (hj : j + 1 < l.length) : (sg l i).en ≤ (sg l j).en := by
  by_cases e : i = j
  · subst e; exact Int.le_refl _
  · obtain ⟨⟨_, _, a, _⟩, _⟩ := h.lk j hj
    obtain ⟨_, _, _, b⟩ := h.lk i (by omega)
    have c := h.ba_le (show i + 1 ≤ j by omega) (by omega)
    omega
theorem May.sld {g f : Int} {l : List Sg} (h : May g f l) {i : Nat} (hi : i < l.length) : sldF (sg l i) ↔ i + 1 < l.length := by
  constructor
  · intro a
    refine Classical.byContradiction fun c => ?_
    obtain rfl : i = l.length - 1 := by omega
    exact h.op.2.2 a
  · intro a
    obtain ⟨⟨_, b, c, _⟩, _⟩ := h.lk i a
    exact .inl (by omega)

/-! ### At -/
/-- The last of the segments whose Base is at most n. -/
def IsAt (l : List Sg) (n : Int) (i : Nat) : Prop := i < l.length ∧ (sg l i).ba ≤ n ∧ ∀ j, i < j → j < l.length → n < (sg l j).ba
theorem isAt_one {l : List Sg} {n : Int} {i j : Nat} (h : IsAt l n i) (g : IsAt l n j) : i = j := by
  obtain ⟨a1, a2, a3⟩ := h
  obtain ⟨b1, b2, b3⟩ := g
  refine Classical.byContradiction fun c => ?_
  rcases Nat.lt_or_gt_of_ne c with c | c
  · have := a3 j c b1; omega
  · have := b3 i c a1; omega
open Classical in
noncomputable def atF (g f : Int) (l : List Sg) (n : Int) : Nat × Bool :=
  if h : May g f l ∧ f ≤ n ∧ ∃ i, IsAt l n i then (Classical.choose h.2.2, true) else (0, false)
theorem atF_no {g f : Int} {l : List Sg} {n : Int} (h : ¬ May g f l ∨ n < f) : atF g f l n = (0, false) := by
  unfold atF
  rw [dif_neg]
  rintro ⟨a, b, _⟩
  rcases h with h | h
  · exact h a
  · omega
theorem atF_at {g f : Int} {l : List Sg} {n : Int} {i : Nat} (h : May g f l) (hn : f ≤ n) (hi : IsAt l n i) : atF g f l n = (i, true) := by
  unfold atF
  rw [dif_pos ⟨h, hn, i, hi⟩]
  simp only [Prod.mk.injEq, and_true]
  exact isAt_one (Classical.choose_spec (⟨i, hi⟩ : ∃ i, IsAt l n i)) hi

/-! ### Roll -/
def lastS (l : List Sg) : Sg := sg l (l.length - 1)
def rolled (l : List Sg) (en sz : Int) (se : Nat) : List Sg := l.take (l.length - 1) ++ [⟨(lastS l).nm, (lastS l).ba, (lastS l).se, en, sz⟩, ⟨(lastS l).nm + 1, en, se, 0, 0⟩]
open Classical in
/-- The error, Gen, First, Segs. -/
noncomputable def rollF (g f : Int) (l : List Sg) (en sz : Int) (se : Nat) : Int × Int × Int × List Sg :=
  if ¬ May g f l then (4, 0, 0, [])
  else if l.length = 64 then (9, 0, 0, [])
  else if g = 9223372036854775807 ∨ (lastS l).nm = 9223372036854775807 then (1, 0, 0, [])
  else if ¬ May (g + 1) f (rolled l en sz se) then (1, 0, 0, [])
  else (0, g + 1, f, rolled l en sz se)
theorem rolled_len {l : List Sg} (h : 1 ≤ l.length) (en sz : Int) (se : Nat) : (rolled l en sz se).length = l.length + 1 := by
  unfold rolled; simp; omega
theorem rolled_in {l : List Sg} (h : AIn l) (hm : (lastS l).nm < 9223372036854775807) {en sz : Int} {se : Nat} (h1 : -9223372036854775808 ≤ en) (h2 : en ≤ 9223372036854775807) (h3 : -9223372036854775808 ≤ sz) (h4 : sz ≤ 9223372036854775807) (h5 : se < 4294967296) : AIn (rolled l en sz se) := by
  intro s hs
  unfold rolled at hs
  have hl := h.sg (l.length - 1)
  rcases List.mem_append.1 hs with hs | hs
  · exact h s (List.mem_of_mem_take hs)
  · simp only [List.mem_cons, List.not_mem_nil, or_false] at hs
    rcases hs with rfl | rfl
    · exact ⟨hl.a1, hl.a2, hl.b1, hl.b2, hl.c, h1, h2, h3, h4⟩
    · exact ⟨by have := hl.a1; show _ ≤ (lastS l).nm + 1; unfold lastS at *; omega, by show (lastS l).nm + 1 ≤ _; omega, h1, h2, h5, by show _ ≤ (0 : Int); omega, by show (0 : Int) ≤ _; omega, by show _ ≤ (0 : Int); omega, by show (0 : Int) ≤ _; omega⟩

/-! ### Cut -/
/-- The first k of the segments are wholly below n, and no more. -/
structure IsCut (l : List Sg) (n : Int) (k : Nat) : Prop where
  lt : k < l.length
  be : ∀ i, i < k → sldF (sg l i) ∧ (sg l i).en ≤ n
  no : ¬ (sldF (sg l k) ∧ (sg l k).en ≤ n)
theorem isCut_one {l : List Sg} {n : Int} {i j : Nat} (h : IsCut l n i) (g : IsCut l n j) : i = j := by
  refine Classical.byContradiction fun c => ?_
  rcases Nat.lt_or_gt_of_ne c with c | c
  · exact h.no (g.be i c)
  · exact g.no (h.be j c)
theorem May.isCut {g f : Int} {l : List Sg} (h : May g f l) (n : Int) : ∃ k, IsCut l n k := by
  have ex : ∀ m, m < l.length → (∃ k, IsCut l n k) ∨ ∀ i, i < m → sldF (sg l i) ∧ (sg l i).en ≤ n := by
    intro m
    induction m with
    | zero => exact fun _ => .inr fun i hi => by omega
    | succ m ih =>
      intro hm
      rcases ih (by omega) with e | e
      · exact .inl e
      · by_cases c : sldF (sg l m) ∧ (sg l m).en ≤ n
        · exact .inr fun i hi => by
            by_cases d : i = m
            · subst d; exact c
            · exact e i (by omega)
        · exact .inl ⟨m, by omega, e, c⟩
  have h1 := h.n1
  rcases ex (l.length - 1) (by omega) with e | e
  · exact e
  · exact ⟨l.length - 1, by omega, e, fun c => h.op.2.2 c.1⟩
theorem IsCut.gap {g f : Int} {l : List Sg} {n : Int} {k : Nat} (hc : IsCut l n k) (h : May g f l) : ∀ i, i < l.length → (i < k ↔ sldF (sg l i) ∧ (sg l i).en ≤ n) := by
  intro i hi
  refine ⟨hc.be i, fun ⟨a, b⟩ => Classical.byContradiction fun c => hc.no ?_⟩
  have a' := (h.sld hi).1 a
  have e := h.en_le (show k ≤ i by omega) a'
  exact ⟨(h.sld hc.lt).2 (by omega), by omega⟩
/-- What comes may be. -/
theorem May.cut {g f : Int} {l : List Sg} (h : May g f l) {n : Int} {k : Nat} (hc : IsCut l n k) (hn : f ≤ n) : May (g + 1) n (l.drop k) := by
  have hlt := hc.lt
  have hs : ∀ i, sg (l.drop k) i = sg l (k + i) := fun i => by
    unfold sg
    rw [List.getD_eq_getElem?_getD, List.getD_eq_getElem?_getD, List.getElem?_drop]
  have hl : (l.drop k).length = l.length - k := List.length_drop
  refine ⟨by have := h.g1; omega, by omega, by have := h.n2; omega, ?_, ?_, ?_, ?_⟩
  · intro i hi
    rw [hs, hs]
    exact h.lk (k + i) (by omega)
  · rw [hs, hl, show k + (l.length - k - 1) = l.length - 1 by omega]
    exact h.op
  · rw [hs, Nat.add_zero]
    match k, hc, hlt with
    | 0, _, _ => exact Int.le_trans h.be.1 hn
    | k + 1, hc, hlt =>
      obtain ⟨_, _, _, e⟩ := h.lk k hlt
      rw [e]
      exact (hc.be k (by omega)).2
  · rw [hs, Nat.add_zero]
    intro a
    have := hc.no
    exact Int.le_of_lt (Int.not_le.1 fun c => this ⟨a, c⟩)
open Classical in
/-- The error, Gen, First, Segs, the Nums that go. -/
noncomputable def cutF (g f : Int) (l : List Sg) (n : Int) : Int × Int × Int × List Sg × List Int :=
  if ¬ May g f l then (4, 0, 0, [], [])
  else if n < f ∨ g = 9223372036854775807 then (1, 0, 0, [], [])
  else if h : ∃ k, IsCut l n k then (0, g + 1, n, l.drop (Classical.choose h), (l.take (Classical.choose h)).map Sg.nm) else (1, 0, 0, [], [])
theorem cutF_no {g f : Int} {l : List Sg} {n : Int} (h : ¬ May g f l) : cutF g f l n = (4, 0, 0, [], []) := by
  unfold cutF; rw [if_pos h]
theorem cutF_arg {g f : Int} {l : List Sg} {n : Int} (h : May g f l) (h2 : n < f ∨ g = 9223372036854775807) : cutF g f l n = (1, 0, 0, [], []) := by
  unfold cutF; rw [if_neg (fun c => c h), if_pos h2]
theorem cutF_at {g f : Int} {l : List Sg} {n : Int} {k : Nat} (h : May g f l) (h2 : ¬ (n < f ∨ g = 9223372036854775807)) (hk : IsCut l n k) : cutF g f l n = (0, g + 1, n, l.drop k, (l.take k).map Sg.nm) := by
  unfold cutF
  rw [if_neg (fun c => c h), if_neg h2, dif_pos ⟨k, hk⟩]
  rw [isCut_one (Classical.choose_spec (⟨k, hk⟩ : ∃ k, IsCut l n k)) hk]

/-! ### the bytes -/
def segB (s : Sg) : List UInt8 := enc s.nm.toNat ++ (enc s.ba.toNat ++ (fx 4 s.se ++ (enc s.en.toNat ++ enc s.sz.toNat)))
def bodyC (l : List Sg) : List UInt8 := l.flatMap segB
def markC : List UInt8 := [70, 67, 65, 84]
def midC (g f : Int) (l : List Sg) : List UInt8 := enc g.toNat ++ (enc f.toNat ++ (enc l.length ++ bodyC l))
def frontC (g f : Int) (l : List Sg) : List UInt8 := markC ++ midC g f l
def bytesC (g f : Int) (l : List Sg) : List UInt8 := frontC g f l ++ fx 4 (Crc.more 0#32 (frontC g f l)).toNat
theorem bodyC_snoc (l : List Sg) (s : Sg) : bodyC (l ++ [s]) = bodyC l ++ segB s := by simp [bodyC]
theorem segB_len (s : Sg) : (segB s).length ≤ 44 := by
  have a := enc_len s.nm.toNat
  have b := enc_len s.ba.toNat
  have c := enc_len s.en.toNat
  have d := enc_len s.sz.toNat
  have e := fx_len 4 s.se
  simp [segB]; omega
theorem bodyC_len (l : List Sg) : (bodyC l).length ≤ 44 * l.length := by
  induction l with
  | nil => simp [bodyC]
  | cons s r ih =>
    have a := segB_len s
    have : bodyC (s :: r) = segB s ++ bodyC r := by simp [bodyC]
    rw [this]; simp; omega
theorem frontC_len (g f : Int) (l : List Sg) : (frontC g f l).length ≤ 34 + 44 * l.length := by
  have a := enc_len g.toNat
  have b := enc_len f.toNat
  have c := enc_len l.length
  have d := bodyC_len l
  simp [frontC, midC, markC]; omega

/-! ### reading: what is left, and the error -/
abbrev Stt := List UInt8 × Int
def nx (r : List UInt8) : List UInt8 := r.drop (rv r).2.1
/-- A varint of at most m. -/
def vS (m : Nat) (s : Stt) : Stt := if s.2 ≠ 0 then s else if (rv s.1).2.2 ≠ 0 then (s.1, (rv s.1).2.2) else if m < (rv s.1).1 then (s.1, 3) else (nx s.1, 0)
def vV (m : Nat) (s : Stt) : Nat := if s.2 = 0 ∧ (rv s.1).2.2 = 0 ∧ (rv s.1).1 ≤ m then (rv s.1).1 else 0
/-- Four bytes, fixed. -/
def xS (s : Stt) : Stt := if s.2 ≠ 0 then s else if s.1.length < 4 then (s.1, 2) else (s.1.drop 4, 0)
def xV (s : Stt) : Nat := if s.2 = 0 ∧ 4 ≤ s.1.length then num (s.1.take 4) else 0
def top : Nat := 9223372036854775807
def nS (s : Stt) : Stt := vS top s
def nV (s : Stt) : Nat := vV top s
def segS (s : Stt) : Stt := nS (nS (xS (nS (nS s))))
def segV (s : Stt) : Sg := ⟨(nV s : Int), (nV (nS s) : Int), xV (nS (nS s)), (nV (xS (nS (nS s))) : Int), (nV (nS (xS (nS (nS s)))) : Int)⟩
def segsS : Nat → Stt → Stt
  | 0, s => s
  | c + 1, s => segsS c (segS s)
def segsV : Nat → Stt → List Sg
  | 0, _ => []
  | c + 1, s => segV s :: segsV c (segS s)
def cnt (s : Stt) : Nat := vV 64 (nS (nS s))
def cntS (s : Stt) : Stt := vS 64 (nS (nS s))
open Classical in
noncomputable def betwF (l : List UInt8) : Int × Int × Int × List Sg :=
  if (segsS (cnt (l, 0)) (cntS (l, 0))).2 = 2 then (2, 0, 0, [])
  else if (segsS (cnt (l, 0)) (cntS (l, 0))).2 ≠ 0 ∨ (segsS (cnt (l, 0)) (cntS (l, 0))).1 ≠ [] ∨ ¬ May (nV (l, 0)) (nV (nS (l, 0))) (segsV (cnt (l, 0)) (cntS (l, 0))) then (4, 0, 0, [])
  else (0, nV (l, 0), nV (nS (l, 0)), segsV (cnt (l, 0)) (cntS (l, 0)))
noncomputable def readF (b : List UInt8) : Int × Int × Int × List Sg :=
  if b.length < 8 then (2, 0, 0, [])
  else if b.take 4 ≠ markC then (4, 0, 0, [])
  else if num (b.drop (b.length - 4)) ≠ (Crc.more 0#32 (b.take (b.length - 4))).toNat then (5, 0, 0, [])
  else betwF ((b.take (b.length - 4)).drop 4)
theorem vV_le (m : Nat) (s : Stt) : vV m s ≤ m := by unfold vV; split <;> omega
theorem xV_lt (s : Stt) : xV s < 4294967296 := by
  unfold xV
  split
  · exact Nat.lt_of_lt_of_le (num_le _ 4 (by simp; omega)) (by decide)
  · omega
theorem nV_le (s : Stt) : nV s ≤ 9223372036854775807 := vV_le top s
theorem segV_in (s : Stt) : SIn (segV s) := by
  have a := nV_le s
  have b := nV_le (nS s)
  have c := xV_lt (nS (nS s))
  have d := nV_le (xS (nS (nS s)))
  have e := nV_le (nS (xS (nS (nS s))))
  exact ⟨by simp only [segV]; omega, by simp only [segV]; omega, by simp only [segV]; omega, by simp only [segV]; omega, c, by simp only [segV]; omega, by simp only [segV]; omega, by simp only [segV]; omega, by simp only [segV]; omega⟩
theorem segsV_in : ∀ (c : Nat) (s : Stt), AIn (segsV c s) := by
  intro c
  induction c with
  | zero => intro s t ht; simp [segsV] at ht
  | succ c ih =>
    intro s t ht
    simp only [segsV, List.mem_cons] at ht
    rcases ht with rfl | ht
    · exact segV_in s
    · exact ih _ t ht
theorem segsV_len : ∀ (c : Nat) (s : Stt), (segsV c s).length = c := by
  intro c
  induction c with
  | zero => intro s; rfl
  | succ c ih => intro s; simp [segsV, ih]
/-- One more at the end. -/
theorem segs_snoc : ∀ (c : Nat) (s : Stt), segsV (c + 1) s = segsV c s ++ [segV (segsS c s)] ∧ segsS (c + 1) s = segS (segsS c s) := by
  intro c
  induction c with
  | zero => intro s; simp [segsV, segsS]
  | succ c ih =>
    intro s
    obtain ⟨a, b⟩ := ih (segS s)
    have e1 : segsV (c + 1 + 1) s = segV s :: segsV (c + 1) (segS s) := rfl
    have e2 : segsS (c + 1 + 1) s = segsS (c + 1) (segS s) := rfl
    rw [e1, e2, a, b]
    exact ⟨rfl, rfl⟩
end Go.Proofs.Ytdhjlongdfgejaa.Ct
