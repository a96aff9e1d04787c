/-
  Conditions, by data.
-/
import Derived.Test.YtdbhfeiibcpcaaaDoorC04
import Derived.Test.YtdbhfeiibcpcaaaDoorC03
import Derived.Test.YtdbhfeiibcpcaaaDoorC01
import Derived.Test.YtdbhfeiibcpcaaaDoorRows
import Derived.OpenShut
import Derived.ChangeArms
import Derived.ChangeSame
import Derived.FnData
import Derived.JoinedTies
namespace Go.Proofs.YtdbhfeiibcpcaaaDoor.Sd
open Go.RowKit
set_option linter.unusedVariables false
set_option linter.unusedSimpArgs false
set_option maxRecDepth 100000
theorem wk1_at {tk : List Tk} {x j : Nat} {t : Tk} (h : tk[j]? = some t) : (wk1 tk x)[j]? = some (if j = x then { t with sl := 2 } else t) := by
  unfold wk1
  by_cases e : j = x
  · subst e
    rw [h]
    simp only [if_true]
    exact set_same h
  · rw [if_neg e]
    cases hx : tk[x]? with
    | none => exact h
    | some u => simp only; rw [List.getElem?_set_ne (fun c => e c.symm)]; exact h
theorem wk_at (l : List Nat) : ∀ {tk : List Tk} {j : Nat} {t : Tk}, tk[j]? = some t → (wk tk l)[j]? = some (if j ∈ l then { t with sl := 2 } else t) := by
  induction l with
  | nil => intro tk j t h; simpa [wk] using h
  | cons x r ih =>
    intro tk j t h
    show (wk (wk1 tk x) r)[j]? = _
    rw [ih (wk1_at h)]
    by_cases e : j = x
    · subst e
      simp
    · simp only [e, if_false, List.mem_cons, false_or]
def cn (f : Nat → Nat) (t n : Nat) : Int := sm (fun i => if t ≤ f i then 1 else 0) n
theorem cn_up {f : Nat → Nat} {i n : Nat} (hi : i < n) (t v : Nat) : cn (up f i v) t n = cn f t n + ((if t ≤ v then 1 else 0) - (if t ≤ f i then 1 else 0)) :=
  sm_up (i := i) hi (by rw [up_same]; omega) fun j hj => by rw [up_other _ _ hj]
theorem cn_bound (f : Nat → Nat) (t n : Nat) : 0 ≤ cn f t n ∧ cn f t n ≤ n := by
  have := sm_bound (f := fun i => if t ≤ f i then 1 else 0) (n := n) (b := 1) (fun i hi => by split <;> omega)
  unfold cn; omega
theorem cn_all {f : Nat → Nat} {t n : Nat} (h : ∀ i, i < n → t ≤ f i) : cn f t n = n := by
  unfold cn
  have e : sm (fun i => if t ≤ f i then 1 else 0) n = sm (fun _ => 1) n := sm_congr fun i hi => by rw [if_pos (h i hi)]
  rw [e]
  clear e h
  induction n with
  | zero => rfl
  | succ n ih => show sm (fun _ => 1) n + 1 = _; rw [ih]; simp
theorem cn_full {f : Nat → Nat} {t n : Nat} (h : cn f t n = n) : ∀ i, i < n → t ≤ f i := by
  intro i hi
  rcases Nat.lt_or_ge (f i) t with c | c
  · exfalso
    have e := cn_up (f := f) hi t t
    rw [if_pos (Nat.le_refl _), if_neg (by omega)] at e
    have := (cn_bound (up f i t) t n).2
    omega
  · exact c
def c3 (f : Nat → Nat) (n : Nat) : Int := sm (fun i => if f i = 3 then 1 else 0) n
theorem c3_up {f : Nat → Nat} {i n : Nat} (hi : i < n) (v : Nat) : c3 (up f i v) n = c3 f n + ((if v = 3 then 1 else 0) - (if f i = 3 then 1 else 0)) :=
  sm_up (i := i) hi (by rw [up_same]; omega) fun j hj => by rw [up_other _ _ hj]
theorem c3_all {f : Nat → Nat} {n : Nat} (h : ∀ i, i < n → f i = 3) : c3 f n = n := by
  have : c3 f n = cn (fun _ => 0) 0 n := sm_congr fun i hi => by rw [if_pos (h i hi)]; rfl
  rw [this]; exact cn_all fun i hi => Nat.zero_le _
def wtL : List Ac := [⟨1, 0, 0, 0⟩, ⟨6, 1, 0, 1⟩, ⟨3, 2, 0, 0⟩, ⟨8, 3, 0, 1⟩, ⟨2, 0, 0, 0⟩]
def ww (cast : Bool) (n : Nat) : Nat := if cast = true then 1 else n
def wkA (cast : Bool) : Ac := if cast = true then ⟨5, 2, 0, 0⟩ else ⟨4, 2, 0, 0⟩
def wkL (cast : Bool) (n : Nat) : List Ac := List.replicate n ⟨7, 1, 0, 0⟩ ++ ([⟨1, 0, 0, 0⟩] ++ (List.replicate (ww cast n) (wkA cast) ++ [⟨2, 0, 0, 0⟩]))
theorem wkL_len (cast : Bool) (n : Nat) : (wkL cast n).length = n + ww cast n + 2 := by simp [wkL]; omega
theorem wkL_take {cast : Bool} {n p : Nat} (h : p < n) : (wkL cast n)[p]? = some ⟨7, 1, 0, 0⟩ := by
  unfold wkL
  rw [List.getElem?_append_left (by simpa using h)]
  simp [h]
theorem wkL_lock (cast : Bool) (n : Nat) : (wkL cast n)[n]? = some ⟨1, 0, 0, 0⟩ := by
  unfold wkL
  rw [List.getElem?_append_right (by simp)]
  simp
theorem wkL_wake {cast : Bool} {n p : Nat} (h1 : n < p) (h2 : p < n + 1 + ww cast n) : (wkL cast n)[p]? = some (wkA cast) := by
  unfold wkL
  rw [List.getElem?_append_right (by simp; omega), List.getElem?_append_right (by simp; omega), List.getElem?_append_left (by simp; omega)]
  simp only [List.length_replicate, List.length_singleton, List.getElem?_replicate]
  rw [if_pos (by omega)]
theorem wkL_let (cast : Bool) (n : Nat) : (wkL cast n)[n + 1 + ww cast n]? = some ⟨2, 0, 0, 0⟩ := by
  unfold wkL
  rw [List.getElem?_append_right (by simp; omega), List.getElem?_append_right (by simp; omega), List.getElem?_append_right (by simp; omega)]
  simp
  have : n + 1 + ww cast n - n - 1 - ww cast n = 0 := by omega
  rw [this]; rfl
/-- A waiter in its phase. -/
def wT (ph : Nat) : Tk := ⟨wtL, if ph ≤ 2 then ph else if ph ≤ 4 then 2 else ph - 2, if ph = 3 then 1 else if ph = 4 then 2 else 0, false, 0, false, 0⟩
structure PC (cast : Bool) (n : Nat) (f : Nat → Nat) (k : Nat) (H : Option Nat) (S : St) : Prop where
  len : S.tk.length = n + 1
  tk : ∀ i, i < n → S.tk[i]? = some (wT (f i))
  tw : S.tk[n]? = some ⟨wkL cast n, k, 0, false, 0, false, 0⟩
  rm : S.room = 16
  lk : S.lk 0 = H
  f7 : ∀ i, i < n → f i ≤ 7
  kb : k ≤ n + 2 + ww cast n
  h1 : ∀ i, i < n → (H = some i ↔ (f i = 1 ∨ f i = 2 ∨ f i = 5 ∨ f i = 6))
  h2 : H = some n ↔ (n + 1 ≤ k ∧ k ≤ n + 1 + ww cast n)
  h3 : ∀ i, H = some i → i ≤ n
  q : ((S.qu 1).length : Int) + (min k n : Nat) = cn f 2 n
  a3 : n < k → ∀ i, i < n → 3 ≤ f i
  b3 : k ≤ n + 1 → ∀ i, i < n → f i ≤ 3
  sl : ∀ i, i ∈ S.sl 2 ↔ (i < n ∧ f i = 3)
  nd : (S.sl 2).Nodup
  slc : ((S.sl 2).length : Int) = c3 f n
  sll : n < k → (S.sl 2).length = if cast = true then (if k = n + 1 then n else 0) else n - (k - (n + 1))
  r3 : S.rg 3 = cn f 6 n
  mu : (S.tr.length : Int) ≤ sm (fun i => (f i : Int)) n + k
section
variable {cast : Bool} {n : Nat} {f : Nat → Nat} {k : Nat} {H : Option Nat} {S : St}
theorem pc_move (h : PC cast n f k H S) {i v : Nat} (hi : i < n) (hv : v ≤ 7) {S' : St} (htk : S'.tk = S.tk.set i (wT v)) :
    S'.tk.length = n + 1 ∧ (∀ j, j < n → S'.tk[j]? = some (wT (up f i v j))) ∧ S'.tk[n]? = some ⟨wkL cast n, k, 0, false, 0, false, 0⟩ ∧ (∀ j, j < n → up f i v j ≤ 7) := by
  refine ⟨by rw [htk, List.length_set, h.len], fun j hj => ?_, ?_, fun j hj => ?_⟩
  · rw [htk]
    by_cases e : j = i
    · subst e
      rw [List.getElem?_set_self (by rw [h.len]; omega), up_same]
    · rw [List.getElem?_set_ne (fun c => e c.symm), h.tk j hj, up_other _ _ e]
  · rw [htk, List.getElem?_set_ne (by omega), h.tw]
  · by_cases e : j = i
    · subst e; rw [up_same]; exact hv
    · rw [up_other _ _ e]; exact h.f7 j hj
/-- A waiter's own step: what must be said of it alone. -/
theorem pc_step (h : PC cast n f k H S) {i v : Nat} (hi : i < n) (hv : v ≤ 7) (hlt : f i < v) {H' : Option Nat} {S' : St} (htk : S'.tk = S.tk.set i (wT v)) (htr : S'.tr.length = S.tr.length + 1) (hrm : S'.room = S.room) (hlk : S'.lk 0 = H')
    (hH : H' = some i ↔ (v = 1 ∨ v = 2 ∨ v = 5 ∨ v = 6)) (ho : ∀ j, j ≠ i → (H' = some j ↔ H = some j))
    (hq : ((S'.qu 1).length : Int) = (S.qu 1).length + ((if 2 ≤ v then 1 else 0) - (if 2 ≤ f i then 1 else 0)))
    (ha : n < k → 3 ≤ v) (hb : k ≤ n + 1 → v ≤ 3)
    (hs : (S'.sl 2 = S.sl 2 ∧ f i ≠ 3 ∧ v ≠ 3) ∨ (S'.sl 2 = S.sl 2 ++ [i] ∧ f i = 2 ∧ v = 3))
    (hr : S'.rg 3 = S.rg 3 + ((if 6 ≤ v then 1 else 0) - (if 6 ≤ f i then 1 else 0))) : PC cast n (up f i v) k H' S' := by
  obtain ⟨q1, q2, q3, q4⟩ := pc_move h hi hv htk
  refine ⟨q1, q2, q3, hrm.trans h.rm, hlk, q4, h.kb, fun j hj => ?_, ?_, fun j hj => ?_, ?_, fun hk j hj => ?_, fun hk j hj => ?_, fun j => ?_, ?_, ?_, fun hk => ?_, ?_, ?_⟩
  · by_cases e : j = i
    · subst e; rw [up_same]; exact hH
    · rw [up_other _ _ e, ho j e]; exact h.h1 j hj
  · rw [ho n (by omega)]; exact h.h2
  · by_cases e : j = i
    · subst e; omega
    · exact h.h3 j ((ho j e).1 hj)
  · rw [cn_up hi, hq, ← h.q]; omega
  · by_cases e : j = i
    · subst e; rw [up_same]; exact ha hk
    · rw [up_other _ _ e]; exact h.a3 hk j hj
  · by_cases e : j = i
    · subst e; rw [up_same]; exact hb hk
    · rw [up_other _ _ e]; exact h.b3 hk j hj
  · rcases hs with ⟨e, x, y⟩ | ⟨e, x, y⟩
    · rw [e, h.sl]
      by_cases c : j = i
      · subst c; rw [up_same]; omega
      · rw [up_other _ _ c]
    · rw [e, List.mem_append, h.sl, List.mem_singleton]
      by_cases c : j = i
      · subst c; rw [up_same]; simp [hi, y]
      · rw [up_other _ _ c]; simp [c]
  · rcases hs with ⟨e, x, y⟩ | ⟨e, x, y⟩
    · rw [e]; exact h.nd
    · rw [e]
      refine List.nodup_append.2 ⟨h.nd, by simp, fun a ha b hb => ?_⟩
      simp only [List.mem_singleton] at hb
      subst hb
      have := (h.sl a).1 ha
      intro c; subst c; omega
  · rw [c3_up hi]
    rcases hs with ⟨e, x, y⟩ | ⟨e, x, y⟩
    · rw [e, if_neg x, if_neg y, h.slc]; omega
    · rw [e, List.length_append, if_pos y, if_neg (by omega), ← h.slc]; simp
  · rcases hs with ⟨e, x, y⟩ | ⟨e, x, y⟩
    · rw [e]; exact h.sll hk
    · have := h.a3 hk i hi; omega
  · rw [cn_up hi, hr, h.r3]
  · have e := sm_up (f := fun i => (f i : Int)) (g := fun j => ((up f i v j : Nat) : Int)) (i := i) (d := (v : Int) - f i) hi (by rw [up_same]; omega) (fun j hj => by simp [up_other _ _ hj])
    have := h.mu
    rw [htr, e]
    omega
end
end Go.Proofs.YtdbhfeiibcpcaaaDoor.Sd

/-
  Conditions, by data: a turn, the end.
-/
namespace Go.Proofs.YtdbhfeiibcpcaaaDoor.Sd
open Go.RowKit
set_option linter.unusedVariables false
set_option linter.unusedSimpArgs false
set_option maxRecDepth 100000
theorem nodup_c3 (f : Nat → Nat) : ∀ (n : Nat) (l : List Nat), l.Nodup → (∀ i, i ∈ l ↔ (i < n ∧ f i = 3)) → (l.length : Int) = c3 f n := by
  intro n
  induction n with
  | zero =>
    intro l hn hm
    cases l with
    | nil => rfl
    | cons x r => have := (hm x).1 List.mem_cons_self; omega
  | succ n ih =>
    intro l hn hm
    show _ = c3 f n + if f n = 3 then 1 else 0
    by_cases h : f n = 3
    · have hmem : n ∈ l := (hm n).2 ⟨by omega, h⟩
      have e := ih (l.erase n) (hn.erase n) (fun i => by
        rw [hn.mem_erase_iff, hm i]
        omega)
      rw [List.length_erase_of_mem hmem] at e
      have := List.length_pos_of_mem hmem
      rw [if_pos h]
      omega
    · have e := ih l hn (fun i => by
        rw [hm i]
        by_cases c : i = n
        · subst c; simp [h]
        · omega)
      rw [if_neg h]
      omega
theorem sm_mono {f g : Nat → Int} {n : Nat} (h : ∀ i, i < n → f i ≤ g i) : sm f n ≤ sm g n := by
  induction n with
  | zero => exact Int.le_refl _
  | succ n ih =>
    have h1 := ih fun i hi => h i (by omega)
    have h2 := h n (by omega)
    show sm f n + f n ≤ sm g n + g n
    omega
section
variable {cast : Bool} {n : Nat} {f : Nat → Nat} {k : Nat} {H : Option Nat} {S : St}
def Nx (cast : Bool) (n : Nat) (S S' : St) : Prop := (∃ f k H, PC cast n f k H S') ∧ S'.tr.length = S.tr.length + 1
theorem pc_waiter (h : PC cast n f k H S) (hn : n ≤ 15) {i : Nat} (hi : i < n) (hr : isR S i = true) : Nx cast n S (turnS S i) := by
  obtain ⟨t, ht, h3⟩ := isR_some hr
  obtain ⟨hd, a, ha, hs, hl1, hl3, h6, -⟩ := how3 h3
  have et : t = wT (f i) := Option.some.inj (ht.symm.trans (h.tk i hi))
  subst et
  have hT := turnS_eq ht ha
  have hset : S.tk[i]? = some (wT (f i)) := ht
  have hf7 := h.f7 i hi
  have hk1 := h.h1 i hi
  have hb3 := h.b3
  have ha3 := h.a3
  have hc : f i = 0 ∨ f i = 1 ∨ f i = 2 ∨ f i = 3 ∨ f i = 4 ∨ f i = 5 ∨ f i = 6 ∨ f i = 7 := by omega
  rcases hc with c | c | c | c | c | c | c | c <;> rw [c] at ha hs hl3 hT hset hk1
  · obtain rfl : a = ⟨1, 0, 0, 0⟩ := (Option.some.inj ha).symm
    have hfree : S.lk 0 = none := hl1 rfl
    have hH : H = none := by rw [← h.lk]; exact hfree
    have e : turnS S i = { S with tr := S.tr ++ [(i, 0)], lk := up S.lk 0 (some i), tk := S.tk.set i (wT 1) } := by
      rw [hT]; unfold stepS; simp only [doS, Int.reduceEq, if_false, if_true, Int.toNat_zero]; unfold adv; simp only [hset]; rfl
    rw [e]
    refine ⟨⟨_, _, _, pc_step h hi (v := 1) (H' := some i) (by omega) (by omega) rfl (by simp) rfl (by simp [up]) (by simp) (fun j hj => ?_) (by simp [c]) (fun hk => ?_) (by omega) (.inl ⟨rfl, by omega, by omega⟩) (by simp [c])⟩, by simp⟩
    · rw [hH]; constructor
      · intro x; cases x; exact absurd rfl hj
      · intro x; cases x
    · have := ha3 hk i hi; omega
  · obtain rfl : a = ⟨6, 1, 0, 1⟩ := (Option.some.inj ha).symm
    have hH : H = some i := hk1.2 (by omega)
    have e : turnS S i = { S with tr := S.tr ++ [(i, 1)], qu := up S.qu 1 (S.qu 1 ++ [1]), tk := S.tk.set i (wT 2) } := by
      rw [hT]; unfold stepS; simp only [doS, Int.reduceEq, if_false, if_true, Int.toNat_one]; unfold adv; simp only [hset]; rfl
    rw [e]
    refine ⟨⟨_, _, _, pc_step h hi (v := 2) (H' := H) (by omega) (by omega) rfl (by simp) rfl h.lk (by simp [hH]) (fun j hj => Iff.rfl) (by simp [c, up]) (fun hk => ?_) (by omega) (.inl ⟨rfl, by omega, by omega⟩) (by simp [c])⟩, by simp⟩
    have := ha3 hk i hi; omega
  · obtain rfl : a = ⟨3, 2, 0, 0⟩ := (Option.some.inj ha).symm
    have hH : H = some i := hk1.2 (by omega)
    have hl0 : S.lk 0 = some i := h.lk.trans hH
    have hs0 : (wT 2).sl = 0 := rfl
    have e : turnS S i = { S with tr := S.tr ++ [(i, 2)], lk := up S.lk 0 none, sl := up S.sl 2 (S.sl 2 ++ [i]), tk := S.tk.set i (wT 3) } := by
      rw [hT]; unfold stepS; simp only [doS, Int.reduceEq, if_false, if_true, Int.toNat_zero, hs0, hl0]; rfl
    rw [e]
    refine ⟨⟨_, _, _, pc_step h hi (v := 3) (H' := none) (by omega) (by omega) rfl (by simp) rfl (by simp [up]) (by simp) (fun j hj => ?_) (by simp [c]) (fun hk => by omega) (by omega) (.inr ⟨by simp [up], c, rfl⟩) (by simp [c])⟩, by simp⟩
    rw [hH]; constructor
    · intro x; cases x
    · intro x; cases x; exact absurd rfl hj
  · exact absurd rfl hs
  · obtain rfl : a = ⟨3, 2, 0, 0⟩ := (Option.some.inj ha).symm
    have hfree : S.lk 0 = none := hl3 rfl rfl
    have hH : H = none := by rw [← h.lk]; exact hfree
    have hs0 : (wT 4).sl ≠ 0 := by decide
    have hl : i < S.tk.length := (List.getElem?_eq_some_iff.1 ht).1
    have e : turnS S i = { S with tr := S.tr ++ [(i, 2)], lk := up S.lk 0 (some i), tk := S.tk.set i (wT 5) } := by
      rw [hT]; unfold stepS; simp only [doS, Int.reduceEq, if_false, if_true, Int.toNat_zero, hs0]; unfold adv; simp only [List.getElem?_set_self hl, List.set_set]; rfl
    rw [e]
    refine ⟨⟨_, _, _, pc_step h hi (v := 5) (H' := some i) (by omega) (by omega) rfl (by simp) rfl (by simp [up]) (by simp) (fun j hj => ?_) (by simp [c]) (fun hk => by omega) (fun hk => ?_) (.inl ⟨rfl, by omega, by omega⟩) (by simp [c])⟩, by simp⟩
    · rw [hH]; constructor
      · intro x; cases x; exact absurd rfl hj
      · intro x; cases x
    · have := hb3 hk i hi; omega
  · obtain rfl : a = ⟨8, 3, 0, 1⟩ := (Option.some.inj ha).symm
    have hH : H = some i := hk1.2 (by omega)
    have hw : wrap64 (S.rg 3 + 1) = S.rg 3 + 1 := by
      have := cn_bound f 6 n
      have := h.r3
      unfold wrap64; omega
    have e : turnS S i = { S with tr := S.tr ++ [(i, 3)], rg := up S.rg 3 (S.rg 3 + 1), tk := S.tk.set i (wT 6) } := by
      rw [hT]; unfold stepS
      have e3 : Int.toNat 3 = 3 := rfl
      simp only [doS, Int.reduceEq, if_false, if_true, e3, hw]; unfold adv; simp only [hset]; rfl
    rw [e]
    refine ⟨⟨_, _, _, pc_step h hi (v := 6) (H' := H) (by omega) (by omega) rfl (by simp) rfl h.lk (by simp [hH]) (fun j hj => Iff.rfl) (by simp [c]) (fun hk => by omega) (fun hk => ?_) (.inl ⟨rfl, by omega, by omega⟩) (by simp [c, up])⟩, by simp⟩
    have := hb3 hk i hi; omega
  · obtain rfl : a = ⟨2, 0, 0, 0⟩ := (Option.some.inj ha).symm
    have hH : H = some i := hk1.2 (by omega)
    have hl0 : S.lk 0 = some i := h.lk.trans hH
    have e : turnS S i = { S with tr := S.tr ++ [(i, 4)], lk := up S.lk 0 none, tk := S.tk.set i (wT 7) } := by
      rw [hT]; unfold stepS; simp only [doS, Int.reduceEq, if_false, if_true, Int.toNat_zero, hl0]; unfold adv; simp only [hset]; rfl
    rw [e]
    refine ⟨⟨_, _, _, pc_step h hi (v := 7) (H' := none) (by omega) (by omega) rfl (by simp) rfl (by simp [up]) (by simp) (fun j hj => ?_) (by simp [c]) (fun hk => by omega) (fun hk => ?_) (.inl ⟨rfl, by omega, by omega⟩) (by simp [c])⟩, by simp⟩
    · rw [hH]; constructor
      · intro x; cases x
      · intro x; cases x; exact absurd rfl hj
    · have := hb3 hk i hi; omega
  · rw [show (wT 7).ac[(wT 7).pc]? = none from rfl] at ha; cases ha
theorem tk_n (h : PC cast n f k H S) {S' : St} {p : Nat} (htk : S'.tk = S.tk.set n ⟨wkL cast n, p, 0, false, 0, false, 0⟩) : S'.tk.length = n + 1 ∧ (∀ i, i < n → S'.tk[i]? = some (wT (f i))) ∧ S'.tk[n]? = some ⟨wkL cast n, p, 0, false, 0, false, 0⟩ := by
  refine ⟨by rw [htk, List.length_set, h.len], fun i hi => ?_, ?_⟩
  · rw [htk, List.getElem?_set_ne (by omega), h.tk i hi]
  · rw [htk, List.getElem?_set_self (by rw [h.len]; omega)]
theorem pc_waker (h : PC cast n f k H S) (hn1 : 1 ≤ n) (hr : isR S n = true) : Nx cast n S (turnS S n) := by
  obtain ⟨t, ht, h3⟩ := isR_some hr
  obtain ⟨hd, a, ha, hs, hl1, -, -, h7⟩ := how3 h3
  have et : t = ⟨wkL cast n, k, 0, false, 0, false, 0⟩ := Option.some.inj (ht.symm.trans h.tw)
  subst et
  have hT := turnS_eq ht ha
  have hset : S.tk[n]? = some ⟨wkL cast n, k, 0, false, 0, false, 0⟩ := ht
  have ha' : (wkL cast n)[k]? = some a := ha
  have hq := h.q
  have hkb := h.kb
  have hh2 := h.h2
  have hmu := h.mu
  have hww : ww cast n ≤ n ∧ 1 ≤ ww cast n := by unfold ww; split <;> omega
  have hneq : ∀ i, i < n → (some n : Option Nat) = some i → False := fun i hi e => by cases e; omega
  rcases Nat.lt_or_ge k n with c | c
  · -- takes
    rw [wkL_take c] at ha'
    obtain rfl := Option.some.inj ha'
    have hne : S.qu 1 ≠ [] := h7 rfl
    obtain ⟨x, r, hx⟩ : ∃ x r, S.qu 1 = x :: r := by
      cases hq1 : S.qu 1 with
      | nil => exact absurd hq1 hne
      | cons x r => exact ⟨x, r, rfl⟩
    have e : turnS S n = { S with tr := S.tr ++ [(n, k)], rg := up S.rg 0 x, qu := up S.qu 1 r, tk := S.tk.set n ⟨wkL cast n, k + 1, 0, false, 0, false, 0⟩ } := by
      rw [hT]; unfold stepS; simp only [doS, Int.reduceEq, if_false, if_true, Int.toNat_zero, Int.toNat_one, hx]; unfold adv; simp only [hset]
    rw [e]
    obtain ⟨q1, q2, q3⟩ := tk_n h (S' := { S with tr := S.tr ++ [(n, k)], rg := up S.rg 0 x, qu := up S.qu 1 r, tk := S.tk.set n ⟨wkL cast n, k + 1, 0, false, 0, false, 0⟩ }) rfl
    rw [hx] at hq
    refine ⟨⟨f, k + 1, H, ⟨q1, q2, q3, h.rm, h.lk, h.f7, by omega, h.h1, by rw [hh2]; omega, h.h3, ?_, fun hk => by omega, fun hk => h.b3 (by omega), h.sl, h.nd, h.slc, fun hk => by omega, ?_, ?_⟩⟩, by simp⟩
    · show (((up S.qu 1 r) 1).length : Int) + _ = _
      rw [up_same, ← hq]; simp; omega
    · show up S.rg 0 x 3 = _
      rw [up_other _ _ (by decide), h.r3]
    · show ((S.tr ++ [(n, k)]).length : Int) ≤ _
      simp; omega
  · rcases Nat.lt_or_ge n k with c2 | c2
    · have hall := h.a3 c2
      have hsll := h.sll c2
      rcases Nat.lt_or_ge k (n + 1 + ww cast n) with c3 | c3
      · -- wakes
        rw [wkL_wake c2 c3] at ha'
        obtain rfl := Option.some.inj ha'
        have hH : H = some n := hh2.2 (by omega)
        obtain ⟨m, hm⟩ : ∃ m, m = if cast = true then (S.sl 2).length else min 1 (S.sl 2).length := ⟨_, rfl⟩
        have hml : m ≤ (S.sl 2).length := by rw [hm]; split <;> omega
        have hmem : ∀ j, j ∈ (S.sl 2).take m → j < n ∧ f j = 3 := fun j hj => (h.sl j).1 (List.mem_of_mem_take hj)
        have hnin : n ∉ (S.sl 2).take m := fun c => by have := hmem n c; omega
        have hw0 : (wk S.tk ((S.sl 2).take m))[n]? = some ⟨wkL cast n, k, 0, false, 0, false, 0⟩ := by rw [wk_at _ hset, if_neg hnin]
        have e : turnS S n = { S with tr := S.tr ++ [(n, k)], sl := up S.sl 2 ((S.sl 2).drop m), tk := (wk S.tk ((S.sl 2).take m)).set n ⟨wkL cast n, k + 1, 0, false, 0, false, 0⟩ } := by
          rw [hT]
          have e2 : Int.toNat 2 = 2 := rfl
          cases cast with
          | true =>
            simp only [if_true] at hm
            subst hm
            unfold stepS; simp only [doS, wkA, Int.reduceEq, if_false, if_true, e2]; unfold adv wakeS; simp only [hw0]
          | false =>
            simp only [Bool.false_eq_true, if_false] at hm
            subst hm
            unfold stepS; simp only [doS, wkA, Bool.false_eq_true, Int.reduceEq, if_false, if_true, e2]; unfold adv wakeS; simp only [hw0]
        rw [e]
        have hsplit : (S.sl 2).take m ++ (S.sl 2).drop m = S.sl 2 := List.take_append_drop _ _
        have hnd := h.nd
        rw [← hsplit] at hnd
        obtain ⟨-, nd2, ndx⟩ := List.nodup_append.1 hnd
        have hf' : ∀ j, j < n → 3 ≤ (if j ∈ (S.sl 2).take m then 4 else f j) := fun j hj => by split; omega; exact hall j hj
        have hsl' : ∀ j, j ∈ (S.sl 2).drop m ↔ (j < n ∧ (if j ∈ (S.sl 2).take m then 4 else f j) = 3) := fun j => by
          constructor
          · intro hj
            have h1 : j ∈ S.sl 2 := List.mem_of_mem_drop hj
            have h2 : j ∉ (S.sl 2).take m := fun c => ndx j c j hj rfl
            rw [if_neg h2]
            exact (h.sl j).1 h1
          · rintro ⟨hj, he⟩
            split at he
            · omega
            · next hno =>
              have h1 := (h.sl j).2 ⟨hj, he⟩
              rw [← hsplit] at h1
              rcases List.mem_append.1 h1 with c | c
              · exact absurd c hno
              · exact c
        refine ⟨⟨fun j => if j ∈ (S.sl 2).take m then 4 else f j, k + 1, H, ⟨?_, fun j hj => ?_, ?_, h.rm, h.lk, fun j hj => ?_, by omega, fun j hj => ?_, by rw [hH]; simp; omega, h.h3, ?_, fun _ => hf', fun hk => by omega, fun j => ?_, ?_, ?_, fun _ => ?_, ?_, ?_⟩⟩, by simp⟩
        · show ((wk S.tk ((S.sl 2).take m)).set n _).length = _
          rw [List.length_set, wk_len, h.len]
        · show ((wk S.tk ((S.sl 2).take m)).set n _)[j]? = _
          rw [List.getElem?_set_ne (by omega), wk_at _ (h.tk j hj)]
          by_cases c : j ∈ (S.sl 2).take m
          · simp only [c, if_true]
            have := (hmem j c).2
            rw [this]; rfl
          · simp only [c, if_false]
        · show ((wk S.tk ((S.sl 2).take m)).set n _)[n]? = _
          rw [List.getElem?_set_self (by rw [wk_len, h.len]; omega)]
        · show (if j ∈ (S.sl 2).take m then 4 else f j) ≤ 7
          split; omega; exact h.f7 j hj
        · rw [hH]
          constructor
          · intro x; exact (hneq j hj x).elim
          · intro x
            exfalso
            by_cases c : j ∈ (S.sl 2).take m
            · simp only [c, if_true] at x; omega
            · simp only [c, if_false] at x
              have := (h.h1 j hj).2 x
              rw [hH] at this
              exact hneq j hj this
        · have e1 : cn f 2 n = n := cn_all fun j hj => by have := hall j hj; omega
          have e2 : cn (fun j => if j ∈ (S.sl 2).take m then 4 else f j) 2 n = n := cn_all fun j hj => by have := hf' j hj; show 2 ≤ (if j ∈ (S.sl 2).take m then 4 else f j); omega
          rw [e2]
          rw [e1] at hq
          show ((S.qu 1).length : Int) + _ = _
          omega
        · show j ∈ up S.sl 2 ((S.sl 2).drop m) 2 ↔ _
          rw [up_same]; exact hsl' j
        · show (up S.sl 2 ((S.sl 2).drop m) 2).Nodup
          rw [up_same]; exact nd2
        · show ((up S.sl 2 ((S.sl 2).drop m) 2).length : Int) = _
          rw [up_same]; exact nodup_c3 _ n _ nd2 hsl'
        · show (up S.sl 2 ((S.sl 2).drop m) 2).length = _
          rw [up_same, List.length_drop]
          cases cast with
          | true =>
            simp only [if_true] at hm ⊢
            rw [if_neg (by omega)]; omega
          | false =>
            have hwf : ww false n = n := rfl
            simp only [Bool.false_eq_true, if_false] at hm hsll ⊢
            omega
        · rw [show ({ S with tr := S.tr ++ [(n, k)], sl := up S.sl 2 ((S.sl 2).drop m), tk := (wk S.tk ((S.sl 2).take m)).set n ⟨wkL cast n, k + 1, 0, false, 0, false, 0⟩ } : St).rg 3 = S.rg 3 from rfl, h.r3]
          refine sm_congr fun j hj => ?_
          by_cases c : j ∈ (S.sl 2).take m
          · simp only [c, if_true]
            have := (hmem j c).2
            rw [this]; rfl
          · simp only [c, if_false]
        · have hmo := sm_mono (f := fun i => (f i : Int)) (g := fun j => (((if j ∈ (S.sl 2).take m then 4 else f j) : Nat) : Int)) (n := n) (fun j hj => by
            by_cases c : j ∈ (S.sl 2).take m
            · simp only [c, if_true]; have := (hmem j c).2; omega
            · simp only [c, if_false]; omega)
          show ((S.tr ++ [(n, k)]).length : Int) ≤ _
          simp only [List.length_append, List.length_singleton]
          omega
      · rcases Nat.lt_or_ge (n + 1 + ww cast n) k with c4 | c4
        · exfalso
          rw [List.getElem?_eq_none_iff.2 (by rw [wkL_len]; omega)] at ha'
          cases ha'
        · -- lets go
          have ek : k = n + 1 + ww cast n := by omega
          rw [ek, wkL_let] at ha'
          obtain rfl := Option.some.inj ha'
          have hH : H = some n := hh2.2 (by omega)
          have hl0 : S.lk 0 = some n := h.lk.trans hH
          have e : turnS S n = { S with tr := S.tr ++ [(n, k)], lk := up S.lk 0 none, tk := S.tk.set n ⟨wkL cast n, k + 1, 0, false, 0, false, 0⟩ } := by
            rw [hT]; unfold stepS; simp only [doS, Int.reduceEq, if_false, if_true, Int.toNat_zero, hl0]; unfold adv; simp only [hset]
          rw [e]
          obtain ⟨q1, q2, q3⟩ := tk_n h (S' := { S with tr := S.tr ++ [(n, k)], lk := up S.lk 0 none, tk := S.tk.set n ⟨wkL cast n, k + 1, 0, false, 0, false, 0⟩ }) rfl
          refine ⟨⟨f, k + 1, none, ⟨q1, q2, q3, h.rm, by simp [up], h.f7, by omega, fun i hi => ?_, ?_, (fun i x => by cases x), ?_, fun _ => hall, fun hk => by omega, h.sl, h.nd, h.slc, fun _ => ?_, h.r3, ?_⟩⟩, by simp⟩
          · constructor
            · intro x; cases x
            · intro x
              have := (h.h1 i hi).2 x
              rw [hH] at this
              exact (hneq i hi this).elim
          · constructor
            · intro x; cases x
            · intro x; omega
          · show ((S.qu 1).length : Int) + _ = _
            rw [← hq]; omega
          · show (S.sl 2).length = _
            rw [hsll]
            cases cast with
            | true =>
              have hwf : ww true n = 1 := rfl
              simp only [if_true]
              rw [if_neg (by omega), if_neg (by omega)]
            | false =>
              have hwf : ww false n = n := rfl
              simp only [Bool.false_eq_true, if_false]
              omega
          · show ((S.tr ++ [(n, k)]).length : Int) ≤ _
            simp; omega
    · -- locks
      obtain rfl : k = n := by omega
      rw [wkL_lock] at ha'
      obtain rfl := Option.some.inj ha'
      have hfree : S.lk 0 = none := hl1 rfl
      have hH : H = none := by rw [← h.lk]; exact hfree
      have hall2 : ∀ i, i < k → 3 ≤ f i := fun i hi => by
        have h2 := cn_full (f := f) (t := 2) (n := k) (by have := (cn_bound f 2 k).2; omega) i hi
        have h1 := h.h1 i hi
        rw [hH] at h1
        rcases Nat.lt_or_ge 2 (f i) with d | d
        · omega
        · have := h1.2 (by omega); cases this
      have hall3 : ∀ i, i < k → f i = 3 := fun i hi => by have := hall2 i hi; have := h.b3 (by omega) i hi; omega
      have e : turnS S k = { S with tr := S.tr ++ [(k, k)], lk := up S.lk 0 (some k), tk := S.tk.set k ⟨wkL cast k, k + 1, 0, false, 0, false, 0⟩ } := by
        rw [hT]; unfold stepS; simp only [doS, Int.reduceEq, if_false, if_true, Int.toNat_zero]; unfold adv; simp only [hset]
      rw [e]
      obtain ⟨q1, q2, q3⟩ := tk_n h (S' := { S with tr := S.tr ++ [(k, k)], lk := up S.lk 0 (some k), tk := S.tk.set k ⟨wkL cast k, k + 1, 0, false, 0, false, 0⟩ }) rfl
      refine ⟨⟨f, k + 1, some k, ⟨q1, q2, q3, h.rm, by simp [up], h.f7, by omega, fun i hi => ?_, by simp, (fun i x => by cases x; omega), ?_, fun _ => hall2, fun hk => h.b3 (by omega), h.sl, h.nd, h.slc, fun _ => ?_, h.r3, ?_⟩⟩, by simp⟩
      · constructor
        · intro x; exact (hneq i hi x).elim
        · intro x; have := hall3 i hi; omega
      · show ((S.qu 1).length : Int) + _ = _
        rw [← hq]; omega
      · show (S.sl 2).length = _
        have := h.slc
        rw [c3_all hall3] at this
        cases cast <;> simp <;> omega
      · show ((S.tr ++ [(k, k)]).length : Int) ≤ _
        simp; omega
end
def cT (cast : Bool) (n : Nat) : List (List Ac) := List.replicate n wtL ++ [wkL cast n]
theorem conds_ref (cast : Bool) {n : Nat} (h1 : 1 ≤ n) (h2 : n ≤ 15) {picks : List Int} (p1 : picks.length ≤ 65536) (p2 : ∀ k ∈ picks, 0 ≤ k) : refE (cT cast n) (16 : Nat) picks (65536 : Nat) = 0 := by
  have hww : ww cast n ≤ n ∧ 1 ≤ ww cast n := by unfold ww; split <;> omega
  refine refE_zero (by simp [cT]; omega) (fun l hl => ?_) (by omega) (by omega) p1 p2 (Nat.le_refl _)
  unfold cT at hl
  rcases List.mem_append.1 hl with c | c
  · obtain ⟨-, rfl⟩ := List.mem_replicate.1 c
    refine ⟨by decide, fun a ha => ?_⟩
    simp only [wtL, List.mem_cons, List.not_mem_nil, or_false] at ha
    rcases ha with rfl | rfl | rfl | rfl | rfl <;> exact ⟨by simp, by simp, by simp, by simp [ra], by simp, by simp [rb'], by simp [nOk]⟩
  · simp only [List.mem_cons, List.not_mem_nil, or_false] at c
    subst c
    refine ⟨by rw [wkL_len]; omega, fun a ha => ?_⟩
    have : a = ⟨7, 1, 0, 0⟩ ∨ a = ⟨1, 0, 0, 0⟩ ∨ a = wkA cast ∨ a = ⟨2, 0, 0, 0⟩ := by
      unfold wkL at ha
      simp only [List.mem_append, List.mem_replicate, List.mem_cons, List.not_mem_nil, or_false] at ha
      rcases ha with ⟨_, h⟩ | h | ⟨_, h⟩ | h
      · exact .inl h
      · exact .inr (.inl h)
      · exact .inr (.inr (.inl h))
      · exact .inr (.inr (.inr h))
    rcases this with rfl | rfl | rfl | rfl
    · exact ⟨by simp, by simp, by simp, by simp [ra], by simp, by simp [rb'], by simp [nOk]⟩
    · exact ⟨by simp, by simp, by simp, by simp [ra], by simp, by simp [rb'], by simp [nOk]⟩
    · cases cast <;> exact ⟨by simp [wkA], by simp [wkA], by simp [wkA], by simp [ra, wkA], by simp [wkA], by simp [rb', wkA], by simp [nOk, wkA]⟩
    · exact ⟨by simp, by simp, by simp, by simp [ra], by simp, by simp [rb'], by simp [nOk]⟩
theorem conds_facts {cast : Bool} {n : Nat} (hn1 : 1 ≤ n) (hn : n ≤ 15) (picks : List Int) (S : St) (hS : runS (cT cast n) 16 picks 65536 = S) :
    S.tk.length = n + 1 ∧ (∀ (i : Nat) (t : Tk), S.tk[i]? = some t → howS S t = 1) ∧ S.rg 3 = n := by
  have hww : ww cast n ≤ n ∧ 1 ≤ ww cast n := by unfold ww; split <;> omega
  have z1 : cn (fun _ => 0) 2 n = 0 := by
    have := sm_bound (f := fun i => if 2 ≤ (fun _ : Nat => 0) i then 1 else 0) (n := n) (b := 0) (fun i hi => by simp)
    unfold cn; omega
  have z2 : cn (fun _ => 0) 6 n = 0 := by
    have := sm_bound (f := fun i => if 6 ≤ (fun _ : Nat => 0) i then 1 else 0) (n := n) (b := 0) (fun i hi => by simp)
    unfold cn; omega
  have z3 : c3 (fun _ => 0) n = 0 := by
    have := sm_bound (f := fun i => if (fun _ : Nat => 0) i = 3 then 1 else 0) (n := n) (b := 0) (fun i hi => by simp)
    unfold c3; omega
  have h0 : PC cast n (fun _ => 0) 0 none (init (cT cast n) 16) := by
    refine ⟨by simp [init, cT], fun i hi => ?_, ?_, rfl, rfl, fun i hi => Nat.zero_le _, Nat.zero_le _, fun i hi => by simp, by simp, (fun i c => by cases c), by rw [z1]; simp [init], fun hk => by omega, fun hk i hi => Nat.zero_le _, fun i => by simp [init], by simp [init], by rw [z3]; simp [init], fun hk => by omega, by rw [z2]; rfl, ?_⟩
    · show ((cT cast n).map tk0)[i]? = _
      rw [List.getElem?_map]
      unfold cT
      rw [List.getElem?_append_left (by simpa using hi), List.getElem?_replicate, if_pos hi]
      rfl
    · show ((cT cast n).map tk0)[n]? = _
      rw [List.getElem?_map]
      unfold cT
      rw [List.getElem?_append_right (by simp)]
      simp [tk0]
    · have := sm_bound (f := fun i => (((fun _ : Nat => 0) i : Nat) : Int)) (n := n) (b := 0) (fun i hi => by simp)
      show ((0 : Nat) : Int) ≤ _
      simp only at this ⊢
      omega
  have hlen : ∀ S : St, (∃ f k H, PC cast n f k H S) → S.tr.length ≤ 200 := fun S ⟨f, k, H, hP⟩ => by
    have hb := sm_bound (f := fun i => (f i : Int)) (n := n) (b := 7) (fun i hi => by have := hP.f7 i hi; omega)
    have := hP.mu
    have := hP.kb
    omega
  obtain ⟨⟨f, k, H, hP⟩, hr⟩ := play_end (fun S => ∃ f k H, PC cast n f k H S) (fun S => 200 - S.tr.length) picks (fun S i ⟨f, k, H, hP⟩ hi => by
    obtain ⟨t, ht, -⟩ := isR_some hi
    have hlt : i < n + 1 := by rw [← hP.len]; exact (List.getElem?_eq_some_iff.1 ht).1
    have hx : Nx cast n S (turnS S i) := by
      rcases Nat.lt_or_ge i n with c | c
      · exact pc_waiter hP hn c hi
      · obtain rfl : i = n := by omega
        exact pc_waker hP hn1 hi
    refine ⟨hx.1, ?_⟩
    have := hlen _ hx.1
    have := hx.2
    omega) 65536 (init (cT cast n) 16) ⟨_, _, _, h0⟩ (by simp [init])
  have hS' : playS picks 65536 (init (cT cast n) 16) = S := hS
  rw [hS'] at hP hr
  have hq := hP.q
  have hqb := cn_bound f 2 n
  have nota : ∀ i, i < n → howS S (wT (f i)) ≠ 3 := fun i hi => how_not hr (hP.tk i hi)
  have notk := how_not hr hP.tw
  -- nobody holds the lock
  have hH : H = none := by
    cases hh : H with
    | none => rfl
    | some j =>
      exfalso
      rw [hh] at hP
      have hj := hP.h3 j rfl
      rcases Nat.lt_or_ge j n with c | c
      · have hf := (hP.h1 j c).1 rfl
        have hb := nota j c
        rcases hf with e | e | e | e <;> rw [e] at hb
        · apply hb
          have hl : (S.qu 1).length < 16 := by
            have e2 := cn_up (f := f) c 2 2
            rw [if_pos (by omega), if_neg (by omega)] at e2
            have := (cn_bound (up f j 2) 2 n).2
            omega
          unfold howS wT
          simp [wtL, hP.rm]
          omega
        · exact hb (by unfold howS wT; simp [wtL])
        · exact hb (by unfold howS wT; simp [wtL])
        · exact hb (by unfold howS wT; simp [wtL])
      · obtain rfl : j = n := by omega
        have hk := hP.h2.1 rfl
        rcases Nat.lt_or_ge k (j + 1 + ww cast j) with d | d
        · apply notk
          have hg := wkL_wake (cast := cast) (n := j) (p := k) (by omega) d
          unfold howS
          simp only [hg]
          cases cast <;> simp [wkA]
        · obtain rfl : k = j + 1 + ww cast j := by omega
          apply notk
          have hg := wkL_let cast j
          unfold howS
          simp only [hg]
          simp
  subst hH
  have hfree := hP.lk
  have h37 : ∀ i, i < n → f i = 3 ∨ f i = 7 := fun i hi => by
    have h7 := hP.f7 i hi
    have hno := hP.h1 i hi
    have hb := nota i hi
    have hc : f i = 0 ∨ f i = 3 ∨ f i = 4 ∨ f i = 7 := by
      have : ¬ (f i = 1 ∨ f i = 2 ∨ f i = 5 ∨ f i = 6) := fun c => by have := hno.2 c; cases this
      omega
    rcases hc with e | e | e | e
    · rw [e] at hb; exact absurd (by unfold howS wT; simp [wtL, hfree]) hb
    · exact .inl e
    · rw [e] at hb; exact absurd (by unfold howS wT; simp [wtL, hfree]) hb
    · exact .inr e
  have hall2 : cn f 2 n = n := cn_all fun i hi => by have := h37 i hi; omega
  have hk : k = n + 2 + ww cast n := by
    rcases Nat.lt_or_ge k n with c | c
    · exfalso
      apply notk
      unfold howS
      simp only [wkL_take c]
      simp
      intro e
      have := congrArg List.length e
      simp only [List.length_nil] at this
      omega
    · rcases Nat.lt_or_ge n k with c2 | c2
      · have hn2 := hP.h2
        have hkb := hP.kb
        rcases Nat.lt_or_ge k (n + 2 + ww cast n) with d | d
        · have := hn2.2 (by omega); cases this
        · omega
      · exfalso
        obtain rfl : k = n := by omega
        apply notk
        unfold howS
        simp only [wkL_lock]
        simp [hfree]
  have hnil : (S.sl 2).length = 0 := by
    rw [hP.sll (by omega)]
    cases cast with
    | true => simp only [if_true]; rw [if_neg (by have hwf : ww true n = 1 := rfl; omega)]
    | false => have hwf : ww false n = n := rfl; simp only [Bool.false_eq_true, if_false]; omega
  have h7 : ∀ i, i < n → f i = 7 := fun i hi => by
    rcases h37 i hi with e | e
    · exfalso
      have := (hP.sl i).2 ⟨hi, e⟩
      rw [List.length_eq_zero_iff.1 hnil] at this
      cases this
    · exact e
  refine ⟨hP.len, fun i t ht => ?_, by rw [hP.r3]; exact cn_all fun i hi => by rw [h7 i hi]; omega⟩
  have hlt : i < n + 1 := by rw [← hP.len]; exact (List.getElem?_eq_some_iff.1 ht).1
  rcases Nat.lt_or_ge i n with c | c
  · rw [hP.tk i c, h7 i c] at ht
    cases ht
    unfold howS wT
    simp [wtL]
  · obtain rfl : i = n := by omega
    rw [hP.tw] at ht
    cases ht
    have hd : (wkL cast i)[k]? = none := by rw [List.getElem?_eq_none_iff, wkL_len, hk]; omega
    unfold howS
    simp only [hd]
    simp
end Go.Proofs.YtdbhfeiibcpcaaaDoor.Sd

/-
  SchedConds. (gen_TeJ.py)
-/
namespace Go.Proofs.YtdbhfeiibcpcaaaDoor.Sd
open Go.RowKit
set_option linter.unusedVariables false
set_option linter.unusedSimpArgs false
set_option maxRecDepth 100000
theorem measW (n : Nat) : n + 1 - (intOf (Value.int .i64 1)).toNat < n + 1 - (intOf (Value.int .i64 0)).toNat := by simp only [intOf]; omega
theorem measV {n i : Nat} (h : i < n) : n + 1 - (intOf (Value.int .i64 ((i : Int) + 1))).toNat < n + 1 - (intOf (Value.int .i64 (i : Int))).toNat := by simp only [intOf]; omega
theorem conds_task {w wr : World} {a : Option Addr} {k c : Nat} {us : List Value} (h : Ts w.heap.size wr (.slice a k c) us (List.replicate k wtL)) (hb : Below w.heap.size w wr) (hk : k ≤ 100) :
    ∃ a' c' w', Hid ((Builtin.append_ #[22, 22] 22 #[.slice a k c, .slice (some ⟨wr.heap.size + 1, 0, none⟩) 1 1]).run Tryd.prog ((wr.alloc (.cells #[.int .i64 1, .int .i64 0, .int .i64 0, .int .i64 0, .int .i64 6, .int .i64 1, .int .i64 0, .int .i64 1, .int .i64 3, .int .i64 2, .int .i64 0, .int .i64 0, .int .i64 8, .int .i64 3, .int .i64 0, .int .i64 1, .int .i64 2, .int .i64 0, .int .i64 0, .int .i64 0] 47)).alloc (.cells #[.slice (some ⟨wr.heap.size, 0, none⟩) 5 5] 45)) = .ok (.slice a' (k + 1) c') w') ∧ Hid ((∃ us', Ts w.heap.size w' (.slice a' (k + 1) c') us' (List.replicate (k + 1) wtL)) ∧ Below w.heap.size w w') := by
  have b1 := box_below wr (.cells #[.int .i64 1, .int .i64 0, .int .i64 0, .int .i64 0, .int .i64 6, .int .i64 1, .int .i64 0, .int .i64 1, .int .i64 3, .int .i64 2, .int .i64 0, .int .i64 0, .int .i64 8, .int .i64 3, .int .i64 0, .int .i64 1, .int .i64 2, .int .i64 0, .int .i64 0, .int .i64 0] 47)
  have n1 := heap_alloc_new wr (.cells #[.int .i64 1, .int .i64 0, .int .i64 0, .int .i64 0, .int .i64 6, .int .i64 1, .int .i64 0, .int .i64 1, .int .i64 3, .int .i64 2, .int .i64 0, .int .i64 0, .int .i64 8, .int .i64 3, .int .i64 0, .int .i64 1, .int .i64 2, .int .i64 0, .int .i64 0, .int .i64 0] 47)
  have z1 : (wr.alloc (.cells #[.int .i64 1, .int .i64 0, .int .i64 0, .int .i64 0, .int .i64 6, .int .i64 1, .int .i64 0, .int .i64 1, .int .i64 3, .int .i64 2, .int .i64 0, .int .i64 0, .int .i64 8, .int .i64 3, .int .i64 0, .int .i64 1, .int .i64 2, .int .i64 0, .int .i64 0, .int .i64 0] 47)).heap.size = wr.heap.size + 1 := by simp
  obtain ⟨w1, hw1⟩ : ∃ w1, wr.alloc (.cells #[.int .i64 1, .int .i64 0, .int .i64 0, .int .i64 0, .int .i64 6, .int .i64 1, .int .i64 0, .int .i64 1, .int .i64 3, .int .i64 2, .int .i64 0, .int .i64 0, .int .i64 8, .int .i64 3, .int .i64 0, .int .i64 1, .int .i64 2, .int .i64 0, .int .i64 0, .int .i64 0] 47) = w1 := ⟨_, rfl⟩
  rw [hw1] at b1 n1 z1 ⊢
  have hx : Ar wr.heap.size w1 (.slice (some ⟨wr.heap.size, 0, none⟩) 5 5) wtL := ar_lit (l := wtL) n1 rfl (Nat.le_refl _) (by decide) rfl
  have hul : us.length ≤ 1000 := by rw [h.len, List.length_replicate]; omega
  obtain ⟨a', c', w', r, T, B⟩ := add_task h hb.size b1 rfl hx hul
  rw [← List.replicate_succ'] at T
  rw [z1] at r
  exact ⟨a', c', w', r, ⟨_, T⟩, hb.trans B⟩
theorem conds_run {w wr : World} (hT : Tb w) {cast : Bool} {n : Nat} {v : Value} {us : List Value} (h : Ts w.heap.size wr v us (cT cast n)) (hb : Below w.heap.size w wr) (h1 : 1 ≤ n) (h2 : n ≤ 15) {vp : Value} {picks : List Int} (hp : Row w vp (picks.map (Value.int .i64))) (hp1 : ∀ k ∈ picks, k ≤ 9223372036854775807) (hp2 : picks.length ≤ 65536) (hp3 : ∀ k ∈ picks, 0 ≤ k) :
    Calls Tryd.prog 15 #[v, .int .i64 16, vp, .int .i64 65536] wr fun e w' => ∃ ta tn tc gr rc ea ec qa qc, e = .returned (.tuple #[.agg #[.int .i64 ((tn : Nat) : Int), .slice ta tn tc, .slice (some ⟨gr, 0, none⟩) 8 rc, .slice ea (n + 1) ec, .slice qa 4 qc], .int .i64 0]) ∧ (8 ≤ rc ∧ n + 1 ≤ ec ∧ w'.cell? ⟨gr, 3, none⟩ = some (.int .i64 (n : Int)) ∧ ∀ i, i < n + 1 → ∃ g, ea = some ⟨g, 0, none⟩ ∧ w'.cell? ⟨g, i * 2, none⟩ = some (.int .i64 1)) ∧ Below w.heap.size w w' := by
  obtain ⟨S, hS⟩ : ∃ S, runS (cT cast n) 16 picks 65536 = S := ⟨_, rfl⟩
  obtain ⟨f1, f2, f3⟩ := conds_facts h1 h2 picks S hS
  refine (run_read wr (hT.below hb) v vp us (cT cast n) h.tks picks (Below.row hb hp) hp1 16 65536 (conds_ref cast h1 h2 hp2 hp3) S hS).mono ?_
  rintro e w' ⟨ta, tc, gr, rc, ea, ec, qv, rfl, ⟨qa, qc, rfl⟩, R, hb'⟩
  rw [f1]
  have r0 := R.rg.2 3 (by decide)
  rw [f3] at r0
  have hec := R.en.1
  rw [f1] at hec
  refine ⟨ta, _, tc, gr, rc, ea, ec, qa, qc, rfl, ⟨R.rg.1, hec, r0, fun i hi => ?_⟩, hb.trans (hb'.mono hb.size)⟩
  have ht : S.tk[i]? = some (S.tk[i]'(by rw [f1]; exact hi)) := List.getElem?_eq_getElem _
  obtain ⟨g, e, c0, -⟩ := R.en.2 i _ ht
  rw [f2 i _ ht] at c0
  exact ⟨g, e, c0⟩
set_option maxHeartbeats 8000000 in
theorem conds_walk (w : World) (hT : Tb w) (n : Int) (cast : Bool) (ao : Option Addr) (N cp : Nat) (picks : List Int) (hp : Row w (.slice ao N cp) (picks.map (Value.int .i64))) (hb : ∀ k ∈ picks, -9223372036854775808 ≤ k ∧ k ≤ 9223372036854775807) :
    Calls Tryd.prog 7 #[.int .i64 n, .bool cast, .slice ao N cp] w fun e w' => e = .returned (.bool true) ∧ Below w.heap.size w w' := by
  obtain ⟨hN, hcap, hcap2, hrd⟩ := picks_at hp
  by_cases hm : 1 ≤ n ∧ n ≤ 15 ∧ N ≤ 3000
  · obtain ⟨m1, m2, m5⟩ := hm
    obtain ⟨n, rfl⟩ := nat_of (show (0 : Int) ≤ n by omega)
    have m6 : (N : Int) ≤ 3000 := by omega
    have n1 : Hid (1 ≤ n) := by show _ ≤ _; omega
    have n15 : Hid (n ≤ 15) := by show _ ≤ _; omega
    have i6a : Hid ((0 : Int) < (n : Int)) := by show (0 : Int) < _; omega
    have HL : Hid (picks.length ≤ 65536) := by show _ ≤ _; omega
    have RD := hide hrd
    have HP := hide hp
    have HB := hide hb
    have T0 := hide hT
    have NN := hide hN
    clear hp hb hT hrd hN
    go_enter Tryd.func7, Tryd.ntmps7
    go_upto_region 3 with (go_at_call 9; refine (begun_any _ T0.out).mono ?_; rintro e u1 ⟨rfl, b1⟩; replace b1 := hide b1)
    go_upto_region 6 with fail
    go_loopw [7] (fun s7 wr => ∃ i : Nat, s7 = .int .i64 (i : Int) ∧ i ≤ N ∧ Hid (wr = u1 ∧ ∀ j k, j < i → picks[j]? = some k → 0 ≤ k)) (fun s7 wr => N - (intOf s7).toNat)
    case atStart => exact ⟨0, rfl, Nat.zero_le _, rfl, fun j k hj => by omega⟩
    case round =>
    obtain ⟨i, rfl, hiN, hst⟩ := hrel
    obtain ⟨e, hpos0⟩ := hst.out
    subst e
    have hpos := hide hpos0
    clear hst hpos0
    by_cases hlt : i < N
    · have i1 : (i : Int) < (N : Int) := by omega
      obtain ⟨k, hk⟩ : ∃ k, picks[i]? = some k := ⟨_, List.getElem?_eq_getElem (by rw [NN.out]; exact hlt)⟩
      obtain ⟨pb, po, rfl, hc⟩ := RD.out _ b1.out i k hk
      replace hk := hide hk
      by_cases hneg : k < 0
      · go_wp2_with fail
        go_ret
        exact ⟨rfl, b1.out⟩
      · go_wp2_with fail
        go_roundw
        case rel => exact ⟨i + 1, by go_num, hlt, trivial, fun j k' hj hk' => by
          by_cases c : j = i
          · subst c; rw [hk.out] at hk'; cases hk'; omega
          · exact hpos.out j k' (by omega) hk'⟩
        case measure => exact measN hlt
    · obtain rfl : i = N := by omega
      have i1 : ¬ (i : Int) < (i : Int) := by omega
      have POS := hide (nonneg_all NN.out hpos.out)
      clear hpos
      go_upto_region 12 with fail
      go_loopw [8, 9] (fun s8 s9 wr => ∃ k : Nat, s9 = .int .i64 (k : Int) ∧ k ≤ n ∧ Hid ((∃ us, Ts w.heap.size wr s8 us (List.replicate k wtL)) ∧ Below w.heap.size w wr)) (fun s8 s9 wr => n - (intOf s9).toNat)
      case atStart => exact ⟨0, rfl, Nat.zero_le _, ⟨[], Ts.nil _ _⟩, b1.out⟩
      case round =>
      rename_i v8 _
      obtain ⟨k, rfl, hkn, hst⟩ := hrel
      obtain ⟨us, hts⟩ := hst.out.1
      obtain ⟨a8, c8, e8, -⟩ := hts.form
      rw [List.length_replicate] at e8
      subst e8
      by_cases hlt : k < n
      · have i2 : (k : Int) < (n : Int) := Int.ofNat_lt.2 hlt
        obtain ⟨a9, c9, w9, r9, FIN⟩ := conds_task hts hst.out.2 (Nat.le_trans (Nat.le_of_lt hlt) (Nat.le_trans n15.out (by decide)))
        clear hst hts
        go_wp2_with (at_builtin; refine wpList_append_run rfl 22 (.tmp 45) (.tmp 52) rfl rfl rfl r9.out ?_)
        go_roundw
        case rel => exact ⟨k + 1, by go_num, hlt, FIN.out⟩
        case measure => exact measN hlt
      · have en : n = k := Nat.le_antisymm (Nat.not_lt.1 hlt) hkn
        subst en
        have i2 : ¬ (n : Int) < (n : Int) := Int.lt_irrefl _
        obtain ⟨u, hu⟩ : ∃ u, u = wr := ⟨_, rfl⟩
        subst hu
        have TSu := hide hts
        have HU := hide hst.out.2
        have HUL : Hid (us.length ≤ 1000) := by show _ ≤ _; rw [hts.len, List.length_replicate]; exact Nat.le_trans n15.out (by decide)
        clear hts hst
        go_upto_region 17 with fail
        go_loopw [10, 11] (fun s10 s11 wr => ∃ k : Nat, s11 = .int .i64 (k : Int) ∧ k ≤ n ∧ Hid (Ar u.heap.size wr s10 (List.replicate k ⟨7, 1, 0, 0⟩) ∧ Below u.heap.size u wr)) (fun s10 s11 wr => n - (intOf s11).toNat)
        case atStart => exact ⟨0, rfl, Nat.zero_le _, Ar.nil _ _, Below.refl _ _⟩
        case round =>
        rename_i v10 _
        obtain ⟨k, rfl, hkn2, hin⟩ := hrel
        obtain ⟨a10, c10, e10, -⟩ := own_form hin.out.1
        rw [List.length_replicate] at e10
        subst e10
        by_cases hlt3 : k < n
        · have i3 : (k : Int) < (n : Int) := Int.ofNat_lt.2 hlt3
          obtain ⟨a9, c9, w9, r9, A9, B9⟩ := app_step hin.out.1 hin.out.2.size [⟨7, 1, 0, 0⟩] #[.int .i64 7, .int .i64 1, .int .i64 0, .int .i64 0] rfl 1 rfl (by simp) (by rw [List.length_replicate]; exact Nat.le_trans (Nat.le_of_lt hlt3) (Nat.le_trans n15.out (by decide)))
          rw [← List.replicate_succ'] at A9
          have FIN : Hid (Ar u.heap.size w9 (.slice a9 (k + 1) c9) (List.replicate (k + 1) ⟨7, 1, 0, 0⟩) ∧ Below u.heap.size u w9) := ⟨A9, hin.out.2.trans B9⟩
          clear A9 B9 hin
          go_wp2_with (at_builtin; refine wpList_append_run rfl 45 (.tmp 59) (.tmp 61) rfl rfl rfl r9.out ?_)
          go_roundw
          case rel => exact ⟨k + 1, by go_num, hlt3, FIN.out⟩
          case measure => exact measN hlt3
        · have en2 : n = k := Nat.le_antisymm (Nat.not_lt.1 hlt3) hkn2
          subst en2
          obtain ⟨a20, c20, w20, r20, A20, B20⟩ := app_step hin.out.1 hin.out.2.size [⟨1, 0, 0, 0⟩] #[.int .i64 1, .int .i64 0, .int .i64 0, .int .i64 0] rfl 1 rfl (by simp) (by rw [List.length_replicate]; exact Nat.le_trans n15.out (by decide))
          have B20' := hin.out.2.trans B20
          obtain ⟨LL, hLL⟩ : ∃ LL, Hid (List.replicate n (⟨7, 1, 0, 0⟩ : Ac) ++ [(⟨1, 0, 0, 0⟩ : Ac)] = LL) := ⟨_, rfl⟩
          rw [hLL.out] at A20
          have LLL : Hid (LL.length = n + 1) := by show _ = _; rw [← hLL.out]; simp
          have AB20 : Hid (Ar u.heap.size w20 (.slice a20 (n + 1) c20) LL ∧ Below u.heap.size u w20) := ⟨A20, B20'⟩
          clear A20 B20 B20' hin
          go_upto_region 22 with (at_builtin; refine wpList_append_run rfl 45 (.tmp 63) (.tmp 65) rfl rfl rfl r20.out ?_)
          clear r20
          go_loopw [10, 12] (fun s10 s12 wr => ∃ j : Nat, s12 = .int .i64 (j : Int) ∧ j ≤ ww cast n ∧ Hid (Ar u.heap.size wr s10 (LL ++ List.replicate j (wkA cast)) ∧ Below u.heap.size u wr)) (fun s10 s12 wr => (n + 1) - (intOf s12).toNat)
          case atStart => exact ⟨0, rfl, Nat.zero_le _, by simpa using AB20.out.1, AB20.out.2⟩
          case round =>
          rename_i v10 _
          obtain ⟨j, rfl, hjw, hin⟩ := hrel
          obtain ⟨a10, c10, e10, -⟩ := own_form hin.out.1
          obtain ⟨K, hK⟩ : ∃ K, Hid ((LL ++ List.replicate j (wkA cast)).length = K) := ⟨_, rfl⟩
          rw [hK.out] at e10
          subst e10
          clear AB20
          have HLL : Hid ((LL ++ List.replicate j (wkA cast)).length ≤ 1000000) := by
            show _ ≤ _
            have hw : ww cast n ≤ 15 := by have := n15.out; unfold ww; split <;> omega
            rw [List.length_append, LLL.out, List.length_replicate]
            have := n15.out
            omega
          cases cast with
          | true =>
            rcases Nat.lt_or_ge j 1 with hj | hj
            · obtain rfl : j = 0 := by omega
              have i6 : (0 : Int) < (n : Int) := i6a.out
              obtain ⟨a25, c25, w25, r25, A25, B25⟩ := app_step hin.out.1 hin.out.2.size [⟨5, 2, 0, 0⟩] #[.int .i64 5, .int .i64 2, .int .i64 0, .int .i64 0] rfl 1 rfl (by simp) HLL.out
              have FIN : Hid (Ar u.heap.size w25 (.slice a25 (K + 1) c25) (LL ++ List.replicate (0 + 1) (wkA true)) ∧ Below u.heap.size u w25) := ⟨by
                rw [List.replicate_succ', ← List.append_assoc]; exact A25, hin.out.2.trans B25⟩
              clear A25 B25 hin
              go_wp2_with (at_builtin; refine wpList_append_run rfl 45 (.tmp 81) (.tmp 83) rfl rfl rfl r25.out ?_)
              go_roundw
              case rel => exact ⟨1, by go_num, by simp [ww], FIN.out⟩
              case measure => exact measW n
            · obtain rfl : j = 1 := by
                have : ww true n = 1 := rfl
                omega
              by_cases hn2 : n = 1
              · have i6 : ¬ (1 : Int) < (n : Int) := by omega
                replace hn2 := hide hn2
                have EQL : Hid (List.replicate n wtL ++ [LL ++ List.replicate 1 (wkA true) ++ [(⟨2, 0, 0, 0⟩ : Ac)]] = cT true n) := by
                  show _ = _
                  rw [← hLL.out]
                  unfold cT wkL ww
                  simp
                obtain ⟨a27, c27, w27, r27, A27, B27⟩ := app_step hin.out.1 hin.out.2.size [⟨2, 0, 0, 0⟩] #[.int .i64 2, .int .i64 0, .int .i64 0, .int .i64 0] rfl 1 rfl (by simp) HLL.out
                have B27' := hin.out.2.trans B27
                obtain ⟨a28, c28, w28, r28, T28, B28⟩ := add_task TSu.out HU.out.size B27' (x := .slice a27 (K + 1) c27) rfl A27 HUL.out
                have RUN := hide (conds_run (cast := true) T0.out (show Ts w.heap.size w28 _ _ (cT true n) from by rw [← EQL.out]; exact T28) (HU.out.trans B28) n1.out n15.out HP.out (fun q hq => (HB.out q hq).2) HL.out POS.out)
                clear T28 A27 B27 B28 hin
                go_upto_region 28 with (at_builtin; refine wpList_append_run rfl 45 (.tmp 89) (.tmp 91) rfl rfl rfl r27.out ?_)
                go_upto_region 29 with (first | (at_builtin; refine wpList_append_run rfl 22 (.tmp 94) (.tmp 96) rfl rfl rfl r28.out ?_) | (go_at_call 15; refine RUN.out.mono ?_; rintro e w5 ⟨ta, tn, tc, gr, rc, ea, ec, qa, qc, rfl, FS, b5⟩; replace b5 := hide b5; replace FS := hide FS) | fail)
                have bb := box_below w5 (.cells #[.int .i64 (tn : Int), .slice ta tn tc, .slice (some ⟨gr, 0, none⟩) 8 rc, .slice ea (n + 1) ec, .slice qa 4 qc] 33)
                have nb := heap_alloc_new w5 (.cells #[.int .i64 (tn : Int), .slice ta tn tc, .slice (some ⟨gr, 0, none⟩) 8 rc, .slice ea (n + 1) ec, .slice qa 4 qc] 33)
                have B6 := hide (b5.out.trans (bb.mono b5.out.size))
                have hrc : (8 : Int) ≤ (rc : Int) := Int.ofNat_le.2 FS.out.1
                have hec := hide FS.out.2.1
                have r3 := (bb.cell (lt_of_cell FS.out.2.2.1)).trans FS.out.2.2.1
                have EN : Hid (∀ i, i < n + 1 → ∃ g, ea = some ⟨g, 0, none⟩ ∧ (w5.alloc (.cells #[.int .i64 (tn : Int), .slice ta tn tc, .slice (some ⟨gr, 0, none⟩) 8 rc, .slice ea (n + 1) ec, .slice qa 4 qc] 33)).cell? ⟨g, i * 2, none⟩ = some (.int .i64 1)) := fun i hi => by
                  obtain ⟨g, e, c⟩ := FS.out.2.2.2 i hi
                  exact ⟨g, e, (bb.cell (lt_of_cell c)).trans c⟩
                clear RUN b5 bb FS r27 r28
                generalize w5.alloc (.cells #[.int .i64 (tn : Int), .slice ta tn tc, .slice (some ⟨gr, 0, none⟩) 8 rc, .slice ea (n + 1) ec, .slice qa 4 qc] 33) = w6 at *
                generalize w5.heap.size = pb at *
                have x2 : w6.cell? ⟨pb, 2, none⟩ = some (.slice (some ⟨gr, 0, none⟩) 8 rc) := by rw [cell_of nb]; rfl
                have x3 : w6.cell? ⟨pb, 3, none⟩ = some (.slice ea (n + 1) ec) := by rw [cell_of nb]; rfl
                clear nb
                go_upto_region 32 with fail
                clear r3 x2 hrc
                go_loopw [15] (fun s15 wr => ∃ i : Nat, s15 = .int .i64 (i : Int) ∧ i ≤ n + 1 ∧ Hid (wr = w6)) (fun s15 wr => (n + 1) - (intOf s15).toNat)
                case atStart => exact ⟨0, rfl, Nat.zero_le _, rfl⟩
                case round =>
                obtain ⟨j, rfl, hjk, hst⟩ := hrel
                have e := hst.out
                subst e
                clear hst
                by_cases hlt9 : j < n + 1
                · have i3 : (j : Int) ≤ (n : Int) := Int.ofNat_le.2 (Nat.le_of_lt_succ hlt9)
                  have i4 : (j : Int) < (ec : Int) := Int.ofNat_lt.2 (Nat.lt_of_lt_of_le hlt9 hec.out)
                  have i5 : (j : Int) < ((n + 1 : Nat) : Int) := Int.ofNat_lt.2 hlt9
                  obtain ⟨ge, rfl, c0⟩ := EN.out j hlt9
                  go_wp2_with fail
                  go_roundw
                  case rel => exact ⟨j + 1, by go_num, hlt9, trivial⟩
                  case measure => exact measN hlt9
                · have ek : j = n + 1 := Nat.le_antisymm hjk (Nat.not_lt.1 hlt9)
                  subst ek
                  have i3 : ¬ ((n + 1 : Nat) : Int) ≤ (n : Int) := by omega
                  go_wp2_with fail
                  go_ret
                  exact ⟨rfl, B6.out⟩
              · have i6 : (1 : Int) < (n : Int) := by have := n1.out; omega
                have EQL : Hid (List.replicate n wtL ++ [LL ++ List.replicate 1 (wkA true) ++ [(⟨2, 0, 0, 0⟩ : Ac)]] = cT true n) := by
                  show _ = _
                  rw [← hLL.out]
                  unfold cT wkL ww
                  simp
                obtain ⟨a27, c27, w27, r27, A27, B27⟩ := app_step hin.out.1 hin.out.2.size [⟨2, 0, 0, 0⟩] #[.int .i64 2, .int .i64 0, .int .i64 0, .int .i64 0] rfl 1 rfl (by simp) HLL.out
                have B27' := hin.out.2.trans B27
                obtain ⟨a28, c28, w28, r28, T28, B28⟩ := add_task TSu.out HU.out.size B27' (x := .slice a27 (K + 1) c27) rfl A27 HUL.out
                have RUN := hide (conds_run (cast := true) T0.out (show Ts w.heap.size w28 _ _ (cT true n) from by rw [← EQL.out]; exact T28) (HU.out.trans B28) n1.out n15.out HP.out (fun q hq => (HB.out q hq).2) HL.out POS.out)
                clear T28 A27 B27 B28 hin
                go_upto_region 28 with (at_builtin; refine wpList_append_run rfl 45 (.tmp 89) (.tmp 91) rfl rfl rfl r27.out ?_)
                go_upto_region 29 with (first | (at_builtin; refine wpList_append_run rfl 22 (.tmp 94) (.tmp 96) rfl rfl rfl r28.out ?_) | (go_at_call 15; refine RUN.out.mono ?_; rintro e w5 ⟨ta, tn, tc, gr, rc, ea, ec, qa, qc, rfl, FS, b5⟩; replace b5 := hide b5; replace FS := hide FS) | fail)
                have bb := box_below w5 (.cells #[.int .i64 (tn : Int), .slice ta tn tc, .slice (some ⟨gr, 0, none⟩) 8 rc, .slice ea (n + 1) ec, .slice qa 4 qc] 33)
                have nb := heap_alloc_new w5 (.cells #[.int .i64 (tn : Int), .slice ta tn tc, .slice (some ⟨gr, 0, none⟩) 8 rc, .slice ea (n + 1) ec, .slice qa 4 qc] 33)
                have B6 := hide (b5.out.trans (bb.mono b5.out.size))
                have hrc : (8 : Int) ≤ (rc : Int) := Int.ofNat_le.2 FS.out.1
                have hec := hide FS.out.2.1
                have r3 := (bb.cell (lt_of_cell FS.out.2.2.1)).trans FS.out.2.2.1
                have EN : Hid (∀ i, i < n + 1 → ∃ g, ea = some ⟨g, 0, none⟩ ∧ (w5.alloc (.cells #[.int .i64 (tn : Int), .slice ta tn tc, .slice (some ⟨gr, 0, none⟩) 8 rc, .slice ea (n + 1) ec, .slice qa 4 qc] 33)).cell? ⟨g, i * 2, none⟩ = some (.int .i64 1)) := fun i hi => by
                  obtain ⟨g, e, c⟩ := FS.out.2.2.2 i hi
                  exact ⟨g, e, (bb.cell (lt_of_cell c)).trans c⟩
                clear RUN b5 bb FS r27 r28
                generalize w5.alloc (.cells #[.int .i64 (tn : Int), .slice ta tn tc, .slice (some ⟨gr, 0, none⟩) 8 rc, .slice ea (n + 1) ec, .slice qa 4 qc] 33) = w6 at *
                generalize w5.heap.size = pb at *
                have x2 : w6.cell? ⟨pb, 2, none⟩ = some (.slice (some ⟨gr, 0, none⟩) 8 rc) := by rw [cell_of nb]; rfl
                have x3 : w6.cell? ⟨pb, 3, none⟩ = some (.slice ea (n + 1) ec) := by rw [cell_of nb]; rfl
                clear nb
                go_upto_region 32 with fail
                clear r3 x2 hrc
                go_loopw [15] (fun s15 wr => ∃ i : Nat, s15 = .int .i64 (i : Int) ∧ i ≤ n + 1 ∧ Hid (wr = w6)) (fun s15 wr => (n + 1) - (intOf s15).toNat)
                case atStart => exact ⟨0, rfl, Nat.zero_le _, rfl⟩
                case round =>
                obtain ⟨j, rfl, hjk, hst⟩ := hrel
                have e := hst.out
                subst e
                clear hst
                by_cases hlt9 : j < n + 1
                · have i3 : (j : Int) ≤ (n : Int) := Int.ofNat_le.2 (Nat.le_of_lt_succ hlt9)
                  have i4 : (j : Int) < (ec : Int) := Int.ofNat_lt.2 (Nat.lt_of_lt_of_le hlt9 hec.out)
                  have i5 : (j : Int) < ((n + 1 : Nat) : Int) := Int.ofNat_lt.2 hlt9
                  obtain ⟨ge, rfl, c0⟩ := EN.out j hlt9
                  go_wp2_with fail
                  go_roundw
                  case rel => exact ⟨j + 1, by go_num, hlt9, trivial⟩
                  case measure => exact measN hlt9
                · have ek : j = n + 1 := Nat.le_antisymm hjk (Nat.not_lt.1 hlt9)
                  subst ek
                  have i3 : ¬ ((n + 1 : Nat) : Int) ≤ (n : Int) := by omega
                  go_wp2_with fail
                  go_ret
                  exact ⟨rfl, B6.out⟩
          | false =>
            have hwf : ww false n = n := rfl
            rcases Nat.lt_or_ge j n with hj | hj
            · have i6 : (j : Int) < (n : Int) := Int.ofNat_lt.2 hj
              by_cases hj0 : j = 0
              · subst hj0
                obtain ⟨a25, c25, w25, r25, A25, B25⟩ := app_step hin.out.1 hin.out.2.size [⟨4, 2, 0, 0⟩] #[.int .i64 4, .int .i64 2, .int .i64 0, .int .i64 0] rfl 1 rfl (by simp) HLL.out
                have FIN : Hid (Ar u.heap.size w25 (.slice a25 (K + 1) c25) (LL ++ List.replicate (0 + 1) (wkA false)) ∧ Below u.heap.size u w25) := ⟨by
                  rw [List.replicate_succ', ← List.append_assoc]; exact A25, hin.out.2.trans B25⟩
                clear A25 B25 hin
                go_wp2_with (at_builtin; refine wpList_append_run rfl 45 (.tmp 85) (.tmp 87) rfl rfl rfl r25.out ?_)
                go_roundw
                case rel => exact ⟨1, by go_num, by rw [hwf]; exact hj, FIN.out⟩
                case measure => exact measW n
              · have i7 : ((j : Int) == 0) = false := by simp; omega
                obtain ⟨a25, c25, w25, r25, A25, B25⟩ := app_step hin.out.1 hin.out.2.size [⟨4, 2, 0, 0⟩] #[.int .i64 4, .int .i64 2, .int .i64 0, .int .i64 0] rfl 1 rfl (by simp) HLL.out
                have FIN : Hid (Ar u.heap.size w25 (.slice a25 (K + 1) c25) (LL ++ List.replicate (j + 1) (wkA false)) ∧ Below u.heap.size u w25) := ⟨by
                  rw [List.replicate_succ', ← List.append_assoc]; exact A25, hin.out.2.trans B25⟩
                clear A25 B25 hin
                go_wp2_with (at_builtin; refine wpList_append_run rfl 45 (.tmp 85) (.tmp 87) rfl rfl rfl r25.out ?_)
                go_roundw
                case rel => exact ⟨j + 1, by go_num, by rw [hwf]; exact hj, FIN.out⟩
                case measure => exact measV hj
            · have en : n = j := by omega
              subst en
              have i6 : ¬ (n : Int) < (n : Int) := Int.lt_irrefl _
              have EQL : Hid (List.replicate n wtL ++ [LL ++ List.replicate n (wkA false) ++ [(⟨2, 0, 0, 0⟩ : Ac)]] = cT false n) := by
                show _ = _
                rw [← hLL.out]
                unfold cT wkL ww
                simp
              obtain ⟨a27, c27, w27, r27, A27, B27⟩ := app_step hin.out.1 hin.out.2.size [⟨2, 0, 0, 0⟩] #[.int .i64 2, .int .i64 0, .int .i64 0, .int .i64 0] rfl 1 rfl (by simp) HLL.out
              have B27' := hin.out.2.trans B27
              obtain ⟨a28, c28, w28, r28, T28, B28⟩ := add_task TSu.out HU.out.size B27' (x := .slice a27 (K + 1) c27) rfl A27 HUL.out
              have RUN := hide (conds_run (cast := false) T0.out (show Ts w.heap.size w28 _ _ (cT false n) from by rw [← EQL.out]; exact T28) (HU.out.trans B28) n1.out n15.out HP.out (fun q hq => (HB.out q hq).2) HL.out POS.out)
              clear T28 A27 B27 B28 hin
              go_upto_region 28 with (at_builtin; refine wpList_append_run rfl 45 (.tmp 89) (.tmp 91) rfl rfl rfl r27.out ?_)
              go_upto_region 29 with (first | (at_builtin; refine wpList_append_run rfl 22 (.tmp 94) (.tmp 96) rfl rfl rfl r28.out ?_) | (go_at_call 15; refine RUN.out.mono ?_; rintro e w5 ⟨ta, tn, tc, gr, rc, ea, ec, qa, qc, rfl, FS, b5⟩; replace b5 := hide b5; replace FS := hide FS) | fail)
              have bb := box_below w5 (.cells #[.int .i64 (tn : Int), .slice ta tn tc, .slice (some ⟨gr, 0, none⟩) 8 rc, .slice ea (n + 1) ec, .slice qa 4 qc] 33)
              have nb := heap_alloc_new w5 (.cells #[.int .i64 (tn : Int), .slice ta tn tc, .slice (some ⟨gr, 0, none⟩) 8 rc, .slice ea (n + 1) ec, .slice qa 4 qc] 33)
              have B6 := hide (b5.out.trans (bb.mono b5.out.size))
              have hrc : (8 : Int) ≤ (rc : Int) := Int.ofNat_le.2 FS.out.1
              have hec := hide FS.out.2.1
              have r3 := (bb.cell (lt_of_cell FS.out.2.2.1)).trans FS.out.2.2.1
              have EN : Hid (∀ i, i < n + 1 → ∃ g, ea = some ⟨g, 0, none⟩ ∧ (w5.alloc (.cells #[.int .i64 (tn : Int), .slice ta tn tc, .slice (some ⟨gr, 0, none⟩) 8 rc, .slice ea (n + 1) ec, .slice qa 4 qc] 33)).cell? ⟨g, i * 2, none⟩ = some (.int .i64 1)) := fun i hi => by
                obtain ⟨g, e, c⟩ := FS.out.2.2.2 i hi
                exact ⟨g, e, (bb.cell (lt_of_cell c)).trans c⟩
              clear RUN b5 bb FS r27 r28
              generalize w5.alloc (.cells #[.int .i64 (tn : Int), .slice ta tn tc, .slice (some ⟨gr, 0, none⟩) 8 rc, .slice ea (n + 1) ec, .slice qa 4 qc] 33) = w6 at *
              generalize w5.heap.size = pb at *
              have x2 : w6.cell? ⟨pb, 2, none⟩ = some (.slice (some ⟨gr, 0, none⟩) 8 rc) := by rw [cell_of nb]; rfl
              have x3 : w6.cell? ⟨pb, 3, none⟩ = some (.slice ea (n + 1) ec) := by rw [cell_of nb]; rfl
              clear nb
              go_upto_region 32 with fail
              clear r3 x2 hrc
              go_loopw [15] (fun s15 wr => ∃ i : Nat, s15 = .int .i64 (i : Int) ∧ i ≤ n + 1 ∧ Hid (wr = w6)) (fun s15 wr => (n + 1) - (intOf s15).toNat)
              case atStart => exact ⟨0, rfl, Nat.zero_le _, rfl⟩
              case round =>
              obtain ⟨j, rfl, hjk, hst⟩ := hrel
              have e := hst.out
              subst e
              clear hst
              by_cases hlt9 : j < n + 1
              · have i3 : (j : Int) ≤ (n : Int) := Int.ofNat_le.2 (Nat.le_of_lt_succ hlt9)
                have i4 : (j : Int) < (ec : Int) := Int.ofNat_lt.2 (Nat.lt_of_lt_of_le hlt9 hec.out)
                have i5 : (j : Int) < ((n + 1 : Nat) : Int) := Int.ofNat_lt.2 hlt9
                obtain ⟨ge, rfl, c0⟩ := EN.out j hlt9
                go_wp2_with fail
                go_roundw
                case rel => exact ⟨j + 1, by go_num, hlt9, trivial⟩
                case measure => exact measN hlt9
              · have ek : j = n + 1 := Nat.le_antisymm hjk (Nat.not_lt.1 hlt9)
                subst ek
                have i3 : ¬ ((n + 1 : Nat) : Int) ≤ (n : Int) := by omega
                go_wp2_with fail
                go_ret
                exact ⟨rfl, B6.out⟩
  · have T0 := hide hT
    clear hp hb hT hrd
    go_enter Tryd.func7, Tryd.ntmps7
    go_upto_region 3 with (go_at_call 9; refine (begun_any _ T0.out).mono ?_; rintro e u1 ⟨rfl, b1⟩; replace b1 := hide b1)
    go_upto_region 6 with fail
    all_goals first
      | (go_ret; exact ⟨rfl, b1.out⟩)
      | (exfalso; omega)
end Go.Proofs.YtdbhfeiibcpcaaaDoor.Sd

/-
  What the listed table of sched holds.
-/
namespace Go.Proofs.YtdbhfeiibcpcaaaDoor.Sd
open Go.RowKit
set_option maxRecDepth 100000
theorem vars_read {P : Program} {w : World} {n : String} {d : DataW Unit} : ∀ {l : List (String × DataW Unit)} {ps : List MemPlace}, DataW.LaidVars P w l ps → (n, d) ∈ l →
    ∃ g t cs fuel p, P.globalNamed n = some g ∧ (P.globals[g]?).map (·.type) = some t ∧ w.var? P n = some cs ∧ DataW.trod (fun _ => ()) P w 0 (fun _ => true) false fuel t cs.toList = some (d, p) := by
  intro l
  induction l with
  | nil => intro _ _ hm; cases hm
  | cons x r ih =>
    intro ps h hm
    obtain ⟨g, t, cs, fuel, p, q, h1, h2, h3, h4, h5, _⟩ := h
    rcases List.mem_cons.1 hm with e | e
    · subst e; exact ⟨g, t, cs, fuel, p, h1, h2, h3, h4⟩
    · exact ih h5 e
def reachL : List (Int × Int) := [(0, 0), (4, 1), (4, 1), (4, 4), (4, 1), (4, 1), (4, 1), (4, 8), (8, 1), (8, 8), (8, 1), (1, 1), (1, 1), (1, 1)]
theorem laid_list : (Rows.laid_flume_sched_reaches : DataW Unit) = .agg (reachL.map fun x => .agg [.lit (.int .i64 x.1), .lit (.int .i64 x.2)]) := by rfl
theorem reach_fn : ∀ k : Fin 14, 1 ≤ k.val → reachL[k.val]? = some (ra k.val, rb' k.val) := by decide
theorem tb_of {l : List (String × DataW Unit)} {W : World} (h : laidMet Tryd.prog l W) (hm : ("flume/sched.reaches", Rows.laid_flume_sched_reaches) ∈ l) : Tb W := by
  obtain ⟨ps, hv, _⟩ := h
  obtain ⟨g, t, cs, fuel, p, h1, h2, h3, h4⟩ := vars_read hv hm
  obtain rfl := Option.some.inj ((show Tryd.prog.globalNamed "flume/sched.reaches" = some 0 by kernel_rfl).symm.trans h1)
  obtain rfl := Option.some.inj ((show (Tryd.prog.globals[0]?).map (·.type) = some 80 by kernel_rfl).symm.trans h2)
  obtain ⟨xs, m, _, ex, _, hl, hel⟩ := DataW.trod_array Tryd.underlying80 h4
  have c2 : Tryd.prog.cellsOf 79 = 2 := by kernel_rfl
  have c1 : Tryd.prog.cellsOf 3 = 1 := by kernel_rfl
  rw [laid_list] at ex
  have e3 := (DataW.agg.inj (Prod.mk.inj ex).1).symm
  intro k k1 k2
  have hE := hel k (by omega)
  rw [c2, List.getElem?_eq_getElem (by omega)] at hE
  have hr := reach_fn ⟨k, by omega⟩ k1
  simp only at hr
  have e4 : (xs.map (·.1))[k]? = some (.agg [.lit (.int .i64 (ra k)), .lit (.int .i64 (rb' k))]) := by
    rw [e3, List.getElem?_map, hr]; rfl
  rw [List.getElem?_map, List.getElem?_eq_getElem (by omega)] at e4
  simp only [Option.map_some, Option.some.injEq] at e4
  obtain ⟨y0, y1, n, ex2, _, g0, g1⟩ := Go.ChangeShapes.trod_struct2 Tryd.underlying79 hE
  simp only [c1] at g0 g1
  obtain ⟨z0, a1, a2, _⟩ := DataW.trod_int Tryd.underlying3 g0
  obtain ⟨z1, b1, b2, _⟩ := DataW.trod_int Tryd.underlying3 g1
  rw [ex2, a2, b2] at e4
  simp only [DataW.agg.injEq, List.cons.injEq, DataW.lit.injEq, Lit.int.injEq, true_and, and_true] at e4
  obtain ⟨r1, r2⟩ := e4
  refine ⟨?_, ?_⟩
  · rw [World.var?_cell h1 h3 (k * 2), ← r1]
    have h0 : ((((cs.toList.drop (k * 2)).take 2).drop 0).take 1)[0]? = some (.int .i64 z0) := by rw [a1]; rfl
    simpa using h0
  · rw [World.var?_cell h1 h3 (k * 2 + 1), ← r2]
    have h0 : ((((cs.toList.drop (k * 2)).take 2).drop 1).take 1)[0]? = some (.int .i64 z1) := by rw [b1]; rfl
    simpa using h0
end Go.Proofs.YtdbhfeiibcpcaaaDoor.Sd

