/-
  Guards and panics, by data.
-/
import Derived.Test.YtdbhfeiibcpcaaaDoorG04
import Derived.Test.YtdbhfeiibcpcaaaDoorG01
import Derived.Laws.StructEq
import Derived.BigQuiet
import Derived.Test.YtdbhfeiibcpcaaaDoorG03
import Derived.Test.YtdbhfeiibcpcaaaDoorRows
import Derived.OpenShut
import Derived.ChangeArms
import Derived.ChangeSame
import Derived.FnData
import Derived.JoinedTies
namespace Go.Proofs.YtdbhfeiibcpcaaaDoor.Sd
open Go.RowKit
set_option linter.unusedVariables false
set_option linter.unusedSimpArgs false
set_option maxRecDepth 100000
/-- As play_end, where it is known who goes. -/
theorem play_end2 (P : St → Prop) (μ : St → Nat) (picks : List Int) (h : ∀ S, P S → rdy S ≠ [] → P (turnS S (pickN (rdy S) S.tr.length picks (lastS S))) ∧ μ (turnS S (pickN (rdy S) S.tr.length picks (lastS S))) < μ S) : ∀ f S, P S → μ S ≤ f → P (playS picks f S) ∧ rdy (playS picks f S) = [] := by
  intro f
  induction f with
  | zero =>
    intro S hP hm
    refine ⟨hP, ?_⟩
    show rdy S = []
    by_cases hr : rdy S = []
    · exact hr
    · have := (h S hP hr).2
      omega
  | succ f ih =>
    intro S hP hm
    show P (if rdy S = [] then S else playS picks f (turnS S (pickN (rdy S) S.tr.length picks (lastS S)))) ∧ rdy (if rdy S = [] then S else playS picks f (turnS S (pickN (rdy S) S.tr.length picks (lastS S)))) = []
    by_cases hr : rdy S = []
    · rw [if_pos hr]; exact ⟨hP, hr⟩
    · rw [if_neg hr]
      obtain ⟨h1, h2⟩ := h S hP hr
      exact ih _ h1 (by omega)
def gA (g : Bool) (i : Nat) : Ac := if g = true then ⟨13, 0, 0, (i : Int) * 2 + 3⟩ else ⟨11, 0, 0, 0⟩
def gI (g : Bool) (ns : List Int) : Nat → List Ac
  | 0 => [⟨1, 1, 0, 0⟩]
  | i + 1 => gI g ns i ++ [gA g i, ⟨12, 0, 0, ns.getD i 0⟩]
theorem gI_len (g : Bool) (ns : List Int) (i : Nat) : (gI g ns i).length = 2 * i + 1 := by
  induction i with
  | zero => rfl
  | succ i ih =>
    show (gI g ns i ++ _).length = _
    rw [List.length_append, ih]
    simp; omega
theorem gI_get (g : Bool) (ns : List Int) (m : List Ac) {i j : Nat} (h : j < i) : (gI g ns i ++ m)[2 * j + 1]? = some (gA g j) ∧ (gI g ns i ++ m)[2 * j + 2]? = some ⟨12, 0, 0, ns.getD j 0⟩ := by
  induction i generalizing m with
  | zero => omega
  | succ i ih =>
    have e : gI g ns (i + 1) ++ m = gI g ns i ++ ([gA g i, ⟨12, 0, 0, ns.getD i 0⟩] ++ m) := by show gI g ns i ++ _ ++ m = _; rw [List.append_assoc]
    rw [e]
    by_cases hj : j < i
    · exact ih _ hj
    · obtain rfl : j = i := by omega
      have hl := gI_len g ns j
      refine ⟨?_, ?_⟩
      · rw [List.getElem?_append_right (by omega), hl, show 2 * j + 1 - (2 * j + 1) = 0 by omega]; rfl
      · rw [List.getElem?_append_right (by omega), hl, show 2 * j + 2 - (2 * j + 1) = 1 by omega]; rfl
theorem gI_zero (g : Bool) (ns : List Int) (m : List Ac) (i : Nat) : (gI g ns i ++ m)[0]? = some ⟨1, 1, 0, 0⟩ := by
  induction i generalizing m with
  | zero => rfl
  | succ i ih =>
    have e : gI g ns (i + 1) ++ m = gI g ns i ++ ([gA g i, ⟨12, 0, 0, ns.getD i 0⟩] ++ m) := by show gI g ns i ++ _ ++ m = _; rw [List.append_assoc]
    rw [e]; exact ih _
theorem gI_mem (g : Bool) (ns : List Int) {i : Nat} {a : Ac} (h : a ∈ gI g ns i) : a = ⟨1, 1, 0, 0⟩ ∨ ∃ j, j < i ∧ (a = gA g j ∨ a = ⟨12, 0, 0, ns.getD j 0⟩) := by
  induction i with
  | zero => exact .inl (by simpa [gI] using h)
  | succ i ih =>
    have h' : a ∈ gI g ns i ++ [gA g i, ⟨12, 0, 0, ns.getD i 0⟩] := h
    rcases List.mem_append.1 h' with c | c
    · rcases ih c with d | ⟨j, hj, d⟩
      · exact .inl d
      · exact .inr ⟨j, by omega, d⟩
    · simp only [List.mem_cons, List.not_mem_nil, or_false] at c
      exact .inr ⟨i, by omega, c⟩
def gL (g : Bool) (ns : List Int) : List Ac := gI g ns ns.length ++ [⟨2, 1, 0, 0⟩]
theorem gL_zero (g : Bool) (ns : List Int) : (gL g ns)[0]? = some ⟨1, 1, 0, 0⟩ := gI_zero _ _ _ _
def gT (g : Bool) (ns : List Int) : List (List Ac) := [gL g ns, [⟨1, 1, 0, 0⟩]]
theorem gL_len (g : Bool) (ns : List Int) : (gL g ns).length = 2 * ns.length + 2 := by unfold gL; rw [List.length_append, gI_len]; rfl
theorem gL_last (g : Bool) (ns : List Int) : (gL g ns)[2 * ns.length + 1]? = some ⟨2, 1, 0, 0⟩ := by
  unfold gL
  rw [List.getElem?_append_right (by rw [gI_len]; omega), gI_len, show 2 * ns.length + 1 - (2 * ns.length + 1) = 0 by omega]
  rfl
theorem guards_ref (g : Bool) {ns : List Int} (h : ns.length ≤ 60) : refE (gT g ns) (1 : Nat) (List.replicate 200 0) (400 : Nat) = 0 := by
  refine refE_zero (by simp [gT]) (fun l hl => ?_) (Nat.le_refl _) (by omega) (by simp) (fun k hk => by simp at hk; omega) (by omega)
  unfold gT at hl
  simp only [List.mem_cons, List.not_mem_nil, or_false] at hl
  rcases hl with rfl | rfl
  · rw [gL_len]
    refine ⟨by omega, fun a ha => ?_⟩
    unfold gL at ha
    rcases List.mem_append.1 ha with c | c
    · rcases gI_mem g ns c with rfl | ⟨j, hj, rfl | rfl⟩
      · exact ⟨by simp, by simp, by simp, by simp [ra], by simp, by simp [rb'], by simp [nOk]⟩
      · unfold gA
        split
        · exact ⟨by simp, by simp, by simp, by simp [ra], by simp, by simp [rb'], by simp [nOk]; omega⟩
        · exact ⟨by simp, by simp, by simp, by simp [ra], by simp, by simp [rb'], by simp [nOk]⟩
      · exact ⟨by simp, by simp, by simp, by simp [ra], by simp, by simp [rb'], by simp [nOk]⟩
    · simp only [List.mem_cons, List.not_mem_nil, or_false] at c
      subst c
      exact ⟨by simp, by simp, by simp, by simp [ra], by simp, by simp [rb'], by simp [nOk]⟩
  · refine ⟨by simp, fun a ha => ?_⟩
    simp only [List.mem_cons, List.not_mem_nil, or_false] at ha
    subst ha
    exact ⟨by simp, by simp, by simp, by simp [ra], by simp, by simp [rb'], by simp [nOk]⟩
/-- The first who is ready goes. -/
theorem pick_first {L : List Nat} {made : Nat} {last : Int} (hm : made < 200) {i : Nat} {r : List Nat} (hL : L = i :: r) : pickN L made (List.replicate 200 0) last = i := by
  unfold pickN
  rw [List.getElem?_replicate, if_pos hm]
  simp [hL]
theorem rdy_zero {S : St} {t0 t1 : Tk} (h : S.tk = [t0, t1]) (h0 : howS S t0 = 3) : ∃ r, rdy S = 0 :: r := by
  have e0 : isR S 0 = true := by unfold isR; rw [h]; simpa using h0
  unfold rdy rdyI
  rw [h]
  show ∃ r, (List.range 2).filter (isR S) = 0 :: r
  have : List.range 2 = [0, 1] := rfl
  rw [this, List.filter_cons_of_pos e0]
  exact ⟨_, rfl⟩
theorem rdy_one {S : St} {t0 t1 : Tk} (h : S.tk = [t0, t1]) (h0 : howS S t0 ≠ 3) (h1 : howS S t1 = 3) : rdy S = [1] := by
  have e0 : isR S 0 = false := by unfold isR; rw [h]; simpa using h0
  have e1 : isR S 1 = true := by unfold isR; rw [h]; simpa using h1
  unfold rdy rdyI
  rw [h]
  show (List.range 2).filter (isR S) = [1]
  have : List.range 2 = [0, 1] := rfl
  rw [this, List.filter_cons_of_neg (by simp [e0]), List.filter_cons_of_pos e1]
  rfl
def t1F (p : Nat) : Tk := ⟨[⟨1, 1, 0, 0⟩], p, 0, false, 0, false, 0⟩
/-- The guarded task behind m steps. -/
def PG (ns : List Int) (S : St) : Prop :=
  (S.tr.length = 0 ∧ S.tk = [⟨gL true ns, 0, 0, false, 0, false, 0⟩, t1F 0] ∧ S.lk 1 = none)
  ∨ (∃ j ld, j ≤ ns.length ∧ S.tr.length = 2 * j + 1 ∧ S.tk = [⟨gL true ns, 2 * j + 1, 0, false, ld, false, 0⟩, t1F 0] ∧ S.lk 1 = some 0 ∧ (0 < j → S.rg 7 = ns.getD (j - 1) 0))
  ∨ (∃ j, j < ns.length ∧ S.tr.length = 2 * j + 2 ∧ S.tk = [⟨gL true ns, 2 * j + 2, 0, true, 2 * j + 3, false, 0⟩, t1F 0] ∧ S.lk 1 = some 0)
  ∨ (∃ p ld, p ≤ 1 ∧ S.tr.length = 2 * ns.length + 2 + p ∧ S.tk = [⟨gL true ns, 2 * ns.length + 2, 0, false, ld, false, 0⟩, t1F p] ∧ (p = 0 → S.lk 1 = none) ∧ S.rg 7 = ns.getD (ns.length - 1) 0)
theorem pg_step {ns : List Int} (hn : 1 ≤ ns.length) (hn2 : ns.length ≤ 60) {S : St} (h : PG ns S) (hr : rdy S ≠ []) : PG ns (turnS S (pickN (rdy S) S.tr.length (List.replicate 200 0) (lastS S))) ∧ (turnS S (pickN (rdy S) S.tr.length (List.replicate 200 0) (lastS S))).tr.length = S.tr.length + 1 ∧ S.tr.length < 2 * ns.length + 3 := by
  rcases h with ⟨hl, ht, hk⟩ | ⟨j, ld, hj, hl, ht, hk, h7⟩ | ⟨j, hj, hl, ht, hk⟩ | ⟨p, ld, hp, hl, ht, hk, h7⟩
  · have h0 : howS S ⟨gL true ns, 0, 0, false, 0, false, 0⟩ = 3 := by unfold howS; simp only [gL_zero]; simp [hk]
    obtain ⟨r, hrr⟩ := rdy_zero ht h0
    rw [pick_first (by omega) hrr]
    have e : turnS S 0 = { S with tr := S.tr ++ [(0, 0)], lk := up S.lk 1 (some 0), tk := [⟨gL true ns, 1, 0, false, 0, false, 0⟩, t1F 0] } := by
      rw [turnS_eq (t := ⟨gL true ns, 0, 0, false, 0, false, 0⟩) (a := ⟨1, 1, 0, 0⟩) (by rw [ht]; rfl) (gI_zero _ _ _ _)]
      unfold stepS
      simp only [doS, Int.reduceEq, if_false, if_true, Int.toNat_one]
      unfold adv
      simp only [ht]
      rfl
    rw [e]
    refine ⟨.inr (.inl ⟨0, 0, Nat.zero_le _, by simp [hl], rfl, by simp [up], fun c => by omega⟩), by simp, by omega⟩
  · by_cases hjn : j < ns.length
    · have hg : (gL true ns)[2 * j + 1]? = some (gA true j) := (gI_get true ns _ hjn).1
      have h0 : howS S ⟨gL true ns, 2 * j + 1, 0, false, ld, false, 0⟩ = 3 := by unfold howS; simp only [hg]; simp [gA]
      obtain ⟨r, hrr⟩ := rdy_zero ht h0
      rw [pick_first (by omega) hrr]
      have e : turnS S 0 = { S with tr := S.tr ++ [(0, 2 * j + 1)], tk := [⟨gL true ns, 2 * j + 2, 0, true, 2 * j + 3, false, 0⟩, t1F 0] } := by
        rw [turnS_eq (t := ⟨gL true ns, 2 * j + 1, 0, false, ld, false, 0⟩) (a := gA true j) (by rw [ht]; rfl) hg]
        have hN : ((j : Int) * 2 + 3).toNat = 2 * j + 3 := by omega
        unfold stepS
        simp only [doS, gA, Int.reduceEq, if_false, if_true, hN]
        unfold adv
        simp only [ht]
        rfl
      rw [e]
      exact ⟨.inr (.inr (.inl ⟨j, hjn, by simp [hl], rfl, hk⟩)), by simp, by omega⟩
    · obtain rfl : j = ns.length := by omega
      have hg := gL_last true ns
      have h0 : howS S ⟨gL true ns, 2 * ns.length + 1, 0, false, ld, false, 0⟩ = 3 := by unfold howS; simp only [hg]; simp
      obtain ⟨r, hrr⟩ := rdy_zero ht h0
      rw [pick_first (by omega) hrr]
      have e : turnS S 0 = { S with tr := S.tr ++ [(0, 2 * ns.length + 1)], lk := up S.lk 1 none, tk := [⟨gL true ns, 2 * ns.length + 2, 0, false, ld, false, 0⟩, t1F 0] } := by
        rw [turnS_eq (t := ⟨gL true ns, 2 * ns.length + 1, 0, false, ld, false, 0⟩) (a := ⟨2, 1, 0, 0⟩) (by rw [ht]; rfl) hg]
        unfold stepS
        simp only [doS, Int.reduceEq, if_false, if_true, Int.toNat_one, hk]
        unfold adv
        simp only [ht]
        rfl
      rw [e]
      exact ⟨.inr (.inr (.inr ⟨0, ld, by omega, by simp [hl], rfl, fun _ => by simp [up], h7 (by omega)⟩)), by simp, by omega⟩
  · have hg : (gL true ns)[2 * j + 2]? = some ⟨12, 0, 0, ns.getD j 0⟩ := (gI_get true ns _ hj).2
    have h0 : howS S ⟨gL true ns, 2 * j + 2, 0, true, 2 * j + 3, false, 0⟩ = 3 := by unfold howS; simp only [hg]; simp
    obtain ⟨r, hrr⟩ := rdy_zero ht h0
    rw [pick_first (by omega) hrr]
    have e : turnS S 0 = { S with tr := S.tr ++ [(0, 2 * j + 2)], rg := up S.rg 7 (ns.getD j 0), tk := [⟨gL true ns, 2 * j + 3, 0, false, 2 * j + 3, false, 0⟩, t1F 0] } := by
      rw [turnS_eq (t := ⟨gL true ns, 2 * j + 2, 0, true, 2 * j + 3, false, 0⟩) (a := ⟨12, 0, 0, ns.getD j 0⟩) (by rw [ht]; rfl) hg]
      unfold stepS
      simp only [doS, Int.reduceEq, if_false, if_true]
      unfold landS
      simp only [ht, Bool.true_eq_false, if_false]
      rfl
    rw [e]
    exact ⟨.inr (.inl ⟨j + 1, 2 * j + 3, hj, by simp [hl]; omega, rfl, hk, fun _ => by simp [up]⟩), by simp, by omega⟩
  · have hd : (gL true ns)[2 * ns.length + 2]? = none := by rw [List.getElem?_eq_none_iff, gL_len]; omega
    have h0 : howS S ⟨gL true ns, 2 * ns.length + 2, 0, false, ld, false, 0⟩ ≠ 3 := by unfold howS; simp only [hd]; simp
    by_cases hp0 : p = 0
    · subst hp0
      have h1 : howS S (t1F 0) = 3 := by unfold howS t1F; simp [hk rfl]
      have hrr := rdy_one ht h0 h1
      rw [pick_first (by omega) hrr]
      have e : turnS S 1 = { S with tr := S.tr ++ [(1, 0)], lk := up S.lk 1 (some 1), tk := [⟨gL true ns, 2 * ns.length + 2, 0, false, ld, false, 0⟩, t1F 1] } := by
        rw [turnS_eq (t := t1F 0) (a := ⟨1, 1, 0, 0⟩) (by rw [ht]; rfl) rfl]
        unfold stepS
        simp only [doS, Int.reduceEq, if_false, if_true, Int.toNat_one]
        unfold adv
        simp only [ht]
        rfl
      rw [e]
      exact ⟨.inr (.inr (.inr ⟨1, ld, Nat.le_refl _, by simp [hl], rfl, (fun c => by omega), h7⟩)), by simp, by omega⟩
    · exfalso
      have hp1 : p = 1 := by omega
      subst hp1
      apply hr
      have h1 : howS S (t1F 1) ≠ 3 := by unfold howS t1F; simp
      have e0 : isR S 0 = false := by unfold isR; rw [ht]; simpa using h0
      have e1 : isR S 1 = false := by unfold isR; rw [ht]; simpa using h1
      unfold rdy rdyI
      rw [ht]
      show (List.range 2).filter (isR S) = []
      have : List.range 2 = [0, 1] := rfl
      rw [this, List.filter_cons_of_neg (by simp [e0]), List.filter_cons_of_neg (by simp [e1])]
      rfl
theorem guards_facts {ns : List Int} (hn : 1 ≤ ns.length) (hn2 : ns.length ≤ 60) (S : St) (hS : runS (gT true ns) 1 (List.replicate 200 0) 400 = S) : S.rg 7 = ns.getD (ns.length - 1) 0 ∧ ∃ t0 t1, S.tk = [t0, t1] ∧ howS S t0 = 1 ∧ howS S t1 = 1 := by
  have h0 : PG ns (init (gT true ns) 1) := .inl ⟨rfl, rfl, rfl⟩
  obtain ⟨hP, hr⟩ := play_end2 (PG ns) (fun S => 2 * ns.length + 3 - S.tr.length) (List.replicate 200 0) (fun S hP hr => by
    obtain ⟨a, b, c⟩ := pg_step hn hn2 hP hr
    exact ⟨a, by omega⟩) 400 (init (gT true ns) 1) h0 (by simp [init]; omega)
  have hS' : playS (List.replicate 200 0) 400 (init (gT true ns) 1) = S := hS
  rw [hS'] at hP hr
  rcases hP with ⟨hl, ht, hk⟩ | ⟨j, ld, hj, hl, ht, hk, h7⟩ | ⟨j, hj, hl, ht, hk⟩ | ⟨p, ld, hp, hl, ht, hk, h7⟩
  · exact absurd (by unfold howS; simp only [gL_zero]; simp [hk]) (how_not hr (i := 0) (t := ⟨gL true ns, 0, 0, false, 0, false, 0⟩) (by rw [ht]; rfl))
  · exfalso
    apply how_not hr (i := 0) (t := ⟨gL true ns, 2 * j + 1, 0, false, ld, false, 0⟩) (by rw [ht]; rfl)
    by_cases hjn : j < ns.length
    · have hg : (gL true ns)[2 * j + 1]? = some (gA true j) := (gI_get true ns _ hjn).1
      unfold howS; simp only [hg]; simp [gA]
    · obtain rfl : j = ns.length := by omega
      unfold howS; simp only [gL_last true ns]; simp
  · exfalso
    apply how_not hr (i := 0) (t := ⟨gL true ns, 2 * j + 2, 0, true, 2 * j + 3, false, 0⟩) (by rw [ht]; rfl)
    have hg : (gL true ns)[2 * j + 2]? = some ⟨12, 0, 0, ns.getD j 0⟩ := (gI_get true ns _ hj).2
    unfold howS; simp only [hg]; simp
  · have hp1 : p = 1 := by
      rcases Nat.lt_or_ge p 1 with c | c
      · exfalso
        have : p = 0 := by omega
        subst this
        apply how_not hr (i := 1) (t := t1F 0) (by rw [ht]; rfl)
        unfold howS t1F; simp [hk rfl]
      · omega
    subst hp1
    have hd : (gL true ns)[2 * ns.length + 2]? = none := by rw [List.getElem?_eq_none_iff, gL_len]; omega
    exact ⟨h7, _, _, ht, by unfold howS; simp only [hd]; simp, by unfold howS t1F; simp⟩
/-- The bare task behind m steps. -/
def PU (ns : List Int) (S : St) : Prop :=
  ((∀ i, S.rg i = 0) ∧ S.tr.length ≤ 3) ∧ ((S.tr.length = 0 ∧ S.tk = [⟨gL false ns, 0, 0, false, 0, false, 0⟩, t1F 0] ∧ S.lk 1 = none)
  ∨ (S.tr.length = 1 ∧ S.tk = [⟨gL false ns, 1, 0, false, 0, false, 0⟩, t1F 0] ∧ S.lk 1 = some 0)
  ∨ (S.tr.length = 2 ∧ S.tk = [⟨gL false ns, 2, 0, false, 0, false, 0⟩, t1F 0] ∧ S.lk 1 = some 0)
  ∨ (S.tr.length = 3 ∧ S.tk = [⟨gL false ns, 2, 0, false, 0, true, ns.getD 0 0⟩, t1F 0] ∧ S.lk 1 = some 0))
theorem pu_step {ns : List Int} (hn : 1 ≤ ns.length) {S : St} (h : PU ns S) (hr : rdy S ≠ []) : PU ns (turnS S (pickN (rdy S) S.tr.length (List.replicate 200 0) (lastS S))) ∧ (turnS S (pickN (rdy S) S.tr.length (List.replicate 200 0) (lastS S))).tr.length = S.tr.length + 1 ∧ S.tr.length < 3 := by
  obtain ⟨⟨hg, hl3⟩, h⟩ := h
  have g1 : (gL false ns)[1]? = some (gA false 0) := (gI_get false ns _ (j := 0) hn).1
  have g2 : (gL false ns)[2]? = some ⟨12, 0, 0, ns.getD 0 0⟩ := (gI_get false ns _ (j := 0) hn).2
  rcases h with ⟨hl, ht, hk⟩ | ⟨hl, ht, hk⟩ | ⟨hl, ht, hk⟩ | ⟨hl, ht, hk⟩
  · have h0 : howS S ⟨gL false ns, 0, 0, false, 0, false, 0⟩ = 3 := by unfold howS; simp only [gL_zero]; simp [hk]
    obtain ⟨r, hrr⟩ := rdy_zero ht h0
    rw [pick_first (by omega) hrr]
    have e : turnS S 0 = { S with tr := S.tr ++ [(0, 0)], lk := up S.lk 1 (some 0), tk := [⟨gL false ns, 1, 0, false, 0, false, 0⟩, t1F 0] } := by
      rw [turnS_eq (t := ⟨gL false ns, 0, 0, false, 0, false, 0⟩) (a := ⟨1, 1, 0, 0⟩) (by rw [ht]; rfl) (gI_zero _ _ _ _)]
      unfold stepS
      simp only [doS, Int.reduceEq, if_false, if_true, Int.toNat_one]
      unfold adv
      simp only [ht]
      rfl
    rw [e]
    exact ⟨⟨⟨hg, by simp [hl]⟩, .inr (.inl ⟨by simp [hl], rfl, by simp [up]⟩)⟩, by simp, by omega⟩
  · have h0 : howS S ⟨gL false ns, 1, 0, false, 0, false, 0⟩ = 3 := by unfold howS; simp only [g1]; simp [gA]
    obtain ⟨r, hrr⟩ := rdy_zero ht h0
    rw [pick_first (by omega) hrr]
    have e : turnS S 0 = { S with tr := S.tr ++ [(0, 1)], tk := [⟨gL false ns, 2, 0, false, 0, false, 0⟩, t1F 0] } := by
      rw [turnS_eq (t := ⟨gL false ns, 1, 0, false, 0, false, 0⟩) (a := gA false 0) (by rw [ht]; rfl) g1]
      unfold stepS
      simp only [doS, gA, Bool.false_eq_true, Int.reduceEq, if_false, if_true]
      unfold adv
      simp only [ht]
      rfl
    rw [e]
    exact ⟨⟨⟨hg, by simp [hl]⟩, .inr (.inr (.inl ⟨by simp [hl], rfl, hk⟩))⟩, by simp, by omega⟩
  · have h0 : howS S ⟨gL false ns, 2, 0, false, 0, false, 0⟩ = 3 := by unfold howS; simp only [g2]; simp
    obtain ⟨r, hrr⟩ := rdy_zero ht h0
    rw [pick_first (by omega) hrr]
    have e : turnS S 0 = { S with tr := S.tr ++ [(0, 2)], tk := [⟨gL false ns, 2, 0, false, 0, true, ns.getD 0 0⟩, t1F 0] } := by
      rw [turnS_eq (t := ⟨gL false ns, 2, 0, false, 0, false, 0⟩) (a := ⟨12, 0, 0, ns.getD 0 0⟩) (by rw [ht]; rfl) g2]
      unfold stepS
      simp only [doS, Int.reduceEq, if_false, if_true]
      unfold landS
      simp only [ht, if_true]
      rfl
    rw [e]
    exact ⟨⟨⟨hg, by simp [hl]⟩, .inr (.inr (.inr ⟨by simp [hl], rfl, hk⟩))⟩, by simp, by omega⟩
  · exfalso
    apply hr
    have h0 : howS S ⟨gL false ns, 2, 0, false, 0, true, ns.getD 0 0⟩ ≠ 3 := by unfold howS; simp
    have h1 : howS S (t1F 0) ≠ 3 := by unfold howS t1F; simp [hk]
    have e0 : isR S 0 = false := by unfold isR; rw [ht]; simpa using h0
    have e1 : isR S 1 = false := by unfold isR; rw [ht]; simpa using h1
    unfold rdy rdyI
    rw [ht]
    show (List.range 2).filter (isR S) = []
    have : List.range 2 = [0, 1] := rfl
    rw [this, List.filter_cons_of_neg (by simp [e0]), List.filter_cons_of_neg (by simp [e1])]
    rfl
theorem bare_facts {ns : List Int} (hn : 1 ≤ ns.length) (S : St) (hS : runS (gT false ns) 1 (List.replicate 200 0) 400 = S) : S.rg 7 = 0 ∧ ∃ t0 t1, S.tk = [t0, t1] ∧ howS S t0 = 2 ∧ t0.wt = ns.getD 0 0 ∧ howS S t1 = 4 := by
  have h0 : PU ns (init (gT false ns) 1) := ⟨⟨fun _ => rfl, Nat.zero_le _⟩, .inl ⟨rfl, rfl, rfl⟩⟩
  obtain ⟨hP, hr⟩ := play_end2 (PU ns) (fun S => 3 - S.tr.length) (List.replicate 200 0) (fun S hP hr => by
    obtain ⟨a, b, c⟩ := pu_step hn hP hr
    exact ⟨a, by omega⟩) 400 (init (gT false ns) 1) h0 (by simp [init])
  have hS' : playS (List.replicate 200 0) 400 (init (gT false ns) 1) = S := hS
  rw [hS'] at hP hr
  obtain ⟨⟨hg, hl3⟩, h⟩ := hP
  have g1 : (gL false ns)[1]? = some (gA false 0) := (gI_get false ns _ (j := 0) hn).1
  have g2 : (gL false ns)[2]? = some ⟨12, 0, 0, ns.getD 0 0⟩ := (gI_get false ns _ (j := 0) hn).2
  rcases h with ⟨hl, ht, hk⟩ | ⟨hl, ht, hk⟩ | ⟨hl, ht, hk⟩ | ⟨hl, ht, hk⟩
  · exact absurd (by unfold howS; simp only [gL_zero]; simp [hk]) (how_not hr (i := 0) (t := ⟨gL false ns, 0, 0, false, 0, false, 0⟩) (by rw [ht]; rfl))
  · exact absurd (by unfold howS; simp only [g1]; simp [gA]) (how_not hr (i := 0) (t := ⟨gL false ns, 1, 0, false, 0, false, 0⟩) (by rw [ht]; rfl))
  · exact absurd (by unfold howS; simp only [g2]; simp) (how_not hr (i := 0) (t := ⟨gL false ns, 2, 0, false, 0, false, 0⟩) (by rw [ht]; rfl))
  · exact ⟨hg 7, _, _, ht, by unfold howS; simp, rfl, by unfold howS t1F; simp [hk]⟩
end Go.Proofs.YtdbhfeiibcpcaaaDoor.Sd

/-
  Ends, turns and acts held against one another.
-/
namespace Go.Proofs.YtdbhfeiibcpcaaaDoor.Sd
open Go.RowKit
theorem endFs : ∃ n0 n1 : String, Tryd.prog.underlying 49 = some (.struct (Tryd.prog.fieldsOf 49)) ∧ ((Tryd.prog.fieldsOf 49).toList.map fun f => (f.name, f.type, f.offset)) = [(n0, 3, 0), (n1, 2, 1)] ∧ n0 ≠ "_" ∧ n1 ≠ "_" :=
  ⟨ "How", "N", by kernel_rfl, by kernel_rfl, by decide, by decide⟩
theorem endHeld : Tryd.prog.stoodInHeld 49 = false := by kernel_rfl
theorem endEq (w : World) (a b c d : Int) : (Op.equalIn 10000 49 (.agg #[.int .i64 a, .int .i64 b]) (.agg #[.int .i64 c, .int .i64 d])).run Tryd.prog w = .ok (decide (a = c ∧ b = d)) w := by
  obtain ⟨n0, n1, h1, h2, h3, h4⟩ := endFs
  rw [run_equalIn_struct w 9999 49 _ _ h1 endHeld]
  generalize (Tryd.prog.fieldsOf 49).toList = fs at h2
  have hl : fs.length = 2 := by have := congrArg List.length h2; simpa using this
  match fs, hl with
  | [f0, f1], _ =>
    simp only [List.map_cons, List.map_nil, List.cons.injEq, Prod.mk.injEq, and_true] at h2
    obtain ⟨⟨x0, y0, z0⟩, ⟨x1, y1, z1⟩⟩ := h2
    have p0 : f0.name ≠ "_" := by rw [x0]; exact h3
    have p1 : f1.name ≠ "_" := by rw [x1]; exact h4
    by_cases q0 : a = c <;> by_cases q1 : b = d <;> simp [Op.eqFields, p0, y0, z0, q0, p1, y1, z1, q1, go_sem]
theorem endEql (w : World) (a b c d : Int) : (binOp .eql 49 (.agg #[.int .i64 a, .int .i64 b]) (.agg #[.int .i64 c, .int .i64 d])).run Tryd.prog w = .ok (.bool (decide (a = c ∧ b = d))) w := by
  rw [run_eql_struct, endEq]
  rfl
end Go.Proofs.YtdbhfeiibcpcaaaDoor.Sd

/-
  SchedGuards.
-/
namespace Go.Proofs.YtdbhfeiibcpcaaaDoor.Sd
open Go.RowKit
set_option linter.unusedVariables false
set_option linter.unusedSimpArgs false
set_option maxRecDepth 100000
theorem ar_lit {B : Nat} {w : World} {b n : Nat} {l : List Ac} {cs : Array Value} (h : w.heap[b]? = some (.cells cs 47 (0, 0))) (hc : cs.toList = acells l) (hB : B ≤ b) (hm : l.length ≤ 1000) (hn : n = l.length) : Ar B w (.slice (some ⟨b, 0, none⟩) n n) l := by
  subst hn
  have hs : cs.size = l.length * 4 := by rw [← Array.length_toList, hc, acells_len]
  exact ⟨acells_len l, .inr ⟨b, l.length, cs, rfl, hB, h, Nat.le_refl _, by unfold maxLen; omega, hs, by rw [hc, ← acells_len, List.take_length]⟩⟩
theorem guards_app {w wr : World} {a5 : Option Addr} {c5 n i : Nat} {g : Bool} {ns : List Int} (h : Ar w.heap.size wr (.slice a5 n c5) (gI g ns i)) (hb : Below w.heap.size w wr) (hn : 2 * i + 1 = n) (hi : i ≤ 60) (k m x : Int) (hg : gA g i = ⟨k, 0, 0, m⟩) (hx : ns.getD i 0 = x) :
    ∃ a6 c6 w7 a7 c7 w9, Hid ((Builtin.append_ #[45, 45] 45 #[.slice a5 n c5, .slice (some ⟨wr.heap.size, 0, none⟩) 1 1]).run Tryd.prog (wr.alloc (.cells #[.int .i64 k, .int .i64 0, .int .i64 0, .int .i64 m] 47)) = .ok (.slice a6 (n + 1) c6) w7) ∧
      Hid ((Builtin.append_ #[45, 45] 45 #[.slice a6 (n + 1) c6, .slice (some ⟨w7.heap.size, 0, none⟩) 1 1]).run Tryd.prog (w7.alloc (.cells #[.int .i64 12, .int .i64 0, .int .i64 0, .int .i64 x] 47)) = .ok (.slice a7 (n + 2) c7) w9) ∧
      Hid (Ar w.heap.size w9 (.slice a7 (n + 2) c7) (gI g ns (i + 1)) ∧ Below w.heap.size w w9 ∧ Below w.heap.size w w7) := by
  have b1 := box_below wr (.cells #[.int .i64 k, .int .i64 0, .int .i64 0, .int .i64 m] 47)
  have n1 := heap_alloc_new wr (.cells #[.int .i64 k, .int .i64 0, .int .i64 0, .int .i64 m] 47)
  obtain ⟨w6, hw6⟩ : ∃ w6, wr.alloc (.cells #[.int .i64 k, .int .i64 0, .int .i64 0, .int .i64 m] 47) = w6 := ⟨_, rfl⟩
  rw [hw6] at b1 n1
  have o5 := fun b hb => World.ownsRow.lt h b hb
  obtain ⟨v7, w7, r7, A7, G7, X7⟩ := run_appA [⟨k, 0, 0, m⟩] wr.heap.size 1 rfl (row_below h b1) n1 rfl (by simp) (by rw [gI_len]; omega) (Nat.le_trans hb.size b1.size) 45
  obtain ⟨a6, c6, e6, -⟩ := own_form A7
  rw [List.length_append, gI_len, hn] at e6
  have e6 : v7 = .slice a6 (n + 1) c6 := e6
  subst e6
  have B7 : Below w.heap.size w w7 := (keepF hb b1).trans (grown_below G7 (Nat.le_trans hb.size b1.size) fun b e => (o5 b e).1)
  have o7 := fun b hb => World.ownsRow.lt A7 b hb
  have b2 := box_below w7 (.cells #[.int .i64 12, .int .i64 0, .int .i64 0, .int .i64 x] 47)
  have n2 := heap_alloc_new w7 (.cells #[.int .i64 12, .int .i64 0, .int .i64 0, .int .i64 x] 47)
  obtain ⟨w8, hw8⟩ : ∃ w8, w7.alloc (.cells #[.int .i64 12, .int .i64 0, .int .i64 0, .int .i64 x] 47) = w8 := ⟨_, rfl⟩
  rw [hw8] at b2 n2
  obtain ⟨v9, w9, r9, A9, G9, X9⟩ := run_appA [⟨12, 0, 0, x⟩] w7.heap.size 1 rfl (row_below A7 b2) n2 rfl (by simp) (by rw [List.length_append, gI_len]; simp; omega) (Nat.le_trans B7.size b2.size) 45
  have eL : gI g ns i ++ [⟨k, 0, 0, m⟩] ++ [⟨12, 0, 0, x⟩] = gI g ns (i + 1) := by
    show _ = gI g ns i ++ [gA g i, ⟨12, 0, 0, ns.getD i 0⟩]
    rw [hg, hx, List.append_assoc]; rfl
  rw [eL] at A9
  obtain ⟨a7, c7, e7, -⟩ := own_form A9
  rw [gI_len, show 2 * (i + 1) + 1 = n + 2 by omega] at e7
  subst e7
  exact ⟨a6, c6, w7, a7, c7, w9, (by rw [hw6]; exact r7), (by rw [hw8]; exact r9), A9, (keepF B7 b2).trans (grown_below G9 (Nat.le_trans B7.size b2.size) fun b e => (o7 b e).1), B7⟩
theorem guards_last {w wr : World} {a5 : Option Addr} {c5 n : Nat} {g : Bool} {ns : List Int} (h : Ar w.heap.size wr (.slice a5 n c5) (gI g ns ns.length)) (hb : Below w.heap.size w wr) (hn : 2 * ns.length + 1 = n) (hi : ns.length ≤ 60) :
    ∃ a6 c6 w7, Hid ((Builtin.append_ #[45, 45] 45 #[.slice a5 n c5, .slice (some ⟨wr.heap.size, 0, none⟩) 1 1]).run Tryd.prog (wr.alloc (.cells #[.int .i64 2, .int .i64 1, .int .i64 0, .int .i64 0] 47)) = .ok (.slice a6 (n + 1) c6) w7) ∧
      Hid (Ar w.heap.size w7 (.slice a6 (n + 1) c6) (gL g ns) ∧ Below w.heap.size w w7) := by
  have b1 := box_below wr (.cells #[.int .i64 2, .int .i64 1, .int .i64 0, .int .i64 0] 47)
  have n1 := heap_alloc_new wr (.cells #[.int .i64 2, .int .i64 1, .int .i64 0, .int .i64 0] 47)
  obtain ⟨w6, hw6⟩ : ∃ w6, wr.alloc (.cells #[.int .i64 2, .int .i64 1, .int .i64 0, .int .i64 0] 47) = w6 := ⟨_, rfl⟩
  rw [hw6] at b1 n1
  have o5 := fun b hb => World.ownsRow.lt h b hb
  obtain ⟨v7, w7, r7, A7, G7, X7⟩ := run_appA [⟨2, 1, 0, 0⟩] wr.heap.size 1 rfl (row_below h b1) n1 rfl (by simp) (by rw [gI_len]; omega) (Nat.le_trans hb.size b1.size) 45
  have A8 : Ar w.heap.size w7 v7 (gL g ns) := A7
  obtain ⟨a6, c6, e6, -⟩ := own_form A8
  rw [gL_len, show 2 * ns.length + 2 = n + 1 by omega] at e6
  subst e6
  exact ⟨a6, c6, w7, (by rw [hw6]; exact r7), A8, (keepF hb b1).trans (grown_below G7 (Nat.le_trans hb.size b1.size) fun b e => (o5 b e).1)⟩
theorem zeros_cells (n : Nat) : (madeCells #[.int .i64 0] (n * 1)).toList = (List.replicate n 0).map (Value.int .i64) := by
  apply List.ext_getElem?
  intro i
  rw [Array.getElem?_toList]
  simp only [madeCells, Array.getElem?_map, Array.getElem?_range, List.getElem?_map, List.getElem?_replicate, Nat.mul_one]
  split <;> simp [Nat.mod_one]
theorem make_zeros (u : World) (n : Nat) (hn : n ≤ 100000) : (Instr.makeSlice 23 (.int .i64 (n : Int)) (.int .i64 (n : Int))).run Tryd.prog u = .ok (.slice (some ⟨u.heap.size, 0, none⟩) n n) (u.alloc (.cells (madeCells #[.int .i64 0] (n * 1)) 3)) := by
  obtain ⟨i0, hi, hz0, hz1, hz2⟩ := info_parts infoI
  rw [run_make u 23 3 i0 (.int .i64 0) Tryd.underlying23 hi hz0 .i64 .i64 (n : Int) (n : Int) (by omega) (by omega) (by rw [hz2]; omega) (by omega), hz1]
  simp only [Int.toNat_natCast]
  rfl
theorem guards_run {w w7 : World} (hT : Tb w) {a6 : Option Addr} {c6 n : Nat} {g : Bool} {ns : List Int} (h : Ar w.heap.size w7 (.slice a6 n c6) (gL g ns)) (hb : Below w.heap.size w w7) (h2 : ns.length ≤ 60) {C0 : Array Value} (hC : madeCells #[.int .i64 0] (200 * 1) = C0) (R7 H0 W0 H1 : Int) (F : ∀ S, runS (gT g ns) 1 (List.replicate 200 0) 400 = S → S.rg 7 = R7 ∧ ∃ t0 t1, S.tk = [t0, t1] ∧ howS S t0 = H0 ∧ howS S t1 = H1 ∧ (g = false → t0.wt = W0)) :
    Calls Tryd.prog 15 #[.slice (some ⟨w7.heap.size + 1, 0, none⟩) 2 2, .int .i64 1, .slice (some ⟨w7.heap.size + 1 + 1, 0, none⟩) 200 200, .int .i64 400] (((w7.alloc (.cells #[.int .i64 1, .int .i64 1, .int .i64 0, .int .i64 0] 47)).alloc (.cells #[.slice a6 n c6, .slice (some ⟨w7.heap.size, 0, none⟩) 1 1] 45)).alloc (.cells C0 3)) fun e w' => ∃ ta tn tc gr rc ge ec qa qc, e = .returned (.tuple #[.agg #[.int .i64 ((tn : Nat) : Int), .slice ta tn tc, .slice (some ⟨gr, 0, none⟩) 8 rc, .slice (some ⟨ge, 0, none⟩) 2 ec, .slice qa 4 qc], .int .i64 0]) ∧ (8 ≤ rc ∧ 2 ≤ ec ∧ w'.cell? ⟨gr, 7, none⟩ = some (.int .i64 R7) ∧ w'.cell? ⟨ge, 0, none⟩ = some (.int .i64 H0) ∧ (g = false → w'.cell? ⟨ge, 1, none⟩ = some (.int .i64 W0)) ∧ w'.cell? ⟨ge, 2, none⟩ = some (.int .i64 H1)) ∧ Below w.heap.size w w' := by
  have hZ := zeros_cells 200
  rw [hC] at hZ
  have b1 := box_below w7 (.cells #[.int .i64 1, .int .i64 1, .int .i64 0, .int .i64 0] 47)
  have n1 := heap_alloc_new w7 (.cells #[.int .i64 1, .int .i64 1, .int .i64 0, .int .i64 0] 47)
  have z1 : (w7.alloc (.cells #[.int .i64 1, .int .i64 1, .int .i64 0, .int .i64 0] 47)).heap.size = w7.heap.size + 1 := by simp
  generalize w7.alloc (.cells #[.int .i64 1, .int .i64 1, .int .i64 0, .int .i64 0] 47) = u1 at *
  have b2 := box_below u1 (.cells #[.slice a6 n c6, .slice (some ⟨w7.heap.size, 0, none⟩) 1 1] 45)
  have n2 := heap_alloc_new u1 (.cells #[.slice a6 n c6, .slice (some ⟨w7.heap.size, 0, none⟩) 1 1] 45)
  have z2 : (u1.alloc (.cells #[.slice a6 n c6, .slice (some ⟨w7.heap.size, 0, none⟩) 1 1] 45)).heap.size = w7.heap.size + 1 + 1 := by simp [z1]
  generalize u1.alloc (.cells #[.slice a6 n c6, .slice (some ⟨w7.heap.size, 0, none⟩) 1 1] 45) = u2 at *
  have b3 := box_below u2 (.cells C0 3)
  have n3 := heap_alloc_new u2 (.cells C0 3)
  generalize u2.alloc (.cells C0 3) = u3 at *
  rw [z1] at n2
  rw [z2] at n3
  have b13 := keepF (keepF b1 b2) b3
  have B3 := keepF hb b13
  have m1 := ((keepF b2 b3).block _ (heap_lt n1)).trans n1
  have m2 := (b3.block _ (heap_lt n2)).trans n2
  have a1 : ActsAt u3 (.slice (some ⟨w7.heap.size, 0, none⟩) 1 1) [⟨1, 1, 0, 0⟩] := acts_lit (l := [⟨1, 1, 0, 0⟩]) m1 rfl
  have tk : TksAt u3 (.slice (some ⟨w7.heap.size + 1, 0, none⟩) 2 2) [.slice a6 n c6, .slice (some ⟨w7.heap.size, 0, none⟩) 1 1] (gT g ns) := tks_lit (us := [.slice a6 n c6, .slice (some ⟨w7.heap.size, 0, none⟩) 1 1]) m2 rfl (by simp) rfl (by
    intro i u l e1 e2
    match i with
    | 0 => cases e1; cases e2; exact acts_own (row_below h b13)
    | 1 => cases e1; cases e2; exact a1
    | i + 2 => simp at e1)
  have hrow : Row u3 (.slice (some ⟨w7.heap.size + 1 + 1, 0, none⟩) 200 200) ((List.replicate 200 0).map (Value.int .i64)) := by
    refine ⟨_, 200, by simp, (fun e => by cases e), by simp, by unfold maxLen; omega, fun i hi => ⟨w7.heap.size + 1 + 1, 0, rfl, ?_⟩⟩
    rw [cell_of n3, Nat.zero_add, ← Array.getElem?_toList, hZ, List.getElem?_eq_getElem hi]
  obtain ⟨S, hS⟩ : ∃ S, runS (gT g ns) 1 (List.replicate 200 0) 400 = S := ⟨_, rfl⟩
  obtain ⟨f1, t0, t1, ht, f2, f3, f4⟩ := F S hS
  refine (run_read u3 (hT.below B3) _ _ _ (gT g ns) tk (List.replicate 200 0) hrow (fun k hk => by simp at hk; omega) 1 400 (guards_ref g h2) S hS).mono ?_
  rintro e w' ⟨ta, tc, gr, rc, ea, ec, qv, rfl, ⟨qa, qc, rfl⟩, R, hb'⟩
  have hl : S.tk.length = 2 := by rw [ht]; rfl
  obtain ⟨ge, rfl, c0, c1⟩ := R.en.2 0 t0 (by rw [ht]; rfl)
  obtain ⟨ge', e', c2, -⟩ := R.en.2 1 t1 (by rw [ht]; rfl)
  cases e'
  have r7 := R.rg.2 7 (by decide)
  have h2' := R.en.1
  rw [hl] at h2' ⊢
  rw [f1] at r7
  rw [f2] at c0
  rw [f3] at c2
  exact ⟨ta, _, tc, gr, rc, ge, ec, qa, qc, rfl, ⟨R.rg.1, h2', r7, c0, (fun hg => by rw [← f4 hg]; exact c1), c2⟩, B3.trans (hb'.mono B3.size)⟩
theorem gI_le {g : Bool} {ns : List Int} {n : Nat} (hn : 2 * ns.length + 1 = n) {a : Ac} (ha : a ∈ gI g ns ns.length) (hk : a.k = 13) : a.n ≤ (n : Int) := by
  rcases gI_mem g ns ha with rfl | ⟨j, hj, rfl | rfl⟩
  · simp at hk
  · unfold gA at hk ⊢
    split
    · show (j : Int) * 2 + 3 ≤ _; omega
    · next h => simp [h] at hk
  · simp at hk
set_option maxHeartbeats 4000000 in
theorem guards_walk (w : World) (hT : Tb w) (ao : Option Addr) (N cp : Nat) (ns : List Int) (hp : Row w (.slice ao N cp) (ns.map (Value.int .i64))) (g : Bool) :
    Calls Tryd.prog 8 #[.slice ao N cp, .bool g] w fun e w' => e = .returned (.bool true) ∧ Below w.heap.size w w' := by
  obtain ⟨hN, hcap, hcap2, hrd⟩ := picks_at hp
  by_cases hm : 1 ≤ N ∧ N ≤ 60
  · obtain ⟨m1, m2⟩ := hm
    have m3 : (1 : Int) ≤ (N : Int) := by omega
    have m4 : (N : Int) ≤ 60 := by omega
    have RD := hide hrd
    have T0 := hide hT
    have NN := hide hN
    clear hp hT hrd hN
    go_enter Tryd.func8, Tryd.ntmps8
    go_upto_region 3 with (go_at_call 9; refine (begun_any _ T0.out).mono ?_; rintro e u1 ⟨rfl, b1⟩; replace b1 := hide b1)
    go_upto_region 6 with fail
    have bl := box_below u1 (.cells #[.int .i64 1, .int .i64 1, .int .i64 0, .int .i64 0] 47)
    have nl := heap_alloc_new u1 (.cells #[.int .i64 1, .int .i64 1, .int .i64 0, .int .i64 0] 47)
    have B2 := hide (keepF b1.out bl)
    have A2 : Hid (Ar w.heap.size (u1.alloc (.cells #[.int .i64 1, .int .i64 1, .int .i64 0, .int .i64 0] 47)) (.slice (some ⟨u1.heap.size, 0, none⟩) 1 1) (gI g ns 0)) := ar_lit (l := [⟨1, 1, 0, 0⟩]) nl rfl b1.out.size (by simp) rfl
    clear bl nl b1
    generalize u1.alloc (.cells #[.int .i64 1, .int .i64 1, .int .i64 0, .int .i64 0] 47) = u2 at *
    generalize u1.heap.size = lb at *
    go_upto_region 7 with fail
    go_loopw [5, 6] (fun s5 s6 wr => ∃ i : Nat, s6 = .int .i64 (i : Int) ∧ i ≤ N ∧ Hid (Ar w.heap.size wr s5 (gI g ns i) ∧ Below w.heap.size w wr)) (fun s5 s6 wr => N - (intOf s6).toNat)
    case atStart => exact ⟨0, rfl, Nat.zero_le _, A2.out, B2.out⟩
    case round =>
    obtain ⟨i, rfl, hiN, hst⟩ := hrel
    obtain ⟨a5, c5, e5, hc5⟩ := own_form hst.out.1
    obtain ⟨n, hn⟩ : ∃ n, Hid (2 * i + 1 = n) := ⟨_, rfl⟩
    rw [gI_len, hn.out] at e5 hc5
    subst e5
    clear A2 B2
    have hnb : n ≤ 200 := by have := hn.out; omega
    have hnb1 : (n : Int) ≤ 200 := by omega
    by_cases hlt : i < N
    · have i1 : (i : Int) < (N : Int) := by omega
      obtain ⟨x, hx⟩ : ∃ x, ns[i]? = some x := ⟨_, List.getElem?_eq_getElem (by rw [NN.out]; exact hlt)⟩
      have hxd : ns.getD i 0 = x := by rw [List.getD_eq_getElem?_getD, hx]; rfl
      cases g with
      | true =>
        obtain ⟨a6, c6, w7, a7, c7, w9, r7, r9, NX⟩ := guards_app hst.out.1 hst.out.2 hn.out (by omega) 13 ((n : Int) + 2) x (by unfold gA; simp; have := hn.out; omega) hxd
        obtain ⟨pb, po, rfl, hc⟩ := RD.out _ NX.out.2.2 i x hx
        replace hx := hide hx
        replace hxd := hide hxd
        clear hst
        go_upto_region 12 with (at_builtin; refine wpList_append_run rfl 45 (.tmp 29) (.tmp 34) rfl rfl rfl r7.out ?_)
        go_wp2_with (at_builtin; refine wpList_append_run rfl 45 (.tmp 40) (.tmp 46) rfl rfl rfl r9.out ?_)
        go_roundw
        case rel => exact ⟨i + 1, by go_num, hlt, NX.out.1, NX.out.2.1⟩
        case measure => simp only [intOf]; omega
      | false =>
        obtain ⟨a6, c6, w7, a7, c7, w9, r7, r9, NX⟩ := guards_app hst.out.1 hst.out.2 hn.out (by omega) 11 0 x (by unfold gA; simp) hxd
        obtain ⟨pb, po, rfl, hc⟩ := RD.out _ NX.out.2.2 i x hx
        replace hx := hide hx
        replace hxd := hide hxd
        clear hst
        go_upto_region 12 with (at_builtin; refine wpList_append_run rfl 45 (.tmp 36) (.tmp 38) rfl rfl rfl r7.out ?_)
        go_wp2_with (at_builtin; refine wpList_append_run rfl 45 (.tmp 40) (.tmp 46) rfl rfl rfl r9.out ?_)
        go_roundw
        case rel => exact ⟨i + 1, by go_num, hlt, NX.out.1, NX.out.2.1⟩
        case measure => simp only [intOf]; omega
    · obtain rfl : i = N := by omega
      have i1 : ¬ (i : Int) < (i : Int) := by omega
      have hn2 : Hid (2 * ns.length + 1 = n) := by show _ = _; rw [NN.out]; exact hn.out
      have A3 : Hid (Ar w.heap.size wr (.slice a5 n c5) (gI g ns ns.length)) := by show Ar _ _ _ _; rw [NN.out]; exact hst.out.1
      have B3 := hide hst.out.2
      clear hst
      go_upto_region 14 with fail
      go_loopw [7] (fun s7 wx => ∃ j : Nat, s7 = .int .i64 (j : Int) ∧ j ≤ n ∧ Hid (wx = wr)) (fun s7 wx => n - (intOf s7).toNat)
      case atStart => exact ⟨0, rfl, Nat.zero_le _, rfl⟩
      case round =>
      obtain ⟨j, rfl, hjn, hst⟩ := hrel
      have e := hst.out
      subst e
      clear hst
      have wj := wr_up (i := j) (by omega)
      by_cases hlt2 : j < n
      · have j1 : (j : Int) < (n : Int) := by omega
        have j2 : (n : Int) ≤ (c5 : Int) := by omega
        obtain ⟨ao', cp', e', -, ha⟩ := acts_own A3.out
        simp only [Value.slice.injEq] at e'
        obtain ⟨rfl, -, rfl⟩ := e'
        obtain ⟨a, hja⟩ : ∃ a, (gI g ns ns.length)[j]? = some a := ⟨_, List.getElem?_eq_getElem (by rw [gI_len, hn2.out]; exact hlt2)⟩
        obtain ⟨ab, aoff, rfl, k0, k1, k2, k3⟩ := ha j a hja
        have hle := gI_le hn2.out (List.mem_of_getElem? hja)
        clear ha hja
        by_cases hk13 : a.k = 13
        · have hle' := hle hk13
          rw [hk13] at k0
          have g1 : ¬ (n : Int) < a.n := by omega
          clear hle
          go_wp2_with fail
          go_roundw
          case rel => exact ⟨j + 1, by go_num, hlt2, trivial⟩
          case measure => simp only [intOf]; omega
        · have g1 : (a.k == 13) = false := by simpa using hk13
          clear hle
          go_wp2_with fail
          go_roundw
          case rel => exact ⟨j + 1, by go_num, hlt2, trivial⟩
          case measure => simp only [intOf]; omega
      · obtain rfl : j = n := by omega
        have j1 : ¬ (j : Int) < (j : Int) := by omega
        clear wj
        obtain ⟨a6, c6, w7, r7, NX⟩ := guards_last A3.out B3.out hn2.out (by rw [NN.out]; omega)
        obtain ⟨C0, hC0⟩ : ∃ C0, Hid (madeCells #[.int .i64 0] (200 * 1) = C0) := ⟨_, rfl⟩
        have MK : ∀ u : World, (Instr.makeSlice 23 (.int .i64 200) (.int .i64 200)).run Tryd.prog u = .ok (.slice (some ⟨u.heap.size, 0, none⟩) 200 200) (u.alloc (.cells C0 3)) := fun u => by rw [← hC0.out]; exact make_zeros u 200 (by omega)
        have n60 : Hid (ns.length ≤ 60) := by show _ ≤ _; rw [NN.out]; exact m2
        have n1 : Hid (1 ≤ ns.length) := by show _ ≤ _; rw [NN.out]; exact m1
        clear A3 B3
        go_upto_region 19 with (at_builtin; refine wpList_append_run rfl 45 (.tmp 70) (.tmp 72) rfl rfl rfl r7.out ?_)
        obtain ⟨M, rfl⟩ : ∃ M, i = M + 1 := ⟨i - 1, by omega⟩
        have lM : ns.length - 1 = M := by rw [NN.out]; rfl
        obtain ⟨x, hx⟩ : ∃ x, ns[M]? = some x := ⟨_, List.getElem?_eq_getElem (by rw [NN.out]; omega)⟩
        obtain ⟨y, hy⟩ : ∃ y, ns[0]? = some y := ⟨_, List.getElem?_eq_getElem (by rw [NN.out]; omega)⟩
        have dx : ns.getD (ns.length - 1) 0 = x := by rw [lM, List.getD_eq_getElem?_getD, hx]; rfl
        have dy : ns.getD 0 0 = y := by rw [List.getD_eq_getElem?_getD, hy]; rfl
        replace hx := hide hx
        replace hy := hide hy
        clear lM
        cases g with
        | true =>
          have RUN := hide (guards_run T0.out NX.out.1 NX.out.2 n60.out hC0.out x 1 0 1 (fun S hS => by
            obtain ⟨f1, t0, t1, f2, f3, f4⟩ := guards_facts n1.out n60.out S hS
            exact ⟨by rw [f1, dx], t0, t1, f2, f3, f4, (fun c => by cases c)⟩))
          clear dx dy r7
          go_upto_region 20 with (go_at_call 15; refine RUN.out.mono ?_; rintro e w5 ⟨ta, tn, tc, gr, rc, ge, ec, qa, qc, rfl, FS, b5⟩; replace b5 := hide b5; replace FS := hide FS)
          have bb := box_below w5 (.cells #[.int .i64 (tn : Int), .slice ta tn tc, .slice (some ⟨gr, 0, none⟩) 8 rc, .slice (some ⟨ge, 0, none⟩) 2 ec, .slice qa 4 qc] 33)
          have nb := heap_alloc_new w5 (.cells #[.int .i64 (tn : Int), .slice ta tn tc, .slice (some ⟨gr, 0, none⟩) 8 rc, .slice (some ⟨ge, 0, none⟩) 2 ec, .slice qa 4 qc] 33)
          obtain ⟨h1, h2, r7, c0, -, c2⟩ := FS.out
          have r7 := (bb.cell (lt_of_cell r7)).trans r7
          have c0 := (bb.cell (lt_of_cell c0)).trans c0
          have c2 := (bb.cell (lt_of_cell c2)).trans c2
          have B6 := hide (b5.out.trans (bb.mono b5.out.size))
          clear RUN b5 bb FS MK
          generalize w5.alloc (.cells #[.int .i64 (tn : Int), .slice ta tn tc, .slice (some ⟨gr, 0, none⟩) 8 rc, .slice (some ⟨ge, 0, none⟩) 2 ec, .slice qa 4 qc] 33) = w6 at *
          generalize w5.heap.size = pb at *
          have x0 : w6.cell? ⟨pb, 0, none⟩ = some (.int .i64 (tn : Int)) := by rw [cell_of nb]; rfl
          have x2 : w6.cell? ⟨pb, 2, none⟩ = some (.slice (some ⟨gr, 0, none⟩) 8 rc) := by rw [cell_of nb]; rfl
          have x3 : w6.cell? ⟨pb, 3, none⟩ = some (.slice (some ⟨ge, 0, none⟩) 2 ec) := by rw [cell_of nb]; rfl
          obtain ⟨nb', no, rfl, hc⟩ := RD.out _ B6.out M x hx.out
          have hrc : (8 : Int) ≤ (rc : Int) := by omega
          have hec : (2 : Int) ≤ (ec : Int) := by omega
          have wm1 : wrap64 (((M + 1 : Nat) : Int) - 1) = (M : Int) := by unfold wrap64; omega
          have wm2 : IntKind.i64.wrap (((M + 1 : Nat) : Int) - 1) = (M : Int) := by rw [IntKind.wrap_i64]; omega
          have hM1 : (M : Int) < ((M + 1 : Nat) : Int) := by omega
          clear nb h1 h2
          go_upto_region 23 with fail
          go_quiet (fail)
          go_wp2_with fail
          go_ret
          exact ⟨rfl, B6.out.trans (Qt.below ⟨_, rfl⟩ _)⟩
        | false =>
          have RUN := hide (guards_run T0.out NX.out.1 NX.out.2 n60.out hC0.out 0 2 y 4 (fun S hS => by
            obtain ⟨f1, t0, t1, f2, f3, f4, f5⟩ := bare_facts n1.out S hS
            exact ⟨f1, t0, t1, f2, f3, f5, (fun _ => by rw [f4, dy])⟩))
          clear dx dy r7
          go_upto_region 20 with (go_at_call 15; refine RUN.out.mono ?_; rintro e w5 ⟨ta, tn, tc, gr, rc, ge, ec, qa, qc, rfl, FS, b5⟩; replace b5 := hide b5; replace FS := hide FS)
          have bb := box_below w5 (.cells #[.int .i64 (tn : Int), .slice ta tn tc, .slice (some ⟨gr, 0, none⟩) 8 rc, .slice (some ⟨ge, 0, none⟩) 2 ec, .slice qa 4 qc] 33)
          have nb := heap_alloc_new w5 (.cells #[.int .i64 (tn : Int), .slice ta tn tc, .slice (some ⟨gr, 0, none⟩) 8 rc, .slice (some ⟨ge, 0, none⟩) 2 ec, .slice qa 4 qc] 33)
          obtain ⟨h1, h2, r7, c0, c1', c2⟩ := FS.out
          have c1 := c1' trivial
          have r7 := (bb.cell (lt_of_cell r7)).trans r7
          have c0 := (bb.cell (lt_of_cell c0)).trans c0
          have c1 := (bb.cell (lt_of_cell c1)).trans c1
          have c2 := (bb.cell (lt_of_cell c2)).trans c2
          have B6 := hide (b5.out.trans (bb.mono b5.out.size))
          clear RUN b5 bb FS MK c1'
          generalize w5.alloc (.cells #[.int .i64 (tn : Int), .slice ta tn tc, .slice (some ⟨gr, 0, none⟩) 8 rc, .slice (some ⟨ge, 0, none⟩) 2 ec, .slice qa 4 qc] 33) = w6 at *
          generalize w5.heap.size = pb at *
          have x0 : w6.cell? ⟨pb, 0, none⟩ = some (.int .i64 (tn : Int)) := by rw [cell_of nb]; rfl
          have x2 : w6.cell? ⟨pb, 2, none⟩ = some (.slice (some ⟨gr, 0, none⟩) 8 rc) := by rw [cell_of nb]; rfl
          have x3 : w6.cell? ⟨pb, 3, none⟩ = some (.slice (some ⟨ge, 0, none⟩) 2 ec) := by rw [cell_of nb]; rfl
          obtain ⟨nb', no, rfl, hc⟩ := RD.out _ B6.out 0 y hy.out
          have hc : w6.cell? ⟨nb', no, none⟩ = some (.int .i64 y) := by simpa using hc
          have hrc : (8 : Int) ≤ (rc : Int) := by omega
          have hec : (2 : Int) ≤ (ec : Int) := by omega
          have hM0 : (0 : Int) < ((M + 1 : Nat) : Int) := by omega
          have hq : ∀ u : World, (binOp .eql 49 (.agg #[.int .i64 2, .int .i64 y]) (.agg #[.int .i64 2, .int .i64 y])).run Tryd.prog u = .ok (.bool true) u := fun u => by rw [endEql]; simp
          clear nb h1 h2
          go_upto_region 24 with fail
          go_quiet (fail)
          go_wp2_with fail
          go_ret
          exact ⟨rfl, B6.out.trans (Qt.below ⟨_, rfl⟩ _)⟩
  · have T0 := hide hT
    clear hp hT hrd
    go_enter Tryd.func8, Tryd.ntmps8
    go_upto_region 3 with (go_at_call 9; refine (begun_any _ T0.out).mono ?_; rintro e u1 ⟨rfl, b1⟩; replace b1 := hide b1)
    go_upto_region 5 with fail
    all_goals first
      | (go_ret; exact ⟨rfl, b1.out⟩)
      | (exfalso; omega)
end Go.Proofs.YtdbhfeiibcpcaaaDoor.Sd

/-
  What the listed table of sched holds.
-/
namespace Go.Proofs.YtdbhfeiibcpcaaaDoor.Sd
open Go.RowKit
set_option maxRecDepth 100000
theorem vars_read {P : Program} {w : World} {n : String} {d : DataW Unit} : ∀ {l : List (String × DataW Unit)} {ps : List MemPlace}, DataW.LaidVars P w l ps → (n, d) ∈ l →
    ∃ g t cs fuel p, P.globalNamed n = some g ∧ (P.globals[g]?).map (·.type) = some t ∧ w.var? P n = some cs ∧ DataW.trod (fun _ => ()) P w 0 (fun _ => true) false fuel t cs.toList = some (d, p) := by
  intro l
  induction l with
  | nil => intro _ _ hm; cases hm
  | cons x r ih =>
    intro ps h hm
    obtain ⟨g, t, cs, fuel, p, q, h1, h2, h3, h4, h5, _⟩ := h
    rcases List.mem_cons.1 hm with e | e
    · subst e; exact ⟨g, t, cs, fuel, p, h1, h2, h3, h4⟩
    · exact ih h5 e
def reachL : List (Int × Int) := [(0, 0), (4, 1), (4, 1), (4, 4), (4, 1), (4, 1), (4, 1), (4, 8), (8, 1), (8, 8), (8, 1), (1, 1), (1, 1), (1, 1)]
theorem laid_list : (Rows.laid_flume_sched_reaches : DataW Unit) = .agg (reachL.map fun x => .agg [.lit (.int .i64 x.1), .lit (.int .i64 x.2)]) := by rfl
theorem reach_fn : ∀ k : Fin 14, 1 ≤ k.val → reachL[k.val]? = some (ra k.val, rb' k.val) := by decide
theorem tb_of {l : List (String × DataW Unit)} {W : World} (h : laidMet Tryd.prog l W) (hm : ("flume/sched.reaches", Rows.laid_flume_sched_reaches) ∈ l) : Tb W := by
  obtain ⟨ps, hv, _⟩ := h
  obtain ⟨g, t, cs, fuel, p, h1, h2, h3, h4⟩ := vars_read hv hm
  obtain rfl := Option.some.inj ((show Tryd.prog.globalNamed "flume/sched.reaches" = some 0 by kernel_rfl).symm.trans h1)
  obtain rfl := Option.some.inj ((show (Tryd.prog.globals[0]?).map (·.type) = some 80 by kernel_rfl).symm.trans h2)
  obtain ⟨xs, m, _, ex, _, hl, hel⟩ := DataW.trod_array Tryd.underlying80 h4
  have c2 : Tryd.prog.cellsOf 79 = 2 := by kernel_rfl
  have c1 : Tryd.prog.cellsOf 3 = 1 := by kernel_rfl
  rw [laid_list] at ex
  have e3 := (DataW.agg.inj (Prod.mk.inj ex).1).symm
  intro k k1 k2
  have hE := hel k (by omega)
  rw [c2, List.getElem?_eq_getElem (by omega)] at hE
  have hr := reach_fn ⟨k, by omega⟩ k1
  simp only at hr
  have e4 : (xs.map (·.1))[k]? = some (.agg [.lit (.int .i64 (ra k)), .lit (.int .i64 (rb' k))]) := by
    rw [e3, List.getElem?_map, hr]; rfl
  rw [List.getElem?_map, List.getElem?_eq_getElem (by omega)] at e4
  simp only [Option.map_some, Option.some.injEq] at e4
  obtain ⟨y0, y1, n, ex2, _, g0, g1⟩ := Go.ChangeShapes.trod_struct2 Tryd.underlying79 hE
  simp only [c1] at g0 g1
  obtain ⟨z0, a1, a2, _⟩ := DataW.trod_int Tryd.underlying3 g0
  obtain ⟨z1, b1, b2, _⟩ := DataW.trod_int Tryd.underlying3 g1
  rw [ex2, a2, b2] at e4
  simp only [DataW.agg.injEq, List.cons.injEq, DataW.lit.injEq, Lit.int.injEq, true_and, and_true] at e4
  obtain ⟨r1, r2⟩ := e4
  refine ⟨?_, ?_⟩
  · rw [World.var?_cell h1 h3 (k * 2), ← r1]
    have h0 : ((((cs.toList.drop (k * 2)).take 2).drop 0).take 1)[0]? = some (.int .i64 z0) := by rw [a1]; rfl
    simpa using h0
  · rw [World.var?_cell h1 h3 (k * 2 + 1), ← r2]
    have h0 : ((((cs.toList.drop (k * 2)).take 2).drop 1).take 1)[0]? = some (.int .i64 z1) := by rw [b1]; rfl
    simpa using h0
end Go.Proofs.YtdbhfeiibcpcaaaDoor.Sd

