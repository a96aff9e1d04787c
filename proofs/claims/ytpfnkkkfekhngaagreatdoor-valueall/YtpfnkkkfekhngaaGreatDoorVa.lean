/-
  Values as data: which may be, their sizes, their order. No program is named here.
-/
import Derived.Test.YtpfnkkkfekhngaaGreatDoorRlB
namespace Go.Proofs.YtpfnkkkfekhngaaGreatDoor.Va
open Go.RowKit Go.Proofs.YtpfnkkkfekhngaaGreatDoor.Rl

inductive Val where
  | mk (k n : Int) (r : Nat) (t : List UInt8) (l : List Val)
theorem Val.ind {p : Val → Prop} (h : ∀ k n r t l, (∀ x ∈ l, p x) → p (.mk k n r t l)) : ∀ x, p x
  | .mk k n r t l => h k n r t l fun x _ => Val.ind h x
mutual
/-- The size. -/
def szV : Val → Nat
  | .mk _ _ _ t l => 1 + t.length + szL l
def szL : List Val → Nat
  | [] => 0
  | x :: r => szV x + szL r
end
/-- What a kind does not use is zero. -/
def plain (k n : Int) (r : Nat) (t : List UInt8) (e : Bool) : Bool :=
  decide (1 ≤ k) && decide (k ≤ 6) && (decide (k = 2) || decide (k = 3) || decide (n = 0)) && (decide (k = 4) || decide (r = 0)) && (decide (k = 5) || t.isEmpty) && (decide (k = 6) || e) && (!decide (k = 2) || (decide (0 ≤ n) && decide (n ≤ 1)))
mutual
/-- It has the form of a value that lies in d lists. -/
def okV : Nat → Val → Bool
  | d, .mk k n r t l => plain k n r t l.isEmpty && (!decide (k = 6) || decide (d < 8)) && okL (d + 1) l
def okL : Nat → List Val → Bool
  | _, [] => true
  | d, x :: r => okV d x && okL d r
end
def mayV (x : Val) : Bool := okV 0 x && decide (szV x ≤ 65536)
def cmpT : List UInt8 → List UInt8 → Int
  | [], [] => 0
  | [], _ :: _ => -1
  | _ :: _, [] => 1
  | a :: r, b :: s => if a = b then cmpT r s else cmpZ a.toNat b.toNat
mutual
def cmpV : Val → Val → Int
  | .mk k n r t l, .mk k' n' r' t' l' => if k ≠ k' then cmpZ k k' else if k = 2 ∨ k = 3 then cmpZ n n' else if k = 4 then cmpB r r' else if k = 5 then cmpT t t' else cmpL l l'
def cmpL : List Val → List Val → Int
  | [], [] => 0
  | [], _ :: _ => -1
  | _ :: _, [] => 1
  | x :: r, y :: s => if cmpV x y = 0 then cmpL r s else cmpV x y
end
def compV (x y : Val) : Int := if mayV x then (if mayV y then cmpV x y else -1) else (if mayV y then 1 else 0)
def sameV (x y : Val) : Bool := mayV x && mayV y && decide (cmpV x y = 0)

/-- What a comparison owes of three. -/
structure Ord3 (xy yx yz xz : Int) : Prop where
  rng : xy = -1 ∨ xy = 0 ∨ xy = 1
  anti : yx = -xy
  trans : xy ≤ 0 → yz ≤ 0 → xz ≤ 0 ∧ (xy < 0 ∨ yz < 0 → xz < 0)
theorem cmpZ_ord (x y z : Int) : Ord3 (cmpZ x y) (cmpZ y x) (cmpZ y z) (cmpZ x z) := by
  unfold cmpZ
  exact ⟨by (repeat' split) <;> omega, by (repeat' split) <;> omega, by (repeat' split) <;> omega⟩
theorem cmpT_ord : ∀ x y z, Ord3 (cmpT x y) (cmpT y x) (cmpT y z) (cmpT x z)
  | [], [], [] => by simp only [cmpT]; exact ⟨by omega, by omega, by omega⟩
  | [], [], _ :: _ => by simp only [cmpT]; exact ⟨by omega, by omega, by omega⟩
  | [], _ :: _, [] => by simp only [cmpT]; exact ⟨by omega, by omega, by omega⟩
  | [], _ :: _, _ :: _ => by simp only [cmpT]; exact ⟨by omega, by omega, fun _ _ => by omega⟩
  | _ :: _, [], [] => by simp only [cmpT]; exact ⟨by omega, by omega, by omega⟩
  | _ :: _, [], _ :: _ => by simp only [cmpT]; exact ⟨by omega, by omega, fun h => by omega⟩
  | a :: r, b :: s, [] => by
    have h := cmpT_ord r s []
    have hz := cmpZ_ord a.toNat b.toNat 0
    simp only [cmpT]
    by_cases e : a = b
    · subst e; rw [if_pos rfl, if_pos rfl]; exact ⟨h.rng, h.anti, fun _ h => by omega⟩
    · rw [if_neg e, if_neg (fun h => e h.symm)]; exact ⟨hz.rng, hz.anti, fun _ h => by omega⟩
  | a :: r, b :: s, c :: u => by
    have h := cmpT_ord r s u
    have hz := cmpZ_ord a.toNat b.toNat c.toNat
    have ne : ∀ p q : UInt8, p ≠ q → cmpZ p.toNat q.toNat ≠ 0 := fun p q hpq h0 => hpq (UInt8.toNat_inj.1 (by unfold cmpZ at h0; (repeat' split at h0) <;> omega))
    simp only [cmpT]
    by_cases e1 : a = b
    · subst e1
      rw [if_pos rfl, if_pos rfl]
      by_cases e2 : a = c
      · subst e2; rw [if_pos rfl, if_pos rfl]; exact h
      · rw [if_neg e2, if_neg e2]; exact ⟨h.rng, h.anti, fun _ h2 => ⟨h2, fun _ => by have := ne a c e2; omega⟩⟩
    · rw [if_neg e1, if_neg (fun h => e1 h.symm)]
      by_cases e2 : b = c
      · subst e2; rw [if_pos rfl, if_neg e1]; exact ⟨hz.rng, hz.anti, fun h1 _ => ⟨h1, fun _ => by have := ne a b e1; omega⟩⟩
      · rw [if_neg e2]
        by_cases e3 : a = c
        · subst e3
          refine ⟨hz.rng, hz.anti, fun h1 h2 => ?_⟩
          have h3 := ne a b e1
          have h4 := hz.anti
          exfalso; omega
        · rw [if_neg e3]; exact hz
mutual
theorem cmpV_two : ∀ x y, (cmpV x y = -1 ∨ cmpV x y = 0 ∨ cmpV x y = 1) ∧ cmpV y x = -cmpV x y
  | .mk k n r t l, .mk k' n' r' t' l' => by
    have hk := cmpZ_ord k k' k'
    have hn := cmpZ_ord n n' n'
    have hr := cmpZ_ord (keyB r) (keyB r') (keyB r')
    have ht := cmpT_ord t t' t'
    have hl := cmpL_two l l'
    simp only [cmpV, cmpB]
    by_cases e1 : k = k'
    · subst e1
      simp only [ne_eq, not_true_eq_false, if_false]
      by_cases c1 : k = 2 ∨ k = 3
      · simp only [if_pos c1]; exact ⟨hn.rng, hn.anti⟩
      · simp only [if_neg c1]
        by_cases c2 : k = 4
        · simp only [if_pos c2]; exact ⟨hr.rng, hr.anti⟩
        · simp only [if_neg c2]
          by_cases c3 : k = 5
          · simp only [if_pos c3]; exact ⟨ht.rng, ht.anti⟩
          · simp only [if_neg c3]; exact hl
    · simp only [ne_eq, if_pos e1, if_pos (fun h : k' = k => e1 h.symm)]
      exact ⟨hk.rng, hk.anti⟩
theorem cmpL_two : ∀ x y, (cmpL x y = -1 ∨ cmpL x y = 0 ∨ cmpL x y = 1) ∧ cmpL y x = -cmpL x y
  | [], [] => ⟨by simp [cmpL], by simp [cmpL]⟩
  | [], _ :: _ => ⟨by simp [cmpL], by simp [cmpL]⟩
  | _ :: _, [] => ⟨by simp [cmpL], by simp [cmpL]⟩
  | a :: r, b :: s => by
    have h := cmpL_two r s
    have hz := cmpV_two a b
    simp only [cmpL]
    by_cases e : cmpV a b = 0
    · rw [if_pos e, if_pos (by omega)]; exact h
    · rw [if_neg e, if_neg (by omega)]; exact hz
end
mutual
theorem cmpV_ord : ∀ x y z, Ord3 (cmpV x y) (cmpV y x) (cmpV y z) (cmpV x z)
  | .mk k n r t l, .mk k' n' r' t' l', .mk k'' n'' r'' t'' l'' => by
    have hk := cmpZ_ord k k' k''
    have hn := cmpZ_ord n n' n''
    have hr := cmpZ_ord (keyB r) (keyB r') (keyB r'')
    have ht := cmpT_ord t t' t''
    have hl := cmpL_ord l l' l''
    have ne : ∀ p q : Int, p ≠ q → cmpZ p q ≠ 0 := fun p q hpq h0 => hpq (by unfold cmpZ at h0; (repeat' split at h0) <;> omega)
    simp only [cmpV, cmpB]
    by_cases e1 : k = k'
    · subst e1
      simp only [ne_eq, not_true_eq_false, if_false]
      by_cases e2 : k = k''
      · subst e2
        simp only [not_true_eq_false, if_false]
        by_cases c1 : k = 2 ∨ k = 3
        · simp only [if_pos c1]; exact hn
        · simp only [if_neg c1]
          by_cases c2 : k = 4
          · simp only [if_pos c2]; exact hr
          · simp only [if_neg c2]
            by_cases c3 : k = 5
            · simp only [if_pos c3]; exact ht
            · simp only [if_neg c3]; exact hl
      · simp only [if_pos e2]
        have h0 := ne k k'' e2
        by_cases c1 : k = 2 ∨ k = 3
        · simp only [if_pos c1]; exact ⟨hn.rng, hn.anti, fun _ h2 => ⟨h2, fun _ => by omega⟩⟩
        · simp only [if_neg c1]
          by_cases c2 : k = 4
          · simp only [if_pos c2]; exact ⟨hr.rng, hr.anti, fun _ h2 => ⟨h2, fun _ => by omega⟩⟩
          · simp only [if_neg c2]
            by_cases c3 : k = 5
            · simp only [if_pos c3]; exact ⟨ht.rng, ht.anti, fun _ h2 => ⟨h2, fun _ => by omega⟩⟩
            · simp only [if_neg c3]; exact ⟨hl.rng, hl.anti, fun _ h2 => ⟨h2, fun _ => by omega⟩⟩
    · have h0 := ne k k' e1
      simp only [ne_eq, if_pos e1, if_pos (fun h : k' = k => e1 h.symm)]
      by_cases e2 : k' = k''
      · subst e2
        simp only [if_pos e1]
        exact ⟨hk.rng, hk.anti, fun h1 _ => ⟨h1, fun _ => by omega⟩⟩
      · simp only [if_pos e2]
        have h1 := ne k' k'' e2
        by_cases e3 : k = k''
        · subst e3
          refine ⟨hk.rng, hk.anti, fun h1 h2 => ?_⟩
          have h4 := hk.anti
          exfalso; omega
        · simp only [if_pos e3]; exact hk
termination_by x y z => SizeOf.sizeOf x + SizeOf.sizeOf y + SizeOf.sizeOf z
theorem cmpL_ord : ∀ x y z, Ord3 (cmpL x y) (cmpL y x) (cmpL y z) (cmpL x z)
  | [], [], [] => by simp only [cmpL]; exact ⟨by omega, by omega, by omega⟩
  | [], [], _ :: _ => by simp only [cmpL]; exact ⟨by omega, by omega, by omega⟩
  | [], _ :: _, [] => by simp only [cmpL]; exact ⟨by omega, by omega, by omega⟩
  | [], _ :: _, _ :: _ => by simp only [cmpL]; exact ⟨by omega, by omega, fun _ _ => by omega⟩
  | _ :: _, [], [] => by simp only [cmpL]; exact ⟨by omega, by omega, by omega⟩
  | _ :: _, [], _ :: _ => by simp only [cmpL]; exact ⟨by omega, by omega, fun h => by omega⟩
  | a :: r, b :: s, [] => by
    obtain ⟨h3, h4⟩ := cmpL_two r s
    obtain ⟨h2, h1⟩ := cmpV_two a b
    simp only [cmpL]
    by_cases e : cmpV a b = 0
    · rw [if_pos e, if_pos (by omega)]; exact ⟨h3, h4, fun _ h => by omega⟩
    · rw [if_neg e, if_neg (by omega)]; exact ⟨h2, h1, fun _ h => by omega⟩
  | a :: r, b :: s, c :: u => by
    have h := cmpL_ord r s u
    have hz := cmpV_ord a b c
    have hy := cmpV_ord b a c
    have hx := cmpV_ord c b a
    have hw := cmpV_ord b c a
    have hv := cmpV_ord a c b
    have ht := cmpV_ord c a b
    have z1 := hz.trans
    have z2 := hy.trans
    have z3 := hx.trans
    have z4 := hw.trans
    have z5 := hv.trans
    have z6 := ht.trans
    have a1 := hz.anti
    have a2 := hw.anti
    have a3 := hv.anti
    have r1 := hz.rng
    have r2 := hw.rng
    have r3 := hv.rng
    simp only [cmpL]
    by_cases e1 : cmpV a b = 0
    · rw [if_pos e1, if_pos (show cmpV b a = 0 by omega)]
      by_cases e2 : cmpV b c = 0
      · rw [if_pos e2, if_pos (show cmpV a c = 0 by omega)]; exact h
      · rw [if_neg e2, if_neg (show ¬ cmpV a c = 0 by omega)]
        exact ⟨h.rng, h.anti, fun _ h2 => ⟨by omega, fun _ => by omega⟩⟩
    · rw [if_neg e1, if_neg (show ¬ cmpV b a = 0 by omega)]
      by_cases e2 : cmpV b c = 0
      · rw [if_pos e2, if_neg (show ¬ cmpV a c = 0 by omega)]
        exact ⟨r1, a1, fun h1 _ => ⟨by omega, fun _ => by omega⟩⟩
      · rw [if_neg e2]
        by_cases e3 : cmpV a c = 0
        · exact ⟨r1, a1, fun h1 h2 => by exfalso; omega⟩
        · rw [if_neg e3]; exact ⟨r1, a1, fun h1 h2 => ⟨by omega, fun _ => by omega⟩⟩
termination_by x y z => SizeOf.sizeOf x + SizeOf.sizeOf y + SizeOf.sizeOf z
end
theorem compV_ord (x y z : Val) : Ord3 (compV x y) (compV y x) (compV y z) (compV x z) := by
  have h := cmpV_ord x y z
  unfold compV
  cases mayV x <;> cases mayV y <;> cases mayV z <;> simp only [if_true, if_false, Bool.false_eq_true]
  all_goals first | exact h | exact ⟨h.rng, h.anti, fun _ _ => by omega⟩ | exact ⟨by omega, by omega, fun _ _ => by omega⟩ | exact ⟨by omega, by omega, by omega⟩
theorem compV_self (x : Val) : compV x x = 0 := by have := (compV_ord x x x).anti; omega
#print axioms compV_ord
end Go.Proofs.YtpfnkkkfekhngaaGreatDoor.Va
