/-
  CatalogRuns: what a roll and a cut come to, by data; a catalog in a variable.
-/
import Derived.Test.YtdhjlongdfgejaaCtP
import Derived.Test.YtdhjlongdfgejaaCtS
namespace Go.Proofs.Ytdhjlongdfgejaa.Ct
open Go.RowKit

theorem roll_cases {g f : Int} {l : List Sg} (hm : May g f l) (en sz : Int) (se : Nat) :
    (rollF g f l en sz se).1 ≠ 0 ∨ (rollF g f l en sz se = (0, g + 1, f, rolled l en sz se) ∧ May (g + 1) f (rolled l en sz se) ∧ g ≠ 9223372036854775807 ∧ (lastS l).nm ≠ 9223372036854775807) := by
  unfold rollF
  rw [if_neg (fun c => c hm)]
  split
  · left; simp
  split
  · left; simp
  split
  · left; simp
  · rename_i h1 h2 h3
    refine .inr ⟨rfl, Classical.not_not.1 h3, fun c => h2 (.inl c), fun c => h2 (.inr c)⟩
theorem cut_cases {g f : Int} {l : List Sg} (hm : May g f l) (n : Int) :
    (cutF g f l n).1 ≠ 0 ∨ ∃ k, IsCut l n k ∧ f ≤ n ∧ g ≠ 9223372036854775807 ∧ cutF g f l n = (0, g + 1, n, l.drop k, (l.take k).map Sg.nm) := by
  by_cases h : n < f ∨ g = 9223372036854775807
  · left; rw [cutF_arg hm h]; simp
  · obtain ⟨k, hk⟩ := hm.isCut n
    refine .inr ⟨k, hk, by omega, fun c => h (.inr c), cutF_at hm h hk⟩
theorem rolled_sg1 (l : List Sg) (en sz : Int) (se : Nat) : sg (rolled l en sz se) (l.length - 1) = ⟨(lastS l).nm, (lastS l).ba, (lastS l).se, en, sz⟩ := by
  unfold sg rolled
  rw [List.getD_eq_getElem?_getD, List.getElem?_append_right (by simp)]
  simp
theorem rolled_sg2 {l : List Sg} (h : 1 ≤ l.length) (en sz : Int) (se : Nat) : sg (rolled l en sz se) l.length = ⟨(lastS l).nm + 1, en, se, 0, 0⟩ := by
  unfold sg rolled
  rw [List.getD_eq_getElem?_getD, List.getElem?_append_right (by simp)]
  have : l.length - (List.take (l.length - 1) l).length = 1 := by simp; omega
  rw [this]
  rfl
theorem four_cells {w : World} {b : Nat} {a0 a1 a2 a3 : Value} {T : TypeId} (h : w.heap[b]? = some (.cells #[a0, a1, a2, a3] T (0, 0))) : w.cell? ⟨b, 0, none⟩ = some a0 ∧ w.cell? ⟨b, 1, none⟩ = some a1 ∧ w.cell? ⟨b, 2, none⟩ = some a2 ∧ w.cell? ⟨b, 3, none⟩ = some a3 := by
  simp [World.cell?, h]
/-- A catalog that may be, in the variable at block cb, of the call's own. -/
structure Stc (w u : World) (cb : Nat) (g f : Int) (v : Value) (l : List Sg) : Prop where
  lo : w.heap.size ≤ cb
  bel : Below w.heap.size w u
  blk : u.heap[cb]? = some (.cells #[.int .i64 g, .int .i64 f, v] 29 (0, 0))
  own : Own w.heap.size u v l
  may : May g f l
  g2 : g ≤ 9223372036854775807
  f2 : f ≤ 9223372036854775807
theorem Stc.below {w u u' : World} {cb : Nat} {g f : Int} {v : Value} {l : List Sg} (h : Stc w u cb g f v l) (hb : Below u.heap.size u u') : Stc w u' cb g f v l :=
  ⟨h.lo, keepF h.bel hb, by rw [hb.block _ (heap_lt h.blk)]; exact h.blk, h.own.below hb, h.may, h.g2, h.f2⟩
/-- Another one is put there. -/
theorem Stc.put {w u : World} {cb : Nat} {g f : Int} {v : Value} {l : List Sg} (h : Stc w u cb g f v l) {g' f' : Int} {v' : Value} {l' : List Sg} (ho : Own w.heap.size u v' l') (hm : May g' f' l') (h1 : g' ≤ 9223372036854775807) (h2 : f' ≤ 9223372036854775807) :
    Stc w (put3 u cb (.int .i64 g') (.int .i64 f') v') cb g' f' v' l' :=
  ⟨h.lo, put3_below h.bel h.lo _ _ _, put3_heap h.blk _ _ _, ho.put3 h.blk (by decide) _ _ _, hm, h1, h2⟩
theorem Stc.other {w u : World} {cb db : Nat} {g f : Int} {v : Value} {l : List Sg} (h : Stc w u cb g f v l) {cs : Array Value} {fz : Nat × Nat} (hb : u.heap[db]? = some (.cells cs 29 fz)) (hne : cb ≠ db) (hlo : w.heap.size ≤ db) (a0 a1 a2 : Value) : Stc w (put3 u db a0 a1 a2) cb g f v l :=
  ⟨h.lo, put3_below h.bel hlo _ _ _, by rw [put3_other _ _ _ _ _ _ hne]; exact h.blk, h.own.put3 hb (by decide) _ _ _, h.may, h.g2, h.f2⟩
/-- What the statement asks of each segment behind a cut. -/
theorem cut_goes {g f : Int} {l : List Sg} (hm : May g f l) {n : Int} {k : Nat} (hk : IsCut l n k) {j : Nat} (hj : j < l.length) : (j < k → (sg l j).en ≠ 0 ∧ (sg l j).en ≤ n) ∧ (¬ j < k → (sg l j).en = 0 ∨ ¬ (sg l j).en ≤ n) := by
  have hg := hk.gap hm j hj
  have hs := hm.sld hj
  constructor
  · intro h
    obtain ⟨a, b⟩ := hg.1 h
    obtain ⟨⟨_, c, d, _⟩, _⟩ := hm.lk j (hs.1 a)
    exact ⟨by omega, b⟩
  · intro h
    by_cases a : sldF (sg l j)
    · exact .inr fun c => h (hg.2 ⟨a, c⟩)
    · exact .inl (Classical.byContradiction fun c => a (.inl c))
theorem bytesC_len (g f : Int) (l : List Sg) (h : l.length ≤ 64) : (bytesC g f l).length ≤ 4000 := by
  have a := frontC_len g f l
  have b := fx_len 4 (Crc.more 0#32 (frontC g f l)).toNat
  unfold bytesC
  rw [List.length_append, b]
  omega
theorem one_own {w w1 : World} (hb : w.heap.size ≤ w1.heap.size) (s : Sg) (hs : SIn s) : Own w.heap.size (w1.alloc (.cells #[.int .i64 s.nm, .int .i64 s.ba, .int .u32 (s.se : Int), .int .i64 s.en, .int .i64 s.sz] 53)) (.slice (some ⟨w1.heap.size, 0, none⟩) 1 1) [s] := by
  refine ⟨fun x hx => by simp at hx; subst hx; exact hs, rfl, .inr ⟨w1.heap.size, 1, _, rfl, hb, heap_alloc_new w1 _, Nat.le_refl _, by decide, rfl, rfl⟩⟩
theorem sin_one {b : Int} (h : 1 ≤ b) (h2 : b ≤ 9223372036854775807) : SIn ⟨1, b, 0, 0, 0⟩ := ⟨by simp, by simp, by simp; omega, h2, by simp, by simp, by simp, by simp, by simp⟩
theorem may_one {b : Int} (h : 1 ≤ b) : May 1 b [⟨1, b, 0, 0, 0⟩] :=
  ⟨by decide, by simp, by simp, fun i hi => by simp at hi, ⟨by show (1 : Int) ≤ 1; decide, h, fun c => by rcases c with c | c <;> exact c rfl⟩, Int.le_refl _, fun c => by rcases c with c | c <;> exact absurd rfl c⟩
end Go.Proofs.Ytdhjlongdfgejaa.Ct
