/-
  Lists of values that grow by append, their elements in memory of their own.
-/
import Derived.Test.YtpfnkkkfekhngaaGreatDoorYr5
import Derived.Deep.CutRange
import Derived.Deep.RegionHeld3
import Derived.Test.YtpfnkkkfekhngaaGreatDoorVb
namespace Go.Proofs.YtpfnkkkfekhngaaGreatDoor.Va
open Go.RowKit Go.Proofs.YtpfnkkkfekhngaaGreatDoor.Rl
set_option maxRecDepth 100000
set_option linter.unusedVariables false

/-- The slice v8 owns these values; each lies in blocks from lo on, out of the slice's own. -/
structure GL (lo : Nat) (wr : World) (v8 : Value) (acc : List Val) (xs : List Value) : Prop where
  own : wr.ownsRow lo 35 5 v8 acc.length xs
  each : ∀ j (h : j < acc.length), ∃ c0 c1 c2 c3 c4, xs[j * 5]? = some c0 ∧ xs[j * 5 + 1]? = some c1 ∧ xs[j * 5 + 2]? = some c2 ∧ xs[j * 5 + 3]? = some c3 ∧ xs[j * 5 + 4]? = some c4 ∧ FarS (fun b => lo ≤ b ∧ v8.ownBlock ≠ some b) wr (.agg #[c0, c1, c2, c3, c4]) acc[j]
theorem GL.nil (lo : Nat) (w : World) : GL lo w (.slice none 0 0) [] [] := ⟨World.ownsRow_nil _ _ _ _, fun j h => by simp at h⟩
theorem GL.shape {lo : Nat} {wr : World} {v8 : Value} {acc : List Val} {xs : List Value} (h : GL lo wr v8 acc xs) : ∃ vo vc, v8 = .slice vo acc.length vc := by
  rcases h.own.2 with ⟨rfl, h0⟩ | ⟨gb, cap, cur, rfl, _⟩
  · exact ⟨_, _, by rw [h0]⟩
  · exact ⟨_, _, rfl⟩
/-- As a value. -/
theorem GL.far {lo : Nat} {wr : World} {v8 : Value} {acc : List Val} {xs : List Value} (h : GL lo wr v8 acc xs) (k n : Int) (r : Nat) (t : List UInt8) (ht : t.length ≤ 140737488355328) :
    Far wr lo (.agg #[.int .i64 k, .int .i64 n, .float .f64 r, .string (bstr t), v8]) (.mk k n r t acc) := by
  intro w' hw
  have ho := h.own
  have he := h.each
  rw [IsV]
  rcases ho.2 with ⟨rfl, h0⟩ | ⟨gb, cap, cur, rfl, a2, a3, a4, a5, a6, a7⟩
  · have : acc = [] := List.length_eq_zero_iff.1 h0
    subst this
    exact ⟨none, 0, rfl, fun _ => ⟨rfl, rfl⟩, by simp, by unfold maxLen; omega, ht, by rw [IsL]; trivial⟩
  · refine ⟨_, cap, rfl, fun h => (by simp at h), a4, a5, ht, isL_of acc 0 fun j hj => ?_⟩
    obtain ⟨c0, c1, c2, c3, c4, e0, e1, e2, e3, e4, hf⟩ := he j hj
    have hc : ∀ k u, xs[k]? = some u → w'.cell? ⟨gb, k, none⟩ = some u := fun k u hu => by
      have h1 := ho.cells (g := gb) rfl k u hu
      rw [yadd0] at h1
      rw [World.cell?_of_block (w := wr) (w' := w') (a := ⟨gb, k, none⟩) (hw gb a2 (heap_lt a3))]
      exact h1
    simp only [Nat.zero_add]
    exact ⟨c0, c1, c2, c3, c4, hc _ _ e0, hc _ _ e1, hc _ _ e2, hc _ _ e3, hc _ _ e4, hf w' fun b h1 h2 => hw b h1.1 h2⟩
theorem GL.keep {lo : Nat} {wr w' : World} {v8 : Value} {acc : List Val} {xs : List Value} (h : GL lo wr v8 acc xs) (hb : ∀ b, lo ≤ b → b < wr.heap.size → w'.heap[b]? = wr.heap[b]?) (hs : wr.heap.size ≤ w'.heap.size) : GL lo w' v8 acc xs := by
  refine ⟨⟨h.own.1, ?_⟩, fun j hj => ?_⟩
  · rcases h.own.2 with g | ⟨gb, cap, cur, a1, a2, a3, a4⟩
    · exact Or.inl g
    · exact Or.inr ⟨gb, cap, cur, a1, a2, (hb gb a2 (heap_lt a3)).trans a3, a4⟩
  · obtain ⟨c0, c1, c2, c3, c4, e0, e1, e2, e3, e4, hf⟩ := h.each j hj
    exact ⟨c0, c1, c2, c3, c4, e0, e1, e2, e3, e4, hf.grow (fun b h1 h2 => ⟨hb b h1.1 h2, h1⟩) hs⟩
/-- One more. -/
theorem GL.more {lo lo1 : Nat} {w1 w3 w4 : World} {v8 : Value} {acc : List Val} {xs : List Value} (h : GL lo w1 v8 acc xs) {x : Val} {a0 a1 a2 a3 a4 : Value} (hF : Far w1 lo1 (.agg #[a0, a1, a2, a3, a4]) x) (hlo : lo ≤ lo1) (hob : ∀ k, v8.ownBlock = some k → k < lo1) (hg3 : w1.grownBy w3 none)
    {gb cap : Nat} (ho : w4.ownsRow lo 35 5 (.slice (some ⟨gb, 0, none⟩) (acc.length + 1) cap) (acc.length + 1) (xs ++ [a0, a1, a2, a3, a4])) (hg4 : w3.grownBy w4 v8.ownBlock) (hat : v8.ownBlock = some gb ∨ gb = w3.heap.size) :
    GL lo w4 (.slice (some ⟨gb, 0, none⟩) (acc.length + 1) cap) (acc ++ [x]) (xs ++ [a0, a1, a2, a3, a4]) := by
  have z3 := hg3.size
  have z4 := hg4.size
  have b1 : ∀ k, k < w1.heap.size → v8.ownBlock ≠ some k → w4.heap[k]? = w1.heap[k]? := fun k h1 h2 => (hg4.block k (by omega) (fun e => h2 e.symm)).trans (hg3.block k h1 (by simp))
  refine ⟨by rw [List.length_append]; exact ho, fun j hj => ?_⟩
  have hxl : xs.length = acc.length * 5 := h.own.1
  have hgbb : ∀ k, k < w1.heap.size → v8.ownBlock ≠ some k → Value.ownBlock (.slice (some ⟨gb, 0, none⟩) (acc.length + 1) cap) ≠ some k := fun k h1 h2 e => by
    simp only [Value.ownBlock, Option.some.injEq] at e
    rcases hat with h3 | h3
    · exact h2 (e ▸ h3)
    · omega
  by_cases hjl : j < acc.length
  · obtain ⟨c0, c1, c2, c3, c4, e0, e1, e2, e3, e4, hf⟩ := h.each j hjl
    have ap : ∀ k u, xs[k]? = some u → (xs ++ [a0, a1, a2, a3, a4])[k]? = some u := fun k u hu => by
      rw [List.getElem?_append_left (List.getElem?_eq_some_iff.1 hu).1]; exact hu
    refine ⟨c0, c1, c2, c3, c4, ap _ _ e0, ap _ _ e1, ap _ _ e2, ap _ _ e3, ap _ _ e4, ?_⟩
    rw [List.getElem_append_left hjl]
    exact hf.grow (fun k hk hkl => ⟨b1 k hkl hk.2, hk.1, hgbb k hkl hk.2⟩) (by omega)
  · have ej : j = acc.length := by simp at hj; omega
    subst ej
    have ap : ∀ k, (xs ++ [a0, a1, a2, a3, a4])[acc.length * 5 + k]? = [a0, a1, a2, a3, a4][k]? := fun k => by
      rw [List.getElem?_append_right (by omega), hxl, Nat.add_sub_cancel_left]
    refine ⟨a0, a1, a2, a3, a4, by rw [show acc.length * 5 = acc.length * 5 + 0 from rfl, ap]; rfl, by rw [ap]; rfl, by rw [ap]; rfl, by rw [ap]; rfl, by rw [ap]; rfl, ?_⟩
    have e3 : (acc ++ [x])[acc.length]'hj = x := by simp
    rw [e3]
    intro u hu
    refine hF u fun k h1 h2 => ?_
    have hnk : v8.ownBlock ≠ some k := fun e => by have := hob k e; omega
    exact (hu k ⟨by omega, hgbb k h2 hnk⟩ (by omega)).trans (b1 k h2 hnk)
#print axioms GL.more
end Go.Proofs.YtpfnkkkfekhngaaGreatDoor.Va

/-
  Twins: values whose lists have one more place, with a mark in it.
-/
namespace Go.Proofs.YtpfnkkkfekhngaaGreatDoor.Va
open Go.RowKit Go.Proofs.YtpfnkkkfekhngaaGreatDoor.Rl
set_option maxRecDepth 100000
set_option linter.unusedVariables false

def mark4 : Value := .string ⟨#[109, 97, 114, 107]⟩
mutual
/-- The struct v is the value x, each list with a mark behind its last element. -/
def MkV (w : World) : Value → Val → Prop
  | v, .mk k n r t l => ∃ b cap, v = .agg #[.int .i64 k, .int .i64 n, .float .f64 r, .string (bstr t), .slice (some ⟨b, 0, none⟩) l.length cap] ∧ l.length < cap ∧ cap ≤ maxLen ∧ t.length ≤ 140737488355328 ∧ w.cell? ⟨b, l.length * 5 + 3, none⟩ = some mark4 ∧ (∃ cs, w.heap[b]? = some (.cells cs 35 (0, 0))) ∧ MkL w b 0 l
/-- From the i-th element on. -/
def MkL (w : World) (b : Nat) : Nat → List Val → Prop
  | _, [] => True
  | i, x :: r => (∃ c0 c1 c2 c3 c4, w.cell? ⟨b, i * 5, none⟩ = some c0 ∧ w.cell? ⟨b, i * 5 + 1, none⟩ = some c1 ∧ w.cell? ⟨b, i * 5 + 2, none⟩ = some c2 ∧ w.cell? ⟨b, i * 5 + 3, none⟩ = some c3 ∧ w.cell? ⟨b, i * 5 + 4, none⟩ = some c4 ∧ MkV w (.agg #[c0, c1, c2, c3, c4]) x) ∧ MkL w b (i + 1) r
end
theorem MkL.get {w : World} {b : Nat} : ∀ {l : List Val} {i : Nat}, MkL w b i l → ∀ j (h : j < l.length),
    ∃ c0 c1 c2 c3 c4, w.cell? ⟨b, (i + j) * 5, none⟩ = some c0 ∧ w.cell? ⟨b, (i + j) * 5 + 1, none⟩ = some c1 ∧ w.cell? ⟨b, (i + j) * 5 + 2, none⟩ = some c2 ∧ w.cell? ⟨b, (i + j) * 5 + 3, none⟩ = some c3 ∧ w.cell? ⟨b, (i + j) * 5 + 4, none⟩ = some c4 ∧ MkV w (.agg #[c0, c1, c2, c3, c4]) l[j]
  | [], _, _, j, h => by simp at h
  | x :: r, i, hh, 0, _ => by rw [MkL] at hh; exact hh.1
  | x :: r, i, hh, j + 1, h => by
    rw [MkL] at hh
    have := MkL.get hh.2 j (by simpa using h)
    rw [show i + 1 + j = i + (j + 1) by omega] at this
    exact this
theorem mkL_of {w : World} {b : Nat} : ∀ (l : List Val) (i : Nat), (∀ j (h : j < l.length), ∃ c0 c1 c2 c3 c4, w.cell? ⟨b, (i + j) * 5, none⟩ = some c0 ∧ w.cell? ⟨b, (i + j) * 5 + 1, none⟩ = some c1 ∧ w.cell? ⟨b, (i + j) * 5 + 2, none⟩ = some c2 ∧ w.cell? ⟨b, (i + j) * 5 + 3, none⟩ = some c3 ∧ w.cell? ⟨b, (i + j) * 5 + 4, none⟩ = some c4 ∧ MkV w (.agg #[c0, c1, c2, c3, c4]) l[j]) → MkL w b i l
  | [], i, _ => by rw [MkL]; trivial
  | x :: r, i, h => by
    rw [MkL]
    refine ⟨h 0 (by simp), mkL_of r (i + 1) fun j hj => ?_⟩
    have := h (j + 1) (by simpa using hj)
    rw [show i + (j + 1) = i + 1 + j by omega] at this
    exact this
theorem MkV.isV {w : World} (x : Val) : ∀ (v : Value), MkV w v x → IsV w v x := by
  induction x using Val.ind with
  | h k n r t l ih =>
    intro v h
    rw [MkV] at h
    obtain ⟨b, cap, e, h1, h2, h3, h4, _, h5⟩ := h
    rw [IsV]
    refine ⟨some ⟨b, 0, none⟩, cap, e, fun h => by simp at h, by omega, h2, h3, isL_of l 0 fun j hj => ?_⟩
    obtain ⟨c0, c1, c2, c3, c4, d0, d1, d2, d3, d4, hx⟩ := MkL.get h5 j hj
    simp only [Nat.zero_add] at d0 d1 d2 d3 d4 ⊢
    exact ⟨c0, c1, c2, c3, c4, d0, d1, d2, d3, d4, ih _ (List.getElem_mem hj) _ hx⟩
/-- The twin, also in any world that agrees with this one on the blocks from lo on. -/
def FarM (w : World) (lo : Nat) (v : Value) (x : Val) : Prop := ∀ w' : World, (∀ b, lo ≤ b → b < w.heap.size → w'.heap[b]? = w.heap[b]?) → MkV w' v x
theorem FarM.mkV {w : World} {lo : Nat} {v : Value} {x : Val} (h : FarM w lo v x) : MkV w v x := h w fun _ _ _ => rfl
theorem FarM.grow {w w' : World} {lo lo' : Nat} {v : Value} {x : Val} (h : FarM w lo v x) (hb : ∀ b, lo ≤ b → b < w.heap.size → w'.heap[b]? = w.heap[b]?) (hs : w.heap.size ≤ w'.heap.size) (hl : lo' ≤ lo) : FarM w' lo' v x :=
  fun u hu => h u fun b h1 h2 => (hu b (by omega) (by omega)).trans (hb b h1 h2)
mutual
/-- How many values lie within. -/
def nV : Val → Nat
  | .mk _ _ _ _ l => 1 + nL l
def nL : List Val → Nat
  | [] => 0
  | x :: r => nV x + nL r
end
theorem nL_len : ∀ l : List Val, l.length ≤ nL l
  | [] => by simp
  | x :: r => by
    have := nL_len r
    have h1 : 1 ≤ nV x := by obtain ⟨_, _, _, _, l⟩ := x; rw [nV]; omega
    rw [nL, List.length_cons]; omega
theorem nL_at : ∀ (l : List Val) (i : Nat) (h : i < l.length), nV l[i] ≤ nL l
  | x :: r, 0, _ => by rw [nL]; simp
  | x :: r, i + 1, h => by
    have := nL_at r i (by simpa using h)
    rw [nL, List.getElem_cons_succ]; omega
#print axioms MkV.isV
end Go.Proofs.YtpfnkkkfekhngaaGreatDoor.Va

/-
  What flumelaw4.Kept answers of a twin; how many values a light one has.
-/
namespace Go.Proofs.YtpfnkkkfekhngaaGreatDoor.Va
open Go.RowKit Go.Proofs.YtpfnkkkfekhngaaGreatDoor.Rl
set_option maxRecDepth 100000
set_option linter.unusedVariables false

theorem lightL_pos : ∀ (l : List Val) (deep m : Int), 0 ≤ lightL l deep m → 0 ≤ m
  | [], deep, m, h => by rw [lightL] at h; exact h
  | x :: r, deep, m, h => by
    rw [lightL] at h
    split at h
    · exact h
    · omega
mutual
theorem light_n : ∀ (x : Val) (deep left : Int), 0 ≤ lightV x deep left → lightV x deep left + (nV x : Int) ≤ left
  | .mk _ _ _ _ l, deep, left, h => by
    rw [lightV] at h ⊢
    split at h
    · omega
    · rename_i hd
      rw [if_neg hd, nV]
      have := lightL_n l (deep + 1) (left - 1) h
      omega
theorem lightL_n : ∀ (l : List Val) (deep left : Int), 0 ≤ lightL l deep left → lightL l deep left + (nL l : Int) ≤ left
  | [], deep, left, h => by rw [lightL, nL]; simp
  | x :: r, deep, left, h => by
    rw [lightL] at h ⊢
    split at h
    · omega
    · rename_i hd
      rw [if_neg hd, nL]
      have hp := lightL_pos r deep _ h
      have h1 := light_n x deep left hp
      have h2 := lightL_n r deep _ h
      omega
end
theorem light_small {x : Val} (h : isLight x = true) : nV x ≤ 100000 := by
  have h0 : 0 ≤ lightV x 0 3000 := by simpa [isLight] using h
  have := light_n x 0 3000 h0
  omega

theorem MkV.below {w w' : World} (hb : Below w.heap.size w w') (x : Val) : ∀ v, MkV w v x → MkV w' v x := by
  induction x using Val.ind with
  | h k n r t l ih =>
    intro v h
    rw [MkV] at h ⊢
    obtain ⟨b, cap, rfl, h1, h2, h3, h4, ⟨ds, h6⟩, h5⟩ := h
    refine ⟨b, cap, rfl, h1, h2, h3, (hb.cell (lt_of_cell h4)).trans h4, ⟨ds, by rw [hb.block b (heap_lt h6)]; exact h6⟩, mkL_of l 0 fun j hj => ?_⟩
    obtain ⟨c0, c1, c2, c3, c4, g0, g1, g2, g3, g4, hx⟩ := h5.get j hj
    exact ⟨c0, c1, c2, c3, c4, (hb.cell (lt_of_cell g0)).trans g0, (hb.cell (lt_of_cell g1)).trans g1, (hb.cell (lt_of_cell g2)).trans g2, (hb.cell (lt_of_cell g3)).trans g3, (hb.cell (lt_of_cell g4)).trans g4, ih _ (List.getElem_mem hj) _ hx⟩
/-- A twin lies in blocks of values: where these stand, it stands. -/
theorem MkV.typed {w w' : World} (hb : ∀ (k : Nat) (cs : Array Value), w.heap[k]? = some (Obj.cells cs 35) → w'.heap[k]? = some (Obj.cells cs 35)) (x : Val) : ∀ v, MkV w v x → MkV w' v x := by
  induction x using Val.ind with
  | h k n r t l ih =>
    intro v h
    rw [MkV] at h ⊢
    obtain ⟨b, cap, rfl, h1, h2, h3, h4, ⟨ds, h6⟩, h5⟩ := h
    have h7 := hb b ds h6
    have cell : ∀ o c, w.cell? ⟨b, o, none⟩ = some c → w'.cell? ⟨b, o, none⟩ = some c := fun o c hc => (World.cell?_of_block (w := w) (a := ⟨b, o, none⟩) (h7.trans h6.symm)).trans hc
    refine ⟨b, cap, rfl, h1, h2, h3, cell _ _ h4, ⟨ds, h7⟩, mkL_of l 0 fun j hj => ?_⟩
    obtain ⟨c0, c1, c2, c3, c4, g0, g1, g2, g3, g4, hx⟩ := h5.get j hj
    exact ⟨c0, c1, c2, c3, c4, cell _ _ g0, cell _ _ g1, cell _ _ g2, cell _ _ g3, cell _ _ g4, ih _ (List.getElem_mem hj) _ hx⟩
theorem keepK {w u v : World} (h : Below w.heap.size w u) (q : Below u.heap.size u v) : Below w.heap.size w v := h.trans (q.mono h.size)

set_option maxHeartbeats 2000000 in
theorem kept_any (x : Val) : ∀ (w : World) (v u : Value), MkV w v x → IsV w u x → Calls Tryz.prog 18 #[v, u] w fun e w' => e = .returned (.bool true) ∧ Below w.heap.size w w' := by
  induction x using Val.ind with
  | h k n r t l ih =>
    intro w v u hv hu
    rw [MkV] at hv
    rw [IsV] at hu
    obtain ⟨b, cap, rfl, m1, m2, m3, m4, _, m5⟩ := hv
    obtain ⟨ao', cap', rfl, _, _, h4', _, h6'⟩ := hu
    replace m5 : Hid (MkL w b 0 l) := m5
    replace h6' : Hid (IsL w ao' 0 l) := h6'
    obtain ⟨n0, hn0⟩ : ∃ n0, Hid (l.length = n0) := ⟨_, rfl⟩
    rw [hn0.out] at m1 m4 ⊢
    have hn1 : n0 ≤ 9223372036854775806 := by unfold maxLen at m2; omega
    have hcm : cap ≤ 9223372036854775807 := by unfold maxLen at m2; omega
    have hcc : (n0 : Int) + 1 ≤ (cap : Int) := by omega
    have hc0 : (0 : Int) ≤ (n0 : Int) + 1 := by omega
    have hlt1 : (n0 : Int) < (n0 : Int) + 1 := by omega
    have hwr : IntKind.i64.wrap ((n0 : Int) + 1) = (n0 : Int) + 1 := by rw [IntKind.wrap_i64]; omega
    clear h4' m2
    replace ih : Hid (∀ x ∈ l, ∀ (w : World) (v u : Value), MkV w v x → IsV w u x → Calls Tryz.prog 18 #[v, u] w fun e w' => e = .returned (.bool true) ∧ Below w.heap.size w w') := ih
    have hbox : Hid (Below w.heap.size w ((w.alloc (.cells #[.int .i64 k, .int .i64 n, .float .f64 r, .string (bstr t), .slice (some ⟨b, 0, none⟩) n0 cap] 35)).alloc (.cells #[.int .i64 k, .int .i64 n, .float .f64 r, .string (bstr t), .slice ao' n0 cap'] 35))) := (box_below _ _).alloc (by simp) _
    have hmk := (hbox.out.cell (lt_of_cell m4)).trans m4
    have kt : ((bstr t).toList == (bstr t).toList) = true := by simp
    unfold mark4 at hmk
    clear m4
    go_enter Tryz.func18, Tryz.ntmps18
    go_wp2_with fail
    refine (bits3_any _ r r).mono ?_
    rintro e w1 ⟨rfl, hw⟩
    obtain rfl := hw.symm
    rw [decide_eq_true rfl]
    go_wp2_with fail
    clear hmk kt hcc hc0 hlt1 hwr m1 m3
    go_loopw [6] (fun v6 wr => ∃ i : Nat, i ≤ n0 ∧ v6 = .int .i64 (i : Int) ∧ wr.cell? ⟨w.heap.size, 4, none⟩ = some (.slice (some ⟨b, 0, none⟩) n0 cap) ∧ wr.cell? ⟨w.heap.size + 1, 4, none⟩ = some (.slice ao' n0 cap') ∧ Hid (Below w.heap.size w wr ∧ w.heap.size + 1 < wr.heap.size)) (fun v _ => n0 - (intOf v).toNat)
    case atStart => exact ⟨0, by omega, rfl, by simp, by simp, ⟨hbox.out, by simp⟩⟩
    case round =>
      clear hbox
      obtain ⟨i, hi, rfl, b1, b2, hB⟩ := hrel
      by_cases hin : i = n0
      · subst hin
        go_wp2_with fail
        go_ret
        exact ⟨rfl, hB.out.1⟩
      · have hil : i < l.length := by have := hn0.out; omega
        have i1 : (i : Int) < (n0 : Int) := by omega
        have i2 : (0 : Int) ≤ (i : Int) := by omega
        have hbw' : Hid (IsL wr ao' 0 l) := IsL.below hB.out.1 l ao' 0 h6'.out
        obtain ⟨c0, c1, c2, c3, c4, g0', g1', g2', g3', g4', hx'⟩ := MkL.get m5.out i hil
        obtain ⟨b', off', d0, d1, d2, d3, d4, rfl, q0, q1, q2, q3, q4, hy⟩ := IsL.get hbw'.out i hil
        rw [Nat.zero_add] at q0 q1 q2 q3 q4 g0' g1' g2' g3' g4'
        have g0 := (hB.out.1.cell (lt_of_cell g0')).trans g0'
        have g1 := (hB.out.1.cell (lt_of_cell g1')).trans g1'
        have g2 := (hB.out.1.cell (lt_of_cell g2')).trans g2'
        have g3 := (hB.out.1.cell (lt_of_cell g3')).trans g3'
        have g4 := (hB.out.1.cell (lt_of_cell g4')).trans g4'
        have hx : Hid (MkV wr (.agg #[c0, c1, c2, c3, c4]) l[i]) := MkV.below hB.out.1 _ _ hx'
        replace hy : Hid (IsV wr (.agg #[d0, d1, d2, d3, d4]) l[i]) := hy
        have ceq : Hid (∀ q, Below wr.heap.size wr q → Calls Tryz.prog 18 #[.agg #[c0, c1, c2, c3, c4], .agg #[d0, d1, d2, d3, d4]] q fun e w' => e = .returned (.bool true) ∧ Below q.heap.size q w') := fun q hb =>
          ih.out l[i] (List.getElem_mem hil) q _ _ (MkV.below hb _ _ hx.out) (IsV.below hb _ _ hy.out)
        have KS : Hid (∀ q : World, Below wr.heap.size wr q → Below wr.heap.size wr q ∧ q.cell? ⟨w.heap.size, 4, none⟩ = some (.slice (some ⟨b, 0, none⟩) n0 cap) ∧ q.cell? ⟨w.heap.size + 1, 4, none⟩ = some (.slice (some ⟨b', off', none⟩) n0 cap') ∧ q.cell? ⟨b, i * 5, none⟩ = some c0 ∧ q.cell? ⟨b, i * 5 + 1, none⟩ = some c1 ∧ q.cell? ⟨b, i * 5 + 2, none⟩ = some c2 ∧ q.cell? ⟨b, i * 5 + 3, none⟩ = some c3 ∧ q.cell? ⟨b, i * 5 + 4, none⟩ = some c4 ∧ q.cell? ⟨b', off' + i * 5, none⟩ = some d0 ∧ q.cell? ⟨b', off' + i * 5 + 1, none⟩ = some d1 ∧ q.cell? ⟨b', off' + i * 5 + 2, none⟩ = some d2 ∧ q.cell? ⟨b', off' + i * 5 + 3, none⟩ = some d3 ∧ q.cell? ⟨b', off' + i * 5 + 4, none⟩ = some d4) := fun q hb =>
          ⟨hb, (hb.cell (lt_of_cell b1)).trans b1, (hb.cell (lt_of_cell b2)).trans b2, (hb.cell (lt_of_cell g0)).trans g0, (hb.cell (lt_of_cell g1)).trans g1, (hb.cell (lt_of_cell g2)).trans g2, (hb.cell (lt_of_cell g3)).trans g3, (hb.cell (lt_of_cell g4)).trans g4, (hb.cell (lt_of_cell q0)).trans q0, (hb.cell (lt_of_cell q1)).trans q1, (hb.cell (lt_of_cell q2)).trans q2, (hb.cell (lt_of_cell q3)).trans q3, (hb.cell (lt_of_cell q4)).trans q4⟩
        have hS0 := KS.out wr.drew (Below.refl _ _).drew
        have hbB : Hid (w.heap.size + 1 < wr.heap.size) := hB.out.2
        have b1' : Hid (wr.cell? ⟨w.heap.size, 4, none⟩ = some (.slice (some ⟨b, 0, none⟩) n0 cap)) := b1
        have b2' : Hid (wr.cell? ⟨w.heap.size + 1, 4, none⟩ = some (.slice (some ⟨b', off', none⟩) n0 cap')) := b2
        clear g0' g1' g2' g3' g4' hx'
        go_wp2_with fail
        go_region_held3 (fun q => Below wr.heap.size wr q ∧ q.cell? ⟨w.heap.size, 4, none⟩ = some (.slice (some ⟨b, 0, none⟩) n0 cap) ∧ q.cell? ⟨w.heap.size + 1, 4, none⟩ = some (.slice (some ⟨b', off', none⟩) n0 cap') ∧ q.cell? ⟨b, i * 5, none⟩ = some c0 ∧ q.cell? ⟨b, i * 5 + 1, none⟩ = some c1 ∧ q.cell? ⟨b, i * 5 + 2, none⟩ = some c2 ∧ q.cell? ⟨b, i * 5 + 3, none⟩ = some c3 ∧ q.cell? ⟨b, i * 5 + 4, none⟩ = some c4 ∧ q.cell? ⟨b', off' + i * 5, none⟩ = some d0 ∧ q.cell? ⟨b', off' + i * 5 + 1, none⟩ = some d1 ∧ q.cell? ⟨b', off' + i * 5 + 2, none⟩ = some d2 ∧ q.cell? ⟨b', off' + i * 5 + 3, none⟩ = some d3 ∧ q.cell? ⟨b', off' + i * 5 + 4, none⟩ = some d4)
          (first | exact hS0 | assumption | exact KS.out _ (by assumption) | exact KS.out _ (keepK (And.left (by assumption)) (by assumption)) | fail)
          (first
            | (go_at_call 18; refine (ceq.out _ (And.left (by assumption))).mono ?_; rintro e u1 ⟨rfl, B1⟩)
            | fail)
        have hb1 : Below wr.heap.size wr u1 := And.left (a := Below wr.heap.size wr u1) (by assumption)
        have f1 : u1.cell? ⟨w.heap.size, 4, none⟩ = some (.slice (some ⟨b, 0, none⟩) n0 cap) := (hb1.cell (lt_of_cell b1'.out)).trans b1'.out
        have f2 : u1.cell? ⟨w.heap.size + 1, 4, none⟩ = some (.slice (some ⟨b', off', none⟩) n0 cap') := (hb1.cell (lt_of_cell b2'.out)).trans b2'.out
        have hB2 : Hid (Below w.heap.size w u1 ∧ w.heap.size + 1 < u1.heap.size) := ⟨keepK hB.out.1 hb1, by have := hb1.size; have := hbB.out; omega⟩
        clear hb1 B1 hS0 b1 b2 g0 g1 g2 g3 g4 q0 q1 q2 q3 q4
        go_wp2_with fail
        go_roundw
        case rel => exact ⟨i + 1, by omega, by go_num, by assumption, by assumption, hB2.out⟩
        case measure => simp [intOf]; omega
#print axioms kept_any
end Go.Proofs.YtpfnkkkfekhngaaGreatDoor.Va

/-
  The document's own answer: flumeref4.zero.
-/
namespace Go.Proofs.YtpfnkkkfekhngaaGreatDoor.Va
open Go.RowKit Go.Proofs.YtpfnkkkfekhngaaGreatDoor.Rl
set_option maxRecDepth 100000

def zeroP (k n : Int) (r : Nat) (t : List UInt8) (m : Nat) : Bool := (decide (k = 2) || decide (k = 3) || decide (n = 0)) && ((decide (k = 4) || decide (r = 0)) && ((decide (k = 5) || decide (t = [])) && (decide (k = 6) || decide (m = 0))))
set_option maxHeartbeats 4000000 in
theorem zero_any (w : World) (k n : Int) (r : Nat) (t : List UInt8) (ao : Option Addr) (m c : Nat) :
    Calls Tryz.prog 46 #[.agg #[.int .i64 k, .int .i64 n, .float .f64 r, .string (bstr t), .slice ao m c]] w fun e w' => e = .returned (.bool (zeroP k n r t m)) ∧ Below w.heap.size w w' := by
  have hbox : Hid (Below w.heap.size w (w.alloc (.cells #[.int .i64 k, .int .i64 n, .float .f64 r, .string (bstr t), .slice ao m c] 35))) := box_below _ _
  have kt : (bstr t).toList.isEmpty = decide (t = []) := by
    rw [bstr_list]
    cases t <;> simp
  obtain ⟨Z, hZ⟩ : ∃ Z, Hid (zeroP k n r t m = Z) := ⟨zeroP k n r t m, rfl⟩
  obtain ⟨N, hN⟩ : ∃ N, Hid (decide (n = 0) = N) := ⟨decide (n = 0), rfl⟩
  obtain ⟨R, hR⟩ : ∃ N, Hid (decide (r = 0) = N) := ⟨decide (r = 0), rfl⟩
  obtain ⟨T, hT⟩ : ∃ N, Hid (decide (t = []) = N) := ⟨decide (t = []), rfl⟩
  obtain ⟨M, hM⟩ : ∃ N, Hid (decide (m = 0) = N) := ⟨decide (m = 0), rfl⟩
  have kn : (n == 0) = N := by rw [← hN.out]; rfl
  have km : ((m : Int) == 0) = M := by rw [← hM.out, Bool.eq_iff_iff]; simp
  rw [hT.out] at kt
  rw [hZ.out]
  rw [zeroP, hN.out, hR.out, hT.out, hM.out] at hZ
  go_enter Tryz.func46, Tryz.ntmps46
  have kr : Hid (∀ q, Calls Tryz.prog 36 #[.float .f64 r, .float .f64 0] q fun e w' => e = .returned (.bool R) ∧ w' = q) := fun q => by have h := bits3_any q r 0; rw [hR.out] at h; exact h
  clear hN hR hT hM
  by_cases kk : k = 2
  · subst kk
    have hz : Z = (R && (T && (M))) := by rw [← hZ.out]; rfl
    clear hZ
    subst hz
    cases R
    case false =>
      (go_wp2_with (go_at_call 36; refine (kr.out _).mono ?_; rintro e w' ⟨rfl, rfl⟩)
       go_ret
       exact ⟨rfl, hbox.out⟩)
    cases T
    case false =>
      (go_wp2_with (go_at_call 36; refine (kr.out _).mono ?_; rintro e w' ⟨rfl, rfl⟩)
       go_ret
       exact ⟨rfl, hbox.out⟩)
    (go_wp2_with (go_at_call 36; refine (kr.out _).mono ?_; rintro e w' ⟨rfl, rfl⟩)
     go_ret
     exact ⟨rfl, hbox.out⟩)
  have q2 : (k != 2) = true := by simp [kk]
  have p2 : decide (k = 2) = false := by simp [kk]
  clear kk
  by_cases kk : k = 3
  · subst kk
    have hz : Z = (R && (T && (M))) := by rw [← hZ.out]; rfl
    clear hZ
    subst hz
    cases R
    case false =>
      (go_wp2_with (go_at_call 36; refine (kr.out _).mono ?_; rintro e w' ⟨rfl, rfl⟩)
       go_ret
       exact ⟨rfl, hbox.out⟩)
    cases T
    case false =>
      (go_wp2_with (go_at_call 36; refine (kr.out _).mono ?_; rintro e w' ⟨rfl, rfl⟩)
       go_ret
       exact ⟨rfl, hbox.out⟩)
    (go_wp2_with (go_at_call 36; refine (kr.out _).mono ?_; rintro e w' ⟨rfl, rfl⟩)
     go_ret
     exact ⟨rfl, hbox.out⟩)
  have q3 : (k != 3) = true := by simp [kk]
  have p3 : decide (k = 3) = false := by simp [kk]
  clear kk
  by_cases kk : k = 4
  · subst kk
    have hz : Z = (N && (T && (M))) := by rw [← hZ.out]; rfl
    clear hZ
    subst hz
    cases N
    case false =>
      (go_wp2_with (go_at_call 36; refine (kr.out _).mono ?_; rintro e w' ⟨rfl, rfl⟩)
       go_ret
       exact ⟨rfl, hbox.out⟩)
    cases T
    case false =>
      (go_wp2_with (go_at_call 36; refine (kr.out _).mono ?_; rintro e w' ⟨rfl, rfl⟩)
       go_ret
       exact ⟨rfl, hbox.out⟩)
    (go_wp2_with (go_at_call 36; refine (kr.out _).mono ?_; rintro e w' ⟨rfl, rfl⟩)
     go_ret
     exact ⟨rfl, hbox.out⟩)
  have q4 : (k != 4) = true := by simp [kk]
  have p4 : decide (k = 4) = false := by simp [kk]
  clear kk
  by_cases kk : k = 5
  · subst kk
    have hz : Z = (N && (R && (M))) := by rw [← hZ.out]; rfl
    clear hZ
    subst hz
    cases N
    case false =>
      (go_wp2_with (go_at_call 36; refine (kr.out _).mono ?_; rintro e w' ⟨rfl, rfl⟩)
       go_ret
       exact ⟨rfl, hbox.out⟩)
    cases R
    case false =>
      (go_wp2_with (go_at_call 36; refine (kr.out _).mono ?_; rintro e w' ⟨rfl, rfl⟩)
       go_ret
       exact ⟨rfl, hbox.out⟩)
    (go_wp2_with (go_at_call 36; refine (kr.out _).mono ?_; rintro e w' ⟨rfl, rfl⟩)
     go_ret
     exact ⟨rfl, hbox.out⟩)
  have q5 : (k != 5) = true := by simp [kk]
  have p5 : decide (k = 5) = false := by simp [kk]
  clear kk
  by_cases kk : k = 6
  · subst kk
    have hz : Z = (N && (R && (T))) := by rw [← hZ.out]; simp
    clear hZ
    subst hz
    cases N
    case false =>
      (go_wp2_with (go_at_call 36; refine (kr.out _).mono ?_; rintro e w' ⟨rfl, rfl⟩)
       go_ret
       exact ⟨rfl, hbox.out⟩)
    cases R
    case false =>
      (go_wp2_with (go_at_call 36; refine (kr.out _).mono ?_; rintro e w' ⟨rfl, rfl⟩)
       go_ret
       exact ⟨rfl, hbox.out⟩)
    cases T
    case false =>
      (go_wp2_with (go_at_call 36; refine (kr.out _).mono ?_; rintro e w' ⟨rfl, rfl⟩)
       go_ret
       exact ⟨rfl, hbox.out⟩)
    (go_wp2_with (go_at_call 36; refine (kr.out _).mono ?_; rintro e w' ⟨rfl, rfl⟩)
     go_ret
     exact ⟨rfl, hbox.out⟩)
  have q6 : (k != 6) = true := by simp [kk]
  have p6 : decide (k = 6) = false := by simp [kk]
  clear kk
  have q7 : (k == 6) = false := by rw [← p6]; rfl
  have hz : Z = (N && (R && (T && M))) := by rw [← hZ.out, p2, p3, p4, p5, p6]; rfl
  clear hZ p2 p3 p4 p5 p6 q6
  subst hz
  cases N
  case false =>
    (go_wp2_with (go_at_call 36; refine (kr.out _).mono ?_; rintro e w' ⟨rfl, rfl⟩)
     go_ret
     exact ⟨rfl, hbox.out⟩)
  cases R
  case false =>
    (go_wp2_with (go_at_call 36; refine (kr.out _).mono ?_; rintro e w' ⟨rfl, rfl⟩)
     go_ret
     exact ⟨rfl, hbox.out⟩)
  cases T
  case false =>
    (go_wp2_with (go_at_call 36; refine (kr.out _).mono ?_; rintro e w' ⟨rfl, rfl⟩)
     go_ret
     exact ⟨rfl, hbox.out⟩)
  (go_wp2_with (go_at_call 36; refine (kr.out _).mono ?_; rintro e w' ⟨rfl, rfl⟩)
   go_ret
   exact ⟨rfl, hbox.out⟩)
#print axioms zero_any
end Go.Proofs.YtpfnkkkfekhngaaGreatDoor.Va

/-
  Block b holds a value's five cells.
-/
namespace Go.Proofs.YtpfnkkkfekhngaaGreatDoor.Va
open Go.RowKit Go.Proofs.YtpfnkkkfekhngaaGreatDoor.Rl
/-- Block b holds a value's five cells. -/
def Bx (q : World) (b : Nat) (k n : Int) (r : Nat) (t : List UInt8) (ao : Option Addr) (m c : Nat) : Prop := q.cell? ⟨b, 0, none⟩ = some (.int .i64 k) ∧ q.cell? ⟨b, 1, none⟩ = some (.int .i64 n) ∧ q.cell? ⟨b, 2, none⟩ = some (.float .f64 r) ∧ q.cell? ⟨b, 3, none⟩ = some (.string (bstr t)) ∧ q.cell? ⟨b, 4, none⟩ = some (.slice ao m c)
theorem Bx.below {q q' : World} {b : Nat} {k n : Int} {r : Nat} {t : List UInt8} {ao : Option Addr} {m c : Nat} (h : Bx q b k n r t ao m c) (hb : Below q.heap.size q q') : Bx q' b k n r t ao m c := by
  obtain ⟨h0, h1, h2, h3, h4⟩ := h
  exact ⟨(hb.cell (lt_of_cell h0)).trans h0, (hb.cell (lt_of_cell h1)).trans h1, (hb.cell (lt_of_cell h2)).trans h2, (hb.cell (lt_of_cell h3)).trans h3, (hb.cell (lt_of_cell h4)).trans h4⟩
theorem Bx.new (q : World) (k n : Int) (r : Nat) (t : List UInt8) (ao : Option Addr) (m c : Nat) (T : TypeId) : Bx (q.alloc (.cells #[.int .i64 k, .int .i64 n, .float .f64 r, .string (bstr t), .slice ao m c] T)) q.heap.size k n r t ao m c :=
  ⟨box_cell q _ T 0 _ rfl, box_cell q _ T 1 _ rfl, box_cell q _ T 2 _ rfl, box_cell q _ T 3 _ rfl, box_cell q _ T 4 _ rfl⟩
end Go.Proofs.YtpfnkkkfekhngaaGreatDoor.Va

/-
  The document's own answer: flumeref4.size.
-/
namespace Go.Proofs.YtpfnkkkfekhngaaGreatDoor.Va
open Go.RowKit Go.Proofs.YtpfnkkkfekhngaaGreatDoor.Rl
set_option maxRecDepth 100000

mutual
def rsV : Val → Int → Int → Int
  | .mk k n r t l, d, left => if plain k n r t l.isEmpty then (if k = 6 ∧ d = 8 then -1 else rsL l (d + 1) (left - 1 - t.length)) else -1
def rsL : List Val → Int → Int → Int
  | [], _, left => left
  | x :: r, d, left => if left < 0 then left else rsL r d (rsV x d left)
end
theorem rsL_neg (l : List Val) (d left : Int) (h : left < 0) : rsL l d left = left := by
  cases l with
  | nil => rw [rsL]
  | cons x r => rw [rsL, if_pos h]
theorem plain_zero (k n : Int) (r : Nat) (t : List UInt8) (l : List Val) : plain k n r t l.isEmpty = (decide (1 ≤ k) && (decide (k ≤ 6) && (zeroP k n r t l.length && (!decide (k = 2) || (decide (0 ≤ n) && decide (n ≤ 1)))))) := by
  have h1 : l.isEmpty = decide (l.length = 0) := by cases l <;> simp
  have h2 : t.isEmpty = decide (t = []) := by cases t <;> simp
  rw [plain, zeroP, h1, h2]
  simp only [Bool.and_assoc]
set_option maxHeartbeats 4000000 in
theorem refsize_any (x : Val) : ∀ (w : World) (v : Value) (d left : Int), IsV w v x → 0 ≤ d → d ≤ 8 → 0 ≤ left → left ≤ 65536 →
    Calls Tryz.prog 35 #[v, .int .i64 d, .int .i64 left] w fun e w' => (e = .returned (.int .i64 (rsV x d left)) ∧ -140737488355330 ≤ rsV x d left ∧ rsV x d left ≤ left) ∧ Below w.heap.size w w' := by
  induction x using Val.ind with
  | h k n r t l ih =>
    intro w v d left hv hd0 hd1 hl0 hl1
    rw [IsV] at hv
    obtain ⟨ao, cap, rfl, h2, h3, h4, h5, h6⟩ := hv
    replace h6 : Hid (IsL w ao 0 l) := h6
    replace ih : Hid (∀ x ∈ l, ∀ (w : World) (v : Value) (d left : Int), IsV w v x → 0 ≤ d → d ≤ 8 → 0 ≤ left → left ≤ 65536 → Calls Tryz.prog 35 #[v, .int .i64 d, .int .i64 left] w fun e w' => (e = .returned (.int .i64 (rsV x d left)) ∧ -140737488355330 ≤ rsV x d left ∧ rsV x d left ≤ left) ∧ Below w.heap.size w w') := ih
    obtain ⟨n0, hn0⟩ : ∃ n0, Hid (l.length = n0) := ⟨_, rfl⟩
    rw [hn0.out] at h3 ⊢
    have hn1 : n0 ≤ 9223372036854775807 := by unfold maxLen at h4; omega
    clear h2 h3 h4
    obtain ⟨R, hR⟩ : ∃ R, Hid (rsV (.mk k n r t l) d left = R) := ⟨rsV (.mk k n r t l) d left, rfl⟩
    rw [hR.out]
    obtain ⟨P, hP⟩ : ∃ P, Hid (plain k n r t l.isEmpty = P) := ⟨plain k n r t l.isEmpty, rfl⟩
    have hPz := plain_zero k n r t l
    rw [hP.out, hn0.out] at hPz
    obtain ⟨Z, hZ⟩ : ∃ Z, Hid (zeroP k n r t n0 = Z) := ⟨zeroP k n r t n0, rfl⟩
    rw [hZ.out] at hPz
    have kz : Hid (∀ q, Calls Tryz.prog 46 #[.agg #[.int .i64 k, .int .i64 n, .float .f64 r, .string (bstr t), .slice ao n0 cap]] q fun e w' => e = .returned (.bool Z) ∧ Below q.heap.size q w') := fun q => by
      have h := zero_any q k n r t ao n0 cap
      rw [hZ.out] at h
      exact h
    obtain ⟨nt, hnt⟩ : ∃ nt, Hid (t.length = nt) := ⟨_, rfl⟩
    have ht1 : nt ≤ 140737488355328 := by rw [← hnt.out]; exact h5
    clear h5
    have hfree : Hid (P = true → k ≠ 5 → nt = 0) := fun hp hk => by
      have h := hP.out
      rw [hp, plain] at h
      simp only [Bool.and_eq_true, Bool.or_eq_true, decide_eq_true_eq] at h
      have h2 := h.1.1.2
      rcases h2 with h2 | h2
      · exact absurd h2 hk
      · rw [← hnt.out]; cases t <;> simp at h2 ⊢
    have hempty0 : Hid (P = true → k ≠ 6 → n0 = 0) := fun hp hk => by
      have h := hP.out
      rw [hp, plain] at h
      simp only [Bool.and_eq_true, Bool.or_eq_true, decide_eq_true_eq] at h
      rcases h.1.2 with h2 | h2
      · exact absurd h2 hk
      · rw [← hn0.out]; cases l <;> simp at h2 ⊢
    have fin : Hid (R = if P then (if k = 6 ∧ d = 8 then -1 else rsL l (d + 1) (left - 1 - nt)) else -1) := by show _ = _; rw [← hR.out, rsV, hP.out, hnt.out]
    go_enter Tryz.func35, Tryz.ntmps35
    go_upto_region 1 with fail
    obtain ⟨w1, hw1⟩ : ∃ w1, Hid (w.alloc (.cells #[.int .i64 k, .int .i64 n, .float .f64 r, .string (bstr t), .slice ao n0 cap] 35) = w1) := ⟨_, rfl⟩
    rw [hw1.out]
    have hx1 : Hid (Bx w1 w.heap.size k n r t ao n0 cap) := by show Bx ..; rw [← hw1.out]; exact Bx.new _ _ _ _ _ _ _ _ _
    have hB1 : Hid (Below w.heap.size w w1) := by show Below ..; rw [← hw1.out]; exact box_below _ _
    clear hw1
    go_cut [35] from 8 (fun s wx => s = .bool (!P) ∧ Hid (Bx wx w.heap.size k n r t ao n0 cap) ∧ Hid (Below w.heap.size w wx))
    case first =>
      obtain ⟨d0, d1, d2, d3, d4⟩ := hx1.out
      by_cases k1 : k < 1
      · have hP0 : P = false := by rw [hPz, decide_eq_false (by omega)]; rfl
        subst hP0
        clear hPz
        go_wp2_with fail
        go_meet
        case rel => exact ⟨rfl, hx1, hB1⟩
      by_cases k6 : 6 < k
      · have hP0 : P = false := by rw [hPz, decide_eq_false (p := k ≤ 6) (by omega), Bool.false_and, Bool.and_false]
        subst hP0
        clear hPz
        go_wp2_with fail
        go_meet
        case rel => exact ⟨rfl, hx1, hB1⟩
      rw [decide_eq_true (p := 1 ≤ k) (by omega), decide_eq_true (p := k ≤ 6) (by omega), Bool.true_and, Bool.true_and] at hPz
      cases Z
      case false =>
        have hP0 : P = false := by rw [hPz]; rfl
        subst hP0
        clear hPz
        go_wp2_with fail
        refine (kz.out _).mono ?_
        rintro e w2 ⟨rfl, hb2⟩
        have hx2 : Hid (Bx w2 w.heap.size k n r t ao n0 cap) := hx1.out.below hb2
        have hB2 : Hid (Below w.heap.size w w2) := hB1.out.trans (hb2.mono hB1.out.size)
        clear hb2 d0 d1 d2 d3 d4
        go_wp2_with fail
        go_meet
        case rel => exact ⟨rfl, hx2, hB2⟩
      rw [Bool.true_and] at hPz
      go_wp2_with fail
      refine (kz.out _).mono ?_
      rintro e w2 ⟨rfl, hb2⟩
      have hx2 : Hid (Bx w2 w.heap.size k n r t ao n0 cap) := hx1.out.below hb2
      have hB2 : Hid (Below w.heap.size w w2) := hB1.out.trans (hb2.mono hB1.out.size)
      clear hb2 d0 d1 d2 d3 d4
      obtain ⟨d0, d1, d2, d3, d4⟩ := hx2.out
      by_cases k2 : k = 2
      · subst k2
        by_cases n1 : n < 0
        · have hP0 : P = false := by rw [hPz, decide_eq_false (p := 0 ≤ n) (by omega)]; rfl
          subst hP0
          clear hPz
          go_wp2_with fail
          go_meet
          case rel => exact ⟨rfl, hx2, hB2⟩
        by_cases n2 : 1 < n
        · have hP0 : P = false := by rw [hPz, decide_eq_false (p := n ≤ 1) (by omega), Bool.and_false]; rfl
          subst hP0
          clear hPz
          go_wp2_with fail
          go_meet
          case rel => exact ⟨rfl, hx2, hB2⟩
        have hP0 : P = true := by rw [hPz, decide_eq_true (p := n ≤ 1) (by omega), decide_eq_true (p := 0 ≤ n) (by omega)]; rfl
        subst hP0
        clear hPz
        go_wp2_with fail
        go_meet
        case rel => exact ⟨by rw [decide_eq_false (p := n < 0) (by omega), decide_eq_false (p := 1 < n) (by omega)]; rfl, hx2, hB2⟩
      have hP0 : P = true := by rw [hPz, decide_eq_false k2]; rfl
      have q2 : (k == 2) = false := by simp [k2]
      subst hP0
      clear hPz k2
      go_wp2_with fail
      go_meet
      case rel => exact ⟨rfl, hx2, hB2⟩
    case rest =>
      obtain ⟨rfl, hx2, hB2⟩ := hcut
      clear hx1 hB1 hPz kz hZ hP hR
      obtain ⟨d0, d1, d2, d3, d4⟩ := hx2.out
      cases P
      case false =>
        have hR1 : R = -1 := by rw [fin.out]; rfl
        subst hR1
        go_wp2_with fail
        go_ret
        exact ⟨⟨rfl, by omega, by omega⟩, hB2.out⟩
      have hempty : Hid (k ≠ 6 → n0 = 0) := hempty0.out rfl
      have fin2 : Hid (R = if k = 6 ∧ d = 8 then -1 else rsL l (d + 1) (left - 1 - nt)) := by show _ = _; rw [fin.out]; rfl
      have hls : ((bstr t).size : Int) = (nt : Int) := by rw [← hnt.out]; rfl
      obtain ⟨L, hL⟩ : ∃ L : Int, Hid (left - 1 - nt = L) := ⟨_, rfl⟩
      have hL1 : -140737488355330 ≤ L := by rw [← hL.out]; omega
      have hL2 : L ≤ left := by rw [← hL.out]; omega
      rw [hL.out] at fin2
      go_upto_if 40 with fail
      go_cut [2] from 8 (fun s wx => s = .int .i64 L ∧ wx = wc)
      case first =>
        by_cases k5 : k = 5
        · subst k5
          have hL3 : left - 1 - (nt : Int) = L := hL.out
          go_wp2_with fail
          go_meet
          case rel => exact ⟨by first | rfl | (rw [hL3]) | (simp [hL3]), rfl⟩
        · have q5 : (k == 5) = false := by simp [k5]
          have hL3 : left - 1 = L := by rw [← hL.out, hfree.out rfl k5]; simp
          clear k5
          go_wp2_with fail
          go_meet
          case rel => exact ⟨by first | rfl | (rw [hL3]) | (simp [hL3]), rfl⟩
      case rest =>
        obtain ⟨rfl, hwc⟩ := hcut
        subst hwc
        by_cases hlast : k = 6 ∧ d = 8
        · obtain ⟨rfl, rfl⟩ := hlast
          have hR1 : R = -1 := by rw [fin2.out]; rfl
          subst hR1
          go_wp2_with fail
          go_ret
          exact ⟨⟨rfl, by omega⟩, hB2.out⟩
        have fin3 : Hid (R = rsL l (d + 1) L) := by show _ = _; rw [fin2.out, if_neg hlast]
        have hd8 : Hid (k = 6 → d ≤ 7) := fun h => by omega
        go_upto_region 6 with fail
        go_cut [52] from 8 (fun s wx => s = .bool false ∧ wx = wc)
        case first =>
          by_cases k6 : k = 6
          · subst k6
            have qd : (d == 8) = false := by simp; have := hd8.out rfl; omega
            clear hlast
            go_wp2_with fail
            go_meet
            case rel => exact ⟨rfl, rfl⟩
          · have qk : (k == 6) = false := by simp [k6]
            clear hlast k6
            go_wp2_with fail
            go_meet
            case rel => exact ⟨rfl, rfl⟩
        case rest =>
          obtain ⟨rfl, hwc⟩ := hcut
          subst hwc
          clear hlast d0 d1 d2 d3 fin fin2
          go_upto_region 8 with fail
          go_wp2_with fail
          go_loopw [2, 7] (fun v2 v7 wr => ∃ (i : Nat) (z : Int), i ≤ n0 ∧ v7 = .int .i64 (i : Int) ∧ v2 = .int .i64 z ∧ -140737488355330 ≤ z ∧ z ≤ left ∧ Hid (R = rsL (l.drop i) (d + 1) z) ∧ wr.cell? ⟨w.heap.size, 4, none⟩ = some (.slice ao n0 cap) ∧ Hid (Below w.heap.size w wr ∧ w.heap.size < wr.heap.size)) (fun _ v _ => n0 - (intOf v).toNat)
          case atStart => exact ⟨0, L, by omega, rfl, rfl, by omega, by omega, fin3.out, d4, ⟨hB2.out, lt_of_cell d4⟩⟩
          case round =>
            obtain ⟨i, z, hi, rfl, rfl, hz0, hz1, hz, hc4, hB⟩ := hrel
            by_cases hin : i = n0
            · have hRz : R = z := by rw [hz.out, List.drop_of_length_le (by have := hn0.out; omega), rsL]
              subst hin hRz
              go_wp2_with fail
              go_ret
              exact ⟨⟨rfl, by omega, by omega⟩, hB.out.1⟩
            · have i1 : (i : Int) < (n0 : Int) := by omega
              have i2 : (0 : Int) ≤ (i : Int) := by omega
              by_cases hzn : z < 0
              · have hRz : R = z := by rw [hz.out]; exact rsL_neg _ _ _ hzn
                subst hRz
                go_wp2_with fail
                go_ret
                exact ⟨⟨rfl, by omega, by omega⟩, hB.out.1⟩
              · have hil : i < l.length := by have := hn0.out; omega
                have hd7 : d ≤ 7 := by
                  by_cases k6 : k = 6
                  · exact hd8.out k6
                  · have := hempty.out k6; omega
                have hbw : Hid (IsL wr ao 0 l) := IsL.below hB.out.1 l ao 0 h6.out
                obtain ⟨b, off, c0, c1, c2, c3, c4, rfl, g0, g1, g2, g3, g4, hx⟩ := IsL.get hbw.out i hil
                rw [Nat.zero_add] at g0 g1 g2 g3 g4
                replace hx : Hid (IsV wr (.agg #[c0, c1, c2, c3, c4]) l[i]) := hx
                have hz2 : Hid (R = rsL (l.drop (i + 1)) (d + 1) (rsV l[i] (d + 1) z)) := by
                  show _ = _
                  rw [hz.out, List.drop_eq_getElem_cons hil, rsL, if_neg hzn]
                obtain ⟨y, hy⟩ : ∃ y, Hid (rsV l[i] (d + 1) z = y) := ⟨rsV l[i] (d + 1) z, rfl⟩
                rw [hy.out] at hz2
                go_wp2_with fail
                refine (ih.out l[i] (List.getElem_mem hil) _ _ (d + 1) z hx.out (by omega) (by omega) (by omega) (by omega)).mono ?_
                rintro e w1 ⟨⟨rfl, hle1, hle2⟩, hb⟩
                rw [hy.out] at hle1 hle2
                rw [hy.out]
                have hc5 : w1.cell? ⟨w.heap.size, 4, none⟩ = some (.slice (some ⟨b, off, none⟩) n0 cap) := by
                  rw [hb.cell (p := ⟨w.heap.size, 4, none⟩) hB.out.2]; exact hc4
                have hB1 : Hid (Below w.heap.size w w1 ∧ w.heap.size < w1.heap.size) := ⟨hB.out.1.trans (hb.mono hB.out.1.size), by have := hb.size; have := hB.out.2; omega⟩
                clear hc4 hb g0 g1 g2 g3 g4
                go_wp2_with fail
                go_roundw
                case rel => exact ⟨i + 1, y, by omega, by go_num, rfl, by omega, by omega, hz2.out, by assumption, hB1.out⟩
                case measure => simp [intOf]; omega
#print axioms refsize_any
end Go.Proofs.YtpfnkkkfekhngaaGreatDoor.Va

/-
  The document's own answer: flumeref4.May, Size, and what they say.
-/
namespace Go.Proofs.YtpfnkkkfekhngaaGreatDoor.Va
open Go.RowKit Go.Proofs.YtpfnkkkfekhngaaGreatDoor.Rl
set_option maxRecDepth 100000

mutual
theorem rs_spec : ∀ (x : Val) (d : Nat) (left : Int), d ≤ 8 → 0 ≤ left → ((okV d x = true ∧ (szV x : Int) ≤ left) → rsV x d left = left - szV x) ∧ (¬ (okV d x = true ∧ (szV x : Int) ≤ left) → rsV x d left < 0)
  | .mk k n r t l, d, left, hd, hl => by
    rw [rsV, okV, szV]
    cases hp : plain k n r t l.isEmpty
    · simp
    · rw [if_pos rfl]
      by_cases hk : k = 6 ∧ (d : Int) = 8
      · rw [if_pos hk]
        obtain ⟨rfl, h8⟩ := hk
        have h9 : ¬ d < 8 := by omega
        simp [h9]
      · rw [if_neg hk]
        have hk2 : (!decide (k = 6) || decide (d < 8)) = true := by
          by_cases h6 : k = 6
          · have : d < 8 := by
              have h7 : ¬ (d : Int) = 8 := fun h => hk ⟨h6, h⟩
              omega
            simp [this]
          · simp [h6]
        rw [hk2]
        by_cases hneg : left - 1 - (t.length : Int) < 0
        · rw [rsL_neg _ _ _ hneg]
          exact ⟨fun h => by omega, fun _ => hneg⟩
        · by_cases h8 : d = 8
          · have hk6 : k ≠ 6 := fun h => hk ⟨h, by omega⟩
            have hle : l = [] := by
              have h := hp
              rw [plain] at h
              simp only [Bool.and_eq_true, Bool.or_eq_true, decide_eq_true_eq] at h
              rcases h.1.2 with h2 | h2
              · exact absurd h2 hk6
              · cases l <;> simp at h2 ⊢
            subst hle
            rw [rsL, okL, szL]
            simp
            omega
          · have hh := rsL_spec l (d + 1) (left - 1 - t.length) (by omega) (by omega)
            rw [show ((d + 1 : Nat) : Int) = (d : Int) + 1 by omega] at hh
            refine ⟨fun h => ?_, fun h => hh.2 fun h' => h ⟨by simpa using h'.1, by omega⟩⟩
            rw [hh.1 ⟨by simpa using h.1, by omega⟩]
            omega
theorem rsL_spec : ∀ (l : List Val) (d : Nat) (left : Int), d ≤ 8 → 0 ≤ left → ((okL d l = true ∧ (szL l : Int) ≤ left) → rsL l d left = left - szL l) ∧ (¬ (okL d l = true ∧ (szL l : Int) ≤ left) → rsL l d left < 0)
  | [], d, left, hd, hl => by
    rw [rsL, okL, szL]
    simp
  | x :: r, d, left, hd, hl => by
    rw [rsL, okL, szL, if_neg (by omega)]
    have hx := rs_spec x d left hd hl
    by_cases h1 : okV d x = true ∧ (szV x : Int) ≤ left
    · rw [hx.1 h1]
      have hr := rsL_spec r d (left - szV x) hd (by omega)
      refine ⟨fun h => ?_, fun h => hr.2 fun h' => h ⟨by rw [h1.1, h'.1]; rfl, by omega⟩⟩
      rw [hr.1 ⟨by have := h.1; rw [h1.1] at this; simpa using this, by omega⟩]
      omega
    · have hneg := hx.2 h1
      rw [rsL_neg _ _ _ hneg]
      refine ⟨fun h => absurd ⟨by have := h.1; simp only [Bool.and_eq_true] at this; exact this.1, by omega⟩ h1, fun _ => hneg⟩
end
theorem rs_may (x : Val) : decide (0 ≤ rsV x 0 65536) = mayV x ∧ (mayV x = true → rsV x 0 65536 = 65536 - szV x) := by
  have h := rs_spec x 0 65536 (by omega) (by omega)
  rw [show ((0 : Nat) : Int) = 0 by rfl] at h
  by_cases h1 : okV 0 x = true ∧ (szV x : Int) ≤ 65536
  · have h2 := h.1 h1
    have h3 : mayV x = true := by rw [mayV, h1.1, decide_eq_true (by omega)]; rfl
    exact ⟨by rw [h3, h2]; simp; omega, fun _ => h2⟩
  · have h2 := h.2 h1
    have h3 : mayV x = false := by
      rw [Bool.eq_false_iff]
      intro hm
      rw [mayV, Bool.and_eq_true, decide_eq_true_eq] at hm
      exact h1 ⟨hm.1, by omega⟩
    exact ⟨by rw [h3]; simp; omega, fun h4 => by rw [h3] at h4; cases h4⟩
theorem refMay_any (w : World) (v : Value) (x : Val) (hv : IsV w v x) : Calls Tryz.prog 13 #[v] w fun e w' => e = .returned (.bool (mayV x)) ∧ Below w.heap.size w w' := by
  have hvv := hv
  have hm := (rs_may x).1
  obtain ⟨k, n, r, t, l⟩ := x
  rw [IsV] at hvv
  obtain ⟨ao, cap, rfl, _⟩ := hvv
  obtain ⟨R, hR⟩ : ∃ R, Hid (rsV (.mk k n r t l) 0 65536 = R) := ⟨rsV (.mk k n r t l) 0 65536, rfl⟩
  rw [hR.out] at hm
  rw [← hm]
  clear hm
  go_enter Tryz.func13, Tryz.ntmps13
  go_wp2_with fail
  refine (refsize_any (.mk k n r t l) _ _ 0 65536 (IsV.below (box_below _ _) _ _ hv) (by omega) (by omega) (by omega) (by omega)).mono ?_
  rintro e w1 ⟨⟨rfl, _, _⟩, hb⟩
  rw [hR.out]
  have hb2 : Hid (Below w.heap.size w w1) := (box_below _ _).trans (hb.mono (by simp))
  clear hb
  go_wp2_with fail
  go_ret
  exact ⟨rfl, hb2.out⟩
theorem refSize_any (w : World) (v : Value) (x : Val) (hv : IsV w v x) : Calls Tryz.prog 15 #[v] w fun e w' => e = .returned (.int .i64 (if mayV x then (szV x : Int) else 0)) ∧ Below w.heap.size w w' := by
  have hvv := hv
  have hm := rs_may x
  obtain ⟨S, hS⟩ : ∃ S : Int, Hid ((if mayV x then (szV x : Int) else 0) = S) := ⟨_, rfl⟩
  have hs : Hid (∀ R, rsV x 0 65536 = R → (R < 0 → S = 0) ∧ (0 ≤ R → S = 65536 - R)) := fun R hR => by
    rw [hR] at hm
    rw [← hS.out]
    cases h : mayV x
    · rw [h] at hm
      exact ⟨fun _ => by simp, fun h0 => by have := hm.1; simp at this; omega⟩
    · rw [h] at hm
      have h2 := hm.1
      simp at h2
      have h3 := hm.2 rfl
      exact ⟨fun _ => by omega, fun _ => by simp; omega⟩
  rw [hS.out]
  obtain ⟨k, n, r, t, l⟩ := x
  rw [IsV] at hvv
  obtain ⟨ao, cap, rfl, _⟩ := hvv
  obtain ⟨R, hR⟩ : ∃ R, Hid (rsV (.mk k n r t l) 0 65536 = R) := ⟨rsV (.mk k n r t l) 0 65536, rfl⟩
  have hs2 := hs.out R hR.out
  clear hm hs
  go_enter Tryz.func15, Tryz.ntmps15
  go_wp2_with fail
  refine (refsize_any (.mk k n r t l) _ _ 0 65536 (IsV.below (box_below _ _) _ _ hv) (by omega) (by omega) (by omega) (by omega)).mono ?_
  rintro e w1 ⟨⟨rfl, hle1, hle2⟩, hb⟩
  rw [hR.out] at hle1 hle2
  rw [hR.out]
  have hb2 : Hid (Below w.heap.size w w1) := (box_below _ _).trans (hb.mono (by simp))
  clear hb
  by_cases h0 : R < 0
  · have hS0 : S = 0 := hs2.1 h0
    subst hS0
    clear hs2
    go_wp2_with fail
    go_ret
    exact ⟨rfl, hb2.out⟩
  · have hS0 : 65536 - R = S := (hs2.2 (by omega)).symm
    clear hs2
    go_wp2_with fail
    go_ret
    exact ⟨by first | rfl | (rw [hS0]; rfl) | (simp [hS0]), hb2.out⟩
#print axioms refMay_any
#print axioms refSize_any
end Go.Proofs.YtpfnkkkfekhngaaGreatDoor.Va

