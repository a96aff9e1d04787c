/-
  The document's disk: an operation begins.
-/
import Derived.Test.YtjehpijjneghpaaGreatK20
namespace Go.Proofs.YtjehpijjneghpaaGreat.Re
open Go.RowKit Go.Maps Go.Sort Go.Shelf Go.Proofs.YtjehpijjneghpaaGreat.Nm Go.Proofs.YtjehpijjneghpaaGreat.Dk
set_option linter.unusedVariables false
theorem acells_len (fs : List Ft) : (acells fs).length = fs.length * 3 := by
  induction fs with
  | nil => rfl
  | cons e r ih =>
    have : acells (e :: r) = [.int .i64 e.1, .int .i64 e.2.1, .int .i64 e.2.2] ++ acells r := by simp [acells]
    rw [this, List.length_append, ih, List.length_cons]
    simp
    omega
theorem acells_at (fs : List Ft) : ∀ i (h : i < fs.length), (acells fs)[i * 3]? = some (.int .i64 fs[i].1) ∧ (acells fs)[i * 3 + 1]? = some (.int .i64 fs[i].2.1) ∧ (acells fs)[i * 3 + 2]? = some (.int .i64 fs[i].2.2) := by
  induction fs with
  | nil => intro i h; simp at h
  | cons e r ih =>
    intro i h
    have : acells (e :: r) = [.int .i64 e.1, .int .i64 e.2.1, .int .i64 e.2.2] ++ acells r := by simp [acells]
    rw [this]
    cases i with
    | zero => exact ⟨rfl, rfl, rfl⟩
    | succ i =>
      obtain ⟨a, b, c⟩ := ih i (by simpa using h)
      rw [show (i + 1) * 3 = i * 3 + 1 + 1 + 1 by omega]
      simp only [List.cons_append, List.nil_append, List.getElem?_cons_succ, List.getElem_cons_succ]
      exact ⟨a, b, c⟩
theorem fts_of {B : Nat} {w : World} {v : Value} {fs : List Ft} (h : w.ownsRow B 118 3 v fs.length (acells fs)) : Fts w v fs := by
  have h0 := h
  rcases h.2 with ⟨rfl, e⟩ | ⟨g, cap, cur, rfl, _, _, a, b, _⟩
  · have : fs = [] := List.length_eq_zero_iff.1 e
    subst this
    exact ⟨none, 0, rfl, Nat.le_refl _, Nat.zero_le _, fun i hi => by simp at hi⟩
  · refine ⟨_, _, rfl, a, b, fun i hi => ⟨g, 0, rfl, ?_, ?_, ?_⟩⟩
    · have := World.ownsRow.cells h0 (g := g) rfl (i * 3) _ (acells_at fs i hi).1
      rw [addr_add] at this
      exact this
    · have := World.ownsRow.cells h0 (g := g) rfl (i * 3 + 1) _ (acells_at fs i hi).2.1
      rw [addr_add] at this
      exact this
    · have := World.ownsRow.cells h0 (g := g) rfl (i * 3 + 2) _ (acells_at fs i hi).2.2
      rw [addr_add] at this
      exact this
theorem own_zero {B : Nat} {w : World} {T : TypeId} {size : Nat} {v : Value} {n : Nat} {xs : List Value} (h : w.ownsRow B T size v n xs) {g off m c : Nat} (e : v = .slice (some ⟨g, off, none⟩) m c) : v.ownBlock = some g := by
  rcases h.2 with ⟨rfl, _⟩ | ⟨g', cap, cur, rfl, _⟩
  · simp at e
  · simp only [Value.slice.injEq, Option.some.injEq, Addr.mk.injEq] at e
    rw [← e.1.1]
    simp [Value.ownBlock]
def RB.flt (R : RB) : Ft := rfl1 R.fs (R.si + 1)
def RB.cj (R : RB) : Nat → Int
  | 0 => R.c0
  | 1 => R.c1
  | 2 => R.c2
  | 3 => R.c3
  | 4 => R.c4
  | 5 => R.c5
  | _ => R.c6
def RB.tick (R : RB) : RB := { R with c7 := R.c7 + 1, si := R.si + 1, boom := 0, down := R.down || decide (R.flt.2.1 = 3) }
def RB.beg (R : RB) : Nat → RB
  | 0 => { R.tick with c0 := R.c0 + 1 }
  | 1 => { R.tick with c1 := R.c1 + 1 }
  | 2 => { R.tick with c2 := R.c2 + 1 }
  | 3 => { R.tick with c3 := R.c3 + 1 }
  | 4 => { R.tick with c4 := R.c4 + 1 }
  | 5 => { R.tick with c5 := R.c5 + 1 }
  | _ => { R.tick with c6 := R.c6 + 1 }
theorem beg_cs (R : RB) (V : RV) (j : Nat) (hj : j < 7) : begF (begC (R.cs V) j (R.cj j) R.c7 R.si) R.flt.2.1 = (R.beg j).cs V := by
  unfold begF
  by_cases h : R.flt.2.1 = 3
  · have hd : (R.down || decide (R.flt.2.1 = 3)) = true := by simp [h]
    rw [if_pos h]
    match j, hj with
    | 0, _ => simp [begC, RB.cs, RB.beg, RB.tick, RB.cj, hd]
    | 1, _ => simp [begC, RB.cs, RB.beg, RB.tick, RB.cj, hd]
    | 2, _ => simp [begC, RB.cs, RB.beg, RB.tick, RB.cj, hd]
    | 3, _ => simp [begC, RB.cs, RB.beg, RB.tick, RB.cj, hd]
    | 4, _ => simp [begC, RB.cs, RB.beg, RB.tick, RB.cj, hd]
    | 5, _ => simp [begC, RB.cs, RB.beg, RB.tick, RB.cj, hd]
    | 6, _ => simp [begC, RB.cs, RB.beg, RB.tick, RB.cj, hd]
  · have hd : (R.down || decide (R.flt.2.1 = 3)) = R.down := by simp [h]
    rw [if_neg h]
    match j, hj with
    | 0, _ => simp [begC, RB.cs, RB.beg, RB.tick, RB.cj, hd]
    | 1, _ => simp [begC, RB.cs, RB.beg, RB.tick, RB.cj, hd]
    | 2, _ => simp [begC, RB.cs, RB.beg, RB.tick, RB.cj, hd]
    | 3, _ => simp [begC, RB.cs, RB.beg, RB.tick, RB.cj, hd]
    | 4, _ => simp [begC, RB.cs, RB.beg, RB.tick, RB.cj, hd]
    | 5, _ => simp [begC, RB.cs, RB.beg, RB.tick, RB.cj, hd]
    | 6, _ => simp [begC, RB.cs, RB.beg, RB.tick, RB.cj, hd]
theorem beg_same (R : RB) (j : Nat) : (R.beg j).F = R.F ∧ (R.beg j).dir = R.dir ∧ (R.beg j).old = R.old ∧ (R.beg j).pe = R.pe ∧ (R.beg j).fs = R.fs ∧ (R.beg j).most = R.most := by
  unfold RB.beg
  split <;> exact ⟨rfl, rfl, rfl, rfl, rfl, rfl⟩
structure RB.ok (R : RB) : Prop where
  lo : 0 ≤ R.c0 ∧ 0 ≤ R.c1 ∧ 0 ≤ R.c2 ∧ 0 ≤ R.c3 ∧ 0 ≤ R.c4 ∧ 0 ≤ R.c5 ∧ 0 ≤ R.c6 ∧ 0 ≤ R.c7 ∧ 0 ≤ R.si
  hi : R.c0 ≤ R.c7 ∧ R.c1 ≤ R.c7 ∧ R.c2 ≤ R.c7 ∧ R.c3 ≤ R.c7 ∧ R.c4 ≤ R.c7 ∧ R.c5 ≤ R.c7 ∧ R.c6 ≤ R.c7 ∧ R.si ≤ R.c7
  no4 : ∀ f ∈ R.fs, f.2.1 ≠ 4
theorem RM.turn {w w' : World} {b : Nat} {R R' : RB} {V : RV} (h : RM w b R V) (hb : But (fun k => k = b) w w') (hbox : w'.heap[b]? = some (.cells (R'.cs V) TRD (0, 0))) (e : R'.F = R.F ∧ R'.dir = R.dir ∧ R'.old = R.old ∧ R'.pe = R.pe ∧ R'.fs = R.fs) : RM w' b R' V := by
  obtain ⟨e1, e2, e3, e4, e5⟩ := e
  have nb : ∀ x, x ≠ 0 → ∀ k, blk b V x = some k → ¬ k = b := fun x hx k hk c => h.ds 0 x (Ne.symm hx) b rfl (by rw [hk, c])
  refine ⟨hbox, by rw [e2]; exact h.dd.but hb (nb 2 (by omega)), by rw [e3]; exact h.oo.but hb (nb 3 (by omega)), by rw [e4]; exact h.pp.but hb (nb 4 (by omega)), by rw [e5]; exact ownsRow_but h.aa hb (nb 5 (by omega)), by rw [e1]; exact ownsRow_but h.ff hb (nb 1 (by omega)), by rw [e1]; exact h.ln, ?_, h.ds, fun x k hk => Nat.lt_of_lt_of_le (h.lt x k hk) hb.size⟩
  intro i hi
  have hi' : i < R.F.length := by rw [← e1]; exact hi
  have hl : i < V.T.length := by rw [h.ln]; exact hi'
  obtain ⟨a, c⟩ := h.nn i hi'
  simp only [e1]
  exact ⟨Oc.but a hb (fun k hk => nb (2 * i + 6) (by omega) k (by rw [blk_N b V hl]; exact hk)), Oc.but c hb (fun k hk => nb (2 * i + 7) (by omega) k (by rw [blk_L b V hl]; exact hk))⟩
theorem begins_rm {w : World} {b : Nat} {R : RB} {V : RV} (h : RM w b R V) (ho : R.ok) (hc : R.c7 ≤ 1000000000) (j : Nat) (hj : j < 7) :
    Calls Tryz.prog 97 #[.pointer (some ⟨b, 0, none⟩), .pointer (some ⟨b, 7 + j, none⟩)] w fun e w' => e = .returned (fv R.flt) ∧ RM w' b (R.beg j) V ∧ But (fun k => k = b) w w' := by
  obtain ⟨l0, l1, l2, l3, l4, l5, l6, l7, l8⟩ := ho.lo
  obtain ⟨m0, m1, m2, m3, m4, m5, m6, m8⟩ := ho.hi
  have hcj : (R.cs V)[7 + j]? = some (.int .i64 (R.cj j)) ∧ 0 ≤ R.cj j ∧ R.cj j ≤ R.c7 := by
    match j, hj with
    | 0, _ => exact ⟨rfl, l0, m0⟩
    | 1, _ => exact ⟨rfl, l1, m1⟩
    | 2, _ => exact ⟨rfl, l2, m2⟩
    | 3, _ => exact ⟨rfl, l3, m3⟩
    | 4, _ => exact ⟨rfl, l4, m4⟩
    | 5, _ => exact ⟨rfl, l5, m5⟩
    | 6, _ => exact ⟨rfl, l6, m6⟩
  have hAb : ∀ g off n c, V.vA = .slice (some ⟨g, off, none⟩) n c → 0 < n → g ≠ b := fun g off n c e _ e2 => h.ds 0 5 (by omega) b rfl (by show V.vA.ownBlock = _; rw [own_zero h.aa e, e2])
  refine (begins_ref w b j (R.cs V) (R.cj j) R.c7 R.si V.vA R.fs _ _ h.box rfl hj hcj.1 rfl rfl rfl rfl rfl (fts_of h.aa) hAb ho.no4 hcj.2.1 (by omega) l7 (by omega) l8 (by omega)).mono ?_
  rintro e w' ⟨he, hb, hbt⟩
  refine ⟨he, ?_, hbt⟩
  obtain ⟨e1, e2, e3, e4, e5, _⟩ := beg_same R j
  have hb2 : w'.heap[b]? = some (.cells ((R.beg j).cs V) TRD (0, 0)) := by rw [← beg_cs R V j hj]; exact hb
  exact h.turn hbt hb2 ⟨e1, e2, e3, e4, e5⟩
end Go.Proofs.YtjehpijjneghpaaGreat.Re
namespace Go.Proofs.YtjehpijjneghpaaGreat.Re
open Go.RowKit Go.Maps Go.Sort Go.Shelf Go.Proofs.YtjehpijjneghpaaGreat.Nm Go.Proofs.YtjehpijjneghpaaGreat.Dk
set_option linter.unusedVariables false
def RB.chg (R : RB) (c : RC) : RB := { R with dir := c.run R.dir, pe := R.pe ++ [c] }
theorem chg_cs (R : RB) (V : RV) (c : RC) (vD vP : Value) : ((R.cs V).setIfInBounds 2 vD).setIfInBounds 4 vP = (R.chg c).cs { V with vD := vD, vP := vP } := by simp [RB.cs, RB.chg]
theorem blk_dp (b : Nat) (V : RV) (vD vP : Value) (x : Nat) (h2 : x ≠ 2) (h4 : x ≠ 4) : blk b { V with vD := vD, vP := vP } x = blk b V x := by
  match x with
  | 0 => rfl
  | 1 => rfl
  | 2 => exact absurd rfl h2
  | 3 => rfl
  | 4 => exact absurd rfl h4
  | 5 => rfl
  | n + 6 => rfl
theorem change_rm {w : World} {b : Nat} {R : RB} {V : RV} (h : RM w b R V) (c : RC) (hl : (R.dir.length : Int) ≤ 1000000000) (hpl : (R.pe.length : Int) ≤ 1000000000) (f0 : -9223372036854775808 ≤ c.fi) (f1 : c.fi ≤ 9223372036854775807) :
    Calls Tryz.prog 99 #[.pointer (some ⟨b, 0, none⟩), c.v] w fun e w' => e = .returned (.tuple #[]) ∧ (∃ V', RM w' b (R.chg c) V' ∧ ∀ x k, blk b V' x = some k → blk b V x = some k ∨ w.heap.size ≤ k) ∧ But (fun k => ∃ x, blk b V x = some k) w w' := by
  have hDb : V.vD.ownBlock ≠ some b := h.ds 0 2 (by omega) b rfl
  have hPb : V.vP.ownBlock ≠ some b := h.ds 0 4 (by omega) b rfl
  have hDP : ∀ k, V.vD.ownBlock = some k → V.vP.ownBlock ≠ some k := h.ds 2 4 (by omega)
  refine (change_ref w b (R.cs V) V.vD V.vP R.dir R.pe c h.box rfl rfl rfl h.dd h.pp hPb hDb hDP hl hpl f0 f1).mono ?_
  rintro e w' ⟨rfl, ⟨vD, vP, hbox, hd, hp, nD, nP, hDP'⟩, hbt⟩
  refine ⟨rfl, ⟨{ V with vD := vD, vP := vP }, ?_, ?_⟩, hbt.mono ?_⟩
  · have nx : ∀ x, x ≠ 0 → x ≠ 4 → ∀ k, blk b V x = some k → ¬ (k = b ∨ V.vP.ownBlock = some k) := fun x h0 h4 k hk c => by
      rcases c with c | c
      · exact h.ds 0 x (Ne.symm h0) b rfl (by rw [hk, c])
      · exact h.ds x 4 h4 k hk c
    have hsz := hbt.size
    refine ⟨by rw [← chg_cs]; exact hbox, hd, h.oo.but hbt (nx 3 (by omega) (by omega)), hp, ownsRow_but h.aa hbt (nx 5 (by omega) (by omega)), ownsRow_but h.ff hbt (nx 1 (by omega) (by omega)), h.ln, fun i hi => ?_, ?_, ?_⟩
    · have hi' : i < R.F.length := hi
      have hl' : i < V.T.length := by rw [h.ln]; exact hi'
      obtain ⟨a, q⟩ := h.nn i hi'
      exact ⟨Oc.but a hbt (fun k hk => nx (2 * i + 6) (by omega) (by omega) k (by rw [blk_N b V hl']; exact hk)), Oc.but q hbt (fun k hk => nx (2 * i + 7) (by omega) (by omega) k (by rw [blk_L b V hl']; exact hk))⟩
    · refine h.ds.step (H := w.heap.size) h.lt (fun x => ?_) (fun x y hxy k hk h1 h2 => ?_)
      · by_cases h2 : x = 2
        · subst h2; exact nD
        · by_cases h4 : x = 4
          · subst h4; exact nP
          · exact .inl (blk_dp b V vD vP x h2 h4)
      · have old : ∀ z, z ≠ 2 → z ≠ 4 → blk b { V with vD := vD, vP := vP } z ≠ some k := fun z z2 z4 hz => by
          rw [blk_dp b V vD vP z z2 z4] at hz
          have := h.lt z k hz
          omega
        by_cases x2 : x = 2
        · subst x2
          by_cases y4 : y = 4
          · subst y4; exact hDP' k h1 h2
          · exact old y (Ne.symm hxy) y4 h2
        · by_cases x4 : x = 4
          · subst x4
            by_cases y2 : y = 2
            · subst y2; exact hDP' k h2 h1
            · exact old y y2 (Ne.symm hxy) h2
          · exact old x x2 x4 h1
    · intro x k hk
      by_cases h2 : x = 2
      · subst h2; exact (hd.lt k hk).2
      · by_cases h4 : x = 4
        · subst h4; exact (hp.lt k hk).2
        · rw [blk_dp b V vD vP x h2 h4] at hk
          have := h.lt x k hk
          omega
  · intro x k hk
    by_cases h2 : x = 2
    · subst h2
      rcases nD with e | e
      · exact .inl (e.symm.trans hk)
      · exact .inr (e k hk)
    · by_cases h4 : x = 4
      · subst h4
        rcases nP with e | e
        · exact .inl (e.symm.trans hk)
        · exact .inr (e k hk)
      · rw [blk_dp b V vD vP x h2 h4] at hk
        exact .inl hk
  · intro k _ c
    rcases c with c | c
    · exact ⟨0, by rw [c]; rfl⟩
    · exact ⟨4, c⟩
end Go.Proofs.YtjehpijjneghpaaGreat.Re
namespace Go.Proofs.YtjehpijjneghpaaGreat.Re
open Go.RowKit Go.Maps Go.Sort Go.Shelf Go.Proofs.YtjehpijjneghpaaGreat.Nm Go.Proofs.YtjehpijjneghpaaGreat.Dk
set_option linter.unusedVariables false
def Rgo (w w' : World) (b : Nat) (V : RV) (R' : RB) : Prop := (∃ V', RM w' b R' V' ∧ ∀ x k, blk b V' x = some k → blk b V x = some k ∨ w.heap.size ≤ k) ∧ But (fun k => ∃ x, blk b V x = some k) w w'
theorem Rgo.same {w w' : World} {b : Nat} {V : RV} {R' : RB} (h : RM w' b R' V) (hb : But (fun k => k = b) w w') : Rgo w w' b V R' := ⟨⟨V, h, fun x k hk => .inl hk⟩, hb.mono fun k _ e => ⟨0, by rw [e]; rfl⟩⟩
theorem Rgo.refl {w : World} {b : Nat} {V : RV} {R : RB} (h : RM w b R V) : Rgo w w b V R := Rgo.same h (But.of_below (Below.refl _ _) _)
theorem Rgo.behind {w w1 w' : World} {b : Nat} {V : RV} {R' : RB} (h : Rgo w1 w' b V R') (hb : But (fun k => k = b) w w1) : Rgo w w' b V R' := by
  obtain ⟨⟨V', hm, hx⟩, ht⟩ := h
  refine ⟨⟨V', hm, fun x k hk => (hx x k hk).imp id fun q => Nat.le_trans hb.size q⟩, (hb.mono fun k _ e => ⟨0, by rw [e]; rfl⟩).trans ht⟩
theorem RM.cell {w : World} {b : Nat} {R : RB} {V : RV} (h : RM w b R V) (i : Nat) : w.cell? ⟨b, i, none⟩ = (R.cs V)[i]? := by simp [World.cell?, h.box]
theorem refused_rm {w : World} {b : Nat} {R : RB} {V : RV} (h : RM w b R V) (s : ByteArray) (hs : s.size ≤ maxLen) (there : Bool) :
    Calls Tryz.prog 95 #[.pointer (some ⟨b, 0, none⟩), .string s, .bool there] w fun e w' => e = .returned (.int .i64 (refN R.down R.dir s there)) ∧ w' = w :=
  refused_ref w b V.vD R.dir R.down there s ((h.cell 2).trans rfl) ((h.cell 16).trans rfl) h.dd.tr hs
def strN (k : Int) : Int := if k = 0 ∨ k = 2 then 0 else toldN k
def RB.remove (R : RB) (s : ByteArray) : RB × Int :=
  if refN R.down R.dir s true ≠ 0 then (R, refN R.down R.dir s true)
  else if strN R.flt.2.1 ≠ 0 then (R.beg 5, strN R.flt.2.1)
  else ((R.beg 5).chg ⟨⟨#[]⟩, -1, s⟩, 0)
theorem toldN_ne (k : Int) : toldN k ≠ 0 := by unfold toldN; split <;> (try split) <;> (try split) <;> decide
set_option maxRecDepth 100000 in
set_option maxHeartbeats 2000000 in
theorem remove_rm {w : World} {b : Nat} {R : RB} {V : RV} (h : RM w b R V) (ho : R.ok) (hc : R.c7 ≤ 1000000000) (hl : (R.dir.length : Int) ≤ 1000000000) (hpl : (R.pe.length : Int) ≤ 1000000000) (s : ByteArray) (hs : s.size ≤ maxLen) :
    Calls Tryz.prog 54 #[.pointer (some ⟨b, 0, none⟩), .string s] w fun e w' => e = .returned (.int .i64 (R.remove s).2) ∧ Rgo w w' b V (R.remove s).1 := by
  have hR := refused_rm h s hs true
  have hB := begins_rm h ho hc 5 (by omega)
  obtain ⟨X, hX⟩ : ∃ X, Hid (R.remove s = X) := ⟨_, rfl⟩
  rw [hX.out]
  by_cases h0 : refN R.down R.dir s true = 0
  · rw [h0] at hR
    obtain ⟨F, hF⟩ : ∃ F : Ft, Hid (R.flt = F) := ⟨R.flt, rfl⟩
    rw [hF.out] at hB
    obtain ⟨fa, fk, fp⟩ := F
    have hCh : Hid (∀ q, RM q b (R.beg 5) V → Calls Tryz.prog 99 #[.pointer (some ⟨b, 0, none⟩), .agg #[.string ⟨#[]⟩, .int .i64 (-1), .string s]] q fun e w' => e = .returned (.tuple #[]) ∧ Rgo q w' b V ((R.beg 5).chg ⟨⟨#[]⟩, -1, s⟩)) := fun q hq => by
      obtain ⟨_, e2, _, e4, _⟩ := beg_same R 5
      exact change_rm hq ⟨⟨#[]⟩, -1, s⟩ (by rw [e2]; exact hl) (by rw [e4]; exact hpl) (by show (-9223372036854775808 : Int) ≤ -1; decide) (by show (-1 : Int) ≤ 9223372036854775807; decide)
    have hTo := told_ref
    clear h ho hc
    unfold fv at hB
    dsimp only at hB
    by_cases hk : fk = 0 ∨ fk = 2
    · have e1 : Hid (X = ((R.beg 5).chg ⟨⟨#[]⟩, -1, s⟩, 0)) := by show _ = _; rw [← hX.out]; unfold RB.remove; rw [if_neg (by rw [h0]; simp), hF.out, if_neg (by unfold strN; rw [if_pos hk]; simp)]
      rcases hk with rfl | rfl
      · go_enter Tryz.func54, Tryz.ntmps54
        go_upto_region 5 with (first
          | (go_at_call 95; refine hR.mono ?_; rintro e w1 ⟨rfl, e1'⟩; subst w1)
          | (go_at_call 97; refine hB.mono ?_; rintro e w1 ⟨rfl, M1, b1⟩; replace M1 := hide M1; replace b1 := hide b1))
        have z1 := heap_alloc_new w1 (.cells #[.int .i64 fa, .int .i64 0, .int .i64 fp] 118)
        have BX := hide (box_below w1 (.cells #[.int .i64 fa, .int .i64 0, .int .i64 fp] 118))
        obtain ⟨Y, hY⟩ : ∃ Y, Hid (w1.alloc (.cells #[.int .i64 fa, .int .i64 0, .int .i64 fp] 118) = Y) := ⟨_, rfl⟩
        rw [hY.out] at z1 BX ⊢
        have y1 : Y.cell? ⟨w1.heap.size, 1, none⟩ = some (.int .i64 0) := by simp [World.cell?, z1]
        have MY := hide (M1.out.below BX.out)
        have bY : Hid (But (fun k => k = b) w Y) := b1.out.trans (But.of_below BX.out _)
        clear z1
        go_wp2_with (go_at_call 99; refine (hCh.out _ MY.out).mono ?_; rintro e w2 ⟨rfl, G2⟩; replace G2 := hide G2)
        go_ret
        rw [e1.out]
        exact ⟨rfl, G2.out.behind bY.out⟩
      · go_enter Tryz.func54, Tryz.ntmps54
        go_upto_region 5 with (first
          | (go_at_call 95; refine hR.mono ?_; rintro e w1 ⟨rfl, e1'⟩; subst w1)
          | (go_at_call 97; refine hB.mono ?_; rintro e w1 ⟨rfl, M1, b1⟩; replace M1 := hide M1; replace b1 := hide b1))
        have z1 := heap_alloc_new w1 (.cells #[.int .i64 fa, .int .i64 2, .int .i64 fp] 118)
        have BX := hide (box_below w1 (.cells #[.int .i64 fa, .int .i64 2, .int .i64 fp] 118))
        obtain ⟨Y, hY⟩ : ∃ Y, Hid (w1.alloc (.cells #[.int .i64 fa, .int .i64 2, .int .i64 fp] 118) = Y) := ⟨_, rfl⟩
        rw [hY.out] at z1 BX ⊢
        have y1 : Y.cell? ⟨w1.heap.size, 1, none⟩ = some (.int .i64 2) := by simp [World.cell?, z1]
        have MY := hide (M1.out.below BX.out)
        have bY : Hid (But (fun k => k = b) w Y) := b1.out.trans (But.of_below BX.out _)
        clear z1
        go_wp2_with (go_at_call 99; refine (hCh.out _ MY.out).mono ?_; rintro e w2 ⟨rfl, G2⟩; replace G2 := hide G2)
        go_ret
        rw [e1.out]
        exact ⟨rfl, G2.out.behind bY.out⟩
    · have hk0 : ¬ fk = 0 := fun c => hk (.inl c)
      have hk2 : ¬ fk = 2 := fun c => hk (.inr c)
      have e1 : Hid (X = (R.beg 5, toldN fk)) := by
        show _ = _
        have hst : strN fk = toldN fk := by unfold strN; rw [if_neg hk]
        rw [← hX.out]; unfold RB.remove; rw [if_neg (by rw [h0]; simp), hF.out, if_pos (by show strN fk ≠ 0; rw [hst]; exact toldN_ne fk)]
        show (R.beg 5, strN fk) = _
        rw [hst]
      have hTo2 : Hid (∀ q, Calls Tryz.prog 98 #[.int .i64 fk] q fun e w' => e = .returned (.int .i64 (toldN fk)) ∧ w' = q) := fun q => told_ref q fk
      obtain ⟨tn, htn⟩ : ∃ tn, Hid (toldN fk = tn) := ⟨_, rfl⟩
      rw [htn.out] at hTo2
      have q0 : (fk != 0) = true := by simpa using hk0
      have q2 : (fk != 2) = true := by simpa using hk2
      clear hTo hk
      · go_enter Tryz.func54, Tryz.ntmps54
        go_upto_region 5 with (first
          | (go_at_call 95; refine hR.mono ?_; rintro e w1 ⟨rfl, e1'⟩; subst w1)
          | (go_at_call 97; refine hB.mono ?_; rintro e w1 ⟨rfl, M1, b1⟩; replace M1 := hide M1; replace b1 := hide b1))
        have z1 := heap_alloc_new w1 (.cells #[.int .i64 fa, .int .i64 fk, .int .i64 fp] 118)
        have BX := hide (box_below w1 (.cells #[.int .i64 fa, .int .i64 fk, .int .i64 fp] 118))
        obtain ⟨Y, hY⟩ : ∃ Y, Hid (w1.alloc (.cells #[.int .i64 fa, .int .i64 fk, .int .i64 fp] 118) = Y) := ⟨_, rfl⟩
        rw [hY.out] at z1 BX ⊢
        have y1 : Y.cell? ⟨w1.heap.size, 1, none⟩ = some (.int .i64 fk) := by simp [World.cell?, z1]
        have MY := hide (M1.out.below BX.out)
        have bY : Hid (But (fun k => k = b) w Y) := b1.out.trans (But.of_below BX.out _)
        clear z1
        go_wp2_with (go_at_call 98; refine (hTo2.out _).mono ?_; rintro e w2 ⟨rfl, e2⟩; subst w2)
        go_ret
        rw [e1.out]
        exact ⟨by rw [← htn.out]; rfl, Rgo.same MY.out bY.out⟩
  · have e1 : Hid (X = (R, refN R.down R.dir s true)) := by show _ = _; rw [← hX.out]; unfold RB.remove; rw [if_pos h0]
    have M0 := hide (Rgo.refl h)
    clear h ho hc hB
    generalize refN R.down R.dir s true = rn at *
    go_enter Tryz.func54, Tryz.ntmps54
    go_wp2_with (go_at_call 95; refine hR.mono ?_; rintro e w1 ⟨rfl, e1'⟩; subst w1)
    go_ret
    rw [e1.out]
    exact ⟨rfl, M0.out⟩
end Go.Proofs.YtjehpijjneghpaaGreat.Re
namespace Go.Proofs.YtjehpijjneghpaaGreat.Re
open Go.RowKit Go.Maps Go.Sort Go.Shelf Go.Proofs.YtjehpijjneghpaaGreat.Nm Go.Proofs.YtjehpijjneghpaaGreat.Dk
set_option linter.unusedVariables false
def RB.ref2 (R : RB) (f t : ByteArray) : Int := if refN R.down R.dir f false ≠ 0 then refN R.down R.dir f false else if refN R.down R.dir t false ≠ 0 then refN R.down R.dir t false else refN R.down R.dir f true
def RB.rename (R : RB) (f t : ByteArray) : RB × Int :=
  if R.ref2 f t ≠ 0 then (R, R.ref2 f t)
  else if strN R.flt.2.1 ≠ 0 then (R.beg 4, strN R.flt.2.1)
  else if f = t then (R.beg 4, 0)
  else ((R.beg 4).chg ⟨t, findN R.dir f.data.toList, f⟩, 0)
theorem same_str (s : ByteArray) : (s.toList == s.toList) = true := by simp
theorem other_str {s t : ByteArray} (h : s ≠ t) : (s.toList == t.toList) = false := by
  rw [ByteArray.toList_eq, ByteArray.toList_eq]
  have : s.data.toList ≠ t.data.toList := fun e => h (ByteArray.ext (Array.toList_inj.1 e))
  simpa using this
set_option maxRecDepth 100000 in
set_option maxHeartbeats 600000 in
theorem rename_no {w : World} {b : Nat} {R : RB} {V : RV} (h : RM w b R V) (f t : ByteArray) (hf : f.size ≤ maxLen) (ht : t.size ≤ maxLen) (h0 : R.ref2 f t ≠ 0) :
    Calls Tryz.prog 52 #[.pointer (some ⟨b, 0, none⟩), .string f, .string t] w fun e w' => e = .returned (.int .i64 (R.ref2 f t)) ∧ w' = w := by
  have hR1 := refused_rm h f hf false
  have hR2 := refused_rm h t ht false
  have hR3 := refused_rm h f hf true
  unfold RB.ref2 at h0 ⊢
  generalize refN R.down R.dir f false = n1 at *
  generalize refN R.down R.dir t false = n2 at *
  generalize refN R.down R.dir f true = n3 at *
  by_cases a1 : n1 = 0
  · subst a1
    rw [if_neg (by simp)] at h0 ⊢
    by_cases a2 : n2 = 0
    · subst a2
      rw [if_neg (by simp)] at h0 ⊢
      go_enter Tryz.func52, Tryz.ntmps52
      go_upto_region 3 with (go_at_call 95; refine hR1.mono ?_; rintro e w1 ⟨rfl, e1'⟩; subst w1)
      go_upto_region 5 with (go_at_call 95; refine hR2.mono ?_; rintro e w1 ⟨rfl, e1'⟩; subst w1)
      go_wp2_with (go_at_call 95; refine hR3.mono ?_; rintro e w1 ⟨rfl, e1'⟩; subst w1)
      go_ret
      exact ⟨rfl, rfl⟩
    · rw [if_pos a2]
      go_enter Tryz.func52, Tryz.ntmps52
      go_upto_region 3 with (go_at_call 95; refine hR1.mono ?_; rintro e w1 ⟨rfl, e1'⟩; subst w1)
      go_wp2_with (go_at_call 95; refine hR2.mono ?_; rintro e w1 ⟨rfl, e1'⟩; subst w1)
      go_ret
      exact ⟨rfl, rfl⟩
  · rw [if_pos a1]
    go_enter Tryz.func52, Tryz.ntmps52
    go_wp2_with (go_at_call 95; refine hR1.mono ?_; rintro e w1 ⟨rfl, e1'⟩; subst w1)
    go_ret
    exact ⟨rfl, rfl⟩
theorem ref2_zero {R : RB} {f t : ByteArray} (h : R.ref2 f t = 0) : refN R.down R.dir f false = 0 ∧ refN R.down R.dir t false = 0 ∧ refN R.down R.dir f true = 0 := by
  unfold RB.ref2 at h
  split at h
  · rename_i q; exact absurd h q
  · split at h
    · rename_i q; exact absurd h q
    · rename_i q1 q2; exact ⟨by simpa using q1, by simpa using q2, h⟩
set_option maxRecDepth 100000 in
set_option maxHeartbeats 1000000 in
theorem rename_rm {w : World} {b : Nat} {R : RB} {V : RV} (h : RM w b R V) (ho : R.ok) (hc : R.c7 ≤ 1000000000) (hl : (R.dir.length : Int) ≤ 1000000000) (hpl : (R.pe.length : Int) ≤ 1000000000) (hfi : ∀ n, findN R.dir n ≤ 9223372036854775807) (f t : ByteArray) (hf : f.size ≤ maxLen) (ht : t.size ≤ maxLen) :
    Calls Tryz.prog 52 #[.pointer (some ⟨b, 0, none⟩), .string f, .string t] w fun e w' => e = .returned (.int .i64 (R.rename f t).2) ∧ Rgo w w' b V (R.rename f t).1 := by
  obtain ⟨X, hX⟩ : ∃ X, Hid (R.rename f t = X) := ⟨_, rfl⟩
  rw [hX.out]
  by_cases h0 : R.ref2 f t = 0
  · obtain ⟨z1, z2, z3⟩ := ref2_zero h0
    have hR1 := refused_rm h f hf false
    have hR2 := refused_rm h t ht false
    have hR3 := refused_rm h f hf true
    rw [z1] at hR1
    rw [z2] at hR2
    rw [z3] at hR3
    have hB := begins_rm h ho hc 4 (by omega)
    obtain ⟨F, hF⟩ : ∃ F : Ft, Hid (R.flt = F) := ⟨R.flt, rfl⟩
    rw [hF.out] at hB
    obtain ⟨fa, fk, fp⟩ := F
    have hvd : ∃ da dn dc, V.vD = .slice da dn dc := by rcases h.dd.form with ⟨e, _⟩ | ⟨g, cap, e, _⟩ <;> exact ⟨_, _, _, e⟩
    obtain ⟨da, dn, dc, hvd⟩ := hvd
    have hnf : -1 ≤ findN R.dir f.data.toList := by unfold findN; split <;> omega
    have hFi : Hid (∀ q, RM q b (R.beg 4) V → Calls Tryz.prog 96 #[V.vD, .string f] q fun e w' => e = .returned (.int .i64 (findN R.dir f.data.toList)) ∧ w' = q) := fun q hq => by
      have := find_ref q V.vD (R.beg 4).dir f hq.dd.tr
      rw [(beg_same R 4).2.1] at this
      exact this
    have hCh : Hid (∀ q, RM q b (R.beg 4) V → Calls Tryz.prog 99 #[.pointer (some ⟨b, 0, none⟩), .agg #[.string t, .int .i64 (findN R.dir f.data.toList), .string f]] q fun e w' => e = .returned (.tuple #[]) ∧ Rgo q w' b V ((R.beg 4).chg ⟨t, findN R.dir f.data.toList, f⟩)) := fun q hq => by
      obtain ⟨_, e2, _, e4, _⟩ := beg_same R 4
      exact change_rm hq ⟨t, findN R.dir f.data.toList, f⟩ (by rw [e2]; exact hl) (by rw [e4]; exact hpl) (by show (-9223372036854775808 : Int) ≤ findN R.dir f.data.toList; omega) (hfi _)
    rw [hvd] at hFi
    clear h ho hc
    unfold fv at hB
    dsimp only at hB
    by_cases hk : fk = 0 ∨ fk = 2
    · have e0 : R.rename f t = (if f = t then (R.beg 4, 0) else ((R.beg 4).chg ⟨t, findN R.dir f.data.toList, f⟩, 0)) := by unfold RB.rename; rw [if_neg (by rw [h0]; simp), hF.out, if_neg (by unfold strN; rw [if_pos hk]; simp)]
      by_cases hft : f = t
      · have e1 : Hid (X = (R.beg 4, 0)) := by show _ = _; rw [← hX.out, e0, if_pos hft]
        subst hft
        have qs := same_str f
        clear e0
        rcases hk with rfl | rfl
        · go_enter Tryz.func52, Tryz.ntmps52
          go_upto_region 3 with (go_at_call 95; refine hR1.mono ?_; rintro e w1 ⟨rfl, e1'⟩; subst w1)
          go_upto_region 5 with (go_at_call 95; refine hR2.mono ?_; rintro e w1 ⟨rfl, e1'⟩; subst w1)
          go_upto_region 8 with (go_at_call 95; refine hR3.mono ?_; rintro e w1 ⟨rfl, e1'⟩; subst w1)
          go_upto_region 9 with (go_at_call 97; refine hB.mono ?_; rintro e w1 ⟨rfl, M1, b1⟩; replace M1 := hide M1; replace b1 := hide b1)
          have z1 := heap_alloc_new w1 (.cells #[.int .i64 fa, .int .i64 0, .int .i64 fp] 118)
          have BX := hide (box_below w1 (.cells #[.int .i64 fa, .int .i64 0, .int .i64 fp] 118))
          obtain ⟨Y, hY⟩ : ∃ Y, Hid (w1.alloc (.cells #[.int .i64 fa, .int .i64 0, .int .i64 fp] 118) = Y) := ⟨_, rfl⟩
          rw [hY.out] at z1 BX ⊢
          have y1 : Y.cell? ⟨w1.heap.size, 1, none⟩ = some (.int .i64 0) := by simp [World.cell?, z1]
          have MY := hide (M1.out.below BX.out)
          have y2 : Y.cell? ⟨b, 2, none⟩ = some V.vD := (MY.out.cell 2).trans rfl
          have bY : Hid (But (fun k => k = b) w Y) := b1.out.trans (But.of_below BX.out _)
          clear z1
          go_wp2_with fail
          go_ret
          rw [e1.out]
          exact ⟨rfl, Rgo.same MY.out bY.out⟩
        · go_enter Tryz.func52, Tryz.ntmps52
          go_upto_region 3 with (go_at_call 95; refine hR1.mono ?_; rintro e w1 ⟨rfl, e1'⟩; subst w1)
          go_upto_region 5 with (go_at_call 95; refine hR2.mono ?_; rintro e w1 ⟨rfl, e1'⟩; subst w1)
          go_upto_region 8 with (go_at_call 95; refine hR3.mono ?_; rintro e w1 ⟨rfl, e1'⟩; subst w1)
          go_upto_region 9 with (go_at_call 97; refine hB.mono ?_; rintro e w1 ⟨rfl, M1, b1⟩; replace M1 := hide M1; replace b1 := hide b1)
          have z1 := heap_alloc_new w1 (.cells #[.int .i64 fa, .int .i64 2, .int .i64 fp] 118)
          have BX := hide (box_below w1 (.cells #[.int .i64 fa, .int .i64 2, .int .i64 fp] 118))
          obtain ⟨Y, hY⟩ : ∃ Y, Hid (w1.alloc (.cells #[.int .i64 fa, .int .i64 2, .int .i64 fp] 118) = Y) := ⟨_, rfl⟩
          rw [hY.out] at z1 BX ⊢
          have y1 : Y.cell? ⟨w1.heap.size, 1, none⟩ = some (.int .i64 2) := by simp [World.cell?, z1]
          have MY := hide (M1.out.below BX.out)
          have y2 : Y.cell? ⟨b, 2, none⟩ = some V.vD := (MY.out.cell 2).trans rfl
          have bY : Hid (But (fun k => k = b) w Y) := b1.out.trans (But.of_below BX.out _)
          clear z1
          go_wp2_with fail
          go_ret
          rw [e1.out]
          exact ⟨rfl, Rgo.same MY.out bY.out⟩
      · have e1 : Hid (X = ((R.beg 4).chg ⟨t, findN R.dir f.data.toList, f⟩, 0)) := by show _ = _; rw [← hX.out, e0, if_neg hft]
        have qs := other_str hft
        clear e0
        generalize findN R.dir f.data.toList = fn at *
        rcases hk with rfl | rfl
        · go_enter Tryz.func52, Tryz.ntmps52
          go_upto_region 3 with (go_at_call 95; refine hR1.mono ?_; rintro e w1 ⟨rfl, e1'⟩; subst w1)
          go_upto_region 5 with (go_at_call 95; refine hR2.mono ?_; rintro e w1 ⟨rfl, e1'⟩; subst w1)
          go_upto_region 8 with (go_at_call 95; refine hR3.mono ?_; rintro e w1 ⟨rfl, e1'⟩; subst w1)
          go_upto_region 9 with (go_at_call 97; refine hB.mono ?_; rintro e w1 ⟨rfl, M1, b1⟩; replace M1 := hide M1; replace b1 := hide b1)
          have z1 := heap_alloc_new w1 (.cells #[.int .i64 fa, .int .i64 0, .int .i64 fp] 118)
          have BX := hide (box_below w1 (.cells #[.int .i64 fa, .int .i64 0, .int .i64 fp] 118))
          obtain ⟨Y, hY⟩ : ∃ Y, Hid (w1.alloc (.cells #[.int .i64 fa, .int .i64 0, .int .i64 fp] 118) = Y) := ⟨_, rfl⟩
          rw [hY.out] at z1 BX ⊢
          have y1 : Y.cell? ⟨w1.heap.size, 1, none⟩ = some (.int .i64 0) := by simp [World.cell?, z1]
          have MY := hide (M1.out.below BX.out)
          have y2 : Y.cell? ⟨b, 2, none⟩ = some V.vD := (MY.out.cell 2).trans rfl
          have bY : Hid (But (fun k => k = b) w Y) := b1.out.trans (But.of_below BX.out _)
          clear z1
          rw [hvd] at y2
          go_wp2_with (first
            | (go_at_call 96; refine (hFi.out _ MY.out).mono ?_; rintro e w2 ⟨rfl, e2⟩; subst w2)
            | (go_at_call 99; refine (hCh.out _ MY.out).mono ?_; rintro e w2 ⟨rfl, G2⟩; replace G2 := hide G2))
          go_ret
          rw [e1.out]
          exact ⟨rfl, G2.out.behind bY.out⟩
        · go_enter Tryz.func52, Tryz.ntmps52
          go_upto_region 3 with (go_at_call 95; refine hR1.mono ?_; rintro e w1 ⟨rfl, e1'⟩; subst w1)
          go_upto_region 5 with (go_at_call 95; refine hR2.mono ?_; rintro e w1 ⟨rfl, e1'⟩; subst w1)
          go_upto_region 8 with (go_at_call 95; refine hR3.mono ?_; rintro e w1 ⟨rfl, e1'⟩; subst w1)
          go_upto_region 9 with (go_at_call 97; refine hB.mono ?_; rintro e w1 ⟨rfl, M1, b1⟩; replace M1 := hide M1; replace b1 := hide b1)
          have z1 := heap_alloc_new w1 (.cells #[.int .i64 fa, .int .i64 2, .int .i64 fp] 118)
          have BX := hide (box_below w1 (.cells #[.int .i64 fa, .int .i64 2, .int .i64 fp] 118))
          obtain ⟨Y, hY⟩ : ∃ Y, Hid (w1.alloc (.cells #[.int .i64 fa, .int .i64 2, .int .i64 fp] 118) = Y) := ⟨_, rfl⟩
          rw [hY.out] at z1 BX ⊢
          have y1 : Y.cell? ⟨w1.heap.size, 1, none⟩ = some (.int .i64 2) := by simp [World.cell?, z1]
          have MY := hide (M1.out.below BX.out)
          have y2 : Y.cell? ⟨b, 2, none⟩ = some V.vD := (MY.out.cell 2).trans rfl
          have bY : Hid (But (fun k => k = b) w Y) := b1.out.trans (But.of_below BX.out _)
          clear z1
          rw [hvd] at y2
          go_wp2_with (first
            | (go_at_call 96; refine (hFi.out _ MY.out).mono ?_; rintro e w2 ⟨rfl, e2⟩; subst w2)
            | (go_at_call 99; refine (hCh.out _ MY.out).mono ?_; rintro e w2 ⟨rfl, G2⟩; replace G2 := hide G2))
          go_ret
          rw [e1.out]
          exact ⟨rfl, G2.out.behind bY.out⟩
    · have hk0 : ¬ fk = 0 := fun c => hk (.inl c)
      have hk2 : ¬ fk = 2 := fun c => hk (.inr c)
      have e1 : Hid (X = (R.beg 4, toldN fk)) := by
        show _ = _
        have hst : strN fk = toldN fk := by unfold strN; rw [if_neg hk]
        rw [← hX.out]; unfold RB.rename; rw [if_neg (by rw [h0]; simp), hF.out, if_pos (by show strN fk ≠ 0; rw [hst]; exact toldN_ne fk)]
        show (R.beg 4, strN fk) = _
        rw [hst]
      have hTo2 : Hid (∀ q, Calls Tryz.prog 98 #[.int .i64 fk] q fun e w' => e = .returned (.int .i64 (toldN fk)) ∧ w' = q) := fun q => told_ref q fk
      obtain ⟨tk, htk⟩ : ∃ tk, Hid (toldN fk = tk) := ⟨_, rfl⟩
      rw [htk.out] at hTo2
      have q0 : (fk != 0) = true := by simpa using hk0
      have q2 : (fk != 2) = true := by simpa using hk2
      clear hk
      · go_enter Tryz.func52, Tryz.ntmps52
        go_upto_region 3 with (go_at_call 95; refine hR1.mono ?_; rintro e w1 ⟨rfl, e1'⟩; subst w1)
        go_upto_region 5 with (go_at_call 95; refine hR2.mono ?_; rintro e w1 ⟨rfl, e1'⟩; subst w1)
        go_upto_region 8 with (go_at_call 95; refine hR3.mono ?_; rintro e w1 ⟨rfl, e1'⟩; subst w1)
        go_upto_region 9 with (go_at_call 97; refine hB.mono ?_; rintro e w1 ⟨rfl, M1, b1⟩; replace M1 := hide M1; replace b1 := hide b1)
        have z1 := heap_alloc_new w1 (.cells #[.int .i64 fa, .int .i64 fk, .int .i64 fp] 118)
        have BX := hide (box_below w1 (.cells #[.int .i64 fa, .int .i64 fk, .int .i64 fp] 118))
        obtain ⟨Y, hY⟩ : ∃ Y, Hid (w1.alloc (.cells #[.int .i64 fa, .int .i64 fk, .int .i64 fp] 118) = Y) := ⟨_, rfl⟩
        rw [hY.out] at z1 BX ⊢
        have y1 : Y.cell? ⟨w1.heap.size, 1, none⟩ = some (.int .i64 fk) := by simp [World.cell?, z1]
        have MY := hide (M1.out.below BX.out)
        have y2 : Y.cell? ⟨b, 2, none⟩ = some V.vD := (MY.out.cell 2).trans rfl
        have bY : Hid (But (fun k => k = b) w Y) := b1.out.trans (But.of_below BX.out _)
        clear z1
        go_wp2_with (go_at_call 98; refine (hTo2.out _).mono ?_; rintro e w2 ⟨rfl, e2⟩; subst w2)
        go_ret
        rw [e1.out]
        exact ⟨by rw [← htk.out]; rfl, Rgo.same MY.out bY.out⟩
  · have e1 : X = (R, R.ref2 f t) := by rw [← hX.out]; unfold RB.rename; rw [if_pos h0]
    rw [e1]
    refine (rename_no h f t hf ht h0).mono ?_
    rintro e w' ⟨rfl, rfl⟩
    exact ⟨rfl, Rgo.refl h⟩
end Go.Proofs.YtjehpijjneghpaaGreat.Re
