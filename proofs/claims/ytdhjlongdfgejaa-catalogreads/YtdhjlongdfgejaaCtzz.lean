/-
  The document's reader by states; its number; a catalog that it reads.
-/
import Derived.Test.YtdhjlongdfgejaaCtV
import Derived.Test.YtdhjlongdfgejaaCtM
import Derived.Test.YtdhjlongdfgejaaRefRd
import Derived.Test.YtdhjlongdfgejaaCrcR
import Derived.BigRegion
namespace Go.Proofs.Ytdhjlongdfgejaa.Ct
open Go.RowKit

def e4 (e : Int) : Int := if e = 3 then 4 else e
theorem e4_0 : e4 0 = 0 := rfl
theorem e4_ne {e : Int} (h : e ≠ 0) : e4 e ≠ 0 := by unfold e4; split <;> omega
theorem e4_3 (e : Int) : e4 e ≠ 3 := by unfold e4; split <;> omega
/-- At block qb lies the document's Reader over l in the state s (its error 3 is told as 4). -/
def QS (w : World) (qb : Nat) (l : List UInt8) (s : Stt) : Prop := ∃ k, RefAt w qb l k (e4 s.2) ∧ l.drop k = s.1
theorem QS.lt {w : World} {qb : Nat} {l : List UInt8} {s : Stt} (h : QS w qb l s) : qb < w.heap.size := by obtain ⟨k, h, _⟩ := h; exact h.lt
theorem QS.below {w w' : World} {qb : Nat} {l : List UInt8} {s : Stt} (h : QS w qb l s) (hb : Below w.heap.size w w') : QS w' qb l s := by
  obtain ⟨k, h, e⟩ := h; exact ⟨k, h.below hb, e⟩
/-- Blocks behind the Reader's don't matter. -/
theorem QS.far {w w' : World} {qb : Nat} {l : List UInt8} {s : Stt} (h : QS w qb l s) {X : Nat → Prop} (hX : ∀ j, X j → qb < j) (hb : But X w w') : QS w' qb l s := by
  obtain ⟨k, ⟨vr, h1, ⟨ao, cap, rfl, g2, g3, g4, g5⟩, h3, h4, h5⟩, e⟩ := h
  have n1 : ¬ X qb := fun e => by have := hX qb e; omega
  refine ⟨k, ⟨_, hb.at h1 n1, ⟨ao, cap, rfl, g2, g3, g4, fun i hi => ?_⟩, h3, h4, h5⟩, e⟩
  obtain ⟨b', off, rfl, hc⟩ := g5 i hi
  refine ⟨b', off, rfl, ?_⟩
  have hlt : b' < qb := h5 ⟨b', off, none⟩ l.length cap rfl (by omega)
  rw [World.cell?_of_block (a := ⟨b', off + i, none⟩) (hb.block b' (lt_of_cell hc) fun e => by have := hX b' e; omega)]
  exact hc
theorem vr_state (l : List UInt8) (k m : Nat) : vV m (l.drop k, 0) = (vr l k (m : Int)).1 ∧ vS m (l.drop k, 0) = (l.drop (k + (vr l k (m : Int)).2.1), (vr l k (m : Int)).2.2) := by
  by_cases h1 : (rv (l.drop k)).2.2 = 0
  · by_cases h2 : (rv (l.drop k)).1 ≤ m
    · have e1 : vV m (l.drop k, 0) = (rv (l.drop k)).1 := by unfold vV; rw [if_pos ⟨rfl, h1, h2⟩]
      have e2 : vS m (l.drop k, 0) = (nx (l.drop k), 0) := by unfold vS; rw [if_neg (by simp), if_neg (by simpa using h1), if_neg (by simp; omega)]
      have e3 : vr l k (m : Int) = rv (l.drop k) := by unfold vr; rw [if_neg (by simpa using h1), if_neg (by omega)]
      rw [e1, e2, e3, h1, nx, List.drop_drop]
      exact ⟨rfl, rfl⟩
    · have e1 : vV m (l.drop k, 0) = 0 := by unfold vV; rw [if_neg (fun c => h2 c.2.2)]
      have e2 : vS m (l.drop k, 0) = (l.drop k, 3) := by unfold vS; rw [if_neg (by simp), if_neg (by simpa using h1), if_pos (by simp; omega)]
      have e3 : vr l k (m : Int) = (0, 0, 3) := by unfold vr; rw [if_neg (by simpa using h1), if_pos (by omega)]
      rw [e1, e2, e3]
      exact ⟨rfl, rfl⟩
  · have e1 : vV m (l.drop k, 0) = 0 := by unfold vV; rw [if_neg (by simp [h1])]
    have e2 : vS m (l.drop k, 0) = (l.drop k, (rv (l.drop k)).2.2) := by unfold vS; rw [if_neg (by simp), if_pos (by simpa using h1)]
    have e3 : vr l k (m : Int) = (0, 0, (rv (l.drop k)).2.2) := by unfold vr; rw [if_pos (by simpa using h1)]
    rw [e1, e2, e3]
    exact ⟨rfl, rfl⟩
theorem vS_err {m : Nat} {s : Stt} (h : s.2 ≠ 0) : vS m s = s ∧ vV m s = 0 := by
  unfold vS vV
  rw [if_pos h, if_neg (fun c => h c.1)]
  exact ⟨rfl, rfl⟩
set_option maxHeartbeats 1000000 in
theorem qnum_any (w : World) (qb : Nat) (l : List UInt8) (s : Stt) (h : QS w qb l s) :
    Calls Try.prog 46 #[.pointer (some ⟨qb, 0, none⟩)] w fun e w' => e = .returned (.int .i64 (nV s : Int)) ∧ QS w' qb l (nS s) ∧ w.grownBy w' (some qb) := by
  obtain ⟨r, er⟩ := s
  obtain ⟨k, h, e⟩ := h
  dsimp only at h e
  subst e
  by_cases h0 : er = 0
  · subst h0
    rw [e4_0] at h
    obtain ⟨p1, p2⟩ := vr_state l k top
    unfold nV nS
    rw [p1, p2]
    have hle : Hid ((vr l k (top : Int)).1 ≤ 9223372036854775807) := by show _ ≤ _; rw [← p1]; exact vV_le _ _
    have CALL := hide (qVarint_go w qb l k (top : Int) h (by decide))
    clear p1 p2 h
    generalize vr l k (top : Int) = V at *
    obtain ⟨vv, vk, ve⟩ := V
    dsimp only at CALL hle ⊢
    go_enter Try.func46, Try.ntmps46
    go_wp2_with fail
    refine CALL.out.mono ?_
    rintro e w2 ⟨rfl, R, g⟩
    have R2 := hide R
    have G2 := hide g
    obtain ⟨ao, ca, c0, c1, c2, f1, f2, _⟩ := R.cells
    have hw : IntKind.i64.wrap (vv : Int) = (vv : Int) := by have := hle.out; rw [IntKind.wrap_i64]; omega
    clear R g CALL
    by_cases h3 : ve = 3
    · subst h3
      go_wp2_with fail
      go_ret
      exact ⟨rfl, ⟨_, R2.out.setErr 4, rfl⟩, G2.out.trans (grown_setCell _ _ _ _)⟩
    · have h3' : (ve == 3) = false := by simp [h3]
      have he : e4 ve = ve := by unfold e4; rw [if_neg h3]
      go_wp2_with fail
      go_ret
      exact ⟨rfl, ⟨_, by show RefAt _ _ _ _ (e4 ve); rw [he]; exact R2.out, rfl⟩, G2.out⟩
  · obtain ⟨p1, p2⟩ := vS_err (m := top) (s := (l.drop k, er)) h0
    unfold nV nS
    rw [p1, p2]
    have hne : (e4 er != 0) = true := by have := e4_ne h0; simp [this]
    have h3' : (e4 er == 3) = false := by have := e4_3 er; simp [this]
    have R2 := hide h
    obtain ⟨ao, ca, c0, c1, c2, f1, f2, _⟩ := h.cells
    go_enter Try.func46, Try.ntmps46
    go_wp2_with fail
    refine (qVarint_no w qb l k (e4 er) (top : Int) h hne).mono ?_
    rintro e w2 ⟨rfl, rfl⟩
    clear h
    go_wp2_with fail
    go_ret
    exact ⟨rfl, ⟨_, R2.out, rfl⟩, World.grownBy.refl _ _⟩
theorem qfix_any (w : World) (qb : Nat) (l : List UInt8) (s : Stt) (h : QS w qb l s) :
    Calls Try.prog 48 #[.pointer (some ⟨qb, 0, none⟩), .int .i64 4] w fun e w' => e = .returned (.int .u64 (xV s : Int)) ∧ QS w' qb l (xS s) ∧ w.grownBy w' (some qb) := by
  obtain ⟨r, er⟩ := s
  obtain ⟨k, h, e⟩ := h
  dsimp only at h e
  subst e
  by_cases h0 : er = 0
  · subst h0
    rw [e4_0] at h
    have hk : k ≤ l.length := by obtain ⟨_, _, _, hk, _⟩ := h; exact hk
    by_cases h4 : 4 ≤ (l.drop k).length
    · have e1 : xV (l.drop k, 0) = num ((l.drop k).take 4) := by unfold xV; rw [if_pos ⟨rfl, h4⟩]
      have e2 : xS (l.drop k, 0) = ((l.drop k).drop 4, 0) := by unfold xS; rw [if_neg (by simp), if_neg (by simp only [List.length_drop] at h4 ⊢; omega)]
      rw [e1, e2]
      rw [List.length_drop] at h4
      refine (qFixed_go w qb l k 4 h (by omega) (by decide) (by decide)).mono ?_
      rintro e w' ⟨rfl, R, g⟩
      exact ⟨rfl, ⟨_, R, by rw [List.drop_drop]⟩, g⟩
    · have e1 : xV (l.drop k, 0) = 0 := by unfold xV; rw [if_neg (fun c => h4 c.2)]
      have e2 : xS (l.drop k, 0) = (l.drop k, 2) := by unfold xS; rw [if_neg (by simp), if_pos (by simp only [List.length_drop] at h4 ⊢; omega)]
      rw [e1, e2]
      rw [List.length_drop] at h4
      refine (qFixed_short w qb l k 4 h (by omega)).mono ?_
      rintro e w' ⟨rfl, R, g⟩
      exact ⟨rfl, ⟨_, R, rfl⟩, g⟩
  · have e1 : xV (l.drop k, er) = 0 := by unfold xV; rw [if_neg (fun c => h0 c.1)]
    have e2 : xS (l.drop k, er) = (l.drop k, er) := by unfold xS; rw [if_pos (by simpa using h0)]
    have hne : (e4 er != 0) = true := by have := e4_ne h0; simp [this]
    rw [e1, e2]
    refine (qFixed_no w qb l k (e4 er) 4 h hne).mono ?_
    rintro e w' ⟨rfl, rfl⟩
    exact ⟨rfl, ⟨_, h, rfl⟩, World.grownBy.refl _ _⟩
/-- A varint of any size: the state behind it, the number. -/
theorem qany_any (w : World) (qb : Nat) (l : List UInt8) (s : Stt) (h : QS w qb l s) :
    Calls Try.prog 47 #[.pointer (some ⟨qb, 0, none⟩), .int .u64 18446744073709551615] w fun e w' => e = .returned (.int .u64 (vV 18446744073709551615 s : Int)) ∧ QS w' qb l (vS 18446744073709551615 s) ∧ w.grownBy w' (some qb) := by
  obtain ⟨r, er⟩ := s
  obtain ⟨k, h, e⟩ := h
  dsimp only at h e
  subst e
  by_cases h0 : er = 0
  · subst h0
    rw [e4_0] at h
    obtain ⟨p1, p2⟩ := vr_state l k 18446744073709551615
    have h3 : (vr l k (18446744073709551615 : Nat)).2.2 ≠ 3 := by
      unfold vr
      have hb := (rv_bounds (l.drop k)).1
      rcases rv_errs (l.drop k) with e | e | e
      · rw [if_neg (by simpa using e), if_neg (by omega), e]; decide
      · rw [if_pos (by rw [e]; decide), e]; decide
      · rw [if_pos (by rw [e]; decide), e]; decide
    have he : e4 (vr l k (18446744073709551615 : Nat)).2.2 = (vr l k (18446744073709551615 : Nat)).2.2 := by unfold e4; rw [if_neg h3]
    rw [p1, p2]
    refine (qVarint_go w qb l k (18446744073709551615 : Nat) h (by decide)).mono ?_
    rintro e w' ⟨rfl, R, g⟩
    exact ⟨rfl, ⟨_, by dsimp only; rw [he]; exact R, rfl⟩, g⟩
  · obtain ⟨p1, p2⟩ := vS_err (m := 18446744073709551615) (s := (l.drop k, er)) h0
    have hne : (e4 er != 0) = true := by have := e4_ne h0; simp [this]
    rw [p1, p2]
    refine (qVarint_no w qb l k (e4 er) 18446744073709551615 h hne).mono ?_
    rintro e w' ⟨rfl, rfl⟩
    exact ⟨rfl, ⟨_, h, rfl⟩, World.grownBy.refl _ _⟩

/-- The catalog that the document reads, in block cb: the world u, out of w. -/
structure Rq (w u : World) (qb cb zb : Nat) (l : List UInt8) (s : Stt) (g f : Int) (v : Value) (li : List Sg) : Prop where
  rs : QS u qb l s
  cg : u.heap[cb]? = some (.cells #[.int .i64 g, .int .i64 f, v] 29 (0, 0))
  zg : u.heap[zb]? = some (.cells #[.int .i64 0, .int .i64 0, .slice none 0 0] 29 (0, 0))
  own : Own (qb + 1) u v li
  bel : Below w.heap.size w u
  z1 : w.heap.size ≤ zb
  z2 : zb < qb
  z3 : qb < cb
theorem Rq.call {w u u' : World} {qb cb zb : Nat} {l : List UInt8} {s s' : Stt} {g f : Int} {v : Value} {li : List Sg} (h : Rq w u qb cb zb l s g f v li) (hr : QS u' qb l s') (hg : u.grownBy u' (some qb)) : Rq w u' qb cb zb l s' g f v li := by
  have h1 := h.z1
  have h2 := h.z2
  have h3 := h.z3
  have hb : But (fun k => k = qb) u u' := But.of_grownBy hg fun k e => by cases e; rfl
  exact ⟨hr, hb.at h.cg (by omega), hb.at h.zg (by omega), h.own.but hb (fun k hk e => by have := (h.own.lt k hk).1; omega), below_block h.bel hg (by omega), h1, h2, h3⟩
theorem Rq.below {w u u' : World} {qb cb zb : Nat} {l : List UInt8} {s : Stt} {g f : Int} {v : Value} {li : List Sg} (h : Rq w u qb cb zb l s g f v li) (hb : Below u.heap.size u u') : Rq w u' qb cb zb l s g f v li :=
  ⟨h.rs.below hb, by rw [hb.block _ (heap_lt h.cg)]; exact h.cg, by rw [hb.block _ (heap_lt h.zg)]; exact h.zg, h.own.below hb, keepF h.bel hb, h.z1, h.z2, h.z3⟩
theorem Rq.cells {w u : World} {qb cb zb : Nat} {l : List UInt8} {s : Stt} {g f : Int} {v : Value} {li : List Sg} (h : Rq w u qb cb zb l s g f v li) : (u.cell? ⟨cb, 0, none⟩ = some (.int .i64 g) ∧ u.cell? ⟨cb, 1, none⟩ = some (.int .i64 f) ∧ u.cell? ⟨cb, 2, none⟩ = some v) ∧ u.frozen? ⟨cb, 0, none⟩ = false ∧ u.frozen? ⟨cb, 1, none⟩ = false ∧ u.frozen? ⟨cb, 2, none⟩ = false := ⟨three_cells h.cg, three_frozen h.cg⟩
theorem Rq.set {w u : World} {qb cb zb : Nat} {l : List UInt8} {s : Stt} {g f : Int} {v : Value} {li : List Sg} (h : Rq w u qb cb zb l s g f v li) {g' f' : Int} {j : Nat} {x : Value} (hs : (#[.int .i64 g, .int .i64 f, v] : Array Value).setIfInBounds j x = #[.int .i64 g', .int .i64 f', v]) : Rq w (u.setCell ⟨cb, j, none⟩ x) qb cb zb l s g' f' v li := by
  have h1 := h.z1
  have h2 := h.z2
  have h3 := h.z3
  have hb : But (fun k => k = cb) u (u.setCell ⟨cb, j, none⟩ x) := But.of_grownBy (grown_setCell u cb j x) fun k e => by cases e; rfl
  refine ⟨h.rs.far (fun k e => by omega) hb, ?_, hb.at h.zg (by omega), ⟨h.own.1, ownsRow_setCell_other h.own.2 (h.own.no h.cg (by decide)) _⟩, h.bel.setCell (by show _ ≤ cb; omega) _, h1, h2, h3⟩
  rw [heap_setCell_same _ _ _ _ _ _ h.cg, hs]
/-- Another block of the call's own turns, behind the Reader's. -/
theorem Rq.other {w u u' : World} {qb cb zb sb : Nat} {l : List UInt8} {s : Stt} {g f : Int} {v : Value} {li : List Sg} (h : Rq w u qb cb zb l s g f v li) (hg : u.grownBy u' (some sb)) (hc : cb < sb) (hv : ∀ k, v.ownBlock = some k → k ≠ sb) : Rq w u' qb cb zb l s g f v li := by
  have h1 := h.z1
  have h2 := h.z2
  have h3 := h.z3
  have hb : But (fun k => k = sb) u u' := But.of_grownBy hg fun k e => by cases e; rfl
  exact ⟨h.rs.far (fun k e => by omega) hb, hb.at h.cg (by omega), hb.at h.zg (by omega), h.own.but hb (fun k hk e => hv k hk e), below_block h.bel hg (by omega), h1, h2, h3⟩
/-- One segment more is written behind the list. -/
theorem Rq.app {w u u' : World} {qb cb zb : Nat} {l : List UInt8} {s : Stt} {g f : Int} {v v' : Value} {li li' : List Sg} (h : Rq w u qb cb zb l s g f v li) (ho : Own (qb + 1) u' v' li') (hg : u.grownBy u' v.ownBlock) : Rq w (u'.setCell ⟨cb, 2, none⟩ v') qb cb zb l s g f v' li' := by
  have h1 := h.z1
  have h2 := h.z2
  have h3 := h.z3
  have hb : But (fun k => v.ownBlock = some k) u u' := But.of_grownBy hg fun k e => e
  have e1 := hb.at h.cg (h.own.no h.cg (by decide))
  have hc : But (fun k => k = cb) u' (u'.setCell ⟨cb, 2, none⟩ v') := But.of_grownBy (grown_setCell u' cb 2 _) fun k e => by cases e; rfl
  refine ⟨(h.rs.far (fun k e => (h.own.lt k e).1) hb).far (fun k e => by omega) hc, ?_, hc.at (hb.at h.zg (h.own.no h.zg (by decide))) (by omega), ⟨ho.1, ownsRow_setCell_other ho.2 (ho.no e1 (by decide)) _⟩, (Below.grown h.bel hg h.bel.size (fun k hk => by have := (h.own.lt k hk).1; omega)).setCell (by show _ ≤ cb; omega) _, h1, h2, h3⟩
  rw [heap_setCell_same _ _ _ _ _ _ e1]; simp
#print axioms qnum_any
end Go.Proofs.Ytdhjlongdfgejaa.Ct

/-
  The document's Read.
-/
namespace Go.Proofs.Ytdhjlongdfgejaa.Ct
open Go.RowKit

theorem xS_err {s : Stt} (h : s.2 ≠ 0) : xS s = s := by unfold xS; rw [if_pos h]
theorem segS_err {s : Stt} (h : s.2 ≠ 0) : segS s = s := by
  unfold segS nS
  rw [(vS_err h).1, (vS_err h).1, xS_err h, (vS_err h).1, (vS_err h).1]
theorem segsS_err : ∀ (n : Nat) {s : Stt}, s.2 ≠ 0 → segsS n s = s := by
  intro n
  induction n with
  | zero => intro s _; rfl
  | succ n ih => intro s h; show segsS n (segS s) = s; rw [segS_err h]; exact ih h
theorem segsS_add : ∀ (a b : Nat) (s : Stt), segsS (a + b) s = segsS b (segsS a s) := by
  intro a
  induction a with
  | zero => intro b s; rw [Nat.zero_add]; rfl
  | succ a ih => intro b s; rw [Nat.succ_add]; exact ih b (segS s)
/-- The errors that a state can have. -/
def Er (e : Int) : Prop := e = 0 ∨ e = 2 ∨ e = 3 ∨ e = 4
theorem vS_er {m : Nat} {s : Stt} (h : Er s.2) : Er (vS m s).2 := by
  unfold vS
  split
  · exact h
  split
  · rcases rv_errs s.1 with e | e | e
    · exact .inl e
    · exact .inr (.inl e)
    · exact .inr (.inr (.inr e))
  split
  · exact .inr (.inr (.inl rfl))
  · exact .inl rfl
theorem xS_er {s : Stt} (h : Er s.2) : Er (xS s).2 := by
  unfold xS
  split
  · exact h
  split
  · exact .inr (.inl rfl)
  · exact .inl rfl
theorem segS_er {s : Stt} (h : Er s.2) : Er (segS s).2 := vS_er (vS_er (xS_er (vS_er (vS_er h))))
theorem segsS_er : ∀ (n : Nat) {s : Stt}, Er s.2 → Er (segsS n s).2 := by
  intro n
  induction n with
  | zero => intro s h; exact h
  | succ n ih => intro s h; exact ih (segS_er h)
theorem v_ok {m : Nat} {s : Stt} (h0 : s.2 = 0) (h1 : (rv s.1).2.2 = 0) (h2 : (rv s.1).1 ≤ m) : vV m s = (rv s.1).1 ∧ vS m s = (nx s.1, 0) := by
  unfold vV vS
  rw [if_pos ⟨h0, h1, h2⟩, if_neg (by simpa using h0), if_neg (by simpa using h1), if_neg (by omega)]
  exact ⟨rfl, rfl⟩
theorem v_big {m : Nat} {s : Stt} (h0 : s.2 = 0) (h1 : (rv s.1).2.2 = 0) (h2 : m < (rv s.1).1) : vV m s = 0 ∧ vS m s = (s.1, 3) := by
  unfold vV vS
  rw [if_neg (by omega), if_neg (by simpa using h0), if_neg (by simpa using h1), if_pos h2]
  exact ⟨rfl, rfl⟩
theorem v_bad {m : Nat} {s : Stt} (h0 : s.2 = 0) (h1 : (rv s.1).2.2 ≠ 0) : vV m s = 0 ∧ vS m s = (s.1, (rv s.1).2.2) := by
  unfold vV vS
  rw [if_neg (by omega), if_neg (by simpa using h0), if_pos h1]
  exact ⟨rfl, rfl⟩
/-- A count, whatever it is, against one of at most 64. -/
theorem cnt_any (s : Stt) : (vV 18446744073709551615 s ≤ 64 → vV 64 s = vV 18446744073709551615 s ∧ vS 64 s = vS 18446744073709551615 s) ∧ (64 < vV 18446744073709551615 s → (vS 18446744073709551615 s).2 = 0 ∧ vV 64 s = 0 ∧ (vS 64 s).2 = 3) := by
  have hb := (rv_bounds s.1).1
  by_cases h0 : s.2 = 0
  · by_cases h1 : (rv s.1).2.2 = 0
    · obtain ⟨a, b⟩ := v_ok (m := 18446744073709551615) h0 h1 (by omega)
      rw [a, b]
      constructor
      · intro h
        obtain ⟨c, d⟩ := v_ok (m := 64) h0 h1 h
        rw [c, d]
        exact ⟨rfl, rfl⟩
      · intro h
        obtain ⟨c, d⟩ := v_big (m := 64) h0 h1 h
        rw [c, d]
        exact ⟨rfl, rfl, rfl⟩
    · obtain ⟨a, b⟩ := v_bad (m := 18446744073709551615) h0 h1
      obtain ⟨c, d⟩ := v_bad (m := 64) h0 h1
      rw [a, b, c, d]
      exact ⟨fun _ => ⟨rfl, rfl⟩, fun h => by omega⟩
  · obtain ⟨a, b⟩ := vS_err (m := 18446744073709551615) h0
    obtain ⟨c, d⟩ := vS_err (m := 64) h0
    rw [a, b, c, d]
    exact ⟨fun _ => ⟨rfl, rfl⟩, fun h => by omega⟩
/-- What Read comes to, told by the document's steps. -/
theorem betw_many {l : List UInt8} (h : 64 < vV 18446744073709551615 (nS (nS (l, 0)))) : betwF l = (4, 0, 0, []) := by
  obtain ⟨_, a, b⟩ := (cnt_any (nS (nS (l, 0)))).2 h
  have e : (segsS (cnt (l, 0)) (cntS (l, 0))).2 = 3 := by unfold cnt cntS; rw [a]; exact b
  unfold betwF
  rw [if_neg (by rw [e]; decide), if_pos (.inl (by rw [e]; decide))]
theorem betw_err {l : List UInt8} {c : Nat} {s3 : Stt} (hc : cnt (l, 0) = c) (hs : cntS (l, 0) = s3) {i : Nat} (hi : i ≤ c) (he : (segsS i s3).2 ≠ 0) (hr : Er s3.2) : betwF l = (e4 (segsS i s3).2, 0, 0, []) := by
  have e : segsS c s3 = segsS i s3 := by
    obtain ⟨d, rfl⟩ : ∃ d, c = i + d := ⟨c - i, by omega⟩
    rw [segsS_add, segsS_err d he]
  unfold betwF
  rw [hc, hs, e]
  rcases segsS_er i hr with h | h | h | h
  · exact absurd h he
  · rw [if_pos h, h]; rfl
  · rw [if_neg (by rw [h]; decide), if_pos (.inl he), h]; rfl
  · rw [if_neg (by rw [h]; decide), if_pos (.inl he), h]; rfl
theorem betw_ok {l : List UInt8} {c : Nat} {s3 : Stt} (hc : cnt (l, 0) = c) (hs : cntS (l, 0) = s3) (he : (segsS c s3).2 = 0) :
    ((segsS c s3).1 ≠ [] ∨ ¬ May (nV (l, 0) : Int) (nV (nS (l, 0)) : Int) (segsV c s3) → betwF l = (4, 0, 0, [])) ∧
    ((segsS c s3).1 = [] → May (nV (l, 0) : Int) (nV (nS (l, 0)) : Int) (segsV c s3) → betwF l = (0, (nV (l, 0) : Int), (nV (nS (l, 0)) : Int), segsV c s3)) := by
  unfold betwF
  rw [hc, hs, if_neg (by rw [he]; decide)]
  constructor
  · intro h
    rw [if_pos (.inr h)]
  · intro h1 h2
    rw [if_neg (fun c => by rcases c with c | c | c; exact c he; exact c h1; exact c h2)]
theorem er_cntS (l : List UInt8) : Er (cntS (l, 0)).2 := vS_er (vS_er (vS_er (.inl rfl)))
end Go.Proofs.Ytdhjlongdfgejaa.Ct

/-
  The document's Read: the walk.
-/
namespace Go.Proofs.Ytdhjlongdfgejaa.Ct
open Go.RowKit

theorem q_new {w : World} {v : Value} {l : List UInt8} {k : Nat} (hv : Sl w v l) (hk : k ≤ l.length) (hl : l.length ≤ 140737488355328) : QS (w.alloc (.cells #[v, .int .i64 (k : Int), .int .i64 0] 77)) w.heap.size l (l.drop k, 0) := by
  refine ⟨k, ⟨v, heap_alloc_new _ _, Below.sl (box_below _ _) hv, hk, hl, ?_⟩, rfl⟩
  rintro a n c rfl hn
  obtain ⟨ao, cap, e, _, _, _, g5⟩ := hv
  simp only [Value.slice.injEq] at e
  obtain ⟨rfl, rfl, _⟩ := e
  obtain ⟨b, off, e2, hc⟩ := g5 0 hn
  simp only [Option.some.injEq] at e2
  subst e2
  exact lt_of_cell hc
theorem froz5 {w : World} {b : Nat} {a0 a1 a2 a3 a4 : Value} {T : TypeId} (h : w.heap[b]? = some (.cells #[a0, a1, a2, a3, a4] T (0, 0))) (j : Nat) : w.frozen? ⟨b, j, none⟩ = false := by
  simp [World.frozen?, h]
theorem QS.cells {w : World} {qb : Nat} {l : List UInt8} {s : Stt} (h : QS w qb l s) : ∃ k : Nat, w.cell? ⟨qb, 1, none⟩ = some (.int .i64 (k : Int)) ∧ w.cell? ⟨qb, 2, none⟩ = some (.int .i64 (e4 s.2)) ∧ l.drop k = s.1 ∧ k ≤ l.length := by
  obtain ⟨k, h, e⟩ := h
  obtain ⟨_, _, _, c1, c2, _⟩ := h.cells
  exact ⟨k, c1, c2, e, by obtain ⟨_, _, _, hk, _⟩ := h; exact hk⟩
set_option maxRecDepth 20000 in
set_option maxHeartbeats 8000000 in
theorem refRead_any : DoesRead 25 := by
  intro w v l hv hlen
  obtain ⟨n, hn⟩ : ∃ n, Hid (l.length = n) := ⟨_, rfl⟩
  obtain ⟨ao, ca, rfl⟩ := hv.form hn.out
  have Z0 := hide (heap_alloc_new w (.cells #[.int .i64 0, .int .i64 0, .slice none 0 0] 29))
  have B0 := hide (box_below w (.cells #[.int .i64 0, .int .i64 0, .slice none 0 0] 29))
  have V0 := hide (Below.sl B0.out hv)
  have hcap : n ≤ ca ∧ ca ≤ 9223372036854775807 := by
    obtain ⟨_, _, e, _, g3, g4, _⟩ := hv
    simp only [Value.slice.injEq] at e
    obtain ⟨_, _, rfl⟩ := e
    rw [hn.out] at g3
    unfold maxLen at g4
    omega
  obtain ⟨hc1, hc2⟩ := hcap
  obtain ⟨w1, hw1⟩ : ∃ w1, Hid (w.alloc (.cells #[.int .i64 0, .int .i64 0, .slice none 0 0] 29) = w1) := ⟨_, rfl⟩
  rw [hw1.out] at Z0 B0 V0
  obtain ⟨d0, d1, d2⟩ := three_cells Z0.out
  obtain ⟨f0, f1, f2⟩ := three_frozen Z0.out
  have F := hide (three_cells (put3_heap Z0.out (.int .i64 0) (.int .i64 0) (.slice none 0 0)))
  have BF := hide (put3_below B0.out (Nat.le_refl _) (.int .i64 0) (.int .i64 0) (.slice none 0 0))
  clear hv
  by_cases h8 : n < 8
  · have hE : Hid (readF l = (2, 0, 0, [])) := by show _ = _; unfold readF; rw [if_pos (by rw [hn.out]; exact h8)]
    have h8' : (n : Int) < 8 := by omega
    go_enter Try.func25, Try.ntmps25
    go_upto_region 1 with fail
    rw [hw1.out]
    go_wp2_with fail
    show bodyPost _ _ _ _ _ (put3 w1 w.heap.size (.int .i64 0) (.int .i64 0) (.slice none 0 0))
    generalize put3 w1 w.heap.size (.int .i64 0) (.int .i64 0) (.slice none 0 0) = w5 at *
    obtain ⟨k0, k1, k2⟩ := F.out
    refine bodyPost_ret (by simp [results, Try.results25, go_sem, k0, k1, k2]; rfl) rfl ?_
    rw [hE.out]
    exact ⟨_, rfl, Own.nil _ _, BF.out⟩
  have h8' : ¬ (n : Int) < 8 := by omega
  have i4 : (4 : Int) ≤ (ca : Int) := by omega
  have i4' : 4 ≤ ca := by omega
  have sM : Hid (Sl w1 (.slice ao 4 ca) (l.take 4)) := sl_take 4 (by rw [hn.out]; omega) V0.out hn.out
  have hml : Hid ((l.take 4).length = 4) := by show _ = _; have := hn.out; simp; omega
  have kc : (convert 31 9 (.slice ao 4 ca)).run Try.prog w1 = .ok (.string (fstr (l.take 4))) w1 := conv8_any w1 _ _ sM.out (by rw [hml.out]; omega)
  by_cases hmk : l.take 4 ≠ markC
  · have hE : Hid (readF l = (4, 0, 0, [])) := by show _ = _; unfold readF; rw [if_neg (by rw [hn.out]; exact h8), if_pos hmk]
    have kt : ((fstr (l.take 4)).toList == ([70, 67, 65, 84] : List UInt8)) = false := by rw [fstr_list]; simpa [markC] using hmk
    generalize l.take 4 = T at *
    go_enter Try.func25, Try.ntmps25
    go_upto_region 1 with fail
    rw [hw1.out]
    go_wp2_with fail
    show bodyPost _ _ _ _ _ (put3 w1 w.heap.size (.int .i64 0) (.int .i64 0) (.slice none 0 0))
    generalize put3 w1 w.heap.size (.int .i64 0) (.int .i64 0) (.slice none 0 0) = w5 at *
    obtain ⟨k0, k1, k2⟩ := F.out
    refine bodyPost_ret (by simp [results, Try.results25, go_sem, k0, k1, k2]; rfl) rfl ?_
    rw [hE.out]
    exact ⟨_, rfl, Own.nil _ _, BF.out⟩
  replace hmk := Classical.not_not.1 hmk
  have kt : ((fstr (l.take 4)).toList == ([70, 67, 65, 84] : List UInt8)) = true := by rw [fstr_list, hmk]; rfl
  obtain ⟨k, hk⟩ : ∃ k, Hid (n = k + 4) := ⟨n - 4, by show _ = _; omega⟩
  have hk' := hk.out
  have hnl := hn.out
  have sT : Hid (Sl w1 (.slice ao k ca) (l.take k)) := sl_take k (by omega) V0.out hn.out
  have hao : ∃ b off, ao = some ⟨b, off, none⟩ := by
    obtain ⟨ao', ca', e, g2, g3, g4, g5⟩ := V0.out
    simp only [Value.slice.injEq] at e
    obtain ⟨rfl, _, _⟩ := e
    obtain ⟨b, off, e, _⟩ := g5 0 (by omega)
    exact ⟨b, off, e⟩
  obtain ⟨b, off, rfl⟩ := hao
  have sD : Hid (Sl w1 (.slice (some ⟨b, off + k, none⟩) (n - k) (ca - k)) (l.drop k)) := by
    obtain ⟨ao', ca', e, g2, g3, g4, g5⟩ := V0.out
    simp only [Value.slice.injEq] at e
    obtain ⟨rfl, _, rfl⟩ := e
    have := sl_drop k (by omega) g2 g3 g4 g5
    rw [hn.out, if_neg (by omega), Option.map_some, addr_add] at this
    exact this
  have sB : Hid (Sl w1 (.slice (some ⟨b, off + 4, none⟩) (k - 4) (ca - 4)) ((l.take k).drop 4)) := by
    obtain ⟨ao', ca', e, g2, g3, g4, g5⟩ := sT.out
    simp only [Value.slice.injEq] at e
    obtain ⟨rfl, e2, rfl⟩ := e
    have := sl_drop 4 (by rw [← e2]; omega) g2 g3 g4 g5
    rw [← e2, if_neg (by omega), Option.map_some, addr_add] at this
    exact this
  have hdl : Hid ((l.drop k).length = 4) := by show _ = _; rw [List.length_drop, hnl]; omega
  have htl : Hid (((l.take k).drop 4).length ≤ 140737488355328) := by show _ ≤ _; simp; omega
  have hE : Hid (readF l = if num (l.drop k) ≠ (Crc.more 0#32 (l.take k)).toNat then (5, 0, 0, []) else betwF ((l.take k).drop 4)) := by
    show _ = _
    unfold readF
    rw [hnl, if_neg h8, if_neg (fun c => c hmk), show n - 4 = k by omega]
  obtain ⟨D, hD⟩ : ∃ D, Hid (l.drop k = D) := ⟨_, rfl⟩
  obtain ⟨M, hM⟩ : ∃ M, Hid (l.take k = M) := ⟨_, rfl⟩
  obtain ⟨E, hEE⟩ : ∃ E, Hid (M.drop 4 = E) := ⟨_, rfl⟩
  rw [hM.out, hEE.out, hD.out] at hE
  rw [hM.out, hEE.out] at sB htl
  rw [hM.out] at sT
  rw [hD.out] at sD hdl
  have hD4 : Hid ((D.drop 0).take 4 = D) := by show _ = _; rw [List.drop_zero, List.take_of_length_le (by rw [hdl.out]; omega)]
  obtain ⟨nD, hnD⟩ : ∃ nD, Hid (num D = nD) := ⟨_, rfl⟩
  obtain ⟨nC, hnC⟩ : ∃ nC, Hid ((Crc.more 0#32 M).toNat = nC) := ⟨_, rfl⟩
  rw [hnD.out, hnC.out] at hE
  have hw : (n : Int) - 4 = (k : Int) := by omega
  have hw' : IntKind.i64.wrap (k : Int) = (k : Int) := by rw [IntKind.wrap_i64]; omega
  have hkc : k ≤ ca := by omega
  have hkn : k ≤ n := by omega
  have hk4 : 4 ≤ k := by omega
  have j0 : (0 : Int) ≤ (k : Int) := by omega
  have j1 : (k : Int) ≤ (n : Int) := by omega
  have j2 : (n : Int) ≤ (ca : Int) := by omega
  have j3 : (k : Int) ≤ (ca : Int) := by omega
  have j4 : (4 : Int) ≤ (k : Int) := by omega
  have hne1 : ¬ ca = k := by omega
  have hne2 : ¬ ca = 4 := by omega
  generalize l.take 4 = T at *
  have hk47 : Hid (k ≤ 140737488355328) := by show _ ≤ _; omega
  have hMl : Hid (M.length = k) := by show _ = _; rw [← hM.out, List.length_take, hnl]; omega
  have NUM : Hid (∀ u : World, Qt w1 u → Calls Try.prog 45 #[.slice (some ⟨b, off + k, none⟩) (n - k) (ca - k)] u fun e w' => e = .returned (.int .u64 (nD : Int)) ∧ w' = u) := fun u hu => by
    have := number_any u _ D (hu.sl sD.out) (by rw [hdl.out]; omega)
    rw [hnD.out] at this
    exact this
  have SUM : Hid (∀ u : World, Qt w1 u → Calls Try.prog 32 #[.slice (some ⟨b, off, none⟩) k ca] u fun e w' => e = .returned (.int .u32 (nC : Int)) ∧ w' = u) := fun u hu => by
    have := Crc.refSum_any u _ M (hu.sl sT.out)
    rw [hnC.out] at this
    exact this
  have hcl := (Crc.more 0#32 M).isLt
  rw [hnC.out] at hcl
  have hwc : IntKind.u64.wrap (nC : Int) = (nC : Int) := wrap_u64_in _ (by omega) (by omega)
  clear hnl hk' hmk
  go_enter Try.func25, Try.ntmps25
  go_upto_region 1 with fail
  rw [hw1.out]
  go_upto_region 6 with fail
  go_cut [31] from 22 to 30 (fun y wx => y = .bool ((nD : Int) != (nC : Int)) ∧ Hid (Qt w1 wx))
  case first =>
    go_quiet (first | (go_at_call 45; exact Calls.quiet_of_same (NUM.out _ ⟨_, rfl⟩)) | (go_at_call 32; exact Calls.quiet_of_same (SUM.out _ ⟨_, rfl⟩)))
    go_wp2_with fail
    go_meet
    case rel => exact ⟨by first | rfl | simp, ⟨_, rfl⟩⟩
  case rest =>
    obtain ⟨rfl, hQ⟩ := hcut
    have hB := hide (hQ.out.below w1.heap.size)
    have ZC : Hid (wc.heap[w.heap.size]? = some (.cells #[.int .i64 0, .int .i64 0, .slice none 0 0] 29 (0, 0))) := by show _ = _; rw [hB.out.block _ (heap_lt Z0.out)]; exact Z0.out
    have BC := hide (keepF B0.out hB.out)
    have sTc := hide (hQ.out.sl sT.out)
    clear d0 d1 d2 f0 f1 f2 F BF NUM SUM sD sM
    by_cases hz : ¬ nD = nC
    · rw [if_pos hz] at hE
      have hbt : ((nD : Int) != (nC : Int)) = true := by simp; omega
      rw [hbt]
      clear hbt
      obtain ⟨d0, d1, d2⟩ := three_cells ZC.out
      obtain ⟨f0, f1, f2⟩ := three_frozen ZC.out
      have F := hide (three_cells (put3_heap ZC.out (.int .i64 0) (.int .i64 0) (.slice none 0 0)))
      have BF := hide (put3_below BC.out (Nat.le_refl _) (.int .i64 0) (.int .i64 0) (.slice none 0 0))
      go_wp2_with fail
      show bodyPost _ _ _ _ _ (put3 wc w.heap.size (.int .i64 0) (.int .i64 0) (.slice none 0 0))
      generalize put3 wc w.heap.size (.int .i64 0) (.int .i64 0) (.slice none 0 0) = w5 at *
      obtain ⟨k0, k1, k2⟩ := F.out
      refine bodyPost_ret (by simp [results, Try.results25, go_sem, k0, k1, k2]; rfl) rfl ?_
      rw [hE.out]
      exact ⟨_, rfl, Own.nil _ _, BF.out⟩
    replace hz := Classical.not_not.1 hz
    subst hz
    rw [if_neg (by simp)] at hE
    have hbt : ((nD : Int) != (nD : Int)) = false := by simp
    rw [hbt]
    clear hbt
    have R0 : Hid (Rq w ((wc.alloc (.cells #[.slice (some ⟨b, off, none⟩) k ca, .int .i64 4, .int .i64 0] 77)).alloc (.cells #[.int .i64 0, .int .i64 0, .slice none 0 0] 29)) wc.heap.size (wc.heap.size + 1) w.heap.size M (E, 0) 0 0 (.slice none 0 0) []) := by
      have x1 := box_below wc (.cells #[.slice (some ⟨b, off, none⟩) k ca, .int .i64 4, .int .i64 0] 77)
      have x2 := box_below (wc.alloc (.cells #[.slice (some ⟨b, off, none⟩) k ca, .int .i64 4, .int .i64 0] 77)) (.cells #[.int .i64 0, .int .i64 0, .slice none 0 0] 29)
      have q := q_new (k := 4) sTc.out (by rw [hMl.out]; omega) (by rw [hMl.out]; exact hk47.out)
      rw [hEE.out] at q
      have c := heap_alloc_new (wc.alloc (.cells #[.slice (some ⟨b, off, none⟩) k ca, .int .i64 4, .int .i64 0] 77)) (.cells #[.int .i64 0, .int .i64 0, .slice none 0 0] 29)
      rw [show (wc.alloc (.cells #[.slice (some ⟨b, off, none⟩) k ca, .int .i64 4, .int .i64 0] 77)).heap.size = wc.heap.size + 1 by simp] at c
      refine ⟨q.below x2, c, ?_, Own.nil _ _, keepF (keepF BC.out x1) x2, Nat.le_refl _, heap_lt ZC.out, Nat.lt_succ_self _⟩
      rw [x2.block _ (by have := heap_lt ZC.out; simp; omega), x1.block _ (heap_lt ZC.out)]
      exact ZC.out
    go_wp2_with fail
    generalize ((wc.alloc (.cells #[.slice (some ⟨b, off, none⟩) k ca, .int .i64 4, .int .i64 0] 77)).alloc (.cells #[.int .i64 0, .int .i64 0, .slice none 0 0] 29)) = w2 at *
    generalize wc.heap.size + 1 = cb at *
    generalize wc.heap.size = qb at *
    clear hQ hB ZC sTc sT V0 sB Z0 B0 BC
    obtain ⟨g, hg⟩ : ∃ g, Hid (nV (E, 0) = g) := ⟨_, rfl⟩
    obtain ⟨f, hf⟩ : ∃ f, Hid (nV (nS (E, 0)) = f) := ⟨_, rfl⟩
    obtain ⟨s2, hs2⟩ : ∃ s2, Hid (nS (nS (E, 0)) = s2) := ⟨_, rfl⟩
    refine (qnum_any w2 qb M (E, 0) R0.out.rs).mono ?_
    rintro e w3 ⟨rfl, R2, g2⟩
    rw [hg.out]
    have G1 := hide (R0.out.call R2 g2)
    obtain ⟨⟨c0, c1, c2⟩, f0, f1, f2⟩ := G1.out.cells
    have S1 := hide (G1.out.set (j := 0) (x := .int .i64 (g : Int)) (g' := g) (f' := 0) rfl)
    clear R2 g2 R0
    go_wp2_with fail
    generalize hq : w3.setCell ⟨cb, 0, none⟩ (.int .i64 (g : Int)) = w4 at *
    clear c0 c1 c2 f0 f1 f2 G1 hq
    refine (qnum_any w4 qb M (nS (E, 0)) S1.out.rs).mono ?_
    rintro e w5 ⟨rfl, R2, g2⟩
    rw [hf.out]
    rw [hs2.out] at R2
    have G2 := hide (S1.out.call R2 g2)
    obtain ⟨⟨c0, c1, c2⟩, f0, f1, f2⟩ := G2.out.cells
    have S2 := hide (G2.out.set (j := 1) (x := .int .i64 (f : Int)) (g' := g) (f' := f) rfl)
    clear R2 g2 S1
    go_wp2_with fail
    generalize hq : w5.setCell ⟨cb, 1, none⟩ (.int .i64 (f : Int)) = w6 at *
    clear c0 c1 c2 f0 f1 f2 G2 hq
    have CN := hide (cnt_any s2)
    have hcM := hide (vV_le 18446744073709551615 s2)
    have CALL := hide (qany_any w6 qb M s2 S2.out.rs)
    obtain ⟨c, hc⟩ : ∃ c, Hid (vV 18446744073709551615 s2 = c) := ⟨_, rfl⟩
    obtain ⟨s3, hs3⟩ : ∃ s3, Hid (vS 18446744073709551615 s2 = s3) := ⟨_, rfl⟩
    rw [hc.out, hs3.out] at CALL CN
    rw [hc.out] at hcM
    refine CALL.out.mono ?_
    rintro e w7 ⟨rfl, R2, g2⟩
    have G3 := hide (S2.out.call R2 g2)
    clear R2 g2 S2 CALL
    obtain ⟨kk, x1, x2, x3, x4⟩ := G3.out.rs.cells
    by_cases h64 : 64 < c
    · obtain ⟨a1, a2, a3⟩ := CN.out.2 h64
      have hbf : Hid (betwF E = (4, 0, 0, [])) := betw_many (by rw [hs2.out, hc.out]; exact h64)
      rw [a1, e4_0] at x2
      have h64' : (64 : Int) < (c : Int) := by omega
      obtain ⟨d0, d1, d2⟩ := three_cells G3.out.zg
      obtain ⟨f0, f1, f2⟩ := three_frozen G3.out.zg
      have F := hide (three_cells (put3_heap G3.out.zg (.int .i64 0) (.int .i64 0) (.slice none 0 0)))
      have BF := hide (put3_below G3.out.bel (Nat.le_refl _) (.int .i64 0) (.int .i64 0) (.slice none 0 0))
      clear CN hcM x3 x4 a1 a2 a3
      go_wp2_with fail
      show bodyPost _ _ _ _ _ (put3 w7 w.heap.size (.int .i64 0) (.int .i64 0) (.slice none 0 0))
      generalize put3 w7 w.heap.size (.int .i64 0) (.int .i64 0) (.slice none 0 0) = w8 at *
      obtain ⟨k0, k1, k2⟩ := F.out
      refine bodyPost_ret (by simp [results, Try.results25, go_sem, k0, k1, k2]; rfl) rfl ?_
      rw [hE.out, hbf.out]
      exact ⟨_, rfl, Own.nil _ _, BF.out⟩
    obtain ⟨b1, b2⟩ := CN.out.1 (by omega)
    have HC : Hid (cnt (E, 0) = c) := by show _ = _; unfold cnt; rw [hs2.out]; exact b1
    have HS : Hid (cntS (E, 0) = s3) := by show _ = _; unfold cntS; rw [hs2.out]; exact b2
    have hc64 : c ≤ 64 := by omega
    have hEr : Hid (Er s3.2) := by rw [← HS.out]; exact er_cntS E
    have h64' : ¬ (64 : Int) < (c : Int) := by omega
    clear CN hcM b1 b2 h64 hs2 hc hs3 x3 x4
    go_upto_region 13 with fail
    go_cut [54] from 46 to 53 (fun y wx => y = .bool false ∧ w7 = wx)
    case first =>
      by_cases h0 : e4 s3.2 = 0
      · rw [h0] at x2
        go_wp2_with fail
        go_meet
        case rel => exact ⟨by rw [decide_eq_false (by omega)], rfl⟩
      · have h0' : (e4 s3.2 == 0) = false := by simp [h0]
        go_wp2_with fail
        go_meet
        case rel => exact ⟨rfl, rfl⟩
    case rest =>
      obtain ⟨rfl, rfl⟩ := hcut
      clear x1 x2
      go_wp2_with fail
      obtain ⟨i0, hi, hz0, hz1, hz2⟩ := info_parts infoSeg
      go_loopg [8] c (fun kx vi wr => ∃ i : Nat, i ≤ c ∧ c - i ≤ kx ∧ vi = .int .u64 (i : Int) ∧ ∃ v, Hid (Rq w wr qb cb w.heap.size M (segsS i s3) (g : Int) (f : Int) v (segsV i s3)))
      case atStart => exact ⟨0, Nat.zero_le _, Nat.le_refl _, rfl, _, G3⟩
      case round =>
        obtain ⟨i, hic, hkx, rfl, v, RC0⟩ := hrel
        obtain ⟨kk, x1, x2, x3, x4⟩ := RC0.out.rs.cells
        clear G3
        by_cases h0 : ¬ (segsS i s3).2 = 0
        · have hbf := hide (betw_err HC.out HS.out hic h0 hEr.out)
          have h0' := e4_ne h0
          obtain ⟨d0, d1, d2⟩ := three_cells RC0.out.zg
          obtain ⟨f0, f1, f2⟩ := three_frozen RC0.out.zg
          have F : Hid ((put3 wr w.heap.size (.int .i64 0) (.int .i64 0) (.slice none 0 0)).drew.cell? ⟨w.heap.size, 0, none⟩ = some (.int .i64 0) ∧ (put3 wr w.heap.size (.int .i64 0) (.int .i64 0) (.slice none 0 0)).drew.cell? ⟨w.heap.size, 1, none⟩ = some (.int .i64 0) ∧ (put3 wr w.heap.size (.int .i64 0) (.int .i64 0) (.slice none 0 0)).drew.cell? ⟨w.heap.size, 2, none⟩ = some (.slice none 0 0)) := three_cells (put3_heap RC0.out.zg (.int .i64 0) (.int .i64 0) (.slice none 0 0))
          have BF := hide (put3_below RC0.out.bel (Nat.le_refl _) (.int .i64 0) (.int .i64 0) (.slice none 0 0)).drew
          generalize e4 (segsS i s3).2 = er at *
          have h1 : (er == 0) = false := by simp [h0']
          have h2 : (er != 0) = true := by simp [h0']
          have x2p : ((((wr.setCell ⟨w.heap.size, 0, none⟩ (.int .i64 0)).setCell ⟨w.heap.size, 1, none⟩ (.int .i64 0)).setCell ⟨w.heap.size, 2, none⟩ (.slice none 0 0))).cell? ⟨qb, 2, none⟩ = some (.int .i64 er) := by
            rw [← x2]
            exact World.cell?_of_block (a := ⟨qb, 2, none⟩) (put3_other wr w.heap.size qb (.int .i64 0) (.int .i64 0) (.slice none 0 0) (by have := RC0.out.z2; omega))
          clear h0 x3 x4
          go_upto_region 16 with fail
          go_cut [65] from 56 to 64 (fun y wx => y = .bool false ∧ wr = wx)
          case first =>
            by_cases hlt : (i : Int) < (c : Int)
            · go_wp2_with fail
              go_meet
              case rel => exact ⟨rfl, rfl⟩
            · go_wp2_with fail
              go_meet
              case rel => exact ⟨by first | rfl | simp [hlt], rfl⟩
          case rest =>
            obtain ⟨rfl, rfl⟩ := hcut
            go_wp2_with fail
            go_region
            go_wp2_with fail
            show bodyPost _ _ _ _ _ (put3 wr w.heap.size (.int .i64 0) (.int .i64 0) (.slice none 0 0)).drew
            generalize (put3 wr w.heap.size (.int .i64 0) (.int .i64 0) (.slice none 0 0)).drew = w8 at *
            obtain ⟨k0, k1, k2⟩ := F.out
            refine bodyPost_ret (by simp [results, Try.results25, go_sem, k0, k1, k2]; rfl) rfl ?_
            rw [hE.out, hbf.out]
            exact ⟨_, rfl, Own.nil _ _, BF.out⟩
        replace h0 := Classical.not_not.1 h0
        rw [h0, e4_0] at x2
        have hil : Hid ((segsV i s3).length = i) := segsV_len i s3
        obtain ⟨aov, cav, rfl, hq1, hq2⟩ := RC0.out.own.form
        rw [hil.out] at hq1 RC0
        by_cases hlt : i < c
        · have hlt' : (i : Int) < (c : Int) := by omega
          have hsv0 := segs_snoc i s3
          obtain ⟨t, ht⟩ : ∃ t, Hid (segsS i s3 = t) := ⟨_, rfl⟩
          have hsv : Hid (segsV (i + 1) s3 = segsV i s3 ++ [segV t]) := by show _ = _; rw [← ht.out]; exact hsv0.1
          have hss : Hid (segsS (i + 1) s3 = segS t) := by show _ = _; rw [← ht.out]; exact hsv0.2
          rw [ht.out] at RC0
          clear hsv0 x3 x4 x1
          go_upto_region 19 with fail
          have X1 := hide (box_below wr (.cells #[.int .i64 0, .int .i64 0, .int .u32 0, .int .i64 0, .int .i64 0] 53))
          have SB1 := hide (heap_alloc_new wr (.cells #[.int .i64 0, .int .i64 0, .int .u32 0, .int .i64 0, .int .i64 0] 53))
          have RC1 := hide (RC0.out.below X1.out)
          have hcs : Hid (cb < wr.heap.size) := heap_lt RC0.out.cg
          have hvs : Hid (∀ j, Value.ownBlock (.slice aov i cav) = some j → j ≠ wr.heap.size) := fun j hj e => by have := (RC0.out.own.lt j hj).2; omega
          generalize wr.alloc (.cells #[.int .i64 0, .int .i64 0, .int .u32 0, .int .i64 0, .int .i64 0] 53) = v1 at *
          generalize wr.heap.size = sb at *
          clear X1 RC0 x2
          obtain ⟨a0, ha0⟩ : ∃ a, Hid (nV t = a) := ⟨_, rfl⟩
          obtain ⟨t1, ht1⟩ : ∃ a, Hid (nS t = a) := ⟨_, rfl⟩
          obtain ⟨a1, ha1⟩ : ∃ a, Hid (nV t1 = a) := ⟨_, rfl⟩
          obtain ⟨t2, ht2⟩ : ∃ a, Hid (nS t1 = a) := ⟨_, rfl⟩
          have ha2' := xV_lt t2
          obtain ⟨a2, ha2⟩ : ∃ a, Hid (xV t2 = a) := ⟨_, rfl⟩
          rw [ha2.out] at ha2'
          obtain ⟨t3, ht3⟩ : ∃ a, Hid (xS t2 = a) := ⟨_, rfl⟩
          obtain ⟨a3, ha3⟩ : ∃ a, Hid (nV t3 = a) := ⟨_, rfl⟩
          obtain ⟨t4, ht4⟩ : ∃ a, Hid (nS t3 = a) := ⟨_, rfl⟩
          obtain ⟨a4, ha4⟩ : ∃ a, Hid (nV t4 = a) := ⟨_, rfl⟩
          obtain ⟨t5, ht5⟩ : ∃ a, Hid (nS t4 = a) := ⟨_, rfl⟩
          have hsg : Hid (segV t = ⟨(a0 : Int), (a1 : Int), a2, (a3 : Int), (a4 : Int)⟩) := by show _ = _; unfold segV; rw [ha0.out, ht1.out, ha1.out, ht2.out, ha2.out, ht3.out, ha3.out, ht4.out, ha4.out]
          have hsS : Hid (segS t = t5) := by show _ = _; unfold segS; rw [ht1.out, ht2.out, ht3.out, ht4.out, ht5.out]
          have hw2 : IntKind.u32.wrap (a2 : Int) = (a2 : Int) := by rw [IntKind.wrap_u32]; omega
          have hqs : Hid (qb ≠ sb) := by have := hcs.out; have := RC1.out.z3; show _ ≠ _; omega
          go_wp2_with fail
          refine (qnum_any v1 qb M t RC1.out.rs).mono ?_
          rintro e v2 ⟨rfl, R2, g2⟩
          rw [ha0.out]
          rw [ht1.out] at R2
          have RC2 := hide (RC1.out.call R2 g2)
          have SB2 : Hid (v2.heap[sb]? = some (.cells #[.int .i64 0, .int .i64 0, .int .u32 0, .int .i64 0, .int .i64 0] 53 (0, 0))) := by show _ = _; rw [g2.block _ (heap_lt SB1.out) (fun e => hqs.out (by cases e; rfl))]; exact SB1.out
          obtain ⟨p0, p1, p2, p3, p4⟩ := five_cells SB2.out
          have pf := froz5 SB2.out 0
          have RC3 := hide (RC2.out.other (grown_setCell v2 sb 0 (.int .i64 (a0 : Int))) hcs.out hvs.out)
          have SB3 : Hid ((v2.setCell ⟨sb, 0, none⟩ (.int .i64 (a0 : Int))).heap[sb]? = some (.cells #[.int .i64 (a0 : Int), .int .i64 0, .int .u32 0, .int .i64 0, .int .i64 0] 53 (0, 0))) := by show _ = _; rw [heap_setCell_same _ _ _ _ _ _ SB2.out]; simp
          clear R2 g2 RC1 SB1
          go_upto_region 20 with fail
          generalize v2.setCell ⟨sb, 0, none⟩ (.int .i64 (a0 : Int)) = v3 at *
          clear p0 p1 p2 p3 p4 pf RC2 SB2
          go_wp2_with fail
          refine (qnum_any v3 qb M t1 RC3.out.rs).mono ?_
          rintro e v4 ⟨rfl, R2, g2⟩
          rw [ha1.out]
          rw [ht2.out] at R2
          have RC4 := hide (RC3.out.call R2 g2)
          have SB4 : Hid (v4.heap[sb]? = some (.cells #[.int .i64 (a0 : Int), .int .i64 0, .int .u32 0, .int .i64 0, .int .i64 0] 53 (0, 0))) := by show _ = _; rw [g2.block _ (heap_lt SB3.out) (fun e => hqs.out (by cases e; rfl))]; exact SB3.out
          obtain ⟨p0, p1, p2, p3, p4⟩ := five_cells SB4.out
          have pf := froz5 SB4.out 1
          have RC5 := hide (RC4.out.other (grown_setCell v4 sb 1 (.int .i64 (a1 : Int))) hcs.out hvs.out)
          have SB5 : Hid ((v4.setCell ⟨sb, 1, none⟩ (.int .i64 (a1 : Int))).heap[sb]? = some (.cells #[.int .i64 (a0 : Int), .int .i64 (a1 : Int), .int .u32 0, .int .i64 0, .int .i64 0] 53 (0, 0))) := by show _ = _; rw [heap_setCell_same _ _ _ _ _ _ SB4.out]; simp
          clear R2 g2 RC3 SB3
          go_upto_region 21 with fail
          generalize v4.setCell ⟨sb, 1, none⟩ (.int .i64 (a1 : Int)) = v5 at *
          clear p0 p1 p2 p3 p4 pf RC4 SB4
          go_wp2_with fail
          refine (qfix_any v5 qb M t2 RC5.out.rs).mono ?_
          rintro e v6 ⟨rfl, R2, g2⟩
          rw [ha2.out]
          rw [ht3.out] at R2
          have RC6 := hide (RC5.out.call R2 g2)
          have SB6 : Hid (v6.heap[sb]? = some (.cells #[.int .i64 (a0 : Int), .int .i64 (a1 : Int), .int .u32 0, .int .i64 0, .int .i64 0] 53 (0, 0))) := by show _ = _; rw [g2.block _ (heap_lt SB5.out) (fun e => hqs.out (by cases e; rfl))]; exact SB5.out
          obtain ⟨p0, p1, p2, p3, p4⟩ := five_cells SB6.out
          have pf := froz5 SB6.out 2
          have RC7 := hide (RC6.out.other (grown_setCell v6 sb 2 (.int .u32 (a2 : Int))) hcs.out hvs.out)
          have SB7 : Hid ((v6.setCell ⟨sb, 2, none⟩ (.int .u32 (a2 : Int))).heap[sb]? = some (.cells #[.int .i64 (a0 : Int), .int .i64 (a1 : Int), .int .u32 (a2 : Int), .int .i64 0, .int .i64 0] 53 (0, 0))) := by show _ = _; rw [heap_setCell_same _ _ _ _ _ _ SB6.out]; simp
          clear R2 g2 RC5 SB5
          go_upto_region 22 with fail
          generalize v6.setCell ⟨sb, 2, none⟩ (.int .u32 (a2 : Int)) = v7 at *
          clear p0 p1 p2 p3 p4 pf RC6 SB6
          go_wp2_with fail
          refine (qnum_any v7 qb M t3 RC7.out.rs).mono ?_
          rintro e v8 ⟨rfl, R2, g2⟩
          rw [ha3.out]
          rw [ht4.out] at R2
          have RC8 := hide (RC7.out.call R2 g2)
          have SB8 : Hid (v8.heap[sb]? = some (.cells #[.int .i64 (a0 : Int), .int .i64 (a1 : Int), .int .u32 (a2 : Int), .int .i64 0, .int .i64 0] 53 (0, 0))) := by show _ = _; rw [g2.block _ (heap_lt SB7.out) (fun e => hqs.out (by cases e; rfl))]; exact SB7.out
          obtain ⟨p0, p1, p2, p3, p4⟩ := five_cells SB8.out
          have pf := froz5 SB8.out 3
          have RC9 := hide (RC8.out.other (grown_setCell v8 sb 3 (.int .i64 (a3 : Int))) hcs.out hvs.out)
          have SB9 : Hid ((v8.setCell ⟨sb, 3, none⟩ (.int .i64 (a3 : Int))).heap[sb]? = some (.cells #[.int .i64 (a0 : Int), .int .i64 (a1 : Int), .int .u32 (a2 : Int), .int .i64 (a3 : Int), .int .i64 0] 53 (0, 0))) := by show _ = _; rw [heap_setCell_same _ _ _ _ _ _ SB8.out]; simp
          clear R2 g2 RC7 SB7
          go_upto_region 23 with fail
          generalize v8.setCell ⟨sb, 3, none⟩ (.int .i64 (a3 : Int)) = v9 at *
          clear p0 p1 p2 p3 p4 pf RC8 SB8
          go_wp2_with fail
          refine (qnum_any v9 qb M t4 RC9.out.rs).mono ?_
          rintro e v10 ⟨rfl, R2, g2⟩
          rw [ha4.out]
          rw [ht5.out] at R2
          have RC10 := hide (RC9.out.call R2 g2)
          have SB10 : Hid (v10.heap[sb]? = some (.cells #[.int .i64 (a0 : Int), .int .i64 (a1 : Int), .int .u32 (a2 : Int), .int .i64 (a3 : Int), .int .i64 0] 53 (0, 0))) := by show _ = _; rw [g2.block _ (heap_lt SB9.out) (fun e => hqs.out (by cases e; rfl))]; exact SB9.out
          obtain ⟨p0, p1, p2, p3, p4⟩ := five_cells SB10.out
          have pf := froz5 SB10.out 4
          have RC11 := hide (RC10.out.other (grown_setCell v10 sb 4 (.int .i64 (a4 : Int))) hcs.out hvs.out)
          have SB11 : Hid ((v10.setCell ⟨sb, 4, none⟩ (.int .i64 (a4 : Int))).heap[sb]? = some (.cells #[.int .i64 (a0 : Int), .int .i64 (a1 : Int), .int .u32 (a2 : Int), .int .i64 (a3 : Int), .int .i64 (a4 : Int)] 53 (0, 0))) := by show _ = _; rw [heap_setCell_same _ _ _ _ _ _ SB10.out]; simp
          clear R2 g2 RC9 SB9
          go_upto_region 24 with fail
          generalize v10.setCell ⟨sb, 4, none⟩ (.int .i64 (a4 : Int)) = v11 at *
          clear p0 p1 p2 p3 p4 pf RC10 SB10
          have hpp := five_cells SB11.out
          obtain ⟨p0, p1, p2, p3, p4⟩ := hpp
          have hc2 := RC11.out.cells.1.2.2
          have NB := hide (heap_alloc_new v11 (.cells #[.int .i64 (a0 : Int), .int .i64 (a1 : Int), .int .u32 (a2 : Int), .int .i64 (a3 : Int), .int .i64 (a4 : Int)] 53))
          have RN := hide (RC11.out.below (box_below v11 (.cells #[.int .i64 (a0 : Int), .int .i64 (a1 : Int), .int .u32 (a2 : Int), .int .i64 (a3 : Int), .int .i64 (a4 : Int)] 53)))
          have hown := hide RN.out.own.2
          rw [hil.out] at hown
          have hbs := hide (Nat.succ_le_of_lt RN.out.rs.lt)
          clear hq1 hq2 hcs hvs hqs SB11
          go_wp2_with (at_builtin; refine wpList_append_own_at _ rfl (.tmp 85) (.tmp 87) 27 rfl (qb + 1) 53 i0 (.agg #[.int .i64 0, .int .i64 0, .int .u32 0, .int .i64 0, .int .i64 0]) 5 40 Try.underlying27 hi hz0 hz1 hz2 rfl (by decide) (.slice aov i cav) i (scells (segsV i s3)) rfl hown.out ⟨v11.heap.size, 0, none⟩ 1 1 [.int .i64 (a0 : Int), .int .i64 (a1 : Int), .int .u32 (a2 : Int), .int .i64 (a3 : Int), .int .i64 (a4 : Int)] (by first | rfl | simp [Act.eval]) rfl (five_new NB.out) (by simp [Value.oneCell']) (by unfold maxLen; omega) (by omega) hbs.out ?_; intro vx wx ho6 hg6 _ _; have V2 : Own (qb + 1) wx vx (segsV (i + 1) s3) := ⟨segsV_in _ _, by rw [segsV_len, hsv.out, scells_append, hsg.out]; exact ho6⟩; obtain ⟨aox, cax, ex, _, _⟩ := V2.form; rw [segsV_len] at ex; subst ex; have e1 : wx.heap[cb]? = some (.cells #[.int .i64 (g : Int), .int .i64 (f : Int), .slice aov i cav] 29 (0, 0)) := (But.of_grownBy (X := fun k => Value.ownBlock (.slice aov i cav) = some k) hg6 fun k e => e).at RN.out.cg (RN.out.own.no RN.out.cg (by decide)); obtain ⟨m0, m1, m2⟩ := three_cells e1; obtain ⟨n0, n1, n2⟩ := three_frozen e1)
          have RD := hide (RN.out.app V2 hg6)
          rw [← hsS.out, ← hss.out] at RD
          clear ho6 hg6 e1 m0 m1 m2 n0 n1 n2 V2
          go_wp2_with fail
          go_roundg (c - (i + 1))
          case measure => omega
          case rel => exact ⟨i + 1, by omega, Nat.le_refl _, by go_num, _, RD⟩
        · obtain rfl : i = c := by omega
          have hng : ¬ ((i : Int) < (i : Int)) := by omega
          have BO := hide (betw_ok HC.out HS.out h0)
          rw [hg.out, hf.out] at BO
          obtain ⟨li, hli⟩ : ∃ li, Hid (segsV i s3 = li) := ⟨_, rfl⟩
          rw [hli.out] at RC0 BO hil
          obtain ⟨⟨c0, c1, c2⟩, _⟩ := RC0.out.cells
          by_cases hl1 : ¬ (segsS i s3).1 = []
          · have hbf := hide (BO.out.1 (.inl hl1))
            have hkk : (kk : Int) < (k : Int) := by
              have : ¬ M.length ≤ kk := fun c => hl1 (by rw [← x3]; exact List.drop_eq_nil_of_le c)
              rw [hMl.out] at this
              omega
            obtain ⟨d0, d1, d2⟩ := three_cells RC0.out.zg
            obtain ⟨f0, f1, f2⟩ := three_frozen RC0.out.zg
            have F := hide (three_cells (put3_heap RC0.out.zg (.int .i64 0) (.int .i64 0) (.slice none 0 0)))
            have BF := hide (put3_below RC0.out.bel (Nat.le_refl _) (.int .i64 0) (.int .i64 0) (.slice none 0 0))
            clear x3 x4 BO hlt hl1
            go_wp2_with fail
            show bodyPost _ _ _ _ _ (put3 wr w.heap.size (.int .i64 0) (.int .i64 0) (.slice none 0 0))
            generalize put3 wr w.heap.size (.int .i64 0) (.int .i64 0) (.slice none 0 0) = w8 at *
            obtain ⟨k0, k1, k2⟩ := F.out
            refine bodyPost_ret (by simp [results, Try.results25, go_sem, k0, k1, k2]; rfl) rfl ?_
            rw [hE.out, hbf.out]
            exact ⟨_, rfl, Own.nil _ _, BF.out⟩
          replace hl1 := Classical.not_not.1 hl1
          have hkk : ¬ (kk : Int) < (k : Int) := by
            rw [hl1] at x3
            have := List.drop_eq_nil_iff.1 x3
            rw [hMl.out] at this
            omega
          have CM := hide (refMay_any wr (g : Int) (f : Int) _ li RC0.out.own.sgs)
          by_cases hm : May (g : Int) (f : Int) li
          · have hbf := hide (BO.out.2 hl1 hm)
            rw [mayB_t hm] at CM
            clear x3 x4 BO hlt hl1
            go_wp2_with fail
            refine CM.out.mono ?_
            rintro e w8 ⟨rfl, b8⟩
            have RC8 := hide (RC0.out.below b8)
            clear c0 c1 c2 b8 CM x1 x2
            obtain ⟨⟨c0, c1, c2⟩, _⟩ := RC8.out.cells
            obtain ⟨d0, d1, d2⟩ := three_cells RC8.out.zg
            obtain ⟨f0, f1, f2⟩ := three_frozen RC8.out.zg
            have F := hide (three_cells (put3_heap RC8.out.zg (.int .i64 (g : Int)) (.int .i64 (f : Int)) (.slice aov i cav)))
            have BF := hide (put3_below RC8.out.bel (Nat.le_refl _) (.int .i64 (g : Int)) (.int .i64 (f : Int)) (.slice aov i cav))
            have OF := hide ((RC8.out.own.low (B' := w.heap.size) (by have := RC8.out.z1; have := RC8.out.z2; omega)).put3 RC8.out.zg (by decide) (.int .i64 (g : Int)) (.int .i64 (f : Int)) (.slice aov i cav))
            go_wp2_with fail
            show bodyPost _ _ _ _ _ (put3 w8 w.heap.size (.int .i64 (g : Int)) (.int .i64 (f : Int)) (.slice aov i cav))
            generalize put3 w8 w.heap.size (.int .i64 (g : Int)) (.int .i64 (f : Int)) (.slice aov i cav) = w9 at *
            obtain ⟨k0, k1, k2⟩ := F.out
            refine bodyPost_ret (by simp [results, Try.results25, go_sem, k0, k1, k2]; rfl) rfl ?_
            rw [hE.out, hbf.out]
            exact ⟨_, rfl, OF.out, BF.out⟩
          · have hbf := hide (BO.out.1 (.inr hm))
            rw [mayB_f hm] at CM
            clear x3 x4 BO hlt hl1
            go_wp2_with fail
            refine CM.out.mono ?_
            rintro e w8 ⟨rfl, b8⟩
            have RC8 := hide (RC0.out.below b8)
            clear c0 c1 c2 b8 CM x1 x2
            obtain ⟨d0, d1, d2⟩ := three_cells RC8.out.zg
            obtain ⟨f0, f1, f2⟩ := three_frozen RC8.out.zg
            have F := hide (three_cells (put3_heap RC8.out.zg (.int .i64 0) (.int .i64 0) (.slice none 0 0)))
            have BF := hide (put3_below RC8.out.bel (Nat.le_refl _) (.int .i64 0) (.int .i64 0) (.slice none 0 0))
            go_wp2_with fail
            show bodyPost _ _ _ _ _ (put3 w8 w.heap.size (.int .i64 0) (.int .i64 0) (.slice none 0 0))
            generalize put3 w8 w.heap.size (.int .i64 0) (.int .i64 0) (.slice none 0 0) = w9 at *
            obtain ⟨k0, k1, k2⟩ := F.out
            refine bodyPost_ret (by simp [results, Try.results25, go_sem, k0, k1, k2]; rfl) rfl ?_
            rw [hE.out, hbf.out]
            exact ⟨_, rfl, Own.nil _ _, BF.out⟩
#print axioms refRead_any
end Go.Proofs.Ytdhjlongdfgejaa.Ct

/-
  What is read, written, is what was read: by data.
-/
namespace Go.Proofs.Ytdhjlongdfgejaa.Ct
open Go.RowKit

theorem nx_enc {r : List UInt8} (h : (rv r).2.2 = 0) : enc (rv r).1 ++ nx r = r := by
  rw [(rv_back h).1, nx, List.take_append_drop]
theorem num_fx (l : List UInt8) : fx l.length (num l) = l := by
  induction l with
  | nil => rfl
  | cons c r ih =>
    have hc := c.toNat_lt
    have e1 : (c.toNat + 256 * num r) % 256 = c.toNat := by omega
    have e2 : (c.toNat + 256 * num r) / 256 = num r := by omega
    rw [List.length_cons, num, fx, e1, e2, ih]
    simp
theorem v_back {m : Nat} {s : Stt} (h : (vS m s).2 = 0) : s.2 = 0 ∧ s.1 = enc (vV m s) ++ (vS m s).1 := by
  by_cases h0 : s.2 = 0
  · by_cases h1 : (rv s.1).2.2 = 0
    · by_cases h2 : (rv s.1).1 ≤ m
      · obtain ⟨a, b⟩ := v_ok h0 h1 h2
        rw [a, b]
        exact ⟨h0, (nx_enc h1).symm⟩
      · obtain ⟨_, b⟩ := v_big (m := m) h0 h1 (by omega)
        rw [b] at h
        exact absurd h (by simp)
    · obtain ⟨_, b⟩ := v_bad (m := m) h0 h1
      rw [b] at h
      exact absurd h h1
  · rw [(vS_err h0).1] at h
    exact absurd h h0
theorem x_back {s : Stt} (h : (xS s).2 = 0) : s.2 = 0 ∧ s.1 = fx 4 (xV s) ++ (xS s).1 := by
  by_cases h0 : s.2 = 0
  · by_cases h1 : s.1.length < 4
    · unfold xS at h
      rw [if_neg (fun c => c h0), if_pos h1] at h
      exact absurd h (by simp)
    · have e1 : xS s = (s.1.drop 4, 0) := by unfold xS; rw [if_neg (fun c => c h0), if_neg h1]
      have e2 : xV s = num (s.1.take 4) := by unfold xV; rw [if_pos ⟨h0, by omega⟩]
      have e3 := num_fx (s.1.take 4)
      rw [List.length_take, Nat.min_eq_left (by omega)] at e3
      rw [e1, e2, e3, List.take_append_drop]
      exact ⟨h0, rfl⟩
  · rw [xS_err h0] at h
    exact absurd h h0
theorem seg_inv {s : Stt} (h : (segS s).2 = 0) : s.2 = 0 ∧ s.1 = segB (segV s) ++ (segS s).1 := by
  unfold segS at h ⊢
  obtain ⟨a5, b5⟩ := v_back (m := top) h
  obtain ⟨a4, b4⟩ := v_back (m := top) a5
  obtain ⟨a3, b3⟩ := x_back a4
  obtain ⟨a2, b2⟩ := v_back (m := top) a3
  obtain ⟨a1, b1⟩ := v_back (m := top) a2
  refine ⟨a1, ?_⟩
  rw [b1]
  unfold segB segV
  simp only [Int.toNat_natCast, List.append_assoc]
  rw [show vS top s = nS s from rfl, b2, show vS top (nS s) = nS (nS s) from rfl, b3, b4, show vS top (xS (nS (nS s))) = nS (xS (nS (nS s))) from rfl, b5]
  rfl
theorem segs_inv : ∀ (c : Nat) (s : Stt), (segsS c s).2 = 0 → s.2 = 0 ∧ s.1 = bodyC (segsV c s) ++ (segsS c s).1 := by
  intro c
  induction c with
  | zero => intro s h; exact ⟨h, rfl⟩
  | succ c ih =>
    intro s h
    obtain ⟨a, b⟩ := ih (segS s) h
    obtain ⟨a', b'⟩ := seg_inv a
    refine ⟨a', ?_⟩
    rw [b', b]
    show _ = bodyC (segV s :: segsV c (segS s)) ++ _
    have e : bodyC (segV s :: segsV c (segS s)) = segB (segV s) ++ bodyC (segsV c (segS s)) := by simp [bodyC]
    rw [e, List.append_assoc]
    rfl
theorem betw_inv {E : List UInt8} (h : (betwF E).1 = 0) : May (betwF E).2.1 (betwF E).2.2.1 (betwF E).2.2.2 ∧ midC (betwF E).2.1 (betwF E).2.2.1 (betwF E).2.2.2 = E ∧ (betwF E).2.1 ≤ 9223372036854775807 ∧ (betwF E).2.2.1 ≤ 9223372036854775807 := by
  unfold betwF at h ⊢
  split at h
  · exact absurd h (by decide)
  split at h
  · exact absurd h (by decide)
  · rename_i h1 h2
    rw [if_neg h1, if_neg h2]
    have p1 : (segsS (cnt (E, 0)) (cntS (E, 0))).2 = 0 := Classical.byContradiction fun c => h2 (.inl c)
    have p2 : (segsS (cnt (E, 0)) (cntS (E, 0))).1 = [] := Classical.byContradiction fun c => h2 (.inr (.inl c))
    have p3 : May (nV (E, 0) : Int) (nV (nS (E, 0)) : Int) (segsV (cnt (E, 0)) (cntS (E, 0))) := Classical.byContradiction fun c => h2 (.inr (.inr c))
    dsimp only
    refine ⟨p3, ?_, by have := nV_le (E, 0); omega, by have := nV_le (nS (E, 0)); omega⟩
    obtain ⟨a, b⟩ := segs_inv _ _ p1
    rw [p2, List.append_nil] at b
    obtain ⟨a3, b3⟩ := v_back (m := 64) a
    obtain ⟨a2, b2⟩ := v_back (m := top) a3
    obtain ⟨_, b1⟩ := v_back (m := top) a2
    unfold midC
    rw [Int.toNat_natCast, Int.toNat_natCast, segsV_len]
    have e3 : (nS (nS (E, 0))).1 = enc (cnt (E, 0)) ++ bodyC (segsV (cnt (E, 0)) (cntS (E, 0))) := by rw [← b]; exact b3
    have e2 : (nS (E, 0)).1 = enc (nV (nS (E, 0))) ++ (nS (nS (E, 0))).1 := b2
    have e1 : E = enc (nV (E, 0)) ++ (nS (E, 0)).1 := b1
    rw [← e3, ← e2]
    exact e1.symm
theorem read_inv {l : List UInt8} (h : (readF l).1 = 0) : May (readF l).2.1 (readF l).2.2.1 (readF l).2.2.2 ∧ bytesC (readF l).2.1 (readF l).2.2.1 (readF l).2.2.2 = l ∧ (readF l).2.1 ≤ 9223372036854775807 ∧ (readF l).2.2.1 ≤ 9223372036854775807 := by
  unfold readF at h ⊢
  split at h
  · exact absurd h (by decide)
  split at h
  · exact absurd h (by decide)
  split at h
  · exact absurd h (by decide)
  · rename_i h1 h2 h3
    rw [if_neg h1, if_neg h2, if_neg h3]
    obtain ⟨a, b, c, d⟩ := betw_inv h
    refine ⟨a, ?_, c, d⟩
    have e1 : frontC (betwF ((l.take (l.length - 4)).drop 4)).2.1 (betwF ((l.take (l.length - 4)).drop 4)).2.2.1 (betwF ((l.take (l.length - 4)).drop 4)).2.2.2 = l.take (l.length - 4) := by
      unfold frontC
      rw [b, ← Classical.not_not.1 h2]
      have : l.take 4 = (l.take (l.length - 4)).take 4 := by rw [List.take_take, Nat.min_eq_left (by omega)]
      rw [this, List.take_append_drop]
    unfold bytesC
    rw [e1, ← Classical.not_not.1 h3]
    have e2 := num_fx (l.drop (l.length - 4))
    rw [List.length_drop, show l.length - (l.length - 4) = 4 by omega] at e2
    rw [e2, List.take_append_drop]
end Go.Proofs.Ytdhjlongdfgejaa.Ct

