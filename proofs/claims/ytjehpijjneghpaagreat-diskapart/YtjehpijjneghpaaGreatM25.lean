/-
  The document's disk: one file turns.
-/
import Derived.Test.YtjehpijjneghpaaGreatM24
namespace Go.Proofs.YtjehpijjneghpaaGreat.Re
open Go.RowKit Go.Maps Go.Sort Go.Shelf Go.Proofs.YtjehpijjneghpaaGreat.Nm Go.Proofs.YtjehpijjneghpaaGreat.Dk
set_option linter.unusedVariables false
abbrev FD := List UInt8 × List UInt8 × Int
def RB.one (R : RB) (i : Nat) (f : FD) : RB := { R with F := R.F.set i f }
def RV.one (V : RV) (i : Nat) (t : Value × Value) : RV := { V with T := V.T.set i t }
theorem fcells_cons (e : FD) (r : List FD) (t : Value × Value) (q : List (Value × Value)) : fcells (e :: r) (t :: q) = [t.1, t.2, .int .i64 e.2.2] ++ fcells r q := by simp [fcells]
theorem fcells_setN : ∀ (F : List FD) (T : List (Value × Value)) (i : Nat) (v : Value) (b : List UInt8), T.length = F.length → ∀ (h : i < F.length) (h' : i < T.length), (fcells F T).set (i * 3) v = fcells (F.set i (b, F[i].2)) (T.set i (v, T[i].2)) := by
  intro F
  induction F with
  | nil => intro T i v b _ h; simp at h
  | cons e r ih =>
    intro T i v b hT h h'
    cases T with
    | nil => simp at h'
    | cons t q =>
      cases i with
      | zero => simp [fcells_cons]
      | succ i =>
        rw [fcells_cons, List.set_cons_succ, List.set_cons_succ, fcells_cons, show (i + 1) * 3 = i * 3 + 1 + 1 + 1 by omega]
        simp only [List.getElem_cons_succ]
        rw [← ih q i v b (by simpa using hT) (by simpa using h) (by simpa using h')]
        simp
theorem fcells_setL : ∀ (F : List FD) (T : List (Value × Value)) (i : Nat) (v : Value) (b : List UInt8), T.length = F.length → ∀ (h : i < F.length) (h' : i < T.length), (fcells F T).set (i * 3 + 1) v = fcells (F.set i (F[i].1, b, F[i].2.2)) (T.set i (T[i].1, v)) := by
  intro F
  induction F with
  | nil => intro T i v b _ h; simp at h
  | cons e r ih =>
    intro T i v b hT h h'
    cases T with
    | nil => simp at h'
    | cons t q =>
      cases i with
      | zero => simp [fcells_cons]
      | succ i =>
        rw [fcells_cons, List.set_cons_succ, List.set_cons_succ, fcells_cons, show (i + 1) * 3 + 1 = i * 3 + 1 + 1 + 1 + 1 by omega]
        simp only [List.getElem_cons_succ]
        rw [← ih q i v b (by simpa using hT) (by simpa using h) (by simpa using h')]
        simp
theorem fcells_setS : ∀ (F : List FD) (T : List (Value × Value)) (i : Nat) (n : Int), T.length = F.length → ∀ (h : i < F.length) (h' : i < T.length), (fcells F T).set (i * 3 + 2) (.int .i64 n) = fcells (F.set i (F[i].1, F[i].2.1, n)) T := by
  intro F
  induction F with
  | nil => intro T i n _ h; simp at h
  | cons e r ih =>
    intro T i n hT h h'
    cases T with
    | nil => simp at h'
    | cons t q =>
      cases i with
      | zero => simp [fcells_cons]
      | succ i =>
        rw [fcells_cons, List.set_cons_succ, fcells_cons, show (i + 1) * 3 + 2 = i * 3 + 2 + 1 + 1 + 1 by omega]
        simp only [List.getElem_cons_succ]
        rw [← ih q i n (by simpa using hT) (by simpa using h) (by simpa using h')]
        simp
theorem blk_one (b : Nat) (V : RV) {i : Nat} (hi : i < V.T.length) (t : Value × Value) (x : Nat) (hN : x ≠ 2 * i + 6) (hL : x ≠ 2 * i + 7) : blk b (V.one i t) x = blk b V x := by
  match x with
  | 0 => rfl
  | 1 => rfl
  | 2 => rfl
  | 3 => rfl
  | 4 => rfl
  | 5 => rfl
  | n + 6 =>
    have hne : n / 2 ≠ i := fun e => by
      rcases Nat.mod_two_eq_zero_or_one n with q | q <;> omega
    show (if n % 2 = 0 then ((V.T.set i t)[n / 2]?).bind (fun t => t.1.ownBlock) else ((V.T.set i t)[n / 2]?).bind (fun t => t.2.ownBlock)) = (if n % 2 = 0 then (V.T[n / 2]?).bind (fun t => t.1.ownBlock) else (V.T[n / 2]?).bind (fun t => t.2.ownBlock))
    rw [List.getElem?_set_ne (Ne.symm hne)]
theorem blk_one_N (b : Nat) (V : RV) {i : Nat} (hi : i < V.T.length) (t : Value × Value) : blk b (V.one i t) (2 * i + 6) = t.1.ownBlock := by
  have hl : i < (V.one i t).T.length := by show i < (V.T.set i t).length; rw [List.length_set]; exact hi
  rw [blk_N b (V.one i t) hl]
  have : (V.one i t).T[i] = t := List.getElem_set_self _
  rw [this]
theorem blk_one_L (b : Nat) (V : RV) {i : Nat} (hi : i < V.T.length) (t : Value × Value) : blk b (V.one i t) (2 * i + 7) = t.2.ownBlock := by
  have hl : i < (V.one i t).T.length := by show i < (V.T.set i t).length; rw [List.length_set]; exact hi
  rw [blk_L b (V.one i t) hl]
  have : (V.one i t).T[i] = t := List.getElem_set_self _
  rw [this]
theorem RM.file {w0 w' : World} {b : Nat} {R : RB} {V : RV} {i : Nat} {f : FD} {t : Value × Value} (h : RM w0 b R V) (hi : i < R.F.length) (hl : i < V.T.length) (hff : w'.ownsRow 0 138 3 V.vF R.F.length (fcells (R.F.set i f) (V.T.set i t))) (o1 : Oc 0 w' t.1 f.1) (o2 : Oc 0 w' t.2 f.2.1)
    (hb : But (fun k => V.vF.ownBlock = some k ∨ V.T[i].1.ownBlock = some k) w0 w') (n1 : t.1.ownBlock = V.T[i].1.ownBlock ∨ ∀ k, t.1.ownBlock = some k → w0.heap.size ≤ k) (n2 : t.2.ownBlock = V.T[i].2.ownBlock ∨ ∀ k, t.2.ownBlock = some k → w0.heap.size ≤ k) (n3 : ∀ k, t.1.ownBlock = some k → t.2.ownBlock ≠ some k) : Rgo w0 w' b V (R.one i f) := by
  have nx : ∀ x, x ≠ 1 → x ≠ 2 * i + 6 → ∀ k, blk b V x = some k → ¬ (V.vF.ownBlock = some k ∨ V.T[i].1.ownBlock = some k) := fun x h1 h2 k hk c => by
    rcases c with c | c
    · exact h.ds x 1 h1 k hk c
    · exact h.ds x (2 * i + 6) h2 k hk (by rw [blk_N b V hl]; exact c)
  have hsz := hb.size
  refine ⟨⟨V.one i t, ?_, ?_⟩, ?_⟩
  · refine ⟨(hb.block b (heap_lt h.box) (nx 0 (by omega) (by omega) b rfl)).trans h.box, h.dd.but hb (nx 2 (by omega) (by omega)), h.oo.but hb (nx 3 (by omega) (by omega)), h.pp.but hb (nx 4 (by omega) (by omega)), ownsRow_but h.aa hb (nx 5 (by omega) (by omega)), ?_, ?_, fun j hj => ?_, ?_, ?_⟩
    · show w'.ownsRow 0 _ 3 V.vF (R.F.set i f).length (fcells (R.F.set i f) (V.T.set i t))
      rw [List.length_set]
      exact hff
    · show (V.T.set i t).length = (R.F.set i f).length
      rw [List.length_set, List.length_set]
      exact h.ln
    · have hj' : j < R.F.length := by have : j < (R.F.set i f).length := hj; rw [List.length_set] at this; exact this
      have hjl : j < V.T.length := by rw [h.ln]; exact hj'
      by_cases e : j = i
      · subst e
        have e1 : ((V.one j t).T[j]'(by show j < (V.T.set j t).length; rw [List.length_set]; exact hjl)) = t := List.getElem_set_self _
        have e2 : ((R.one j f).F[j]'hj) = f := List.getElem_set_self _
        rw [e1, e2]
        exact ⟨o1, o2⟩
      · have e1 : ((V.one i t).T[j]'(by show j < (V.T.set i t).length; rw [List.length_set]; exact hjl)) = V.T[j] := List.getElem_set_ne (Ne.symm e) _
        have e2 : ((R.one i f).F[j]'hj) = R.F[j] := List.getElem_set_ne (Ne.symm e) _
        rw [e1, e2]
        obtain ⟨a, q⟩ := h.nn j hj'
        exact ⟨Oc.but a hb (fun k hk => nx (2 * j + 6) (by omega) (by omega) k (by rw [blk_N b V hjl]; exact hk)), Oc.but q hb (fun k hk => nx (2 * j + 7) (by omega) (by omega) k (by rw [blk_L b V hjl]; exact hk))⟩
    · refine h.ds.step (H := w0.heap.size) h.lt (fun x => ?_) (fun x y hxy k hk h1 h2 => ?_)
      · by_cases xN : x = 2 * i + 6
        · rw [xN, blk_one_N b V hl t, blk_N b V hl]; exact n1
        · by_cases xL : x = 2 * i + 7
          · rw [xL, blk_one_L b V hl t, blk_L b V hl]; exact n2
          · exact .inl (blk_one b V hl t x xN xL)
      · have old : ∀ z, z ≠ 2 * i + 6 → z ≠ 2 * i + 7 → blk b (V.one i t) z ≠ some k := fun z zN zL hz => by
          rw [blk_one b V hl t z zN zL] at hz
          have := h.lt z k hz
          omega
        have isx : x = 2 * i + 6 ∨ x = 2 * i + 7 := by
          by_cases a : x = 2 * i + 6
          · exact .inl a
          · by_cases c : x = 2 * i + 7
            · exact .inr c
            · exact absurd h1 (old x a c)
        have isy : y = 2 * i + 6 ∨ y = 2 * i + 7 := by
          by_cases a : y = 2 * i + 6
          · exact .inl a
          · by_cases c : y = 2 * i + 7
            · exact .inr c
            · exact absurd h2 (old y a c)
        rcases isx with rfl | rfl
        · rcases isy with rfl | rfl
          · exact hxy rfl
          · rw [blk_one_N b V hl t] at h1; rw [blk_one_L b V hl t] at h2; exact n3 k h1 h2
        · rcases isy with rfl | rfl
          · rw [blk_one_L b V hl t] at h1; rw [blk_one_N b V hl t] at h2; exact n3 k h2 h1
          · exact hxy rfl
    · intro x k hk
      by_cases xN : x = 2 * i + 6
      · rw [xN, blk_one_N b V hl t] at hk; exact (o1.lt k hk).2
      · by_cases xL : x = 2 * i + 7
        · rw [xL, blk_one_L b V hl t] at hk; exact (o2.lt k hk).2
        · rw [blk_one b V hl t x xN xL] at hk
          have := h.lt x k hk
          omega
  · intro x k hk
    by_cases xN : x = 2 * i + 6
    · subst xN
      rw [blk_one_N b V hl t] at hk
      rcases n1 with e | e
      · exact .inl (by rw [blk_N b V hl]; exact e.symm.trans hk)
      · exact .inr (e k hk)
    · by_cases xL : x = 2 * i + 7
      · subst xL
        rw [blk_one_L b V hl t] at hk
        rcases n2 with e | e
        · exact .inl (by rw [blk_L b V hl]; exact e.symm.trans hk)
        · exact .inr (e k hk)
      · rw [blk_one b V hl t x xN xL] at hk
        exact .inl hk
  · exact hb.mono fun k _ c => by
      rcases c with c | c
      · exact ⟨1, c⟩
      · exact ⟨2 * i + 6, by rw [blk_N b V hl]; exact c⟩
def RB.fOf (R : RB) (p : Nat) : FD := (R.F[p]?).getD ([], [], 0)
def flD (f : FD) : Fl := ⟨f.1, f.2.1, (f.2.2 - (f.2.1.length : Int)).toNat⟩
def RB.sync (R : RB) (s : ByteArray) : RB × Int :=
  if refN R.down R.dir s true ≠ 0 then (R, refN R.down R.dir s true)
  else if R.flt.2.1 = 1 then ((R.beg 2).one (R.pOf s) ((R.fOf (R.pOf s)).1, (R.fOf (R.pOf s)).2.1, ((R.fOf (R.pOf s)).1.length : Int)), 20)
  else if R.flt.2.1 = 3 then (R.beg 2, 22)
  else ((R.beg 2).one (R.pOf s) ((R.fOf (R.pOf s)).1, (R.fOf (R.pOf s)).2.1 ++ svd (flD (R.fOf (R.pOf s))) ((R.fOf (R.pOf s)).1.length - (R.fOf (R.pOf s)).2.1.length), 0), 0)
set_option maxRecDepth 100000 in
set_option maxHeartbeats 1000000 in
theorem sync_rm_no {w : World} {b : Nat} {R : RB} {V : RV} (h : RM w b R V) (s : ByteArray) (hs : s.size ≤ maxLen) (h0 : refN R.down R.dir s true ≠ 0) :
    Calls Tryz.prog 48 #[.pointer (some ⟨b, 0, none⟩), .string s] w fun e w' => e = .returned (.int .i64 (refN R.down R.dir s true)) ∧ w' = w := by
  have hR := refused_rm h s hs true
  clear h
  generalize refN R.down R.dir s true = rn at *
  go_enter Tryz.func48, Tryz.ntmps48
  go_wp2_with (go_at_call 95; refine hR.mono ?_; rintro e w1 ⟨rfl, e1'⟩; subst w1)
  go_ret
  exact ⟨rfl, rfl⟩
set_option maxRecDepth 100000 in
set_option maxHeartbeats 1000000 in
theorem sync_rm_bad {w : World} {b : Nat} {R : RB} {V : RV} (h : RM w b R V) (ho : R.ok) (hc : R.c7 ≤ 1000000000) (hg : ∀ e ∈ R.dir, e.2 < R.F.length) (hla : ∀ f ∈ R.F, f.2.1.length ≤ f.1.length ∧ (f.1.length : Int) ≤ 100000000) (s : ByteArray) (hs : s.size ≤ maxLen) (h13 : R.flt.2.1 = 1 ∨ R.flt.2.1 = 3) :
    Calls Tryz.prog 48 #[.pointer (some ⟨b, 0, none⟩), .string s] w fun e w' => e = .returned (.int .i64 (R.sync s).2) ∧ Rgo w w' b V (R.sync s).1 := by
  obtain ⟨X, hX⟩ : ∃ X, Hid (R.sync s = X) := ⟨_, rfl⟩
  rw [hX.out]
  by_cases h0 : refN R.down R.dir s true = 0
  · have hR := refused_rm h s hs true
    rw [h0] at hR
    have hB := begins_rm h ho hc 2 (by omega)
    obtain ⟨hf, hp, _⟩ := refN_there hg h0
    obtain ⟨be1, be2, _⟩ := beg_same R 2
    have hFi : Hid (∀ q, RM q b (R.beg 2) V → Calls Tryz.prog 96 #[V.vD, .string s] q fun e w' => e = .returned (.int .i64 (R.pOf s : Int)) ∧ w' = q) := fun q hq => by
      have := find_ref q V.vD (R.beg 2).dir s hq.dd.tr
      rw [be2, hf] at this
      exact this
    have hvd : ∃ da dn dc, V.vD = .slice da dn dc := by rcases h.dd.form with ⟨e, _⟩ | ⟨g, cap, e, _⟩ <;> exact ⟨_, _, _, e⟩
    obtain ⟨da, dn, dc, hvd⟩ := hvd
    obtain ⟨F, hF⟩ : ∃ F : Ft, Hid (R.flt = F) := ⟨R.flt, rfl⟩
    rw [hF.out] at hB
    obtain ⟨fa, fk, fp⟩ := F
    unfold fv at hB
    dsimp only at hB
    by_cases k3 : fk = 3
    · have e1 : Hid (X = (R.beg 2, 22)) := by show _ = _; rw [← hX.out]; unfold RB.sync; rw [if_neg (by rw [h0]; simp), hF.out, if_neg (by show ¬ fk = 1; omega), if_pos k3]
      subst k3
      rw [hvd] at hFi
      clear h ho hc
      go_enter Tryz.func48, Tryz.ntmps48
      go_upto_region 5 with (first
        | (go_at_call 95; refine hR.mono ?_; rintro e w1 ⟨rfl, e1'⟩; subst w1)
        | (go_at_call 97; refine hB.mono ?_; rintro e w1 ⟨rfl, M1, b1⟩; replace M1 := hide M1; replace b1 := hide b1))
      have z1 := heap_alloc_new w1 (.cells #[.int .i64 fa, .int .i64 3, .int .i64 fp] 118)
      have BX := hide (box_below w1 (.cells #[.int .i64 fa, .int .i64 3, .int .i64 fp] 118))
      obtain ⟨Y, hY⟩ : ∃ Y, Hid (w1.alloc (.cells #[.int .i64 fa, .int .i64 3, .int .i64 fp] 118) = Y) := ⟨_, rfl⟩
      rw [hY.out] at z1 BX ⊢
      have y1 : Y.cell? ⟨w1.heap.size, 1, none⟩ = some (.int .i64 3) := by simp [World.cell?, z1]
      have MY := hide (M1.out.below BX.out)
      have bY : Hid (But (fun k => k = b) w Y) := b1.out.trans (But.of_below BX.out _)
      clear z1
      obtain ⟨g, cap, hvf, fl1, fl2, hl, z0, z1, z2⟩ := MY.out.at (i := R.pOf s) (by rw [be1]; exact hp)
      have c1 : Y.cell? ⟨b, 1, none⟩ = some V.vF := (MY.out.cell 1).trans rfl
      have c2 : Y.cell? ⟨b, 2, none⟩ = some V.vD := (MY.out.cell 2).trans rfl
      rw [hvf, be1] at c1
      rw [hvd] at c2
      rw [be1] at fl1
      generalize hpp : R.pOf s = p at *
      have ip : (p : Int) < (R.F.length : Int) := by omega
      clear hpp
      go_quiet ((go_at_call 96; exact Calls.quiet_of_same (hFi.out _ (MY.out.below (Qt.below ⟨_, rfl⟩ _)))))
      have B3 : Hid (Below Y.heap.size Y (Y.drewN nq)) := Qt.below ⟨nq, rfl⟩ _
      have MZ := hide (MY.out.below B3.out)
      have y2 : (Y.drewN nq).cell? ⟨w1.heap.size, 1, none⟩ = some (.int .i64 3) := by rw [B3.out.cell (lt_of_cell y1)]; exact y1
      have bZ : Hid (But (fun k => k = b) w (Y.drewN nq)) := bY.out.trans (But.of_below B3.out _)
      generalize Y.drewN nq = Z at *
      go_wp2_with fail
      go_ret
      rw [e1.out]
      exact ⟨rfl, Rgo.same MZ.out bZ.out⟩
    · by_cases k1 : fk = 1
      · have e1 : Hid (X = ((R.beg 2).one (R.pOf s) ((R.fOf (R.pOf s)).1, (R.fOf (R.pOf s)).2.1, ((R.fOf (R.pOf s)).1.length : Int)), 20)) := by show _ = _; rw [← hX.out]; unfold RB.sync; rw [if_neg (by rw [h0]; simp), hF.out, if_pos k1]
        subst k1
        rw [hvd] at hFi
        clear h ho hc
        go_enter Tryz.func48, Tryz.ntmps48
        go_upto_region 5 with (first
          | (go_at_call 95; refine hR.mono ?_; rintro e w1 ⟨rfl, e1'⟩; subst w1)
          | (go_at_call 97; refine hB.mono ?_; rintro e w1 ⟨rfl, M1, b1⟩; replace M1 := hide M1; replace b1 := hide b1))
        have z1 := heap_alloc_new w1 (.cells #[.int .i64 fa, .int .i64 1, .int .i64 fp] 118)
        have BX := hide (box_below w1 (.cells #[.int .i64 fa, .int .i64 1, .int .i64 fp] 118))
        obtain ⟨Y, hY⟩ : ∃ Y, Hid (w1.alloc (.cells #[.int .i64 fa, .int .i64 1, .int .i64 fp] 118) = Y) := ⟨_, rfl⟩
        rw [hY.out] at z1 BX ⊢
        have y1 : Y.cell? ⟨w1.heap.size, 1, none⟩ = some (.int .i64 1) := by simp [World.cell?, z1]
        have MY := hide (M1.out.below BX.out)
        have bY : Hid (But (fun k => k = b) w Y) := b1.out.trans (But.of_below BX.out _)
        clear z1
        obtain ⟨g, cap, hvf, fl1, fl2, hl, z0, z1, z2⟩ := MY.out.at (i := R.pOf s) (by rw [be1]; exact hp)
        have c1 : Y.cell? ⟨b, 1, none⟩ = some V.vF := (MY.out.cell 1).trans rfl
        have c2 : Y.cell? ⟨b, 2, none⟩ = some V.vD := (MY.out.cell 2).trans rfl
        rw [hvf, be1] at c1
        rw [hvd] at c2
        rw [be1] at fl1
        have hfo : R.fOf (R.pOf s) = R.F[R.pOf s] := by unfold RB.fOf; rw [List.getElem?_eq_getElem hp]; rfl
        have hlap := hla _ (List.getElem_mem hp)
        rw [hfo] at e1
        obtain ⟨ob1, ob2⟩ := MY.out.nn (R.pOf s) (by rw [be1]; exact hp)
        simp only [be1] at ob1 ob2 z2
        have hg1 : V.vF.ownBlock = some g := by rw [hvf]; exact own_some _ _ _
        have hff0 := MY.out.ff
        generalize hpp : R.pOf s = p at *
        have ip : (p : Int) < (R.F.length : Int) := by omega
        clear hpp
        go_quiet ((go_at_call 96; exact Calls.quiet_of_same (hFi.out _ (MY.out.below (Qt.below ⟨_, rfl⟩ _)))))
        have B3 : Hid (Below Y.heap.size Y (Y.drewN nq)) := Qt.below ⟨nq, rfl⟩ _
        have MZ := hide (MY.out.below B3.out)
        have y2 : (Y.drewN nq).cell? ⟨w1.heap.size, 1, none⟩ = some (.int .i64 1) := by rw [B3.out.cell (lt_of_cell y1)]; exact y1
        have bZ : Hid (But (fun k => k = b) w (Y.drewN nq)) := bY.out.trans (But.of_below B3.out _)
        generalize Y.drewN nq = Z at *
        obtain ⟨ta, tc, et, tl1, tl2⟩ := ob1.form
        have hTs : V.T.set p V.T[p] = V.T := List.set_getElem_self hl
        have fr2 : Z.frozen? ⟨g, p * 3 + 2, none⟩ = false := by have q := MZ.out.ff; rw [hvf] at q; exact q.frozenAt _
        have w0 : Z.cell? ⟨g, p * 3, none⟩ = some V.T[p].1 := by rw [B3.out.cell (lt_of_cell z0)]; exact z0
        have w2 : Z.cell? ⟨g, p * 3 + 2, none⟩ = some (.int .i64 R.F[p].2.2) := by rw [B3.out.cell (lt_of_cell z2)]; exact z2
        have gX := But.of_grownBy (X := fun k => k = g) (grown_setCell Z g (p * 3 + 2) (.int .i64 (R.F[p].1.length : Int))) fun k e => by cases e; rfl
        have fin : Hid (Rgo Z (Z.setCell ⟨g, p * 3 + 2, none⟩ (.int .i64 (R.F[p].1.length : Int))) b V ((R.beg 2).one p (R.F[p].1, R.F[p].2.1, (R.F[p].1.length : Int)))) := by
          refine RM.file MZ.out (i := p) (by rw [be1]; exact hp) hl (t := V.T[p]) ?_ ?_ ?_ (gX.mono fun k _ e => .inl (by rw [hg1, e])) (.inl rfl) (.inl rfl) ?_
          · have q := MZ.out.ff
            rw [hvf] at q ⊢
            have q2 := (q.stored (p * 3 + 2) (.int .i64 (R.F[p].1.length : Int))).1
            rw [fcells_setS _ _ p _ MZ.out.ln (by rw [be1]; exact hp) hl] at q2
            rw [hTs]
            simp only [be1] at q2 ⊢
            exact q2
          · exact Oc.but (ob1.below B3.out) gX (fun k hk e => MY.out.ds 1 (2 * p + 6) (by omega) g hg1 (by rw [blk_N b V hl, hk, e]))
          · exact Oc.but (ob2.below B3.out) gX (fun k hk e => MY.out.ds 1 (2 * p + 7) (by omega) g hg1 (by rw [blk_L b V hl, hk, e]))
          · intro k k1 k2
            exact MY.out.ds (2 * p + 6) (2 * p + 7) (by omega) k (by rw [blk_N b V hl]; exact k1) (by rw [blk_L b V hl]; exact k2)
        rw [et] at w0
        have fin2 := hide (fin.out.behind bZ.out)
        have hTo2 : Hid (∀ q, Calls Tryz.prog 98 #[.int .i64 1] q fun e w' => e = .returned (.int .i64 20) ∧ w' = q) := fun q => told_ref q 1
        have y3 : (Z.setCell ⟨g, p * 3 + 2, none⟩ (.int .i64 (R.F[p].1.length : Int))).cell? ⟨w1.heap.size, 1, none⟩ = some (.int .i64 1) := by
          have hne : ¬ w1.heap.size = g := fun e => by have := M1.out.lt 1 g hg1; omega
          exact cell_but y2 gX hne
        clear fin gX hff0
        generalize R.F[p].1.length = bl at *
        go_wp2_with (go_at_call 98; refine (hTo2.out _).mono ?_; rintro e w2 ⟨rfl, e2⟩; subst w2)
        go_ret
        rw [e1.out]
        exact ⟨rfl, fin2.out⟩
      · rw [hF.out] at h13
        rcases h13 with c | c
        · exact absurd c k1
        · exact absurd c k3
  · have e1 : X = (R, refN R.down R.dir s true) := by rw [← hX.out]; unfold RB.sync; rw [if_pos h0]
    rw [e1]
    refine (sync_rm_no h s hs h0).mono ?_
    rintro e w' ⟨rfl, rfl⟩
    exact ⟨rfl, Rgo.refl h⟩
end Go.Proofs.YtjehpijjneghpaaGreat.Re
namespace Go.Proofs.YtjehpijjneghpaaGreat.Re
open Go.RowKit Go.Maps Go.Sort Go.Shelf Go.Proofs.YtjehpijjneghpaaGreat.Nm Go.Proofs.YtjehpijjneghpaaGreat.Dk
open Ix (wp_region_T wpAnyT wpAnyT_take wpAnyT_one wpAnyT_done vac)
set_option linter.unusedVariables false
theorem flt_no4 {R : RB} (h : R.ok) : R.flt.2.1 ≠ 4 := by
  unfold RB.flt rfl1
  cases hf : R.fs.find? (fun f => f.1 == R.si + 1) with
  | none => simp [zf]
  | some f => exact h.no4 f (List.mem_of_find?_eq_some hf)
set_option maxRecDepth 100000 in
set_option maxHeartbeats 1000000 in
theorem sync_rm {w : World} {b : Nat} {R : RB} {V : RV} (h : RM w b R V) (ho : R.ok) (hc : R.c7 ≤ 1000000000) (hg : ∀ e ∈ R.dir, e.2 < R.F.length) (hla : ∀ f ∈ R.F, f.2.1.length ≤ f.1.length ∧ (f.1.length : Int) ≤ 100000000) (s : ByteArray) (hs : s.size ≤ maxLen) :
    Calls Tryz.prog 48 #[.pointer (some ⟨b, 0, none⟩), .string s] w fun e w' => e = .returned (.int .i64 (R.sync s).2) ∧ Rgo w w' b V (R.sync s).1 := by
  by_cases h13 : R.flt.2.1 = 1 ∨ R.flt.2.1 = 3
  · exact sync_rm_bad h ho hc hg hla s hs h13
  obtain ⟨X, hX⟩ : ∃ X, Hid (R.sync s = X) := ⟨_, rfl⟩
  rw [hX.out]
  by_cases h0 : refN R.down R.dir s true = 0
  · have hR := refused_rm h s hs true
    rw [h0] at hR
    have hB := begins_rm h ho hc 2 (by omega)
    obtain ⟨hf, hp, _⟩ := refN_there hg h0
    obtain ⟨be1, be2, _⟩ := beg_same R 2
    have hFi : Hid (∀ q, RM q b (R.beg 2) V → Calls Tryz.prog 96 #[V.vD, .string s] q fun e w' => e = .returned (.int .i64 (R.pOf s : Int)) ∧ w' = q) := fun q hq => by
      have := find_ref q V.vD (R.beg 2).dir s hq.dd.tr
      rw [be2, hf] at this
      exact this
    have hvd : ∃ da dn dc, V.vD = .slice da dn dc := by rcases h.dd.form with ⟨e, _⟩ | ⟨g, cap, e, _⟩ <;> exact ⟨_, _, _, e⟩
    obtain ⟨da, dn, dc, hvd⟩ := hvd
    have k4 : R.flt.2.1 ≠ 4 := flt_no4 ho
    obtain ⟨F, hF⟩ : ∃ F : Ft, Hid (R.flt = F) := ⟨R.flt, rfl⟩
    rw [hF.out] at hB h13 k4
    obtain ⟨fa, fk, fp⟩ := F
    unfold fv at hB
    dsimp only at hB h13 k4
    have k1 : ¬ fk = 1 := fun c => h13 (.inl c)
    have k3 : ¬ fk = 3 := fun c => h13 (.inr c)
    have e1 : Hid (X = ((R.beg 2).one (R.pOf s) ((R.fOf (R.pOf s)).1, (R.fOf (R.pOf s)).2.1 ++ svd (flD (R.fOf (R.pOf s))) ((R.fOf (R.pOf s)).1.length - (R.fOf (R.pOf s)).2.1.length), 0), 0)) := by show _ = _; rw [← hX.out]; unfold RB.sync; rw [if_neg (by rw [h0]; simp), hF.out, if_neg k1, if_neg k3]
    rw [hvd] at hFi
    clear h ho hc h13
    go_enter Tryz.func48, Tryz.ntmps48
    go_upto_region 5 with (first
      | (go_at_call 95; refine hR.mono ?_; rintro e w1 ⟨rfl, e1'⟩; subst w1)
      | (go_at_call 97; refine hB.mono ?_; rintro e w1 ⟨rfl, M1, b1⟩; replace M1 := hide M1; replace b1 := hide b1))
    have z1 := heap_alloc_new w1 (.cells #[.int .i64 fa, .int .i64 fk, .int .i64 fp] 118)
    have BX := hide (box_below w1 (.cells #[.int .i64 fa, .int .i64 fk, .int .i64 fp] 118))
    obtain ⟨Y, hY⟩ : ∃ Y, Hid (w1.alloc (.cells #[.int .i64 fa, .int .i64 fk, .int .i64 fp] 118) = Y) := ⟨_, rfl⟩
    rw [hY.out] at z1 BX ⊢
    have y1 : Y.cell? ⟨w1.heap.size, 1, none⟩ = some (.int .i64 fk) := by simp [World.cell?, z1]
    have MY := hide (M1.out.below BX.out)
    have bY : Hid (But (fun k => k = b) w Y) := b1.out.trans (But.of_below BX.out _)
    clear z1
    obtain ⟨g, cap, hvf, fl1, fl2, hl, z0, z1, z2⟩ := MY.out.at (i := R.pOf s) (by rw [be1]; exact hp)
    have c1 : Y.cell? ⟨b, 1, none⟩ = some V.vF := (MY.out.cell 1).trans rfl
    have c2 : Y.cell? ⟨b, 2, none⟩ = some V.vD := (MY.out.cell 2).trans rfl
    rw [hvf, be1] at c1
    rw [hvd] at c2
    rw [be1] at fl1
    have hfo : R.fOf (R.pOf s) = R.F[R.pOf s] := by unfold RB.fOf; rw [List.getElem?_eq_getElem hp]; rfl
    have hlap := hla _ (List.getElem_mem hp)
    rw [hfo] at e1
    obtain ⟨ob1, ob2⟩ := MY.out.nn (R.pOf s) (by rw [be1]; exact hp)
    simp only [be1] at ob1 ob2 z2
    have hg1 : V.vF.ownBlock = some g := by rw [hvf]; exact own_some _ _ _
    generalize hpp : R.pOf s = p at *
    have ip : (p : Int) < (R.F.length : Int) := by omega
    clear hpp
    go_quiet ((go_at_call 96; exact Calls.quiet_of_same (hFi.out _ (MY.out.below (Qt.below ⟨_, rfl⟩ _)))))
    have B3 : Hid (Below Y.heap.size Y (Y.drewN nq)) := Qt.below ⟨nq, rfl⟩ _
    have MZ := hide (MY.out.below B3.out)
    have y2 : (Y.drewN nq).cell? ⟨w1.heap.size, 1, none⟩ = some (.int .i64 fk) := by rw [B3.out.cell (lt_of_cell y1)]; exact y1
    have bZ : Hid (But (fun k => k = b) w (Y.drewN nq)) := bY.out.trans (But.of_below B3.out _)
    generalize Y.drewN nq = Z at *
    have en : Hid (((R.F[p].1.length - R.F[p].2.1.length : Nat) : Int) = (R.F[p].1.length : Int) - (R.F[p].2.1.length : Int)) := by show _ = _; have := hlap.1; omega
    have w0 : Z.cell? ⟨g, p * 3, none⟩ = some V.T[p].1 := by rw [B3.out.cell (lt_of_cell z0)]; exact z0
    have w1' : Z.cell? ⟨g, p * 3 + 1, none⟩ = some V.T[p].2 := by rw [B3.out.cell (lt_of_cell z1)]; exact z1
    have w2 : Z.cell? ⟨g, p * 3 + 2, none⟩ = some (.int .i64 R.F[p].2.2) := by rw [B3.out.cell (lt_of_cell z2)]; exact z2
    have ob1Z := ob1.below B3.out
    have ob2Z := ob2.below B3.out
    have hL : Hid (∀ q, Below Z.heap.size Z q → Calls Tryz.prog 90 #[.pointer (some ⟨g, p * 3, none⟩), .int .i64 ((R.F[p].1.length : Int) - (R.F[p].2.1.length : Int))] q fun e w' => ∃ v', e = .returned v' ∧ Ob q.heap.size w' v' (R.F[p].2.1 ++ svd (flD R.F[p]) (R.F[p].1.length - R.F[p].2.1.length)) ∧ Below q.heap.size q w') := fun q hq => by
      rw [← en.out]
      refine lasting_ref q g (p * 3) V.T[p].1 V.T[p].2 (flD R.F[p]) R.F[p].2.2 _ (by rw [hq.cell (lt_of_cell w0)]; exact w0) (by rw [hq.cell (lt_of_cell w1')]; exact w1') (by rw [hq.cell (lt_of_cell w2)]; exact w2) (ob1Z.below hq).sl (ob2Z.below hq).sl (by have := hlap.1; show R.F[p].2.1.length + (R.F[p].1.length - R.F[p].2.1.length) ≤ R.F[p].1.length; omega) (fun k => ?_) hlap.2
      show ((R.F[p].2.1.length + k : Nat) : Int) < R.F[p].2.2 ↔ k < (R.F[p].2.2 - (R.F[p].2.1.length : Int)).toNat
      omega
    obtain ⟨ta, tc, et, tl1, tl2⟩ := ob1.form
    obtain ⟨la, lc, eL, ll1, ll2⟩ := ob2.form
    have OB1 := hide ob1Z
    have w1s := hide w1'
    rw [et] at w0
    rw [eL] at w1'
    have lb1 : (R.F[p].2.1.length : Int) ≤ (R.F[p].1.length : Int) := by have := hlap.1; omega
    have lb2 := hlap.2
    have KC : Hid (∀ q : World, Below Z.heap.size Z q → q.cell? ⟨g, p * 3, none⟩ = some (.slice ta R.F[p].1.length tc) ∧ q.cell? ⟨g, p * 3 + 1, none⟩ = some (.slice la R.F[p].2.1.length lc)) := fun q hq => ⟨by rw [hq.cell (lt_of_cell w0)]; exact w0, by rw [hq.cell (lt_of_cell w1')]; exact w1'⟩
    have hwr : IntKind.i64.wrap ((R.F[p].1.length : Int) - (R.F[p].2.1.length : Int)) = (R.F[p].1.length : Int) - (R.F[p].2.1.length : Int) := by rw [IntKind.wrap_i64]; omega
    obtain ⟨f0, hf0⟩ : ∃ f0 : FD, Hid (R.F[p] = f0) := ⟨R.F[p], rfl⟩
    rw [hf0.out] at hL e1 KC hwr tl1 ll1 lb1 lb2 OB1 w0 w1' w2
    have hln := MZ.out.ln
    have hiF : p < (R.beg 2).F.length := by rw [be1]; exact hp
    have hf0' : Hid ((R.beg 2).F[p] = f0) := by show _ = _; simp only [be1]; exact hf0.out
    obtain ⟨L, hLe⟩ : ∃ L : List UInt8, Hid (f0.2.1 ++ svd (flD f0) (f0.1.length - f0.2.1.length) = L) := ⟨f0.2.1 ++ svd (flD f0) (f0.1.length - f0.2.1.length), rfl⟩
    rw [hLe.out] at hL e1
    obtain ⟨bl, hbl⟩ : ∃ bl : Nat, Hid (f0.1.length = bl) := ⟨f0.1.length, rfl⟩
    obtain ⟨ll, hll⟩ : ∃ ll : Nat, Hid (f0.2.1.length = ll) := ⟨f0.2.1.length, rfl⟩
    rw [hbl.out] at hL KC hwr tl1 lb1 lb2 w0
    rw [hll.out] at hL KC hwr ll1 lb1 w1'
    replace hln := hide hln
    replace hlap := hide hlap
    have q1 : (fk == 1) = false := by simpa using k1
    have q3 : (fk == 3) = false := by simpa using k3
    have q4 : (fk == 4) = false := by simpa using k4
    go_upto_region 13 with fail
    have KP : Hid (Below Z.heap.size Z Z.drew) := (Below.refl _ _).drew
    clear ob1 ob2 ob1Z ob2Z z0 z1 z2 w0 w1' w2 c1 c2 y1 y2 hB hR hFi
    refine wp_region_T (fun q => Below Z.heap.size Z q) 16 (by kernel_rfl) ?_
    generalize Z.drew = q at *
    refine Ix.tk 0 ⟨some 49, .move (.tmp 7), 140, "ref.go:250", #[], none⟩ (.pointer (some ⟨g, p * 3, none⟩)) [14,15,16] ?_ KP.out ?_
    · intro wq hSw
      obtain ⟨y1, y2⟩ := KC.out wq hSw
      go_simp
    (try simp only [zzp, zza, zzb, zzc])
    refine Ix.tk 1 ⟨some 50, .move (.tmp 7), 140, "ref.go:250", #[], none⟩ (.pointer (some ⟨g, p * 3, none⟩)) [13,16] ?_ KP.out ?_
    · intro wq hSw
      obtain ⟨y1, y2⟩ := KC.out wq hSw
      go_simp
    (try simp only [zzp, zza, zzb, zzc])
    refine Ix.tk 2 ⟨some 51, .move (.tmp 7), 140, "ref.go:250", #[], none⟩ (.pointer (some ⟨g, p * 3, none⟩)) [3,4,5,6,12,13,16] ?_ KP.out ?_
    · intro wq hSw
      obtain ⟨y1, y2⟩ := KC.out wq hSw
      go_simp
    (try simp only [zzp, zza, zzb, zzc])
    refine Ix.tk 3 ⟨some 52, .nilCheck (.tmp 51), 0, "ref.go:250", #[⟨2,.data⟩], none⟩ (.pointer (some ⟨g, p * 3, none⟩)) [4,5,6,12,13,16] ?_ KP.out ?_
    · intro wq hSw
      obtain ⟨y1, y2⟩ := KC.out wq hSw
      go_simp
    (try simp only [zzp, zza, zzb, zzc])
    refine Ix.tk 4 ⟨some 53, .fieldAddr 138 (.tmp 52) 0, 0, "ref.go:250", #[⟨3,.data⟩], none⟩ (.pointer (some ⟨g, p * 3, none⟩)) [5,6,12,13,16] ?_ KP.out ?_
    · intro wq hSw
      obtain ⟨y1, y2⟩ := KC.out wq hSw
      go_simp
    (try simp only [zzp, zza, zzb, zzc])
    refine Ix.tk 5 ⟨some 54, .load 30 (.tmp 53), 30, "ref.go:250", #[⟨4,.data⟩], none⟩ (.slice ta bl tc) [6,12,13,16] ?_ KP.out ?_
    · intro wq hSw
      obtain ⟨y1, y2⟩ := KC.out wq hSw
      go_simp
    (try simp only [zzp, zza, zzb, zzc])
    refine Ix.tk 6 ⟨some 55, .call { callee := .builtin .len, args := #[.tmp 54], argTypes := #[30] }, 3, "ref.go:250", #[⟨5,.data⟩], none⟩ (.int .i64 (bl : Int)) [12,13,16] ?_ KP.out ?_
    · intro wq hSw
      obtain ⟨y1, y2⟩ := KC.out wq hSw
      go_simp
    (try simp only [zzp, zza, zzb, zzc])
    refine Ix.tk 7 ⟨some 56, .move (.tmp 7), 140, "ref.go:250", #[], none⟩ (.pointer (some ⟨g, p * 3, none⟩)) [8,9,10,11,12,13,16] ?_ KP.out ?_
    · intro wq hSw
      obtain ⟨y1, y2⟩ := KC.out wq hSw
      go_simp
    (try simp only [zzp, zza, zzb, zzc])
    refine Ix.tk 8 ⟨some 57, .nilCheck (.tmp 56), 0, "ref.go:250", #[⟨7,.data⟩], none⟩ (.pointer (some ⟨g, p * 3, none⟩)) [9,10,11,12,13,16] ?_ KP.out ?_
    · intro wq hSw
      obtain ⟨y1, y2⟩ := KC.out wq hSw
      go_simp
    (try simp only [zzp, zza, zzb, zzc])
    refine Ix.tk 9 ⟨some 58, .fieldAddr 138 (.tmp 57) 1, 0, "ref.go:250", #[⟨8,.data⟩], none⟩ (.pointer (some ⟨g, p * 3 + 1, none⟩)) [10,11,12,13,16] ?_ KP.out ?_
    · intro wq hSw
      obtain ⟨y1, y2⟩ := KC.out wq hSw
      go_simp
    (try simp only [zzp, zza, zzb, zzc])
    refine Ix.tk 10 ⟨some 59, .load 30 (.tmp 58), 30, "ref.go:250", #[⟨9,.data⟩], none⟩ (.slice la ll lc) [11,12,13,16] ?_ KP.out ?_
    · intro wq hSw
      obtain ⟨y1, y2⟩ := KC.out wq hSw
      go_simp
    (try simp only [zzp, zza, zzb, zzc])
    refine Ix.tk 11 ⟨some 60, .call { callee := .builtin .len, args := #[.tmp 59], argTypes := #[30] }, 3, "ref.go:250", #[⟨10,.data⟩], none⟩ (.int .i64 (ll : Int)) [12,13,16] ?_ KP.out ?_
    · intro wq hSw
      obtain ⟨y1, y2⟩ := KC.out wq hSw
      go_simp
    (try simp only [zzp, zza, zzb, zzc])
    refine Ix.tk 12 ⟨some 61, .binOp .sub 3 (.tmp 55) (.tmp 60) 3, 3, "ref.go:250", #[⟨6,.data⟩,⟨11,.data⟩], none⟩ (.int .i64 ((bl : Int) - (ll : Int))) [13,16] ?_ KP.out ?_
    · intro wq hSw
      obtain ⟨y1, y2⟩ := KC.out wq hSw
      go_simp
    (try simp only [zzp, zza, zzb, zzc])
    refine wpAnyT_one (i := 13) (o := ⟨some 62, .call { callee := .value (.func 90), args := #[.tmp 50, .tmp 61], argTypes := #[140, 3] }, 30, "ref.go:250", #[⟨1, .data⟩, ⟨12, .data⟩], none⟩) (by kernel_rfl) rfl (fun K hK => ?_)
    go_simp
    go_at_call 90
    refine (hL.out q KP.out).mono ?_
    rintro e w5 ⟨v5, rfl, O5, b5⟩
    obtain ⟨va, vc, ev, vl1, vl2⟩ := O5.form
    have X5 : Hid (Below Z.heap.size Z w5) := KP.out.trans (b5.mono KP.out.size)
    have zq : Hid (Z.heap.size ≤ q.heap.size) := KP.out.size
    replace O5 := hide O5
    (try go_simp)
    refine hK.out _ _ (fun _ => X5.out) ?_
    clear hK K
    (try simp only [zzp, zza, zzb, zzc])
    refine Ix.tk 14 ⟨some 63, .nilCheck (.tmp 49), 0, "ref.go:250", #[⟨0,.data⟩,⟨0,.phase⟩,⟨1,.phase⟩,⟨2,.phase⟩,⟨3,.phase⟩,⟨4,.phase⟩,⟨5,.phase⟩,⟨6,.phase⟩,⟨7,.phase⟩,⟨8,.phase⟩,⟨9,.phase⟩,⟨10,.phase⟩,⟨11,.phase⟩,⟨12,.phase⟩,⟨13,.phase⟩], none⟩ (.pointer (some ⟨g, p * 3, none⟩)) [15,16] ?_ X5.out ?_
    · intro wq hSw
      obtain ⟨y1, y2⟩ := KC.out wq hSw
      go_simp
    (try simp only [zzp, zza, zzb, zzc])
    refine Ix.tk 15 ⟨some 64, .fieldAddr 138 (.tmp 63) 1, 0, "ref.go:250", #[⟨14,.data⟩,⟨0,.phase⟩,⟨1,.phase⟩,⟨2,.phase⟩,⟨3,.phase⟩,⟨4,.phase⟩,⟨5,.phase⟩,⟨6,.phase⟩,⟨7,.phase⟩,⟨8,.phase⟩,⟨9,.phase⟩,⟨10,.phase⟩,⟨11,.phase⟩,⟨12,.phase⟩,⟨13,.phase⟩], none⟩ (.pointer (some ⟨g, p * 3 + 1, none⟩)) [16] ?_ X5.out ?_
    · intro wq hSw
      obtain ⟨y1, y2⟩ := KC.out wq hSw
      go_simp
    (try simp only [zzp, zza, zzb, zzc])
    have M5 := hide (MZ.out.below X5.out)
    have FF := M5.out.ff
    rw [hvf] at FF
    have d1 : w5.cell? ⟨g, p * 3 + 1, none⟩ = some V.T[p].2 := by rw [X5.out.cell (lt_of_cell w1s.out)]; exact w1s.out
    have d2 : w5.frozen? ⟨g, p * 3 + 1, none⟩ = false := FF.frozenAt _
    have s1 := (FF.stored (p * 3 + 1) v5).1
    rw [fcells_setL _ _ p _ L hln.out hiF hl] at s1
    have L1 : p < ((R.beg 2).F.set p ((R.beg 2).F[p].1, L, (R.beg 2).F[p].2.2)).length := by rw [List.length_set]; exact hiF
    have L2 : p < (V.T.set p (V.T[p].1, v5)).length := by rw [List.length_set]; exact hl
    have L3 : (V.T.set p (V.T[p].1, v5)).length = ((R.beg 2).F.set p ((R.beg 2).F[p].1, L, (R.beg 2).F[p].2.2)).length := by rw [List.length_set, List.length_set]; exact hln.out
    have d3 : ∃ u, (w5.setCell ⟨g, p * 3 + 1, none⟩ v5).cell? ⟨g, p * 3 + 2, none⟩ = some u := by
      have hx := (fcells_at _ _ L3 p L1 L2).2.2
      have := World.ownsRow.cells s1 (g := g) rfl _ _ hx
      rw [addr_add, Nat.zero_add] at this
      exact ⟨_, this⟩
    obtain ⟨u3, d3⟩ := d3
    have d4 : (w5.setCell ⟨g, p * 3 + 1, none⟩ v5).frozen? ⟨g, p * 3 + 2, none⟩ = false := s1.frozenAt _
    have s2 := (s1.stored (p * 3 + 2) (.int .i64 0)).1
    rw [fcells_setS _ _ p _ L3 L1 L2, List.getElem_set_self, List.set_set] at s2
    have g1 := But.of_grownBy (X := fun k => k = g) (grown_setCell w5 g (p * 3 + 1) v5) fun k e => by cases e; rfl
    have g2 := But.of_grownBy (X := fun k => k = g) (grown_setCell (w5.setCell ⟨g, p * 3 + 1, none⟩ v5) g (p * 3 + 2) (.int .i64 0)) fun k e => by cases e; rfl
    have gX := g1.trans g2
    have fin : Hid (Rgo Z ((w5.setCell ⟨g, p * 3 + 1, none⟩ v5).setCell ⟨g, p * 3 + 2, none⟩ (.int .i64 0)) b V ((R.beg 2).one p (f0.1, L, 0))) := by
      refine RM.file MZ.out (i := p) hiF hl (t := (V.T[p].1, v5)) ?_ ?_ ?_ ((But.of_below X5.out _).trans (gX.mono fun k _ e => .inl (by rw [hg1, e]))) (.inl rfl) (.inr fun k hk => ?_) ?_
      · rw [hvf]
        simp only [hf0'.out] at s2
        exact s2
      · exact Oc.but (OB1.out.below X5.out) gX (fun k hk e => MZ.out.ds 1 (2 * p + 6) (by omega) g hg1 (by rw [blk_N b V hl, hk, e]))
      · have := Oc.but (Oc.of (O5.out.low (Nat.zero_le _))) gX (fun k hk e => by
          have q1 := (O5.out.lt k hk).1
          have q2 := MZ.out.lt 1 g hg1
          have q3 := zq.out
          omega)
        exact this
      · have q1 := (O5.out.lt k hk).1
        have q3 := zq.out
        omega
      · intro k k1 k2
        have q1 := (O5.out.lt k k2).1
        have q2 := MZ.out.lt (2 * p + 6) k (by rw [blk_N b V hl]; exact k1)
        have q3 := zq.out
        omega
    have fin2 := hide (fin.out.behind bZ.out)
    rw [eL] at d1
    subst ev
    clear fin g1 g2 gX s1 s2 FF M5 L1 L2 L3
    refine wpAnyT_one (i := 16) (o := ⟨none, .store 30 (.tmp 64) (.tmp 62), 0, "ref.go:250", #[⟨15, .data⟩, ⟨13, .data⟩, ⟨13, .chain⟩, ⟨0, .phase⟩, ⟨1, .phase⟩, ⟨2, .phase⟩, ⟨3, .phase⟩, ⟨4, .phase⟩, ⟨5, .phase⟩, ⟨6, .phase⟩, ⟨7, .phase⟩, ⟨8, .phase⟩, ⟨9, .phase⟩, ⟨10, .phase⟩, ⟨11, .phase⟩, ⟨12, .phase⟩, ⟨13, .phase⟩], none⟩) (by kernel_rfl) rfl (fun K hK => ?_)
    go_simp
    refine hK.out _ _ (vac (by kernel_rfl)) ?_
    clear hK K
    (try simp only [zzq])
    refine wpAnyT_done (by kernel_rfl) ?_ _
    go_wp2_with fail
    go_ret
    rw [e1.out]
    exact ⟨rfl, fin2.out⟩
  · have e1 : X = (R, refN R.down R.dir s true) := by rw [← hX.out]; unfold RB.sync; rw [if_pos h0]
    rw [e1]
    refine (sync_rm_no h s hs h0).mono ?_
    rintro e w' ⟨rfl, rfl⟩
    exact ⟨rfl, Rgo.refl h⟩
end Go.Proofs.YtjehpijjneghpaaGreat.Re
