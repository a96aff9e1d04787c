/-
  The document's disk: one file turns.
-/
import Derived.Test.YtjehpijjneghpaaGreatL05
import Derived.Test.YtjehpijjneghpaaGreatL03
set_option maxRecDepth 100000
set_option maxHeartbeats 40000000
set_option linter.unusedVariables false
namespace Go.Proofs.YtjehpijjneghpaaGreat.Re
open Go.RowKit Go.Maps Go.Sort Go.Shelf Go.Proofs.YtjehpijjneghpaaGreat.Nm Go.Proofs.YtjehpijjneghpaaGreat.Dk
abbrev FD := List UInt8 × List UInt8 × Int
def RB.one (R : RB) (i : Nat) (f : FD) : RB := { R with F := R.F.set i f }
def RV.one (V : RV) (i : Nat) (t : Value × Value) : RV := { V with T := V.T.set i t }
theorem fcells_cons (e : FD) (r : List FD) (t : Value × Value) (q : List (Value × Value)) : fcells (e :: r) (t :: q) = [t.1, t.2, .int .i64 e.2.2] ++ fcells r q := by simp [fcells]
theorem fcells_setN : ∀ (F : List FD) (T : List (Value × Value)) (i : Nat) (v : Value) (b : List UInt8), T.length = F.length → ∀ (h : i < F.length) (h' : i < T.length), (fcells F T).set (i * 3) v = fcells (F.set i (b, F[i].2)) (T.set i (v, T[i].2)) := by
 intro F
 induction F with
 | nil => intro T i v b _ h; simp at h
 | cons e r ih =>
  intro T i v b hT h h'
  cases T with
  | nil => simp at h'
  | cons t q =>
   cases i with
   | zero => simp [fcells_cons]
   | succ i =>
    rw [fcells_cons, List.set_cons_succ, List.set_cons_succ, fcells_cons, show (i + 1) * 3 = i * 3 + 1 + 1 + 1 by omega]
    simp only [List.getElem_cons_succ]
    rw [← ih q i v b (by simpa using hT) (by simpa using h) (by simpa using h')]
    simp
theorem fcells_setL : ∀ (F : List FD) (T : List (Value × Value)) (i : Nat) (v : Value) (b : List UInt8), T.length = F.length → ∀ (h : i < F.length) (h' : i < T.length), (fcells F T).set (i * 3 + 1) v = fcells (F.set i (F[i].1, b, F[i].2.2)) (T.set i (T[i].1, v)) := by
 intro F
 induction F with
 | nil => intro T i v b _ h; simp at h
 | cons e r ih =>
  intro T i v b hT h h'
  cases T with
  | nil => simp at h'
  | cons t q =>
   cases i with
   | zero => simp [fcells_cons]
   | succ i =>
    rw [fcells_cons, List.set_cons_succ, List.set_cons_succ, fcells_cons, show (i + 1) * 3 + 1 = i * 3 + 1 + 1 + 1 + 1 by omega]
    simp only [List.getElem_cons_succ]
    rw [← ih q i v b (by simpa using hT) (by simpa using h) (by simpa using h')]
    simp
theorem fcells_setS : ∀ (F : List FD) (T : List (Value × Value)) (i : Nat) (n : Int), T.length = F.length → ∀ (h : i < F.length) (h' : i < T.length), (fcells F T).set (i * 3 + 2) (.int .i64 n) = fcells (F.set i (F[i].1, F[i].2.1, n)) T := by
 intro F
 induction F with
 | nil => intro T i n _ h; simp at h
 | cons e r ih =>
  intro T i n hT h h'
  cases T with
  | nil => simp at h'
  | cons t q =>
   cases i with
   | zero => simp [fcells_cons]
   | succ i =>
    rw [fcells_cons, List.set_cons_succ, fcells_cons, show (i + 1) * 3 + 2 = i * 3 + 2 + 1 + 1 + 1 by omega]
    simp only [List.getElem_cons_succ]
    rw [← ih q i n (by simpa using hT) (by simpa using h) (by simpa using h')]
    simp
theorem blk_one (b : Nat) (V : RV) {i : Nat} (hi : i < V.T.length) (t : Value × Value) (x : Nat) (hN : x ≠ 2 * i + 6) (hL : x ≠ 2 * i + 7) : blk b (V.one i t) x = blk b V x := by
 match x with
 | 0 => rfl
 | 1 => rfl
 | 2 => rfl
 | 3 => rfl
 | 4 => rfl
 | 5 => rfl
 | n + 6 =>
  have hne : n / 2 ≠ i := fun e => by
   rcases Nat.mod_two_eq_zero_or_one n with q | q <;> omega
  show (if n % 2 = 0 then ((V.T.set i t)[n / 2]?).bind (fun t => t.1.ownBlock) else ((V.T.set i t)[n / 2]?).bind (fun t => t.2.ownBlock)) = (if n % 2 = 0 then (V.T[n / 2]?).bind (fun t => t.1.ownBlock) else (V.T[n / 2]?).bind (fun t => t.2.ownBlock))
  rw [List.getElem?_set_ne (Ne.symm hne)]
theorem blk_one_N (b : Nat) (V : RV) {i : Nat} (hi : i < V.T.length) (t : Value × Value) : blk b (V.one i t) (2 * i + 6) = t.1.ownBlock := by
 have hl : i < (V.one i t).T.length := by show i < (V.T.set i t).length; rw [List.length_set]; exact hi
 rw [blk_N b (V.one i t) hl]
 have : (V.one i t).T[i] = t := List.getElem_set_self _
 rw [this]
theorem blk_one_L (b : Nat) (V : RV) {i : Nat} (hi : i < V.T.length) (t : Value × Value) : blk b (V.one i t) (2 * i + 7) = t.2.ownBlock := by
 have hl : i < (V.one i t).T.length := by show i < (V.T.set i t).length; rw [List.length_set]; exact hi
 rw [blk_L b (V.one i t) hl]
 have : (V.one i t).T[i] = t := List.getElem_set_self _
 rw [this]
theorem RM.file {w0 w' : World} {b : Nat} {R : RB} {V : RV} {i : Nat} {f : FD} {t : Value × Value} (h : RM w0 b R V) (hi : i < R.F.length) (hl : i < V.T.length) (hff : w'.ownsRow 0 138 3 V.vF R.F.length (fcells (R.F.set i f) (V.T.set i t))) (o1 : Oc 0 w' t.1 f.1) (o2 : Oc 0 w' t.2 f.2.1)
    (hb : But (fun k => V.vF.ownBlock = some k ∨ V.T[i].1.ownBlock = some k) w0 w') (n1 : t.1.ownBlock = V.T[i].1.ownBlock ∨ ∀ k, t.1.ownBlock = some k → w0.heap.size ≤ k) (n2 : t.2.ownBlock = V.T[i].2.ownBlock ∨ ∀ k, t.2.ownBlock = some k → w0.heap.size ≤ k) (n3 : ∀ k, t.1.ownBlock = some k → t.2.ownBlock ≠ some k) : Rgo w0 w' b V (R.one i f) := by
 have nx : ∀ x, x ≠ 1 → x ≠ 2 * i + 6 → ∀ k, blk b V x = some k → ¬ (V.vF.ownBlock = some k ∨ V.T[i].1.ownBlock = some k) := fun x h1 h2 k hk c => by
  rcases c with c | c
  ·exact h.ds x 1 h1 k hk c
  ·exact h.ds x (2 * i + 6) h2 k hk (by rw [blk_N b V hl]; exact c)
 have hsz := hb.size
 refine ⟨⟨V.one i t, ?_, ?_⟩, ?_⟩
 ·refine ⟨(hb.block b (heap_lt h.box) (nx 0 (by omega) (by omega) b rfl)).trans h.box, h.dd.but hb (nx 2 (by omega) (by omega)), h.oo.but hb (nx 3 (by omega) (by omega)), h.pp.but hb (nx 4 (by omega) (by omega)), ownsRow_but h.aa hb (nx 5 (by omega) (by omega)), ?_, ?_, fun j hj => ?_, ?_, ?_⟩
  ·show w'.ownsRow 0 _ 3 V.vF (R.F.set i f).length (fcells (R.F.set i f) (V.T.set i t))
   rw [List.length_set]
   exact hff
  ·show (V.T.set i t).length = (R.F.set i f).length
   rw [List.length_set, List.length_set]
   exact h.ln
  ·have hj' : j < R.F.length := by have : j < (R.F.set i f).length := hj; rw [List.length_set] at this; exact this
   have hjl : j < V.T.length := by rw [h.ln]; exact hj'
   by_cases e : j = i
   ·subst e
    have e1 : ((V.one j t).T[j]'(by show j < (V.T.set j t).length; rw [List.length_set]; exact hjl)) = t := List.getElem_set_self _
    have e2 : ((R.one j f).F[j]'hj) = f := List.getElem_set_self _
    rw [e1, e2]
    exact ⟨o1, o2⟩
   ·have e1 : ((V.one i t).T[j]'(by show j < (V.T.set i t).length; rw [List.length_set]; exact hjl)) = V.T[j] := List.getElem_set_ne (Ne.symm e) _
    have e2 : ((R.one i f).F[j]'hj) = R.F[j] := List.getElem_set_ne (Ne.symm e) _
    rw [e1, e2]
    obtain ⟨a, q⟩ := h.nn j hj'
    exact ⟨Oc.but a hb (fun k hk => nx (2 * j + 6) (by omega) (by omega) k (by rw [blk_N b V hjl]; exact hk)), Oc.but q hb (fun k hk => nx (2 * j + 7) (by omega) (by omega) k (by rw [blk_L b V hjl]; exact hk))⟩
  ·refine h.ds.step (H := w0.heap.size) h.lt (fun x => ?_) (fun x y hxy k hk h1 h2 => ?_)
   ·by_cases xN : x = 2 * i + 6
    ·rw [xN, blk_one_N b V hl t, blk_N b V hl]; exact n1
    ·by_cases xL : x = 2 * i + 7
     ·rw [xL, blk_one_L b V hl t, blk_L b V hl]; exact n2
     ·exact .inl (blk_one b V hl t x xN xL)
   ·have old : ∀ z, z ≠ 2 * i + 6 → z ≠ 2 * i + 7 → blk b (V.one i t) z ≠ some k := fun z zN zL hz => by
      rw [blk_one b V hl t z zN zL] at hz
      have := h.lt z k hz
      omega
    have isx : x = 2 * i + 6 ∨ x = 2 * i + 7 := by
     by_cases a : x = 2 * i + 6
     ·exact .inl a
     ·by_cases c : x = 2 * i + 7
      ·exact .inr c
      ·exact absurd h1 (old x a c)
    have isy : y = 2 * i + 6 ∨ y = 2 * i + 7 := by
     by_cases a : y = 2 * i + 6
     ·exact .inl a
     ·by_cases c : y = 2 * i + 7
      ·exact .inr c
      ·exact absurd h2 (old y a c)
    rcases isx with rfl | rfl
    ·rcases isy with rfl | rfl
     ·exact hxy rfl
     ·rw [blk_one_N b V hl t] at h1; rw [blk_one_L b V hl t] at h2; exact n3 k h1 h2
    ·rcases isy with rfl | rfl
     ·rw [blk_one_L b V hl t] at h1; rw [blk_one_N b V hl t] at h2; exact n3 k h2 h1
     ·exact hxy rfl
  ·intro x k hk
   by_cases xN : x = 2 * i + 6
   ·rw [xN, blk_one_N b V hl t] at hk; exact (o1.lt k hk).2
   ·by_cases xL : x = 2 * i + 7
    ·rw [xL, blk_one_L b V hl t] at hk; exact (o2.lt k hk).2
    ·rw [blk_one b V hl t x xN xL] at hk
     have := h.lt x k hk
     omega
 ·intro x k hk
  by_cases xN : x = 2 * i + 6
  ·subst xN
   rw [blk_one_N b V hl t] at hk
   rcases n1 with e | e
   ·exact .inl (by rw [blk_N b V hl]; exact e.symm.trans hk)
   ·exact .inr (e k hk)
  ·by_cases xL : x = 2 * i + 7
   ·subst xL
    rw [blk_one_L b V hl t] at hk
    rcases n2 with e | e
    ·exact .inl (by rw [blk_L b V hl]; exact e.symm.trans hk)
    ·exact .inr (e k hk)
   ·rw [blk_one b V hl t x xN xL] at hk
    exact .inl hk
 ·exact hb.mono fun k _ c => by
    rcases c with c | c
    ·exact ⟨1, c⟩
    ·exact ⟨2 * i + 6, by rw [blk_N b V hl]; exact c⟩
def RB.fOf (R : RB) (p : Nat) : FD := (R.F[p]?).getD ([], [], 0)
def flD (f : FD) : Fl := ⟨f.1, f.2.1, (f.2.2 - (f.2.1.length : Int)).toNat⟩
def RB.sync (R : RB) (s : ByteArray) : RB × Int :=
 if refN R.down R.dir s true ≠ 0 then (R, refN R.down R.dir s true)
 else if R.flt.2.1 = 1 then ((R.beg 2).one (R.pOf s) ((R.fOf (R.pOf s)).1, (R.fOf (R.pOf s)).2.1, ((R.fOf (R.pOf s)).1.length : Int)), 20)
 else if R.flt.2.1 = 3 then (R.beg 2, 22)
 else ((R.beg 2).one (R.pOf s) ((R.fOf (R.pOf s)).1, (R.fOf (R.pOf s)).2.1 ++ svd (flD (R.fOf (R.pOf s))) ((R.fOf (R.pOf s)).1.length - (R.fOf (R.pOf s)).2.1.length), 0), 0)
theorem sync_rm_no {w : World} {b : Nat} {R : RB} {V : RV} (h : RM w b R V) (s : ByteArray) (hs : s.size ≤ maxLen) (h0 : refN R.down R.dir s true ≠ 0) :
    Calls Tryz.prog 48 #[.pointer (some ⟨b, 0, none⟩), .string s] w fun e w' => e = .returned (.int .i64 (refN R.down R.dir s true)) ∧ w' = w := by
 have hR := refused_rm h s hs true
 clear h
 generalize refN R.down R.dir s true = rn at *
 go_enter Tryz.func48, Tryz.ntmps48
 go_wp2_with (go_at_call 95; refine hR.mono ?_; rintro e w1 ⟨rfl, e1'⟩; subst w1)
 go_ret
 exact ⟨rfl, rfl⟩
theorem sync_rm_bad {w : World} {b : Nat} {R : RB} {V : RV} (h : RM w b R V) (ho : R.ok) (hc : R.c7 ≤ 1000000000) (hg : ∀ e ∈ R.dir, e.2 < R.F.length) (hla : ∀ f ∈ R.F, f.2.1.length ≤ f.1.length ∧ (f.1.length : Int) ≤ 100000000) (s : ByteArray) (hs : s.size ≤ maxLen) (h13 : R.flt.2.1 = 1 ∨ R.flt.2.1 = 3) :
    Calls Tryz.prog 48 #[.pointer (some ⟨b, 0, none⟩), .string s] w fun e w' => e = .returned (.int .i64 (R.sync s).2) ∧ Rgo w w' b V (R.sync s).1 := by
 obtain ⟨X, hX⟩ : ∃ X, Hid (R.sync s = X) := ⟨_, rfl⟩
 rw [hX.out]
 by_cases h0 : refN R.down R.dir s true = 0
 ·have hR := refused_rm h s hs true
  rw [h0] at hR
  have hB := begins_rm h ho hc 2 (by omega)
  obtain ⟨hf, hp, _⟩ := refN_there hg h0
  obtain ⟨be1, be2, _⟩ := beg_same R 2
  have hFi : Hid (∀ q, RM q b (R.beg 2) V → Calls Tryz.prog 96 #[V.vD, .string s] q fun e w' => e = .returned (.int .i64 (R.pOf s : Int)) ∧ w' = q) := fun q hq => by
   have := find_ref q V.vD (R.beg 2).dir s hq.dd.tr
   rw [be2, hf] at this
   exact this
  have hvd : ∃ da dn dc, V.vD = .slice da dn dc := by rcases h.dd.form with ⟨e, _⟩ | ⟨g, cap, e, _⟩ <;> exact ⟨_, _, _, e⟩
  obtain ⟨da, dn, dc, hvd⟩ := hvd
  obtain ⟨F, hF⟩ : ∃ F : Ft, Hid (R.flt = F) := ⟨R.flt, rfl⟩
  rw [hF.out] at hB
  obtain ⟨fa, fk, fp⟩ := F
  unfold fv at hB
  dsimp only at hB
  by_cases k3 : fk = 3
  ·have e1 : Hid (X = (R.beg 2, 22)) := by show _ = _; rw [← hX.out]; unfold RB.sync; rw [if_neg (by rw [h0]; simp), hF.out, if_neg (by show ¬ fk = 1; omega), if_pos k3]
   subst k3
   rw [hvd] at hFi
   clear h ho hc
   go_enter Tryz.func48, Tryz.ntmps48
   go_upto_region 5 with (first
    | (go_at_call 95; refine hR.mono ?_; rintro e w1 ⟨rfl, e1'⟩; subst w1)
    | (go_at_call 97; refine hB.mono ?_; rintro e w1 ⟨rfl, M1, b1⟩; replace M1 := hide M1; replace b1 := hide b1))
   have z1 := heap_alloc_new w1 (.cells #[.int .i64 fa, .int .i64 3, .int .i64 fp] 118)
   have BX := hide (box_below w1 (.cells #[.int .i64 fa, .int .i64 3, .int .i64 fp] 118))
   obtain ⟨Y, hY⟩ : ∃ Y, Hid (w1.alloc (.cells #[.int .i64 fa, .int .i64 3, .int .i64 fp] 118) = Y) := ⟨_, rfl⟩
   rw [hY.out] at z1 BX ⊢
   have y1 : Y.cell? ⟨w1.heap.size, 1, none⟩ = some (.int .i64 3) := by simp [World.cell?, z1]
   have MY := hide (M1.out.below BX.out)
   have bY : Hid (But (fun k => k = b) w Y) := b1.out.trans (But.of_below BX.out _)
   clear z1
   obtain ⟨g, cap, hvf, fl1, fl2, hl, z0, z1, z2⟩ := MY.out.at (i := R.pOf s) (by rw [be1]; exact hp)
   have c1 : Y.cell? ⟨b, 1, none⟩ = some V.vF := (MY.out.cell 1).trans rfl
   have c2 : Y.cell? ⟨b, 2, none⟩ = some V.vD := (MY.out.cell 2).trans rfl
   rw [hvf, be1] at c1
   rw [hvd] at c2
   rw [be1] at fl1
   generalize hpp : R.pOf s = p at *
   have ip : (p : Int) < (R.F.length : Int) := by omega
   clear hpp
   go_quiet ((go_at_call 96; exact Calls.quiet_of_same (hFi.out _ (MY.out.below (Qt.below ⟨_, rfl⟩ _)))))
   have B3 : Hid (Below Y.heap.size Y (Y.drewN nq)) := Qt.below ⟨nq, rfl⟩ _
   have MZ := hide (MY.out.below B3.out)
   have y2 : (Y.drewN nq).cell? ⟨w1.heap.size, 1, none⟩ = some (.int .i64 3) := by rw [B3.out.cell (lt_of_cell y1)]; exact y1
   have bZ : Hid (But (fun k => k = b) w (Y.drewN nq)) := bY.out.trans (But.of_below B3.out _)
   generalize Y.drewN nq = Z at *
   go_wp2_with fail
   go_ret
   rw [e1.out]
   exact ⟨rfl, Rgo.same MZ.out bZ.out⟩
  ·by_cases k1 : fk = 1
   ·have e1 : Hid (X = ((R.beg 2).one (R.pOf s) ((R.fOf (R.pOf s)).1, (R.fOf (R.pOf s)).2.1, ((R.fOf (R.pOf s)).1.length : Int)), 20)) := by show _ = _; rw [← hX.out]; unfold RB.sync; rw [if_neg (by rw [h0]; simp), hF.out, if_pos k1]
    subst k1
    rw [hvd] at hFi
    clear h ho hc
    go_enter Tryz.func48, Tryz.ntmps48
    go_upto_region 5 with (first
     | (go_at_call 95; refine hR.mono ?_; rintro e w1 ⟨rfl, e1'⟩; subst w1)
     | (go_at_call 97; refine hB.mono ?_; rintro e w1 ⟨rfl, M1, b1⟩; replace M1 := hide M1; replace b1 := hide b1))
    have z1 := heap_alloc_new w1 (.cells #[.int .i64 fa, .int .i64 1, .int .i64 fp] 118)
    have BX := hide (box_below w1 (.cells #[.int .i64 fa, .int .i64 1, .int .i64 fp] 118))
    obtain ⟨Y, hY⟩ : ∃ Y, Hid (w1.alloc (.cells #[.int .i64 fa, .int .i64 1, .int .i64 fp] 118) = Y) := ⟨_, rfl⟩
    rw [hY.out] at z1 BX ⊢
    have y1 : Y.cell? ⟨w1.heap.size, 1, none⟩ = some (.int .i64 1) := by simp [World.cell?, z1]
    have MY := hide (M1.out.below BX.out)
    have bY : Hid (But (fun k => k = b) w Y) := b1.out.trans (But.of_below BX.out _)
    clear z1
    obtain ⟨g, cap, hvf, fl1, fl2, hl, z0, z1, z2⟩ := MY.out.at (i := R.pOf s) (by rw [be1]; exact hp)
    have c1 : Y.cell? ⟨b, 1, none⟩ = some V.vF := (MY.out.cell 1).trans rfl
    have c2 : Y.cell? ⟨b, 2, none⟩ = some V.vD := (MY.out.cell 2).trans rfl
    rw [hvf, be1] at c1
    rw [hvd] at c2
    rw [be1] at fl1
    have hfo : R.fOf (R.pOf s) = R.F[R.pOf s] := by unfold RB.fOf; rw [List.getElem?_eq_getElem hp]; rfl
    have hlap := hla _ (List.getElem_mem hp)
    rw [hfo] at e1
    obtain ⟨ob1, ob2⟩ := MY.out.nn (R.pOf s) (by rw [be1]; exact hp)
    simp only [be1] at ob1 ob2 z2
    have hg1 : V.vF.ownBlock = some g := by rw [hvf]; exact own_some _ _ _
    have hff0 := MY.out.ff
    generalize hpp : R.pOf s = p at *
    have ip : (p : Int) < (R.F.length : Int) := by omega
    clear hpp
    go_quiet ((go_at_call 96; exact Calls.quiet_of_same (hFi.out _ (MY.out.below (Qt.below ⟨_, rfl⟩ _)))))
    have B3 : Hid (Below Y.heap.size Y (Y.drewN nq)) := Qt.below ⟨nq, rfl⟩ _
    have MZ := hide (MY.out.below B3.out)
    have y2 : (Y.drewN nq).cell? ⟨w1.heap.size, 1, none⟩ = some (.int .i64 1) := by rw [B3.out.cell (lt_of_cell y1)]; exact y1
    have bZ : Hid (But (fun k => k = b) w (Y.drewN nq)) := bY.out.trans (But.of_below B3.out _)
    generalize Y.drewN nq = Z at *
    obtain ⟨ta, tc, et, tl1, tl2⟩ := ob1.form
    have hTs : V.T.set p V.T[p] = V.T := List.set_getElem_self hl
    have fr2 : Z.frozen? ⟨g, p * 3 + 2, none⟩ = false := by have q := MZ.out.ff; rw [hvf] at q; exact q.frozenAt _
    have w0 : Z.cell? ⟨g, p * 3, none⟩ = some V.T[p].1 := by rw [B3.out.cell (lt_of_cell z0)]; exact z0
    have w2 : Z.cell? ⟨g, p * 3 + 2, none⟩ = some (.int .i64 R.F[p].2.2) := by rw [B3.out.cell (lt_of_cell z2)]; exact z2
    have gX := But.of_grownBy (X := fun k => k = g) (grown_setCell Z g (p * 3 + 2) (.int .i64 (R.F[p].1.length : Int))) fun k e => by cases e; rfl
    have fin : Hid (Rgo Z (Z.setCell ⟨g, p * 3 + 2, none⟩ (.int .i64 (R.F[p].1.length : Int))) b V ((R.beg 2).one p (R.F[p].1, R.F[p].2.1, (R.F[p].1.length : Int)))) := by
     refine RM.file MZ.out (i := p) (by rw [be1]; exact hp) hl (t := V.T[p]) ?_ ?_ ?_ (gX.mono fun k _ e => .inl (by rw [hg1, e])) (.inl rfl) (.inl rfl) ?_
     ·have q := MZ.out.ff
      rw [hvf] at q ⊢
      have q2 := (q.stored (p * 3 + 2) (.int .i64 (R.F[p].1.length : Int))).1
      rw [fcells_setS _ _ p _ MZ.out.ln (by rw [be1]; exact hp) hl] at q2
      rw [hTs]
      simp only [be1] at q2 ⊢
      exact q2
     ·exact Oc.but (ob1.below B3.out) gX (fun k hk e => MY.out.ds 1 (2 * p + 6) (by omega) g hg1 (by rw [blk_N b V hl, hk, e]))
     ·exact Oc.but (ob2.below B3.out) gX (fun k hk e => MY.out.ds 1 (2 * p + 7) (by omega) g hg1 (by rw [blk_L b V hl, hk, e]))
     ·intro k k1 k2
      exact MY.out.ds (2 * p + 6) (2 * p + 7) (by omega) k (by rw [blk_N b V hl]; exact k1) (by rw [blk_L b V hl]; exact k2)
    rw [et] at w0
    have fin2 := hide (fin.out.behind bZ.out)
    have hTo2 : Hid (∀ q, Calls Tryz.prog 98 #[.int .i64 1] q fun e w' => e = .returned (.int .i64 20) ∧ w' = q) := fun q => told_ref q 1
    have y3 : (Z.setCell ⟨g, p * 3 + 2, none⟩ (.int .i64 (R.F[p].1.length : Int))).cell? ⟨w1.heap.size, 1, none⟩ = some (.int .i64 1) := by
     have hne : ¬ w1.heap.size = g := fun e => by have := M1.out.lt 1 g hg1; omega
     exact cell_but y2 gX hne
    clear fin gX hff0
    generalize R.F[p].1.length = bl at *
    go_wp2_with (go_at_call 98; refine (hTo2.out _).mono ?_; rintro e w2 ⟨rfl, e2⟩; subst w2)
    go_ret
    rw [e1.out]
    exact ⟨rfl, fin2.out⟩
   ·rw [hF.out] at h13
    rcases h13 with c | c
    ·exact absurd c k1
    ·exact absurd c k3
 ·have e1 : X = (R, refN R.down R.dir s true) := by rw [← hX.out]; unfold RB.sync; rw [if_pos h0]
  rw [e1]
  refine (sync_rm_no h s hs h0).mono ?_
  rintro e w' ⟨rfl, rfl⟩
  exact ⟨rfl, Rgo.refl h⟩
open Ix (wp_region_T wpAnyT wpAnyT_take wpAnyT_one wpAnyT_done vac)
theorem flt_no4 {R : RB} (h : R.ok) : R.flt.2.1 ≠ 4 := by
 unfold RB.flt rfl1
 cases hf : R.fs.find? (fun f => f.1 == R.si + 1) with
 | none => simp [zf]
 | some f => exact h.no4 f (List.mem_of_find?_eq_some hf)
theorem sync_rm {w : World} {b : Nat} {R : RB} {V : RV} (h : RM w b R V) (ho : R.ok) (hc : R.c7 ≤ 1000000000) (hg : ∀ e ∈ R.dir, e.2 < R.F.length) (hla : ∀ f ∈ R.F, f.2.1.length ≤ f.1.length ∧ (f.1.length : Int) ≤ 100000000) (s : ByteArray) (hs : s.size ≤ maxLen) :
    Calls Tryz.prog 48 #[.pointer (some ⟨b, 0, none⟩), .string s] w fun e w' => e = .returned (.int .i64 (R.sync s).2) ∧ Rgo w w' b V (R.sync s).1 := by
 by_cases h13 : R.flt.2.1 = 1 ∨ R.flt.2.1 = 3
 ·exact sync_rm_bad h ho hc hg hla s hs h13
 obtain ⟨X, hX⟩ : ∃ X, Hid (R.sync s = X) := ⟨_, rfl⟩
 rw [hX.out]
 by_cases h0 : refN R.down R.dir s true = 0
 ·have hR := refused_rm h s hs true
  rw [h0] at hR
  have hB := begins_rm h ho hc 2 (by omega)
  obtain ⟨hf, hp, _⟩ := refN_there hg h0
  obtain ⟨be1, be2, _⟩ := beg_same R 2
  have hFi : Hid (∀ q, RM q b (R.beg 2) V → Calls Tryz.prog 96 #[V.vD, .string s] q fun e w' => e = .returned (.int .i64 (R.pOf s : Int)) ∧ w' = q) := fun q hq => by
   have := find_ref q V.vD (R.beg 2).dir s hq.dd.tr
   rw [be2, hf] at this
   exact this
  have hvd : ∃ da dn dc, V.vD = .slice da dn dc := by rcases h.dd.form with ⟨e, _⟩ | ⟨g, cap, e, _⟩ <;> exact ⟨_, _, _, e⟩
  obtain ⟨da, dn, dc, hvd⟩ := hvd
  have k4 : R.flt.2.1 ≠ 4 := flt_no4 ho
  obtain ⟨F, hF⟩ : ∃ F : Ft, Hid (R.flt = F) := ⟨R.flt, rfl⟩
  rw [hF.out] at hB h13 k4
  obtain ⟨fa, fk, fp⟩ := F
  unfold fv at hB
  dsimp only at hB h13 k4
  have k1 : ¬ fk = 1 := fun c => h13 (.inl c)
  have k3 : ¬ fk = 3 := fun c => h13 (.inr c)
  have e1 : Hid (X = ((R.beg 2).one (R.pOf s) ((R.fOf (R.pOf s)).1, (R.fOf (R.pOf s)).2.1 ++ svd (flD (R.fOf (R.pOf s))) ((R.fOf (R.pOf s)).1.length - (R.fOf (R.pOf s)).2.1.length), 0), 0)) := by show _ = _; rw [← hX.out]; unfold RB.sync; rw [if_neg (by rw [h0]; simp), hF.out, if_neg k1, if_neg k3]
  rw [hvd] at hFi
  clear h ho hc h13
  go_enter Tryz.func48, Tryz.ntmps48
  go_upto_region 5 with (first
   | (go_at_call 95; refine hR.mono ?_; rintro e w1 ⟨rfl, e1'⟩; subst w1)
   | (go_at_call 97; refine hB.mono ?_; rintro e w1 ⟨rfl, M1, b1⟩; replace M1 := hide M1; replace b1 := hide b1))
  have z1 := heap_alloc_new w1 (.cells #[.int .i64 fa, .int .i64 fk, .int .i64 fp] 118)
  have BX := hide (box_below w1 (.cells #[.int .i64 fa, .int .i64 fk, .int .i64 fp] 118))
  obtain ⟨Y, hY⟩ : ∃ Y, Hid (w1.alloc (.cells #[.int .i64 fa, .int .i64 fk, .int .i64 fp] 118) = Y) := ⟨_, rfl⟩
  rw [hY.out] at z1 BX ⊢
  have y1 : Y.cell? ⟨w1.heap.size, 1, none⟩ = some (.int .i64 fk) := by simp [World.cell?, z1]
  have MY := hide (M1.out.below BX.out)
  have bY : Hid (But (fun k => k = b) w Y) := b1.out.trans (But.of_below BX.out _)
  clear z1
  obtain ⟨g, cap, hvf, fl1, fl2, hl, z0, z1, z2⟩ := MY.out.at (i := R.pOf s) (by rw [be1]; exact hp)
  have c1 : Y.cell? ⟨b, 1, none⟩ = some V.vF := (MY.out.cell 1).trans rfl
  have c2 : Y.cell? ⟨b, 2, none⟩ = some V.vD := (MY.out.cell 2).trans rfl
  rw [hvf, be1] at c1
  rw [hvd] at c2
  rw [be1] at fl1
  have hfo : R.fOf (R.pOf s) = R.F[R.pOf s] := by unfold RB.fOf; rw [List.getElem?_eq_getElem hp]; rfl
  have hlap := hla _ (List.getElem_mem hp)
  rw [hfo] at e1
  obtain ⟨ob1, ob2⟩ := MY.out.nn (R.pOf s) (by rw [be1]; exact hp)
  simp only [be1] at ob1 ob2 z2
  have hg1 : V.vF.ownBlock = some g := by rw [hvf]; exact own_some _ _ _
  generalize hpp : R.pOf s = p at *
  have ip : (p : Int) < (R.F.length : Int) := by omega
  clear hpp
  go_quiet ((go_at_call 96; exact Calls.quiet_of_same (hFi.out _ (MY.out.below (Qt.below ⟨_, rfl⟩ _)))))
  have B3 : Hid (Below Y.heap.size Y (Y.drewN nq)) := Qt.below ⟨nq, rfl⟩ _
  have MZ := hide (MY.out.below B3.out)
  have y2 : (Y.drewN nq).cell? ⟨w1.heap.size, 1, none⟩ = some (.int .i64 fk) := by rw [B3.out.cell (lt_of_cell y1)]; exact y1
  have bZ : Hid (But (fun k => k = b) w (Y.drewN nq)) := bY.out.trans (But.of_below B3.out _)
  generalize Y.drewN nq = Z at *
  have en : Hid (((R.F[p].1.length - R.F[p].2.1.length : Nat) : Int) = (R.F[p].1.length : Int) - (R.F[p].2.1.length : Int)) := by show _ = _; have := hlap.1; omega
  have w0 : Z.cell? ⟨g, p * 3, none⟩ = some V.T[p].1 := by rw [B3.out.cell (lt_of_cell z0)]; exact z0
  have w1' : Z.cell? ⟨g, p * 3 + 1, none⟩ = some V.T[p].2 := by rw [B3.out.cell (lt_of_cell z1)]; exact z1
  have w2 : Z.cell? ⟨g, p * 3 + 2, none⟩ = some (.int .i64 R.F[p].2.2) := by rw [B3.out.cell (lt_of_cell z2)]; exact z2
  have ob1Z := ob1.below B3.out
  have ob2Z := ob2.below B3.out
  have hL : Hid (∀ q, Below Z.heap.size Z q → Calls Tryz.prog 90 #[.pointer (some ⟨g, p * 3, none⟩), .int .i64 ((R.F[p].1.length : Int) - (R.F[p].2.1.length : Int))] q fun e w' => ∃ v', e = .returned v' ∧ Ob q.heap.size w' v' (R.F[p].2.1 ++ svd (flD R.F[p]) (R.F[p].1.length - R.F[p].2.1.length)) ∧ Below q.heap.size q w') := fun q hq => by
   rw [← en.out]
   refine lasting_ref q g (p * 3) V.T[p].1 V.T[p].2 (flD R.F[p]) R.F[p].2.2 _ (by rw [hq.cell (lt_of_cell w0)]; exact w0) (by rw [hq.cell (lt_of_cell w1')]; exact w1') (by rw [hq.cell (lt_of_cell w2)]; exact w2) (ob1Z.below hq).sl (ob2Z.below hq).sl (by have := hlap.1; show R.F[p].2.1.length + (R.F[p].1.length - R.F[p].2.1.length) ≤ R.F[p].1.length; omega) (fun k => ?_) hlap.2
   show ((R.F[p].2.1.length + k : Nat) : Int) < R.F[p].2.2 ↔ k < (R.F[p].2.2 - (R.F[p].2.1.length : Int)).toNat
   omega
  obtain ⟨ta, tc, et, tl1, tl2⟩ := ob1.form
  obtain ⟨la, lc, eL, ll1, ll2⟩ := ob2.form
  have OB1 := hide ob1Z
  have w1s := hide w1'
  rw [et] at w0
  rw [eL] at w1'
  have lb1 : (R.F[p].2.1.length : Int) ≤ (R.F[p].1.length : Int) := by have := hlap.1; omega
  have lb2 := hlap.2
  have KC : Hid (∀ q : World, Below Z.heap.size Z q → q.cell? ⟨g, p * 3, none⟩ = some (.slice ta R.F[p].1.length tc) ∧ q.cell? ⟨g, p * 3 + 1, none⟩ = some (.slice la R.F[p].2.1.length lc)) := fun q hq => ⟨by rw [hq.cell (lt_of_cell w0)]; exact w0, by rw [hq.cell (lt_of_cell w1')]; exact w1'⟩
  have hwr : IntKind.i64.wrap ((R.F[p].1.length : Int) - (R.F[p].2.1.length : Int)) = (R.F[p].1.length : Int) - (R.F[p].2.1.length : Int) := by rw [IntKind.wrap_i64]; omega
  obtain ⟨f0, hf0⟩ : ∃ f0 : FD, Hid (R.F[p] = f0) := ⟨R.F[p], rfl⟩
  rw [hf0.out] at hL e1 KC hwr tl1 ll1 lb1 lb2 OB1 w0 w1' w2
  have hln := MZ.out.ln
  have hiF : p < (R.beg 2).F.length := by rw [be1]; exact hp
  have hf0' : Hid ((R.beg 2).F[p] = f0) := by show _ = _; simp only [be1]; exact hf0.out
  obtain ⟨L, hLe⟩ : ∃ L : List UInt8, Hid (f0.2.1 ++ svd (flD f0) (f0.1.length - f0.2.1.length) = L) := ⟨f0.2.1 ++ svd (flD f0) (f0.1.length - f0.2.1.length), rfl⟩
  rw [hLe.out] at hL e1
  obtain ⟨bl, hbl⟩ : ∃ bl : Nat, Hid (f0.1.length = bl) := ⟨f0.1.length, rfl⟩
  obtain ⟨ll, hll⟩ : ∃ ll : Nat, Hid (f0.2.1.length = ll) := ⟨f0.2.1.length, rfl⟩
  rw [hbl.out] at hL KC hwr tl1 lb1 lb2 w0
  rw [hll.out] at hL KC hwr ll1 lb1 w1'
  replace hln := hide hln
  replace hlap := hide hlap
  have q1 : (fk == 1) = false := by simpa using k1
  have q3 : (fk == 3) = false := by simpa using k3
  have q4 : (fk == 4) = false := by simpa using k4
  go_upto_region 13 with fail
  have KP : Hid (Below Z.heap.size Z Z.drew) := (Below.refl _ _).drew
  clear ob1 ob2 ob1Z ob2Z z0 z1 z2 w0 w1' w2 c1 c2 y1 y2 hB hR hFi
  refine wp_region_T (fun q => Below Z.heap.size Z q) 16 (by kernel_rfl) ?_
  generalize Z.drew = q at *
  refine Ix.tk 0 ⟨some 49, .move (.tmp 7), _, _, _, _⟩ (.pointer (some ⟨g, p * 3, none⟩)) [14,15,16] ?_ KP.out ?_
  ·intro wq hSw
   obtain ⟨y1, y2⟩ := KC.out wq hSw
   go_simp
  (try simp only [zzp, zzb, zzc])
  refine Ix.tk 1 ⟨some 50, .move (.tmp 7), _, _, _, _⟩ (.pointer (some ⟨g, p * 3, none⟩)) [13,16] ?_ KP.out ?_
  ·intro wq hSw
   obtain ⟨y1, y2⟩ := KC.out wq hSw
   go_simp
  (try simp only [zzp, zzb, zzc])
  refine Ix.tk 2 ⟨some 51, .move (.tmp 7), _, _, _, _⟩ (.pointer (some ⟨g, p * 3, none⟩)) [3,4,5,6,12,13,16] ?_ KP.out ?_
  ·intro wq hSw
   obtain ⟨y1, y2⟩ := KC.out wq hSw
   go_simp
  (try simp only [zzp, zzb, zzc])
  refine Ix.tk 3 ⟨some 52, .nilCheck (.tmp 51), _, _, _, _⟩ (.pointer (some ⟨g, p * 3, none⟩)) [4,5,6,12,13,16] ?_ KP.out ?_
  ·intro wq hSw
   obtain ⟨y1, y2⟩ := KC.out wq hSw
   go_simp
  (try simp only [zzp, zzb, zzc])
  refine Ix.tk 4 ⟨some 53, .fieldAddr 138 (.tmp 52) 0, _, _, _, _⟩ (.pointer (some ⟨g, p * 3, none⟩)) [5,6,12,13,16] ?_ KP.out ?_
  ·intro wq hSw
   obtain ⟨y1, y2⟩ := KC.out wq hSw
   go_simp
  (try simp only [zzp, zzb, zzc])
  refine Ix.tk 5 ⟨some 54, .load 30 (.tmp 53), _, _, _, _⟩ (.slice ta bl tc) [6,12,13,16] ?_ KP.out ?_
  ·intro wq hSw
   obtain ⟨y1, y2⟩ := KC.out wq hSw
   go_simp
  (try simp only [zzp, zzb, zzc])
  refine Ix.tk 6 ⟨some 55, .call { callee := .builtin .len, args := #[.tmp 54], argTypes := #[30] }, _, _, _, _⟩ (.int .i64 (bl : Int)) [12,13,16] ?_ KP.out ?_
  ·intro wq hSw
   obtain ⟨y1, y2⟩ := KC.out wq hSw
   go_simp
  (try simp only [zzp, zzb, zzc])
  refine Ix.tk 7 ⟨some 56, .move (.tmp 7), _, _, _, _⟩ (.pointer (some ⟨g, p * 3, none⟩)) [8,9,10,11,12,13,16] ?_ KP.out ?_
  ·intro wq hSw
   obtain ⟨y1, y2⟩ := KC.out wq hSw
   go_simp
  (try simp only [zzp, zzb, zzc])
  refine Ix.tk 8 ⟨some 57, .nilCheck (.tmp 56), _, _, _, _⟩ (.pointer (some ⟨g, p * 3, none⟩)) [9,10,11,12,13,16] ?_ KP.out ?_
  ·intro wq hSw
   obtain ⟨y1, y2⟩ := KC.out wq hSw
   go_simp
  (try simp only [zzp, zzb, zzc])
  refine Ix.tk 9 ⟨some 58, .fieldAddr 138 (.tmp 57) 1, _, _, _, _⟩ (.pointer (some ⟨g, p * 3 + 1, none⟩)) [10,11,12,13,16] ?_ KP.out ?_
  ·intro wq hSw
   obtain ⟨y1, y2⟩ := KC.out wq hSw
   go_simp
  (try simp only [zzp, zzb, zzc])
  refine Ix.tk 10 ⟨some 59, .load 30 (.tmp 58), _, _, _, _⟩ (.slice la ll lc) [11,12,13,16] ?_ KP.out ?_
  ·intro wq hSw
   obtain ⟨y1, y2⟩ := KC.out wq hSw
   go_simp
  (try simp only [zzp, zzb, zzc])
  refine Ix.tk 11 ⟨some 60, .call { callee := .builtin .len, args := #[.tmp 59], argTypes := #[30] }, _, _, _, _⟩ (.int .i64 (ll : Int)) [12,13,16] ?_ KP.out ?_
  ·intro wq hSw
   obtain ⟨y1, y2⟩ := KC.out wq hSw
   go_simp
  (try simp only [zzp, zzb, zzc])
  refine Ix.tk 12 ⟨some 61, .binOp .sub 3 (.tmp 55) (.tmp 60) 3, _, _, _, _⟩ (.int .i64 ((bl : Int) - (ll : Int))) [13,16] ?_ KP.out ?_
  ·intro wq hSw
   obtain ⟨y1, y2⟩ := KC.out wq hSw
   go_simp
  (try simp only [zzp, zzb, zzc])
  refine wpAnyT_one (i := 13) (o := ⟨some 62, .call { callee := .value (.func 90), args := #[.tmp 50, .tmp 61], argTypes := #[140, 3] }, _, _, _, _⟩) (by kernel_rfl) rfl (fun K hK => ?_)
  go_simp
  go_at_call 90
  refine (hL.out q KP.out).mono ?_
  rintro e w5 ⟨v5, rfl, O5, b5⟩
  obtain ⟨va, vc, ev, vl1, vl2⟩ := O5.form
  have X5 : Hid (Below Z.heap.size Z w5) := KP.out.trans (b5.mono KP.out.size)
  have zq : Hid (Z.heap.size ≤ q.heap.size) := KP.out.size
  replace O5 := hide O5
  (try go_simp)
  refine hK.out _ _ (fun _ => X5.out) ?_
  clear hK K
  (try simp only [zzp, zzb, zzc])
  refine Ix.tk 14 ⟨some 63, .nilCheck (.tmp 49), _, _, _, _⟩ (.pointer (some ⟨g, p * 3, none⟩)) [15,16] ?_ X5.out ?_
  ·intro wq hSw
   obtain ⟨y1, y2⟩ := KC.out wq hSw
   go_simp
  (try simp only [zzp, zzb, zzc])
  refine Ix.tk 15 ⟨some 64, .fieldAddr 138 (.tmp 63) 1, _, _, _, _⟩ (.pointer (some ⟨g, p * 3 + 1, none⟩)) [16] ?_ X5.out ?_
  ·intro wq hSw
   obtain ⟨y1, y2⟩ := KC.out wq hSw
   go_simp
  (try simp only [zzp, zzb, zzc])
  have M5 := hide (MZ.out.below X5.out)
  have FF := M5.out.ff
  rw [hvf] at FF
  have d1 : w5.cell? ⟨g, p * 3 + 1, none⟩ = some V.T[p].2 := by rw [X5.out.cell (lt_of_cell w1s.out)]; exact w1s.out
  have d2 : w5.frozen? ⟨g, p * 3 + 1, none⟩ = false := FF.frozenAt _
  have s1 := (FF.stored (p * 3 + 1) v5).1
  rw [fcells_setL _ _ p _ L hln.out hiF hl] at s1
  have L1 : p < ((R.beg 2).F.set p ((R.beg 2).F[p].1, L, (R.beg 2).F[p].2.2)).length := by rw [List.length_set]; exact hiF
  have L2 : p < (V.T.set p (V.T[p].1, v5)).length := by rw [List.length_set]; exact hl
  have L3 : (V.T.set p (V.T[p].1, v5)).length = ((R.beg 2).F.set p ((R.beg 2).F[p].1, L, (R.beg 2).F[p].2.2)).length := by rw [List.length_set, List.length_set]; exact hln.out
  have d3 : ∃ u, (w5.setCell ⟨g, p * 3 + 1, none⟩ v5).cell? ⟨g, p * 3 + 2, none⟩ = some u := by
   have hx := (fcells_at _ _ L3 p L1 L2).2.2
   have := World.ownsRow.cells s1 (g := g) rfl _ _ hx
   rw [addr_add, Nat.zero_add] at this
   exact ⟨_, this⟩
  obtain ⟨u3, d3⟩ := d3
  have d4 : (w5.setCell ⟨g, p * 3 + 1, none⟩ v5).frozen? ⟨g, p * 3 + 2, none⟩ = false := s1.frozenAt _
  have s2 := (s1.stored (p * 3 + 2) (.int .i64 0)).1
  rw [fcells_setS _ _ p _ L3 L1 L2, List.getElem_set_self, List.set_set] at s2
  have g1 := But.of_grownBy (X := fun k => k = g) (grown_setCell w5 g (p * 3 + 1) v5) fun k e => by cases e; rfl
  have g2 := But.of_grownBy (X := fun k => k = g) (grown_setCell (w5.setCell ⟨g, p * 3 + 1, none⟩ v5) g (p * 3 + 2) (.int .i64 0)) fun k e => by cases e; rfl
  have gX := g1.trans g2
  have fin : Hid (Rgo Z ((w5.setCell ⟨g, p * 3 + 1, none⟩ v5).setCell ⟨g, p * 3 + 2, none⟩ (.int .i64 0)) b V ((R.beg 2).one p (f0.1, L, 0))) := by
   refine RM.file MZ.out (i := p) hiF hl (t := (V.T[p].1, v5)) ?_ ?_ ?_ ((But.of_below X5.out _).trans (gX.mono fun k _ e => .inl (by rw [hg1, e]))) (.inl rfl) (.inr fun k hk => ?_) ?_
   ·rw [hvf]
    simp only [hf0'.out] at s2
    exact s2
   ·exact Oc.but (OB1.out.below X5.out) gX (fun k hk e => MZ.out.ds 1 (2 * p + 6) (by omega) g hg1 (by rw [blk_N b V hl, hk, e]))
   ·have := Oc.but (Oc.of (O5.out.low (Nat.zero_le _))) gX (fun k hk e => by
      have q1 := (O5.out.lt k hk).1
      have q2 := MZ.out.lt 1 g hg1
      have q3 := zq.out
      omega)
    exact this
   ·have q1 := (O5.out.lt k hk).1
    have q3 := zq.out
    omega
   ·intro k k1 k2
    have q1 := (O5.out.lt k k2).1
    have q2 := MZ.out.lt (2 * p + 6) k (by rw [blk_N b V hl]; exact k1)
    have q3 := zq.out
    omega
  have fin2 := hide (fin.out.behind bZ.out)
  rw [eL] at d1
  subst ev
  clear fin g1 g2 gX s1 s2 FF M5 L1 L2 L3
  refine wpAnyT_one (i := 16) (o := ⟨none, .store 30 (.tmp 64) (.tmp 62), _, _, _, _⟩) (by kernel_rfl) rfl (fun K hK => ?_)
  go_simp
  refine hK.out _ _ (vac (by kernel_rfl)) ?_
  clear hK K
  (try simp only [zzq])
  refine wpAnyT_done (by kernel_rfl) ?_ _
  go_wp2_with fail
  go_ret
  rw [e1.out]
  exact ⟨rfl, fin2.out⟩
 ·have e1 : X = (R, refN R.down R.dir s true) := by rw [← hX.out]; unfold RB.sync; rw [if_pos h0]
  rw [e1]
  refine (sync_rm_no h s hs h0).mono ?_
  rintro e w' ⟨rfl, rfl⟩
  exact ⟨rfl, Rgo.refl h⟩
def ctF (f : FD) (n : Int) : FD := (f.1.take n.toNat, f.2.1.take n.toNat, min f.2.2 n)
def RB.cut (R : RB) (s : ByteArray) (n : Int) : RB × Int :=
 if refN R.down R.dir s true ≠ 0 then (R, refN R.down R.dir s true)
 else if n < 0 ∨ (R.lenOf (R.pOf s) : Int) < n then (R, 8)
 else if strN R.flt.2.1 ≠ 0 then (R.beg 3, strN R.flt.2.1)
 else ((R.beg 3).one (R.pOf s) (ctF (R.fOf (R.pOf s)) n), 0)
theorem own_cut (ao : Option Addr) (n c k : Nat) : (Value.slice ao k k).ownBlock = (Value.slice ao n c).ownBlock := by cases ao <;> rfl
theorem cut_rm {w : World} {b : Nat} {R : RB} {V : RV} (h : RM w b R V) (ho : R.ok) (hc : R.c7 ≤ 1000000000) (hg : ∀ e ∈ R.dir, e.2 < R.F.length) (hla : ∀ f ∈ R.F, f.2.1.length ≤ f.1.length ∧ (f.1.length : Int) ≤ 100000000) (s : ByteArray) (hs : s.size ≤ maxLen) (n : Int) :
    Calls Tryz.prog 50 #[.pointer (some ⟨b, 0, none⟩), .string s, .int .i64 n] w fun e w' => e = .returned (.int .i64 (R.cut s n).2) ∧ Rgo w w' b V (R.cut s n).1 := by
 obtain ⟨X, hX⟩ : ∃ X, Hid (R.cut s n = X) := ⟨_, rfl⟩
 rw [hX.out]
 have hR := refused_rm h s hs true
 by_cases h0 : refN R.down R.dir s true = 0
 ·rw [h0] at hR
  have HM := hide h
  clear h
  have hB : Hid (∀ q, RM q b R V → _) := fun q hq => begins_rm hq ho hc 3 (by omega)
  obtain ⟨hf, hp, _⟩ := refN_there hg h0
  obtain ⟨be1, be2, _⟩ := beg_same R 3
  have hFi : Hid (∀ q, RM q b R V → Calls Tryz.prog 96 #[V.vD, .string s] q fun e w' => e = .returned (.int .i64 (R.pOf s : Int)) ∧ w' = q) := fun q hq => by
   have := find_ref q V.vD R.dir s hq.dd.tr
   rw [hf] at this
   exact this
  have hvd : ∃ da dn dc, V.vD = .slice da dn dc := by rcases HM.out.dd.form with ⟨e, _⟩ | ⟨g, cap, e, _⟩ <;> exact ⟨_, _, _, e⟩
  obtain ⟨da, dn, dc, hvd⟩ := hvd
  obtain ⟨F, hF⟩ : ∃ F : Ft, Hid (R.flt = F) := ⟨R.flt, rfl⟩
  rw [hF.out] at hB
  obtain ⟨fa, fk, fp⟩ := F
  unfold fv at hB
  dsimp only at hB
  rw [hvd] at hFi
  have hfo : R.fOf (R.pOf s) = R.F[R.pOf s] := by unfold RB.fOf; rw [List.getElem?_eq_getElem hp]; rfl
  have hlo : R.lenOf (R.pOf s) = R.F[R.pOf s].1.length := by unfold RB.lenOf; rw [List.getElem?_eq_getElem hp]
  have hlap := hla _ (List.getElem_mem hp)
  obtain ⟨g, cap, hvf, fl1, fl2, hl, z0, z1, z2⟩ := HM.out.at hp
  have c1 : w.cell? ⟨b, 1, none⟩ = some V.vF := (HM.out.cell 1).trans rfl
  have c2 : w.cell? ⟨b, 2, none⟩ = some V.vD := (HM.out.cell 2).trans rfl
  rw [hvf] at c1
  rw [hvd] at c2
  obtain ⟨ob1, ob2⟩ := HM.out.nn (R.pOf s) hp
  have hg1 : V.vF.ownBlock = some g := by rw [hvf]; exact own_some _ _ _
  have hgb : Hid (g ≠ b) := fun e => HM.out.ds 0 1 (by omega) b rfl (by show V.vF.ownBlock = _; rw [hg1, e])
  obtain ⟨ta, tc, et, tl1, tl2⟩ := ob1.form
  obtain ⟨la, lc, eL, ll1, ll2⟩ := ob2.form
  have z0s := hide z0
  have z1s := hide z1
  rw [et] at z0
  rw [eL] at z1
  have e0 : Hid (X = if n < 0 ∨ (R.F[R.pOf s].1.length : Int) < n then (R, 8) else if strN fk ≠ 0 then (R.beg 3, strN fk) else ((R.beg 3).one (R.pOf s) (ctF R.F[R.pOf s] n), 0)) := by show _ = _; rw [← hX.out]; unfold RB.cut; rw [if_neg (by rw [h0]; simp), hF.out, hfo, hlo]
  have hiF : R.pOf s < (R.beg 3).F.length := by rw [be1]; exact hp
  have hln : Hid (V.T.length = (R.beg 3).F.length) := by show _ = _; rw [be1]; exact HM.out.ln
  have hf0' : Hid ((R.beg 3).F[R.pOf s]'hiF = R.F[R.pOf s]'hp) := by show _ = _; simp only [be1]
  generalize hpp : R.pOf s = p at *
  have ip : (p : Int) < (R.F.length : Int) := by omega
  obtain ⟨f0, hf0⟩ : ∃ f0 : FD, Hid (R.F[p]'hp = f0) := ⟨R.F[p]'hp, rfl⟩
  rw [hf0.out] at ob1 ob2 tl1 ll1 z0 z1 z2 hlap e0 hf0' et eL
  replace hf0 := hide hf0
  have et2 := hide et
  have eL2 := hide eL
  have OB1 := hide ob1
  have OB2 := hide ob2
  obtain ⟨bl, hbl⟩ : ∃ bl : Nat, Hid (f0.1.length = bl) := ⟨f0.1.length, rfl⟩
  obtain ⟨ll, hll⟩ : ∃ ll : Nat, Hid (f0.2.1.length = ll) := ⟨f0.2.1.length, rfl⟩
  rw [hbl.out] at tl1 z0 e0 hlap
  rw [hll.out] at ll1 z1 hlap
  have lb2 := hlap.2
  have lb1 := hlap.1
  have hTs : Hid (V.T.set p V.T[p] = V.T) := List.set_getElem_self hl
  clear ho hc hpp hlo hfo ob1 ob2 hlap et eL
  by_cases hn : n < 0 ∨ (bl : Int) < n
  ·rw [if_pos hn] at e0
   by_cases n0 : n < 0
   ·go_enter Tryz.func50, Tryz.ntmps50
    go_upto_region 4 with (go_at_call 95; refine hR.mono ?_; rintro e w1 ⟨rfl, e1'⟩; subst w1)
    go_quiet ((go_at_call 96; exact Calls.quiet_of_same (hFi.out _ (HM.out.below (Qt.below ⟨_, rfl⟩ _)))))
    have B3 : Hid (Below w.heap.size w (w.drewN nq)) := Qt.below ⟨nq, rfl⟩ _
    go_wp2_with fail
    go_ret
    rw [e0.out]
    exact ⟨rfl, Rgo.same (HM.out.below B3.out) (But.of_below B3.out _)⟩
   ·have n1 : n > (bl : Int) := by omega
    go_enter Tryz.func50, Tryz.ntmps50
    go_upto_region 4 with (go_at_call 95; refine hR.mono ?_; rintro e w1 ⟨rfl, e1'⟩; subst w1)
    go_quiet ((go_at_call 96; exact Calls.quiet_of_same (hFi.out _ (HM.out.below (Qt.below ⟨_, rfl⟩ _)))))
    have B3 : Hid (Below w.heap.size w (w.drewN nq)) := Qt.below ⟨nq, rfl⟩ _
    go_wp2_with fail
    go_ret
    rw [e0.out]
    exact ⟨rfl, Rgo.same (HM.out.below B3.out) (But.of_below B3.out _)⟩
  ·rw [if_neg hn] at e0
   obtain ⟨k, rfl⟩ : ∃ k : Nat, n = (k : Int) := ⟨n.toNat, by omega⟩
   have n0 : ¬ ((k : Int) < 0) := by omega
   have n1 : ¬ ((k : Int) > (bl : Int)) := by omega
   have kb : k ≤ bl := by omega
   have kc : k ≤ tc := by omega
   clear hn
   by_cases hk : fk = 0 ∨ fk = 2
   ·have e1 : Hid (X = ((R.beg 3).one p (ctF f0 (k : Int)), 0)) := by show _ = _; rw [e0.out, if_neg (by unfold strN; rw [if_pos hk]; simp)]
    clear e0
    rcases hk with rfl | rfl
    ·go_enter Tryz.func50, Tryz.ntmps50
     go_upto_region 4 with (go_at_call 95; refine hR.mono ?_; rintro e w1 ⟨rfl, e1'⟩; subst w1)
     go_quiet ((go_at_call 96; exact Calls.quiet_of_same (hFi.out _ (HM.out.below (Qt.below ⟨_, rfl⟩ _)))))
     have B3 : Hid (Below w.heap.size w (w.drewN nq)) := Qt.below ⟨nq, rfl⟩ _
     have M3 := hide (HM.out.below B3.out)
     have y0 : (w.drewN nq).cell? ⟨g, p * 3, none⟩ = some (.slice ta bl tc) := by rw [B3.out.cell (lt_of_cell z0)]; exact z0
     generalize w.drewN nq = Y at *
     go_upto_region 8 with (go_at_call 97; refine (hB.out _ M3.out).mono ?_; rintro e w1 ⟨rfl, M1, b1⟩; replace M1 := hide M1; replace b1 := hide b1)
     have v1 := heap_alloc_new w1 (.cells #[.int .i64 fa, .int .i64 0, .int .i64 fp] 118)
     have BX := hide (box_below w1 (.cells #[.int .i64 fa, .int .i64 0, .int .i64 fp] 118))
     obtain ⟨Z, hY⟩ : ∃ Y, Hid (w1.alloc (.cells #[.int .i64 fa, .int .i64 0, .int .i64 fp] 118) = Y) := ⟨_, rfl⟩
     rw [hY.out] at v1 BX ⊢
     have y1 : Z.cell? ⟨w1.heap.size, 1, none⟩ = some (.int .i64 0) := by simp [World.cell?, v1]
     have MZ := hide (M1.out.below BX.out)
     have bZ : Hid (But (fun k => k = b) w Z) := (But.of_below B3.out _).trans (b1.out.trans (But.of_below BX.out _))
     have x0 : Z.cell? ⟨g, p * 3, none⟩ = some (.slice ta bl tc) := cell_but z0 bZ.out hgb.out
     have x1 : Z.cell? ⟨g, p * 3 + 1, none⟩ = some (.slice la ll lc) := cell_but z1 bZ.out hgb.out
     have x2 : Z.cell? ⟨g, p * 3 + 2, none⟩ = some (.int .i64 f0.2.2) := cell_but z2 bZ.out hgb.out
     have O1 : Hid (Oc 0 Z (.slice ta f0.1.length tc) f0.1) := by rw [← et2.out]; exact OB1.out.but bZ.out fun j hj e => MZ.out.ds 0 (2 * p + 6) (by omega) b rfl (by rw [blk_N b V hl, hj, e])
     have O2 : Hid (Oc 0 Z (.slice la f0.2.1.length lc) f0.2.1) := by rw [← eL2.out]; exact OB2.out.but bZ.out fun j hj e => MZ.out.ds 0 (2 * p + 7) (by omega) b rfl (by rw [blk_L b V hl, hj, e])
     have FF := MZ.out.ff
     rw [hvf] at FF
     have fr0 : Z.frozen? ⟨g, p * 3, none⟩ = false := FF.frozenAt _
     have s1 := (FF.stored (p * 3) (.slice ta k k)).1
     rw [fcells_setN _ _ p _ (f0.1.take k) hln.out hiF hl, hf0'.out] at s1
     have g1 := But.of_grownBy (X := fun k => k = g) (grown_setCell Z g (p * 3) (.slice ta k k)) fun k e => by cases e; rfl
     have L1 : p < ((R.beg 3).F.set p (f0.1.take k, f0.2)).length := by rw [List.length_set]; exact hiF
     have L2 : p < (V.T.set p (.slice ta k k, V.T[p].2)).length := by rw [List.length_set]; exact hl
     have L3 : (V.T.set p (.slice ta k k, V.T[p].2)).length = ((R.beg 3).F.set p (f0.1.take k, f0.2)).length := by rw [List.length_set, List.length_set]; exact hln.out
     have hx := fcells_at _ _ L3 p L1 L2
     have a1 : (Z.setCell ⟨g, p * 3, none⟩ (.slice ta k k)).cell? ⟨g, p * 3 + 1, none⟩ = some (.slice la ll lc) := by
      have := World.ownsRow.cells s1 (g := g) rfl _ _ hx.2.1
      rw [addr_add, Nat.zero_add, List.getElem_set_self] at this
      rw [this, ← hll.out]
      exact congrArg some eL2.out
     have a2 : (Z.setCell ⟨g, p * 3, none⟩ (.slice ta k k)).cell? ⟨g, p * 3 + 2, none⟩ = some (.int .i64 f0.2.2) := by
      have := World.ownsRow.cells s1 (g := g) rfl _ _ hx.2.2
      rw [addr_add, Nat.zero_add, List.getElem_set_self] at this
      exact this
     have hmn : Hid (ctF f0 (k : Int) = (f0.1.take k, f0.2.1.take k, min f0.2.2 (k : Int))) := rfl
     rw [hmn.out] at e1
     obtain ⟨ms, hms⟩ : ∃ ms, min f0.2.2 (k : Int) = ms := ⟨_, rfl⟩
     rw [hms] at e1
     clear v1
     by_cases hlk : k < ll
     ·have i3 : (ll : Int) > (k : Int) := by omega
      have kc2 : k ≤ lc := by omega
      have fr1 : (Z.setCell ⟨g, p * 3, none⟩ (.slice ta k k)).frozen? ⟨g, p * 3 + 1, none⟩ = false := s1.frozenAt _
      have s2 := (s1.stored (p * 3 + 1) (.slice la k k)).1
      rw [fcells_setL _ _ p _ (f0.2.1.take k) L3 L1 L2] at s2
      simp only [List.getElem_set_self, List.set_set] at s2
      have g2 := But.of_grownBy (X := fun k => k = g) (grown_setCell (Z.setCell ⟨g, p * 3, none⟩ (.slice ta k k)) g (p * 3 + 1) (.slice la k k)) fun k e => by cases e; rfl
      have L1 : p < ((R.beg 3).F.set p (f0.1.take k, f0.2.1.take k, f0.2.2)).length := by rw [List.length_set]; exact hiF
      have L2 : p < (V.T.set p (.slice ta k k, .slice la k k)).length := by rw [List.length_set]; exact hl
      have L3 : (V.T.set p (.slice ta k k, .slice la k k)).length = ((R.beg 3).F.set p (f0.1.take k, f0.2.1.take k, f0.2.2)).length := by rw [List.length_set, List.length_set]; exact hln.out
      have hx := fcells_at _ _ L3 p L1 L2
      have a3 : ((Z.setCell ⟨g, p * 3, none⟩ (.slice ta k k)).setCell ⟨g, p * 3 + 1, none⟩ (.slice la k k)).cell? ⟨g, p * 3 + 2, none⟩ = some (.int .i64 f0.2.2) := by
       have := World.ownsRow.cells s2 (g := g) rfl _ _ hx.2.2
       rw [addr_add, Nat.zero_add, List.getElem_set_self] at this
       exact this
      have fr2 : ((Z.setCell ⟨g, p * 3, none⟩ (.slice ta k k)).setCell ⟨g, p * 3 + 1, none⟩ (.slice la k k)).frozen? ⟨g, p * 3 + 2, none⟩ = false := s2.frozenAt _
      have s3 := (s2.stored (p * 3 + 2) (.int .i64 ms)).1
      rw [fcells_setS _ _ p _ L3 L1 L2] at s3
      simp only [List.getElem_set_self, List.set_set] at s3
      have g3 := But.of_grownBy (X := fun k => k = g) (grown_setCell ((Z.setCell ⟨g, p * 3, none⟩ (.slice ta k k)).setCell ⟨g, p * 3 + 1, none⟩ (.slice la k k)) g (p * 3 + 2) (.int .i64 ms)) fun k e => by cases e; rfl
      have gX := (g1.trans g2).trans g3
      have fin : Hid (Rgo Z (((Z.setCell ⟨g, p * 3, none⟩ (.slice ta k k)).setCell ⟨g, p * 3 + 1, none⟩ (.slice la k k)).setCell ⟨g, p * 3 + 2, none⟩ (.int .i64 ms)) b V ((R.beg 3).one p (f0.1.take k, f0.2.1.take k, ms))) := by
       have oN : (Value.slice ta k k).ownBlock = V.T[p].1.ownBlock := by rw [et2.out]; exact own_cut _ _ _ _
       have oL : (Value.slice la k k).ownBlock = V.T[p].2.ownBlock := by rw [eL2.out]; exact own_cut _ _ _ _
       refine RM.file MZ.out (i := p) hiF hl (t := (.slice ta k k, .slice la k k)) ?_ ?_ ?_ (gX.mono fun j _ e => .inl (by rw [hg1, e])) (.inl oN) (.inl oL) ?_
       ·rw [hvf]; exact s3
       ·exact (O1.out.cut (by rw [hbl.out]; exact kb)).but gX (fun j hj e => MZ.out.ds 1 (2 * p + 6) (by omega) g hg1 (by rw [blk_N b V hl, ← oN, hj, e]))
       ·exact (O2.out.cut (by rw [hll.out]; omega)).but gX (fun j hj e => MZ.out.ds 1 (2 * p + 7) (by omega) g hg1 (by rw [blk_L b V hl, ← oL, hj, e]))
       ·intro j j1 j2
        exact MZ.out.ds (2 * p + 6) (2 * p + 7) (by omega) j (by rw [blk_N b V hl, ← oN]; exact j1) (by rw [blk_L b V hl, ← oL]; exact j2)
      have fin2 := hide (fin.out.behind bZ.out)
      clear fin gX g1 g2 g3 s1 s2 s3 FF hx L1 L2 L3
      go_wp2_with fail
      go_ret
      rw [e1.out]
      exact ⟨rfl, fin2.out⟩
     ·have i3 : ¬ ((ll : Int) > (k : Int)) := by omega
      have htk : f0.2.1.take k = f0.2.1 := List.take_of_length_le (by rw [hll.out]; omega)
      rw [htk] at e1
      have fr2 : (Z.setCell ⟨g, p * 3, none⟩ (.slice ta k k)).frozen? ⟨g, p * 3 + 2, none⟩ = false := s1.frozenAt _
      have s3 := (s1.stored (p * 3 + 2) (.int .i64 ms)).1
      rw [fcells_setS _ _ p _ L3 L1 L2] at s3
      simp only [List.getElem_set_self, List.set_set] at s3
      have g3 := But.of_grownBy (X := fun k => k = g) (grown_setCell (Z.setCell ⟨g, p * 3, none⟩ (.slice ta k k)) g (p * 3 + 2) (.int .i64 ms)) fun k e => by cases e; rfl
      have gX := g1.trans g3
      have fin : Hid (Rgo Z ((Z.setCell ⟨g, p * 3, none⟩ (.slice ta k k)).setCell ⟨g, p * 3 + 2, none⟩ (.int .i64 ms)) b V ((R.beg 3).one p (f0.1.take k, f0.2.1, ms))) := by
       have oN : (Value.slice ta k k).ownBlock = V.T[p].1.ownBlock := by rw [et2.out]; exact own_cut _ _ _ _
       refine RM.file MZ.out (i := p) hiF hl (t := (.slice ta k k, V.T[p].2)) ?_ ?_ ?_ (gX.mono fun j _ e => .inl (by rw [hg1, e])) (.inl oN) (.inl rfl) ?_
       ·rw [hvf]; exact s3
       ·exact (O1.out.cut (by rw [hbl.out]; exact kb)).but gX (fun j hj e => MZ.out.ds 1 (2 * p + 6) (by omega) g hg1 (by rw [blk_N b V hl, ← oN, hj, e]))
       ·have := O2.out.but gX (fun j hj e => MZ.out.ds 1 (2 * p + 7) (by omega) g hg1 (by rw [blk_L b V hl, eL2.out, hj, e]))
        rw [← eL2.out] at this
        exact this
       ·intro j j1 j2
        exact MZ.out.ds (2 * p + 6) (2 * p + 7) (by omega) j (by rw [blk_N b V hl, ← oN]; exact j1) (by rw [blk_L b V hl]; exact j2)
      have fin2 := hide (fin.out.behind bZ.out)
      clear fin gX g1 g3 s1 s3 FF hx L1 L2 L3
      go_wp2_with fail
      go_ret
      rw [e1.out]
      exact ⟨rfl, fin2.out⟩
    ·go_enter Tryz.func50, Tryz.ntmps50
     go_upto_region 4 with (go_at_call 95; refine hR.mono ?_; rintro e w1 ⟨rfl, e1'⟩; subst w1)
     go_quiet ((go_at_call 96; exact Calls.quiet_of_same (hFi.out _ (HM.out.below (Qt.below ⟨_, rfl⟩ _)))))
     have B3 : Hid (Below w.heap.size w (w.drewN nq)) := Qt.below ⟨nq, rfl⟩ _
     have M3 := hide (HM.out.below B3.out)
     have y0 : (w.drewN nq).cell? ⟨g, p * 3, none⟩ = some (.slice ta bl tc) := by rw [B3.out.cell (lt_of_cell z0)]; exact z0
     generalize w.drewN nq = Y at *
     go_upto_region 8 with (go_at_call 97; refine (hB.out _ M3.out).mono ?_; rintro e w1 ⟨rfl, M1, b1⟩; replace M1 := hide M1; replace b1 := hide b1)
     have v1 := heap_alloc_new w1 (.cells #[.int .i64 fa, .int .i64 2, .int .i64 fp] 118)
     have BX := hide (box_below w1 (.cells #[.int .i64 fa, .int .i64 2, .int .i64 fp] 118))
     obtain ⟨Z, hY⟩ : ∃ Y, Hid (w1.alloc (.cells #[.int .i64 fa, .int .i64 2, .int .i64 fp] 118) = Y) := ⟨_, rfl⟩
     rw [hY.out] at v1 BX ⊢
     have y1 : Z.cell? ⟨w1.heap.size, 1, none⟩ = some (.int .i64 2) := by simp [World.cell?, v1]
     have MZ := hide (M1.out.below BX.out)
     have bZ : Hid (But (fun k => k = b) w Z) := (But.of_below B3.out _).trans (b1.out.trans (But.of_below BX.out _))
     have x0 : Z.cell? ⟨g, p * 3, none⟩ = some (.slice ta bl tc) := cell_but z0 bZ.out hgb.out
     have x1 : Z.cell? ⟨g, p * 3 + 1, none⟩ = some (.slice la ll lc) := cell_but z1 bZ.out hgb.out
     have x2 : Z.cell? ⟨g, p * 3 + 2, none⟩ = some (.int .i64 f0.2.2) := cell_but z2 bZ.out hgb.out
     have O1 : Hid (Oc 0 Z (.slice ta f0.1.length tc) f0.1) := by rw [← et2.out]; exact OB1.out.but bZ.out fun j hj e => MZ.out.ds 0 (2 * p + 6) (by omega) b rfl (by rw [blk_N b V hl, hj, e])
     have O2 : Hid (Oc 0 Z (.slice la f0.2.1.length lc) f0.2.1) := by rw [← eL2.out]; exact OB2.out.but bZ.out fun j hj e => MZ.out.ds 0 (2 * p + 7) (by omega) b rfl (by rw [blk_L b V hl, hj, e])
     have FF := MZ.out.ff
     rw [hvf] at FF
     have fr0 : Z.frozen? ⟨g, p * 3, none⟩ = false := FF.frozenAt _
     have s1 := (FF.stored (p * 3) (.slice ta k k)).1
     rw [fcells_setN _ _ p _ (f0.1.take k) hln.out hiF hl, hf0'.out] at s1
     have g1 := But.of_grownBy (X := fun k => k = g) (grown_setCell Z g (p * 3) (.slice ta k k)) fun k e => by cases e; rfl
     have L1 : p < ((R.beg 3).F.set p (f0.1.take k, f0.2)).length := by rw [List.length_set]; exact hiF
     have L2 : p < (V.T.set p (.slice ta k k, V.T[p].2)).length := by rw [List.length_set]; exact hl
     have L3 : (V.T.set p (.slice ta k k, V.T[p].2)).length = ((R.beg 3).F.set p (f0.1.take k, f0.2)).length := by rw [List.length_set, List.length_set]; exact hln.out
     have hx := fcells_at _ _ L3 p L1 L2
     have a1 : (Z.setCell ⟨g, p * 3, none⟩ (.slice ta k k)).cell? ⟨g, p * 3 + 1, none⟩ = some (.slice la ll lc) := by
      have := World.ownsRow.cells s1 (g := g) rfl _ _ hx.2.1
      rw [addr_add, Nat.zero_add, List.getElem_set_self] at this
      rw [this, ← hll.out]
      exact congrArg some eL2.out
     have a2 : (Z.setCell ⟨g, p * 3, none⟩ (.slice ta k k)).cell? ⟨g, p * 3 + 2, none⟩ = some (.int .i64 f0.2.2) := by
      have := World.ownsRow.cells s1 (g := g) rfl _ _ hx.2.2
      rw [addr_add, Nat.zero_add, List.getElem_set_self] at this
      exact this
     have hmn : Hid (ctF f0 (k : Int) = (f0.1.take k, f0.2.1.take k, min f0.2.2 (k : Int))) := rfl
     rw [hmn.out] at e1
     obtain ⟨ms, hms⟩ : ∃ ms, min f0.2.2 (k : Int) = ms := ⟨_, rfl⟩
     rw [hms] at e1
     clear v1
     by_cases hlk : k < ll
     ·have i3 : (ll : Int) > (k : Int) := by omega
      have kc2 : k ≤ lc := by omega
      have fr1 : (Z.setCell ⟨g, p * 3, none⟩ (.slice ta k k)).frozen? ⟨g, p * 3 + 1, none⟩ = false := s1.frozenAt _
      have s2 := (s1.stored (p * 3 + 1) (.slice la k k)).1
      rw [fcells_setL _ _ p _ (f0.2.1.take k) L3 L1 L2] at s2
      simp only [List.getElem_set_self, List.set_set] at s2
      have g2 := But.of_grownBy (X := fun k => k = g) (grown_setCell (Z.setCell ⟨g, p * 3, none⟩ (.slice ta k k)) g (p * 3 + 1) (.slice la k k)) fun k e => by cases e; rfl
      have L1 : p < ((R.beg 3).F.set p (f0.1.take k, f0.2.1.take k, f0.2.2)).length := by rw [List.length_set]; exact hiF
      have L2 : p < (V.T.set p (.slice ta k k, .slice la k k)).length := by rw [List.length_set]; exact hl
      have L3 : (V.T.set p (.slice ta k k, .slice la k k)).length = ((R.beg 3).F.set p (f0.1.take k, f0.2.1.take k, f0.2.2)).length := by rw [List.length_set, List.length_set]; exact hln.out
      have hx := fcells_at _ _ L3 p L1 L2
      have a3 : ((Z.setCell ⟨g, p * 3, none⟩ (.slice ta k k)).setCell ⟨g, p * 3 + 1, none⟩ (.slice la k k)).cell? ⟨g, p * 3 + 2, none⟩ = some (.int .i64 f0.2.2) := by
       have := World.ownsRow.cells s2 (g := g) rfl _ _ hx.2.2
       rw [addr_add, Nat.zero_add, List.getElem_set_self] at this
       exact this
      have fr2 : ((Z.setCell ⟨g, p * 3, none⟩ (.slice ta k k)).setCell ⟨g, p * 3 + 1, none⟩ (.slice la k k)).frozen? ⟨g, p * 3 + 2, none⟩ = false := s2.frozenAt _
      have s3 := (s2.stored (p * 3 + 2) (.int .i64 ms)).1
      rw [fcells_setS _ _ p _ L3 L1 L2] at s3
      simp only [List.getElem_set_self, List.set_set] at s3
      have g3 := But.of_grownBy (X := fun k => k = g) (grown_setCell ((Z.setCell ⟨g, p * 3, none⟩ (.slice ta k k)).setCell ⟨g, p * 3 + 1, none⟩ (.slice la k k)) g (p * 3 + 2) (.int .i64 ms)) fun k e => by cases e; rfl
      have gX := (g1.trans g2).trans g3
      have fin : Hid (Rgo Z (((Z.setCell ⟨g, p * 3, none⟩ (.slice ta k k)).setCell ⟨g, p * 3 + 1, none⟩ (.slice la k k)).setCell ⟨g, p * 3 + 2, none⟩ (.int .i64 ms)) b V ((R.beg 3).one p (f0.1.take k, f0.2.1.take k, ms))) := by
       have oN : (Value.slice ta k k).ownBlock = V.T[p].1.ownBlock := by rw [et2.out]; exact own_cut _ _ _ _
       have oL : (Value.slice la k k).ownBlock = V.T[p].2.ownBlock := by rw [eL2.out]; exact own_cut _ _ _ _
       refine RM.file MZ.out (i := p) hiF hl (t := (.slice ta k k, .slice la k k)) ?_ ?_ ?_ (gX.mono fun j _ e => .inl (by rw [hg1, e])) (.inl oN) (.inl oL) ?_
       ·rw [hvf]; exact s3
       ·exact (O1.out.cut (by rw [hbl.out]; exact kb)).but gX (fun j hj e => MZ.out.ds 1 (2 * p + 6) (by omega) g hg1 (by rw [blk_N b V hl, ← oN, hj, e]))
       ·exact (O2.out.cut (by rw [hll.out]; omega)).but gX (fun j hj e => MZ.out.ds 1 (2 * p + 7) (by omega) g hg1 (by rw [blk_L b V hl, ← oL, hj, e]))
       ·intro j j1 j2
        exact MZ.out.ds (2 * p + 6) (2 * p + 7) (by omega) j (by rw [blk_N b V hl, ← oN]; exact j1) (by rw [blk_L b V hl, ← oL]; exact j2)
      have fin2 := hide (fin.out.behind bZ.out)
      clear fin gX g1 g2 g3 s1 s2 s3 FF hx L1 L2 L3
      go_wp2_with fail
      go_ret
      rw [e1.out]
      exact ⟨rfl, fin2.out⟩
     ·have i3 : ¬ ((ll : Int) > (k : Int)) := by omega
      have htk : f0.2.1.take k = f0.2.1 := List.take_of_length_le (by rw [hll.out]; omega)
      rw [htk] at e1
      have fr2 : (Z.setCell ⟨g, p * 3, none⟩ (.slice ta k k)).frozen? ⟨g, p * 3 + 2, none⟩ = false := s1.frozenAt _
      have s3 := (s1.stored (p * 3 + 2) (.int .i64 ms)).1
      rw [fcells_setS _ _ p _ L3 L1 L2] at s3
      simp only [List.getElem_set_self, List.set_set] at s3
      have g3 := But.of_grownBy (X := fun k => k = g) (grown_setCell (Z.setCell ⟨g, p * 3, none⟩ (.slice ta k k)) g (p * 3 + 2) (.int .i64 ms)) fun k e => by cases e; rfl
      have gX := g1.trans g3
      have fin : Hid (Rgo Z ((Z.setCell ⟨g, p * 3, none⟩ (.slice ta k k)).setCell ⟨g, p * 3 + 2, none⟩ (.int .i64 ms)) b V ((R.beg 3).one p (f0.1.take k, f0.2.1, ms))) := by
       have oN : (Value.slice ta k k).ownBlock = V.T[p].1.ownBlock := by rw [et2.out]; exact own_cut _ _ _ _
       refine RM.file MZ.out (i := p) hiF hl (t := (.slice ta k k, V.T[p].2)) ?_ ?_ ?_ (gX.mono fun j _ e => .inl (by rw [hg1, e])) (.inl oN) (.inl rfl) ?_
       ·rw [hvf]; exact s3
       ·exact (O1.out.cut (by rw [hbl.out]; exact kb)).but gX (fun j hj e => MZ.out.ds 1 (2 * p + 6) (by omega) g hg1 (by rw [blk_N b V hl, ← oN, hj, e]))
       ·have := O2.out.but gX (fun j hj e => MZ.out.ds 1 (2 * p + 7) (by omega) g hg1 (by rw [blk_L b V hl, eL2.out, hj, e]))
        rw [← eL2.out] at this
        exact this
       ·intro j j1 j2
        exact MZ.out.ds (2 * p + 6) (2 * p + 7) (by omega) j (by rw [blk_N b V hl, ← oN]; exact j1) (by rw [blk_L b V hl]; exact j2)
      have fin2 := hide (fin.out.behind bZ.out)
      clear fin gX g1 g3 s1 s3 FF hx L1 L2 L3
      go_wp2_with fail
      go_ret
      rw [e1.out]
      exact ⟨rfl, fin2.out⟩
   ·have hk0 : ¬ fk = 0 := fun c => hk (.inl c)
    have hk2 : ¬ fk = 2 := fun c => hk (.inr c)
    have e1 : Hid (X = (R.beg 3, toldN fk)) := by
     show _ = _
     have hst : strN fk = toldN fk := by unfold strN; rw [if_neg hk]
     rw [e0.out, hst, if_pos (toldN_ne fk)]
    have hTo2 : Hid (∀ q, Calls Tryz.prog 98 #[.int .i64 fk] q fun e w' => e = .returned (.int .i64 (toldN fk)) ∧ w' = q) := fun q => told_ref q fk
    obtain ⟨tn, htn⟩ : ∃ tn, Hid (toldN fk = tn) := ⟨_, rfl⟩
    rw [htn.out] at hTo2 e1
    have q0 : (fk != 0) = true := by simpa using hk0
    have q2 : (fk != 2) = true := by simpa using hk2
    clear e0 hk
    go_enter Tryz.func50, Tryz.ntmps50
    go_upto_region 4 with (go_at_call 95; refine hR.mono ?_; rintro e w1 ⟨rfl, e1'⟩; subst w1)
    go_quiet ((go_at_call 96; exact Calls.quiet_of_same (hFi.out _ (HM.out.below (Qt.below ⟨_, rfl⟩ _)))))
    have B3 : Hid (Below w.heap.size w (w.drewN nq)) := Qt.below ⟨nq, rfl⟩ _
    have M3 := hide (HM.out.below B3.out)
    have y0 : (w.drewN nq).cell? ⟨g, p * 3, none⟩ = some (.slice ta bl tc) := by rw [B3.out.cell (lt_of_cell z0)]; exact z0
    generalize w.drewN nq = Y at *
    go_upto_region 8 with (go_at_call 97; refine (hB.out _ M3.out).mono ?_; rintro e w1 ⟨rfl, M1, b1⟩; replace M1 := hide M1; replace b1 := hide b1)
    have v1 := heap_alloc_new w1 (.cells #[.int .i64 fa, .int .i64 fk, .int .i64 fp] 118)
    have BX := hide (box_below w1 (.cells #[.int .i64 fa, .int .i64 fk, .int .i64 fp] 118))
    obtain ⟨Z, hY⟩ : ∃ Y, Hid (w1.alloc (.cells #[.int .i64 fa, .int .i64 fk, .int .i64 fp] 118) = Y) := ⟨_, rfl⟩
    rw [hY.out] at v1 BX ⊢
    have y1 : Z.cell? ⟨w1.heap.size, 1, none⟩ = some (.int .i64 fk) := by simp [World.cell?, v1]
    have MZ := hide (M1.out.below BX.out)
    have bZ : Hid (But (fun k => k = b) w Z) := (But.of_below B3.out _).trans (b1.out.trans (But.of_below BX.out _))
    clear v1
    go_wp2_with (go_at_call 98; refine (hTo2.out _).mono ?_; rintro e w2 ⟨rfl, e2⟩; subst w2)
    go_ret
    rw [e1.out]
    exact ⟨rfl, Rgo.same MZ.out bZ.out⟩
 ·have e1 : X = (R, refN R.down R.dir s true) := by rw [← hX.out]; unfold RB.cut; rw [if_pos h0]
  have H := hide h
  rw [e1]
  clear h e1 hg
  generalize refN R.down R.dir s true = rn at *
  have h0' : (rn != 0) = true := by simpa using h0
  go_enter Tryz.func50, Tryz.ntmps50
  go_wp2_with (go_at_call 95; refine hR.mono ?_; rintro e w1 ⟨rfl, e1'⟩; subst w1)
  go_ret
  exact ⟨rfl, Rgo.refl H.out⟩
def RB.apN (R : RB) (len : Nat) : Nat := (if R.flt.2.1 ≠ 0 then min (min (len : Int) R.room) R.flt.2.2 else min (len : Int) R.room).toNat
def RB.put (R : RB) (n : Int) : RB := { R with c8 := n }
def RB.append (R : RB) (s : ByteArray) (D : List UInt8) : RB × Int × Int :=
 if refN R.down R.dir s true ≠ 0 then (R, 0, refN R.down R.dir s true)
 else (((R.beg 1).one (R.pOf s) ((R.fOf (R.pOf s)).1 ++ D.take (R.apN D.length), (R.fOf (R.pOf s)).2)).put (R.c8 + (R.apN D.length : Int)), (R.apN D.length : Int), if R.flt.2.1 ≠ 0 then toldN R.flt.2.1 else if R.apN D.length < D.length then 21 else 0)
theorem room_lo (R : RB) : 0 ≤ R.room := by unfold RB.room; omega
theorem rapN_min (R : RB) (len : Nat) (h0 : R.flt.2.1 = 0) : min (len : Int) R.room = (R.apN len : Int) := by
 have := room_lo R
 unfold RB.apN
 rw [if_neg (by simp [h0])]
 omega
theorem rapN_part (R : RB) (len : Nat) (h0 : R.flt.2.1 ≠ 0) (hp : 0 ≤ R.flt.2.2) : min (min (len : Int) R.room) R.flt.2.2 = (R.apN len : Int) := by
 have := room_lo R
 unfold RB.apN
 rw [if_pos h0]
 omega
theorem rapN_le (R : RB) (len : Nat) : R.apN len ≤ len ∧ (R.apN len : Int) ≤ R.room := by
 have := room_lo R
 unfold RB.apN
 split <;> omega
theorem beg_c8 (R : RB) (j : Nat) : (R.beg j).c8 = R.c8 := by unfold RB.beg; split <;> rfl
theorem append_rm {w : World} {b : Nat} {R : RB} {V : RV} (h : RM w b R V) (ho : R.ok) (hc : R.c7 ≤ 1000000000) (hg : ∀ e ∈ R.dir, e.2 < R.F.length) (hpt : 0 ≤ R.flt.2.2) (m0 : 0 ≤ R.most) (m1 : R.most ≤ 16777216) (hz : ((R.sum R.dir.length : Nat) : Int) ≤ 9000000000000000) (h8 : 0 ≤ R.c8 ∧ R.c8 ≤ 4000000000000000000)
    (s : ByteArray) (hs : s.size ≤ maxLen) (v : Value) (D : List UInt8) (hv : Sl w v D) (hov : SOff (fun k => ∃ x, blk b V x = some k) v) (hsz : R.lenOf (R.pOf s) + R.apN D.length ≤ 100000000) :
    Calls Tryz.prog 46 #[.pointer (some ⟨b, 0, none⟩), .string s, v] w fun e w' => e = .returned (.tuple #[.int .i64 (R.append s D).2.1, .int .i64 (R.append s D).2.2]) ∧ Rgo w w' b V (R.append s D).1 := by
 obtain ⟨X, hX⟩ : ∃ X, Hid (R.append s D = X) := ⟨_, rfl⟩
 rw [hX.out]
 have hR := refused_rm h s hs true
 by_cases h0 : refN R.down R.dir s true = 0
 ·rw [h0] at hR
  have hRm : Hid (∀ q, RM q b R V → Calls Tryz.prog 100 #[.pointer (some ⟨b, 0, none⟩)] q fun e w' => e = .returned (.int .i64 R.room) ∧ Below q.heap.size q w') := fun q hq => room_rm hq hg m0 m1 hz
  have hB : Hid (∀ q, RM q b R V → _) := fun q hq => begins_rm hq ho hc 1 (by omega)
  obtain ⟨hf, hp, _⟩ := refN_there hg h0
  obtain ⟨be1, be2, _⟩ := beg_same R 1
  have hFi : Hid (∀ q, RM q b (R.beg 1) V → Calls Tryz.prog 96 #[V.vD, .string s] q fun e w' => e = .returned (.int .i64 (R.pOf s : Int)) ∧ w' = q) := fun q hq => by
   have := find_ref q V.vD (R.beg 1).dir s hq.dd.tr
   rw [be2, hf] at this
   exact this
  have hvd : ∃ da dn dc, V.vD = .slice da dn dc := by rcases h.dd.form with ⟨e, _⟩ | ⟨g, cap, e, _⟩ <;> exact ⟨_, _, _, e⟩
  obtain ⟨da, dn, dc, hvd⟩ := hvd
  obtain ⟨hn1, hn2⟩ := rapN_le R D.length
  have hmin := rapN_min R D.length
  have hpart := rapN_part R D.length
  have hrl := room_lo R
  have hrh : R.room ≤ 16777216 := by unfold RB.room; omega
  have e1 : Hid (X = (((R.beg 1).one (R.pOf s) ((R.fOf (R.pOf s)).1 ++ D.take (R.apN D.length), (R.fOf (R.pOf s)).2)).put (R.c8 + (R.apN D.length : Int)), (R.apN D.length : Int), if R.flt.2.1 ≠ 0 then toldN R.flt.2.1 else if R.apN D.length < D.length then 21 else 0)) := by show _ = _; rw [← hX.out]; unfold RB.append; rw [if_neg (by rw [h0]; simp)]
  obtain ⟨F, hF⟩ : ∃ F : Ft, Hid (R.flt = F) := ⟨R.flt, rfl⟩
  rw [hF.out] at hB hmin hpart hpt e1
  obtain ⟨n, hn⟩ : ∃ n, Hid (R.apN D.length = n) := ⟨_, rfl⟩
  rw [hn.out] at hmin hpart hn1 hn2 hsz e1
  obtain ⟨rm, hrm⟩ : ∃ rm, Hid (R.room = rm) := ⟨_, rfl⟩
  rw [hrm.out] at hmin hpart hn2 hrl hrh hRm
  obtain ⟨fa, fk, fp⟩ := F
  unfold fv at hB
  dsimp only at hB hmin hpart hpt e1
  rw [hvd] at hFi
  have HM := hide h
  have hfo : R.fOf (R.pOf s) = R.F[R.pOf s] := by unfold RB.fOf; rw [List.getElem?_eq_getElem hp]; rfl
  have hlo : R.lenOf (R.pOf s) = R.F[R.pOf s].1.length := by unfold RB.lenOf; rw [List.getElem?_eq_getElem hp]
  rw [hlo] at hsz
  rw [hfo] at e1
  have VV := hide hv
  obtain ⟨av, cv, rfl, _, q3, q4, _⟩ := hv
  have q4' : cv ≤ 9223372036854775807 := by unfold maxLen at q4; omega
  have i1 : (n : Int) ≤ (cv : Int) := by omega
  have i2 : (0 : Int) ≤ (n : Int) := by omega
  have hww : IntKind.i64.wrap (R.c8 + (n : Int)) = R.c8 + (n : Int) := by rw [IntKind.wrap_i64]; omega
  replace hn2 := hide hn2
  replace hov := hide hov
  obtain ⟨n1, hn3⟩ : ∃ n1 : Nat, min (D.length : Int) rm = (n1 : Int) := ⟨(min (D.length : Int) rm).toNat, by omega⟩
  have hz1 : Hid (fk = 0 → n1 = n) := fun c => by have := hmin c; omega
  have hz2 : Hid (fk ≠ 0 → min (n1 : Int) fp = (n : Int)) := fun c => by rw [← hn3]; exact hpart c hpt
  clear h ho hc hmin hpart hlo hfo q4 m0 m1 hz hpt
  by_cases k0 : fk = 0
  ·subst k0
   have e3 := hz1.out rfl
   subst e3
   go_enter Tryz.func46, Tryz.ntmps46
   go_upto_region 6 with (first
    | (go_at_call 95; refine hR.mono ?_; rintro e w1 ⟨rfl, e1'⟩; subst w1)
    | (go_at_call 100; refine (hRm.out _ HM.out).mono ?_; rintro e wa ⟨rfl, Ba⟩; replace Ba := hide Ba; have Ma := hide (HM.out.below Ba.out))
    | (go_at_call 97; refine (hB.out _ Ma.out).mono ?_; rintro e w1 ⟨rfl, M1, b1⟩; replace M1 := hide M1; replace b1 := hide b1))
   have z1 := heap_alloc_new w1 (.cells #[.int .i64 fa, .int .i64 0, .int .i64 fp] 118)
   have BX := hide (box_below w1 (.cells #[.int .i64 fa, .int .i64 0, .int .i64 fp] 118))
   obtain ⟨Y, hY⟩ : ∃ Y, Hid (w1.alloc (.cells #[.int .i64 fa, .int .i64 0, .int .i64 fp] 118) = Y) := ⟨_, rfl⟩
   rw [hY.out] at z1 BX ⊢
   have y1 : Y.cell? ⟨w1.heap.size, 1, none⟩ = some (.int .i64 0) := by simp [World.cell?, z1]
   have y2 : Y.cell? ⟨w1.heap.size, 2, none⟩ = some (.int .i64 fp) := by simp [World.cell?, z1]
   have MY := hide (M1.out.below BX.out)
   have bY : Hid (But (fun k => k = b) w Y) := (But.of_below Ba.out _).trans (b1.out.trans (But.of_below BX.out _))
   have VY : Hid (Sl Y (.slice av D.length cv) D) := sl_but VV.out bY.out (hov.out.mono fun k hk => ⟨0, by rw [hk]; rfl⟩)
   have zb : Hid (∀ k, (∃ x, blk b V x = some k) → k ≠ w1.heap.size) := fun k ⟨x, hx⟩ e => by have := M1.out.lt x k hx; omega
   clear z1 hR hRm hB
   obtain ⟨g, cap, hvf, fl1, fl2, hl, z0, _, _⟩ := MY.out.at (i := R.pOf s) (by rw [be1]; exact hp)
   have c1 : Y.cell? ⟨b, 1, none⟩ = some V.vF := (MY.out.cell 1).trans rfl
   have c2 : Y.cell? ⟨b, 2, none⟩ = some V.vD := (MY.out.cell 2).trans rfl
   rw [hvf, be1] at c1
   rw [hvd] at c2
   rw [be1] at fl1
   obtain ⟨ob1, ob2⟩ := MY.out.nn (R.pOf s) (by rw [be1]; exact hp)
   simp only [be1] at ob1 ob2
   have hg1 : V.vF.ownBlock = some g := by rw [hvf]; exact own_some _ _ _
   generalize hpp : R.pOf s = p at *
   have ip : (p : Int) < (R.F.length : Int) := by omega
   clear hpp
   go_upto_region 8 with fail
   go_quiet ((go_at_call 96; exact Calls.quiet_of_same (hFi.out _ (MY.out.below (Qt.below ⟨_, rfl⟩ _)))))
   have B3 : Hid (Below Y.heap.size Y (Y.drewN nq)) := Qt.below ⟨nq, rfl⟩ _
   have MZ := hide (MY.out.below B3.out)
   have y3 : (Y.drewN nq).cell? ⟨w1.heap.size, 1, none⟩ = some (.int .i64 0) := by rw [B3.out.cell (lt_of_cell y1)]; exact y1
   have bZ : Hid (But (fun k => k = b) w (Y.drewN nq)) := bY.out.trans (But.of_below B3.out _)
   have VZ : Hid (Sl (Y.drewN nq) (.slice av D.length cv) D) := Below.sl B3.out VY.out
   have ob1Z := ob1.below B3.out
   have ob2Z := ob2.below B3.out
   have w0 : (Y.drewN nq).cell? ⟨g, p * 3, none⟩ = some V.T[p].1 := by rw [B3.out.cell (lt_of_cell z0)]; exact z0
   generalize Y.drewN nq = Z at *
   go_upto_region 9 with fail
   obtain ⟨ta, tc, et, tl1, tl2⟩ := ob1.form
   obtain ⟨f0, hf0⟩ : ∃ f0 : FD, Hid (R.F[p] = f0) := ⟨R.F[p], rfl⟩
   have hln := hide MZ.out.ln
   have hiF : p < (R.beg 1).F.length := by rw [be1]; exact hp
   have hf0' : Hid ((R.beg 1).F[p] = f0) := by show _ = _; simp only [be1]; exact hf0.out
   rw [hf0.out] at e1 tl1 ob1Z ob2Z hsz et
   have OB1 := hide ob1Z
   have OB2 := hide ob2Z
   have hbt : Hid (V.T[p].1.ownBlock ≠ some g) := fun e => MZ.out.ds 1 (2 * p + 6) (by omega) g hg1 (by rw [blk_N b V hl, e])
   have w0s := hide w0
   have ets := hide et
   rw [et] at w0
   obtain ⟨bl, hbl⟩ : ∃ bl : Nat, Hid (f0.1.length = bl) := ⟨f0.1.length, rfl⟩
   rw [hbl.out] at w0 tl1 ets
   have KC : Hid (∀ q : World, q.heap[g]? = Z.heap[g]? → q.cell? ⟨g, p * 3, none⟩ = some (.slice ta bl tc)) := fun q hq => by rw [← w0]; simp only [World.cell?, hq]
   have KP : Hid (Z.drew.heap[g]? = Z.heap[g]?) := rfl
   have BQ : Hid (Below Z.heap.size Z Z.drew) := (Below.refl _ _).drew
   have hsz' := hide hsz
   clear ob1 ob2 ob1Z ob2Z z0 c1 c2 y1 y2 hFi et w0 hsz
   refine wp_region_T (fun q => q.heap[g]? = Z.heap[g]?) 11 (by kernel_rfl) ?_
   generalize Z.drew = q at *
   refine Ix.tk 0 ⟨some 47, .move (.tmp 11), _, _, _, _⟩ (.pointer (some ⟨g, p * 3, none⟩)) [9,10,11] ?_ KP.out ?_
   ·intro wq hSw
    have y1 := KC.out wq hSw
    go_simp
   (try simp only [zzp, zzb, zzc])
   refine Ix.tk 1 ⟨some 48, .move (.tmp 11), _, _, _, _⟩ (.pointer (some ⟨g, p * 3, none⟩)) [2,3,4,8,11] ?_ KP.out ?_
   ·intro wq hSw
    have y1 := KC.out wq hSw
    go_simp
   (try simp only [zzp, zzb, zzc])
   refine Ix.tk 2 ⟨some 49, .nilCheck (.tmp 48), _, _, _, _⟩ (.pointer (some ⟨g, p * 3, none⟩)) [3,4,8,11] ?_ KP.out ?_
   ·intro wq hSw
    have y1 := KC.out wq hSw
    go_simp
   (try simp only [zzp, zzb, zzc])
   refine Ix.tk 3 ⟨some 50, .fieldAddr 138 (.tmp 49) 0, _, _, _, _⟩ (.pointer (some ⟨g, p * 3, none⟩)) [4,8,11] ?_ KP.out ?_
   ·intro wq hSw
    have y1 := KC.out wq hSw
    go_simp
   (try simp only [zzp, zzb, zzc])
   refine Ix.tk 4 ⟨some 51, .load 30 (.tmp 50), _, _, _, _⟩ (.slice ta bl tc) [8,11] ?_ KP.out ?_
   ·intro wq hSw
    have y1 := KC.out wq hSw
    go_simp
   (try simp only [zzp, zzb, zzc])
   refine Ix.tk 5 ⟨some 52, .move (.tmp 2), _, _, _, _⟩ (.slice av D.length cv) [7,8,11] ?_ KP.out ?_
   ·intro wq hSw
    have y1 := KC.out wq hSw
    go_simp
   (try simp only [zzp, zzb, zzc])
   refine Ix.tk 6 ⟨some 53, .move (.tmp 9), _, _, _, _⟩ (.int .i64 (n1 : Int)) [7,8,11] ?_ KP.out ?_
   ·intro wq hSw
    have y1 := KC.out wq hSw
    go_simp
   (try simp only [zzp, zzb, zzc])
   refine Ix.tk 7 ⟨some 54, .slice 30 (.tmp 52) none (some (.tmp 53)) none, _, _, _, _⟩ (.slice av n1 cv) [8,11] ?_ KP.out ?_
   ·intro wq hSw
    have y1 := KC.out wq hSw
    go_simp
   (try simp only [zzp, zzb, zzc])
   have V5 : Sl q (.slice av n1 cv) (D.take n1) := sl_take (Below.sl BQ.out VZ.out) hn1
   obtain ⟨v5, w5, hr, O5, G5, A5⟩ := run_appO (B := 0) (OB1.out.below BQ.out) V5 (by have := hsz'.out; rw [List.length_take]; omega) (Nat.zero_le _) 30
   rw [ets.out] at hr
   obtain ⟨a5, c5, e5, l51, l52⟩ := O5.form
   obtain ⟨m5, hm5⟩ : ∃ m5, Hid ((f0.1 ++ D.take n1).length = m5) := ⟨_, rfl⟩
   rw [hm5.out] at e5 l51
   have U5 : Hid (But (fun k => V.T[p].1.ownBlock = some k) q w5) := But.of_grownBy G5 fun k e => e
   have K5 : Hid (w5.heap[g]? = Z.heap[g]?) := (U5.out.block g (Nat.lt_of_lt_of_le (lt_of_cell w0s.out) BQ.out.size) hbt.out).trans KP.out
   refine wpAnyT_one (i := 8) (o := ⟨some 55, .call { callee := .builtin .append, args := #[.tmp 51, .tmp 54], argTypes := #[30, 30] }, _, _, _, _⟩) (by kernel_rfl) rfl (fun K hK => ?_)
   refine step_app rfl (.tmp 51) (.tmp 54) rfl _ _ _ w5 (by simp [Act.eval]) (by simp [Act.eval]) hr ?_
   refine hK.out _ _ (fun _ => K5.out) ?_
   clear hK K hr
   (try simp only [zzp, zzb, zzc])
   refine Ix.tk 9 ⟨some 56, .nilCheck (.tmp 47), _, _, _, _⟩ (.pointer (some ⟨g, p * 3, none⟩)) [10,11] ?_ K5.out ?_
   ·intro wq hSw
    have y1 := KC.out wq hSw
    go_simp
   (try simp only [zzp, zzb, zzc])
   refine Ix.tk 10 ⟨some 57, .fieldAddr 138 (.tmp 56) 0, _, _, _, _⟩ (.pointer (some ⟨g, p * 3, none⟩)) [11] ?_ K5.out ?_
   ·intro wq hSw
    have y1 := KC.out wq hSw
    go_simp
   (try simp only [zzp, zzb, zzc])
   have Q5 : Hid (But (fun k => V.T[p].1.ownBlock = some k) Z w5) := (But.of_below BQ.out _).trans U5.out
   have FF := ownsRow_but MZ.out.ff Q5.out (fun k hk => by rw [hg1] at hk; cases hk; exact hbt.out)
   rw [hvf] at FF
   have d1 : ∃ u, w5.cell? ⟨g, p * 3, none⟩ = some u := ⟨_, KC.out w5 K5.out⟩
   obtain ⟨u1, d1⟩ := d1
   have d2 : w5.frozen? ⟨g, p * 3, none⟩ = false := FF.frozenAt _
   have s1 := (FF.stored (p * 3) v5).1
   rw [fcells_setN _ _ p _ (f0.1 ++ D.take n1) hln.out hiF hl] at s1
   have g1 := But.of_grownBy (X := fun k => k = g) (grown_setCell w5 g (p * 3) v5) fun k e => by cases e; rfl
   have qz : Hid (q.heap.size = Z.heap.size ∨ Z.heap.size ≤ q.heap.size) := .inr BQ.out.size
   have nA : Hid (v5.ownBlock = V.T[p].1.ownBlock ∨ ∀ k, v5.ownBlock = some k → Z.heap.size ≤ k) := A5.imp id fun e k hk => by rw [e] at hk; simp at hk; have := BQ.out.size; omega
   have hbt5 : Hid (∀ k, v5.ownBlock = some k → k ≠ g) := fun k hk c => by
    subst c
    rcases nA.out with e | e
    ·exact hbt.out (by rw [← e]; exact hk)
    ·have q1 := e k hk
     have q2 := MZ.out.lt 1 k hg1
     omega
   have fin : Hid (Rgo Z (w5.setCell ⟨g, p * 3, none⟩ v5) b V ((R.beg 1).one p (f0.1 ++ D.take n1, f0.2))) := by
    refine RM.file MZ.out (i := p) hiF hl (t := (v5, V.T[p].2)) ?_ ?_ ?_ ((Q5.out.mono fun k _ e => .inr e).trans (g1.mono fun k _ e => .inl (by rw [hg1, e]))) nA.out (.inl rfl) ?_
    ·rw [hvf]
     simp only [hf0'.out] at s1
     exact s1
    ·exact Oc.but O5 g1 (fun k hk e => hbt5.out k hk e)
    ·refine Oc.but (OB2.out.but Q5.out fun k hk c => MZ.out.ds (2 * p + 6) (2 * p + 7) (by omega) k (by rw [blk_N b V hl]; exact c) (by rw [blk_L b V hl]; exact hk)) g1 (fun k hk e => MZ.out.ds 1 (2 * p + 7) (by omega) g hg1 (by rw [blk_L b V hl, hk, e]))
    ·intro k k1 k2
     rcases nA.out with e | e
     ·exact MZ.out.ds (2 * p + 6) (2 * p + 7) (by omega) k (by rw [blk_N b V hl, ← e]; exact k1) (by rw [blk_L b V hl]; exact k2)
     ·have q1 := e k k1
      have q2 := MZ.out.lt (2 * p + 7) k (by rw [blk_L b V hl]; exact k2)
      omega
   have fin2 := hide (fin.out.behind bZ.out)
   obtain ⟨⟨V6, M6, X6⟩, T6⟩ := fin2.out
   replace M6 := hide M6
   have y4 : (w5.setCell ⟨g, p * 3, none⟩ v5).cell? ⟨w1.heap.size, 1, none⟩ = some (.int .i64 0) := cell_but (cell_but y3 Q5.out (fun c => zb.out w1.heap.size ⟨2 * p + 6, by rw [blk_N b V hl]; exact c⟩ rfl)) g1 (fun c => zb.out g ⟨1, hg1⟩ c.symm)
   subst e5
   clear FF s1 g1 fin fin2 O5 V5 U5 Q5 G5 A5
   refine wpAnyT_one (i := 11) (o := ⟨none, .store 30 (.tmp 57) (.tmp 55), _, _, _, _⟩) (by kernel_rfl) rfl (fun K hK => ?_)
   go_simp
   refine hK.out _ _ (vac (by kernel_rfl)) ?_
   clear hK K d1 d2
   (try simp only [zzq])
   refine wpAnyT_done (by kernel_rfl) ?_ _
   obtain ⟨w6, hw6⟩ : ∃ w6, Hid (w5.setCell ⟨g, p * 3, none⟩ (.slice a5 m5 c5) = w6) := ⟨_, rfl⟩
   rw [hw6.out] at M6 T6 y4 ⊢
   have x1 : w6.cell? ⟨b, 15, none⟩ = some (.int .i64 R.c8) := (M6.out.cell 15).trans (by show some (Value.int .i64 (R.beg 1).c8) = _; rw [beg_c8])
   have x2 : w6.frozen? ⟨b, 15, none⟩ = false := by simp [World.frozen?, M6.out.box]
   have g7 := But.of_grownBy (X := fun k => k = b) (grown_setCell w6 b 15 (.int .i64 (R.c8 + (n1 : Int)))) fun k e => by cases e; rfl
   have y5 : (w6.setCell ⟨b, 15, none⟩ (.int .i64 (R.c8 + (n1 : Int)))).cell? ⟨w1.heap.size, 1, none⟩ = some (.int .i64 0) := cell_but y4 g7 (fun c => zb.out b ⟨0, rfl⟩ c.symm)
   have fin3 : Hid (Rgo w (w6.setCell ⟨b, 15, none⟩ (.int .i64 (R.c8 + (n1 : Int)))) b V (((R.beg 1).one p (f0.1 ++ D.take n1, f0.2)).put (R.c8 + (n1 : Int)))) := by
    refine Rgo.then (R' := ((R.beg 1).one p (f0.1 ++ D.take n1, f0.2)).put (R.c8 + (n1 : Int))) (Rgo.same (M6.out.turn (R' := ((R.beg 1).one p (f0.1 ++ D.take n1, f0.2)).put (R.c8 + (n1 : Int))) g7 ?_ ⟨rfl, rfl, rfl, rfl, rfl⟩) g7) X6 T6
    exact heap_setCell_same w6 b 15 _ _ (.int .i64 (R.c8 + (n1 : Int))) M6.out.box
   clear M6 T6 X6 g7 fl1 fl2
   by_cases c : n1 < D.length
   ·have c1 : (n1 : Int) < (D.length : Int) := by omega
    have e2 : Hid ((if ((0 : Int)) ≠ 0 then toldN 0 else if n1 < D.length then (21 : Int) else 0) = 21) := by show _ = _; rw [if_neg (by simp), if_pos c]
    rw [e2.out] at e1
    go_wp2_with fail
    go_ret2
    rw [e1.out]
    exact ⟨rfl, fin3.out⟩
   ·have c1 : ¬ (n1 : Int) < (D.length : Int) := by omega
    have e2 : Hid ((if ((0 : Int)) ≠ 0 then toldN 0 else if n1 < D.length then (21 : Int) else 0) = 0) := by show _ = _; rw [if_neg (by simp), if_neg c]
    rw [e2.out] at e1
    go_wp2_with fail
    go_ret2
    rw [e1.out]
    exact ⟨rfl, fin3.out⟩
  ·have k0' : (fk != 0) = true := by simpa using k0
   have hmn := hz2.out k0
   go_enter Tryz.func46, Tryz.ntmps46
   go_upto_region 6 with (first
    | (go_at_call 95; refine hR.mono ?_; rintro e w1 ⟨rfl, e1'⟩; subst w1)
    | (go_at_call 100; refine (hRm.out _ HM.out).mono ?_; rintro e wa ⟨rfl, Ba⟩; replace Ba := hide Ba; have Ma := hide (HM.out.below Ba.out))
    | (go_at_call 97; refine (hB.out _ Ma.out).mono ?_; rintro e w1 ⟨rfl, M1, b1⟩; replace M1 := hide M1; replace b1 := hide b1))
   have z1 := heap_alloc_new w1 (.cells #[.int .i64 fa, .int .i64 fk, .int .i64 fp] 118)
   have BX := hide (box_below w1 (.cells #[.int .i64 fa, .int .i64 fk, .int .i64 fp] 118))
   obtain ⟨Y, hY⟩ : ∃ Y, Hid (w1.alloc (.cells #[.int .i64 fa, .int .i64 fk, .int .i64 fp] 118) = Y) := ⟨_, rfl⟩
   rw [hY.out] at z1 BX ⊢
   have y1 : Y.cell? ⟨w1.heap.size, 1, none⟩ = some (.int .i64 fk) := by simp [World.cell?, z1]
   have y2 : Y.cell? ⟨w1.heap.size, 2, none⟩ = some (.int .i64 fp) := by simp [World.cell?, z1]
   have MY := hide (M1.out.below BX.out)
   have bY : Hid (But (fun k => k = b) w Y) := (But.of_below Ba.out _).trans (b1.out.trans (But.of_below BX.out _))
   have VY : Hid (Sl Y (.slice av D.length cv) D) := sl_but VV.out bY.out (hov.out.mono fun k hk => ⟨0, by rw [hk]; rfl⟩)
   have zb : Hid (∀ k, (∃ x, blk b V x = some k) → k ≠ w1.heap.size) := fun k ⟨x, hx⟩ e => by have := M1.out.lt x k hx; omega
   clear z1 hR hRm hB
   obtain ⟨g, cap, hvf, fl1, fl2, hl, z0, _, _⟩ := MY.out.at (i := R.pOf s) (by rw [be1]; exact hp)
   have c1 : Y.cell? ⟨b, 1, none⟩ = some V.vF := (MY.out.cell 1).trans rfl
   have c2 : Y.cell? ⟨b, 2, none⟩ = some V.vD := (MY.out.cell 2).trans rfl
   rw [hvf, be1] at c1
   rw [hvd] at c2
   rw [be1] at fl1
   obtain ⟨ob1, ob2⟩ := MY.out.nn (R.pOf s) (by rw [be1]; exact hp)
   simp only [be1] at ob1 ob2
   have hg1 : V.vF.ownBlock = some g := by rw [hvf]; exact own_some _ _ _
   generalize hpp : R.pOf s = p at *
   have ip : (p : Int) < (R.F.length : Int) := by omega
   clear hpp
   go_upto_region 8 with fail
   go_quiet ((go_at_call 96; exact Calls.quiet_of_same (hFi.out _ (MY.out.below (Qt.below ⟨_, rfl⟩ _)))))
   have B3 : Hid (Below Y.heap.size Y (Y.drewN nq)) := Qt.below ⟨nq, rfl⟩ _
   have MZ := hide (MY.out.below B3.out)
   have y3 : (Y.drewN nq).cell? ⟨w1.heap.size, 1, none⟩ = some (.int .i64 fk) := by rw [B3.out.cell (lt_of_cell y1)]; exact y1
   have bZ : Hid (But (fun k => k = b) w (Y.drewN nq)) := bY.out.trans (But.of_below B3.out _)
   have VZ : Hid (Sl (Y.drewN nq) (.slice av D.length cv) D) := Below.sl B3.out VY.out
   have ob1Z := ob1.below B3.out
   have ob2Z := ob2.below B3.out
   have w0 : (Y.drewN nq).cell? ⟨g, p * 3, none⟩ = some V.T[p].1 := by rw [B3.out.cell (lt_of_cell z0)]; exact z0
   generalize Y.drewN nq = Z at *
   go_upto_region 9 with fail
   obtain ⟨ta, tc, et, tl1, tl2⟩ := ob1.form
   obtain ⟨f0, hf0⟩ : ∃ f0 : FD, Hid (R.F[p] = f0) := ⟨R.F[p], rfl⟩
   have hln := hide MZ.out.ln
   have hiF : p < (R.beg 1).F.length := by rw [be1]; exact hp
   have hf0' : Hid ((R.beg 1).F[p] = f0) := by show _ = _; simp only [be1]; exact hf0.out
   rw [hf0.out] at e1 tl1 ob1Z ob2Z hsz et
   have OB1 := hide ob1Z
   have OB2 := hide ob2Z
   have hbt : Hid (V.T[p].1.ownBlock ≠ some g) := fun e => MZ.out.ds 1 (2 * p + 6) (by omega) g hg1 (by rw [blk_N b V hl, e])
   have w0s := hide w0
   have ets := hide et
   rw [et] at w0
   obtain ⟨bl, hbl⟩ : ∃ bl : Nat, Hid (f0.1.length = bl) := ⟨f0.1.length, rfl⟩
   rw [hbl.out] at w0 tl1 ets
   have KC : Hid (∀ q : World, q.heap[g]? = Z.heap[g]? → q.cell? ⟨g, p * 3, none⟩ = some (.slice ta bl tc)) := fun q hq => by rw [← w0]; simp only [World.cell?, hq]
   have KP : Hid (Z.drew.heap[g]? = Z.heap[g]?) := rfl
   have BQ : Hid (Below Z.heap.size Z Z.drew) := (Below.refl _ _).drew
   have hsz' := hide hsz
   clear ob1 ob2 ob1Z ob2Z z0 c1 c2 y1 y2 hFi et w0 hsz
   refine wp_region_T (fun q => q.heap[g]? = Z.heap[g]?) 11 (by kernel_rfl) ?_
   generalize Z.drew = q at *
   refine Ix.tk 0 ⟨some 47, .move (.tmp 11), _, _, _, _⟩ (.pointer (some ⟨g, p * 3, none⟩)) [9,10,11] ?_ KP.out ?_
   ·intro wq hSw
    have y1 := KC.out wq hSw
    go_simp
   (try simp only [zzp, zzb, zzc])
   refine Ix.tk 1 ⟨some 48, .move (.tmp 11), _, _, _, _⟩ (.pointer (some ⟨g, p * 3, none⟩)) [2,3,4,8,11] ?_ KP.out ?_
   ·intro wq hSw
    have y1 := KC.out wq hSw
    go_simp
   (try simp only [zzp, zzb, zzc])
   refine Ix.tk 2 ⟨some 49, .nilCheck (.tmp 48), _, _, _, _⟩ (.pointer (some ⟨g, p * 3, none⟩)) [3,4,8,11] ?_ KP.out ?_
   ·intro wq hSw
    have y1 := KC.out wq hSw
    go_simp
   (try simp only [zzp, zzb, zzc])
   refine Ix.tk 3 ⟨some 50, .fieldAddr 138 (.tmp 49) 0, _, _, _, _⟩ (.pointer (some ⟨g, p * 3, none⟩)) [4,8,11] ?_ KP.out ?_
   ·intro wq hSw
    have y1 := KC.out wq hSw
    go_simp
   (try simp only [zzp, zzb, zzc])
   refine Ix.tk 4 ⟨some 51, .load 30 (.tmp 50), _, _, _, _⟩ (.slice ta bl tc) [8,11] ?_ KP.out ?_
   ·intro wq hSw
    have y1 := KC.out wq hSw
    go_simp
   (try simp only [zzp, zzb, zzc])
   refine Ix.tk 5 ⟨some 52, .move (.tmp 2), _, _, _, _⟩ (.slice av D.length cv) [7,8,11] ?_ KP.out ?_
   ·intro wq hSw
    have y1 := KC.out wq hSw
    go_simp
   (try simp only [zzp, zzb, zzc])
   refine Ix.tk 6 ⟨some 53, .move (.tmp 9), _, _, _, _⟩ (.int .i64 (n : Int)) [7,8,11] ?_ KP.out ?_
   ·intro wq hSw
    have y1 := KC.out wq hSw
    go_simp
   (try simp only [zzp, zzb, zzc])
   refine Ix.tk 7 ⟨some 54, .slice 30 (.tmp 52) none (some (.tmp 53)) none, _, _, _, _⟩ (.slice av n cv) [8,11] ?_ KP.out ?_
   ·intro wq hSw
    have y1 := KC.out wq hSw
    go_simp
   (try simp only [zzp, zzb, zzc])
   have V5 : Sl q (.slice av n cv) (D.take n) := sl_take (Below.sl BQ.out VZ.out) hn1
   obtain ⟨v5, w5, hr, O5, G5, A5⟩ := run_appO (B := 0) (OB1.out.below BQ.out) V5 (by have := hsz'.out; rw [List.length_take]; omega) (Nat.zero_le _) 30
   rw [ets.out] at hr
   obtain ⟨a5, c5, e5, l51, l52⟩ := O5.form
   obtain ⟨m5, hm5⟩ : ∃ m5, Hid ((f0.1 ++ D.take n).length = m5) := ⟨_, rfl⟩
   rw [hm5.out] at e5 l51
   have U5 : Hid (But (fun k => V.T[p].1.ownBlock = some k) q w5) := But.of_grownBy G5 fun k e => e
   have K5 : Hid (w5.heap[g]? = Z.heap[g]?) := (U5.out.block g (Nat.lt_of_lt_of_le (lt_of_cell w0s.out) BQ.out.size) hbt.out).trans KP.out
   refine wpAnyT_one (i := 8) (o := ⟨some 55, .call { callee := .builtin .append, args := #[.tmp 51, .tmp 54], argTypes := #[30, 30] }, _, _, _, _⟩) (by kernel_rfl) rfl (fun K hK => ?_)
   refine step_app rfl (.tmp 51) (.tmp 54) rfl _ _ _ w5 (by simp [Act.eval]) (by simp [Act.eval]) hr ?_
   refine hK.out _ _ (fun _ => K5.out) ?_
   clear hK K hr
   (try simp only [zzp, zzb, zzc])
   refine Ix.tk 9 ⟨some 56, .nilCheck (.tmp 47), _, _, _, _⟩ (.pointer (some ⟨g, p * 3, none⟩)) [10,11] ?_ K5.out ?_
   ·intro wq hSw
    have y1 := KC.out wq hSw
    go_simp
   (try simp only [zzp, zzb, zzc])
   refine Ix.tk 10 ⟨some 57, .fieldAddr 138 (.tmp 56) 0, _, _, _, _⟩ (.pointer (some ⟨g, p * 3, none⟩)) [11] ?_ K5.out ?_
   ·intro wq hSw
    have y1 := KC.out wq hSw
    go_simp
   (try simp only [zzp, zzb, zzc])
   have Q5 : Hid (But (fun k => V.T[p].1.ownBlock = some k) Z w5) := (But.of_below BQ.out _).trans U5.out
   have FF := ownsRow_but MZ.out.ff Q5.out (fun k hk => by rw [hg1] at hk; cases hk; exact hbt.out)
   rw [hvf] at FF
   have d1 : ∃ u, w5.cell? ⟨g, p * 3, none⟩ = some u := ⟨_, KC.out w5 K5.out⟩
   obtain ⟨u1, d1⟩ := d1
   have d2 : w5.frozen? ⟨g, p * 3, none⟩ = false := FF.frozenAt _
   have s1 := (FF.stored (p * 3) v5).1
   rw [fcells_setN _ _ p _ (f0.1 ++ D.take n) hln.out hiF hl] at s1
   have g1 := But.of_grownBy (X := fun k => k = g) (grown_setCell w5 g (p * 3) v5) fun k e => by cases e; rfl
   have qz : Hid (q.heap.size = Z.heap.size ∨ Z.heap.size ≤ q.heap.size) := .inr BQ.out.size
   have nA : Hid (v5.ownBlock = V.T[p].1.ownBlock ∨ ∀ k, v5.ownBlock = some k → Z.heap.size ≤ k) := A5.imp id fun e k hk => by rw [e] at hk; simp at hk; have := BQ.out.size; omega
   have hbt5 : Hid (∀ k, v5.ownBlock = some k → k ≠ g) := fun k hk c => by
    subst c
    rcases nA.out with e | e
    ·exact hbt.out (by rw [← e]; exact hk)
    ·have q1 := e k hk
     have q2 := MZ.out.lt 1 k hg1
     omega
   have fin : Hid (Rgo Z (w5.setCell ⟨g, p * 3, none⟩ v5) b V ((R.beg 1).one p (f0.1 ++ D.take n, f0.2))) := by
    refine RM.file MZ.out (i := p) hiF hl (t := (v5, V.T[p].2)) ?_ ?_ ?_ ((Q5.out.mono fun k _ e => .inr e).trans (g1.mono fun k _ e => .inl (by rw [hg1, e]))) nA.out (.inl rfl) ?_
    ·rw [hvf]
     simp only [hf0'.out] at s1
     exact s1
    ·exact Oc.but O5 g1 (fun k hk e => hbt5.out k hk e)
    ·refine Oc.but (OB2.out.but Q5.out fun k hk c => MZ.out.ds (2 * p + 6) (2 * p + 7) (by omega) k (by rw [blk_N b V hl]; exact c) (by rw [blk_L b V hl]; exact hk)) g1 (fun k hk e => MZ.out.ds 1 (2 * p + 7) (by omega) g hg1 (by rw [blk_L b V hl, hk, e]))
    ·intro k k1 k2
     rcases nA.out with e | e
     ·exact MZ.out.ds (2 * p + 6) (2 * p + 7) (by omega) k (by rw [blk_N b V hl, ← e]; exact k1) (by rw [blk_L b V hl]; exact k2)
     ·have q1 := e k k1
      have q2 := MZ.out.lt (2 * p + 7) k (by rw [blk_L b V hl]; exact k2)
      omega
   have fin2 := hide (fin.out.behind bZ.out)
   obtain ⟨⟨V6, M6, X6⟩, T6⟩ := fin2.out
   replace M6 := hide M6
   have y4 : (w5.setCell ⟨g, p * 3, none⟩ v5).cell? ⟨w1.heap.size, 1, none⟩ = some (.int .i64 fk) := cell_but (cell_but y3 Q5.out (fun c => zb.out w1.heap.size ⟨2 * p + 6, by rw [blk_N b V hl]; exact c⟩ rfl)) g1 (fun c => zb.out g ⟨1, hg1⟩ c.symm)
   subst e5
   clear FF s1 g1 fin fin2 O5 V5 U5 Q5 G5 A5
   refine wpAnyT_one (i := 11) (o := ⟨none, .store 30 (.tmp 57) (.tmp 55), _, _, _, _⟩) (by kernel_rfl) rfl (fun K hK => ?_)
   go_simp
   refine hK.out _ _ (vac (by kernel_rfl)) ?_
   clear hK K d1 d2
   (try simp only [zzq])
   refine wpAnyT_done (by kernel_rfl) ?_ _
   obtain ⟨w6, hw6⟩ : ∃ w6, Hid (w5.setCell ⟨g, p * 3, none⟩ (.slice a5 m5 c5) = w6) := ⟨_, rfl⟩
   rw [hw6.out] at M6 T6 y4 ⊢
   have x1 : w6.cell? ⟨b, 15, none⟩ = some (.int .i64 R.c8) := (M6.out.cell 15).trans (by show some (Value.int .i64 (R.beg 1).c8) = _; rw [beg_c8])
   have x2 : w6.frozen? ⟨b, 15, none⟩ = false := by simp [World.frozen?, M6.out.box]
   have g7 := But.of_grownBy (X := fun k => k = b) (grown_setCell w6 b 15 (.int .i64 (R.c8 + (n : Int)))) fun k e => by cases e; rfl
   have y5 : (w6.setCell ⟨b, 15, none⟩ (.int .i64 (R.c8 + (n : Int)))).cell? ⟨w1.heap.size, 1, none⟩ = some (.int .i64 fk) := cell_but y4 g7 (fun c => zb.out b ⟨0, rfl⟩ c.symm)
   have fin3 : Hid (Rgo w (w6.setCell ⟨b, 15, none⟩ (.int .i64 (R.c8 + (n : Int)))) b V (((R.beg 1).one p (f0.1 ++ D.take n, f0.2)).put (R.c8 + (n : Int)))) := by
    refine Rgo.then (R' := ((R.beg 1).one p (f0.1 ++ D.take n, f0.2)).put (R.c8 + (n : Int))) (Rgo.same (M6.out.turn (R' := ((R.beg 1).one p (f0.1 ++ D.take n, f0.2)).put (R.c8 + (n : Int))) g7 ?_ ⟨rfl, rfl, rfl, rfl, rfl⟩) g7) X6 T6
    exact heap_setCell_same w6 b 15 _ _ (.int .i64 (R.c8 + (n : Int))) M6.out.box
   clear M6 T6 X6 g7 fl1 fl2
   have hTo2 : Hid (∀ q, Calls Tryz.prog 98 #[.int .i64 fk] q fun e w' => e = .returned (.int .i64 (toldN fk)) ∧ w' = q) := fun q => told_ref q fk
   have e2 : Hid ((if fk ≠ 0 then toldN fk else if n < D.length then (21 : Int) else 0) = toldN fk) := by show _ = _; rw [if_pos k0]
   rw [e2.out] at e1
   obtain ⟨tk, htk⟩ : ∃ tk, Hid (toldN fk = tk) := ⟨_, rfl⟩
   rw [htk.out] at hTo2 e1
   go_wp2_with (go_at_call 98; refine (hTo2.out _).mono ?_; rintro e w2 ⟨rfl, e2⟩; subst w2)
   go_ret2
   rw [e1.out]
   exact ⟨rfl, fin3.out⟩
 ·have e1 : X = (R, 0, refN R.down R.dir s true) := by rw [← hX.out]; unfold RB.append; rw [if_pos h0]
  have H := hide h
  obtain ⟨av, cv, rfl, _, q3, q4, _⟩ := hv
  rw [e1]
  clear h e1 hg hov
  generalize refN R.down R.dir s true = rn at *
  have h0' : (rn != 0) = true := by simpa using h0
  go_enter Tryz.func46, Tryz.ntmps46
  go_wp2_with (go_at_call 95; refine hR.mono ?_; rintro e w1 ⟨rfl, e1'⟩; subst w1)
  go_ret2
  exact ⟨rfl, Rgo.refl H.out⟩
theorem below_new {w q q' : World} {g : Nat} (hb : Below w.heap.size w q) (h : But (fun k => k = g) q q') (hg : w.heap.size ≤ g) : Below w.heap.size w q' :=
 ⟨h.os.trans hb.os, h.tape.trans hb.tape, h.output.trans hb.output, Nat.le_trans hb.size h.size, fun k hk => (h.block k (Nat.lt_of_lt_of_le hk hb.size) (by omega)).trans (hb.block k hk)⟩
theorem three_store {q : World} {g : Nat} {a b c : Value} {T : TypeId} (x y z : Value) (h : q.heap[g]? = some (.cells #[a, b, c] T (0, 0))) :
    (q.cell? ⟨g, 0, none⟩ = some a ∧ q.frozen? ⟨g, 0, none⟩ = false) ∧ ((q.setCell ⟨g, 0, none⟩ x).cell? ⟨g, 1, none⟩ = some b ∧ (q.setCell ⟨g, 0, none⟩ x).frozen? ⟨g, 1, none⟩ = false) ∧
    (((q.setCell ⟨g, 0, none⟩ x).setCell ⟨g, 1, none⟩ y).cell? ⟨g, 2, none⟩ = some c ∧ ((q.setCell ⟨g, 0, none⟩ x).setCell ⟨g, 1, none⟩ y).frozen? ⟨g, 2, none⟩ = false) ∧
    (((q.setCell ⟨g, 0, none⟩ x).setCell ⟨g, 1, none⟩ y).setCell ⟨g, 2, none⟩ z).heap[g]? = some (.cells #[x, y, z] T (0, 0)) ∧ But (fun k => k = g) q (((q.setCell ⟨g, 0, none⟩ x).setCell ⟨g, 1, none⟩ y).setCell ⟨g, 2, none⟩ z) := by
 have h1 := heap_setCell_same q g 0 _ _ x h
 have h2 := heap_setCell_same _ g 1 _ _ y h1
 have h3 := heap_setCell_same _ g 2 _ _ z h2
 have b1 := But.of_grownBy (X := fun k => k = g) (grown_setCell q g 0 x) fun k e => by cases e; rfl
 have b2 := But.of_grownBy (X := fun k => k = g) (grown_setCell (q.setCell ⟨g, 0, none⟩ x) g 1 y) fun k e => by cases e; rfl
 have b3 := But.of_grownBy (X := fun k => k = g) (grown_setCell ((q.setCell ⟨g, 0, none⟩ x).setCell ⟨g, 1, none⟩ y) g 2 z) fun k e => by cases e; rfl
 refine ⟨⟨by simp [World.cell?, h], by simp [World.frozen?, h]⟩, ⟨by simp [World.cell?, h1], by simp [World.frozen?, h1]⟩, ⟨by simp [World.cell?, h2], by simp [World.frozen?, h2]⟩, ?_, (b1.trans b2).trans b3⟩
 rw [h3]
 rfl
def RB.front (R : RB) (n : Int) : Dr := runR R.old (R.pe.take n.toNat)
theorem dir_rm {w : World} {b : Nat} {R : RB} {V : RV} (h : RM w b R V) (hl : ((R.old.length + R.pe.length : Nat) : Int) ≤ 1000000000) (hf : ∀ c ∈ R.pe, -9223372036854775808 ≤ c.fi ∧ c.fi ≤ 9223372036854775807) (n : Int) :
    Calls Tryz.prog 89 #[.pointer (some ⟨b, 0, none⟩), .int .i64 n] w fun e w' => ∃ v', e = .returned v' ∧ En w.heap.size w' v' (R.front n) ∧ Below w.heap.size w w' :=
 dir_ref w b V.vO V.vP R.old R.pe n ((h.cell 3).trans rfl) ((h.cell 4).trans rfl) h.oo.er h.pp.pr hl hf
theorem front_len (R : RB) (n : Int) : (R.front n).length ≤ R.old.length + R.pe.length := by
 have := runR_len R.old (R.pe.take n.toNat)
 rw [List.length_take] at this
 unfold RB.front
 omega
def RB.tlOf (R : RB) (p : Nat) : Nat := match R.F[p]? with | some f => f.1.length - f.2.1.length | none => 0
def RB.tails (R : RB) (n : Int) : Tls := (R.front n).map fun e => (e.1, R.tlOf e.2)
theorem owns_lowerT {w : World} {B C : Nat} {v : Value} {L : Tls} (h : Tl B w v L) (hb : C ≤ B) : Tl C w v L := ⟨h.1, h.2.imp id fun ⟨g, cap, cur, e, hg, r⟩ => ⟨g, cap, cur, e, Nat.le_trans hb hg, r⟩⟩
theorem rtails_def (R : RB) (n : Int) : R.tails n = (R.front n).map fun e => (e.1, R.tlOf e.2) := rfl
theorem tails_rm {w : World} {b : Nat} {R : RB} {V : RV} (h : RM w b R V) (hl : ((R.old.length + R.pe.length : Nat) : Int) ≤ 1000000000) (hf : ∀ c ∈ R.pe, -9223372036854775808 ≤ c.fi ∧ c.fi ≤ 9223372036854775807) (n : Int) (hgL : ∀ e ∈ R.front n, e.2 < R.F.length) (hla : ∀ f ∈ R.F, f.2.1.length ≤ f.1.length ∧ (f.1.length : Int) ≤ 100000000) :
    Calls Tryz.prog 63 #[.pointer (some ⟨b, 0, none⟩), .int .i64 n] w fun e w' => ∃ v, e = .returned v ∧ Tl w.heap.size w' v (R.tails n) ∧ Below w.heap.size w w' := by
 have hD := dir_rm h hl hf n
 have hLn := front_len R n
 rw [rtails_def R n]
 obtain ⟨L, hL⟩ : ∃ L, Hid (R.front n = L) := ⟨_, rfl⟩
 rw [hL.out] at hD hgL hLn ⊢
 have HM := hide h
 replace hgL := hide hgL
 replace hla := hide hla
 obtain ⟨i0, hi, hz0, hz1, hz2⟩ := info_parts infoTl
 replace hi := hide hi
 obtain ⟨N, hN⟩ : ∃ N, Hid (L.length = N) := ⟨_, rfl⟩
 have hN3 : Hid ((N : Int) ≤ 1000000000) := by show _ ≤ _; rw [← hN.out]; omega
 clear h hf hl hLn
 go_enter Tryz.func63, Tryz.ntmps63
 go_wp2_with (go_at_call 89; refine hD.mono ?_; rintro e w1 ⟨v1, rfl, E1, b1⟩; obtain ⟨da, dc, rfl, dl1, dl2, q3⟩ := E1.tr; replace b1 := hide b1)
 rw [hN.out] at dl1 ⊢
 have M1 := hide (HM.out.below b1.out)
 replace q3 := hide q3
 clear E1 hD
 go_loopw [5, 7] (fun v5 i wr => ∃ k : Nat, i = .int .i64 k ∧ k ≤ N ∧ Hid (Tl w1.heap.size wr v5 ((L.take k).map fun e => (e.1, R.tlOf e.2))) ∧ Hid (Below w1.heap.size w1 wr)) (fun _ i _ => N - (intOf i).toNat)
 case atStart => exact ⟨0, rfl, Nat.zero_le _, Tl.nil _ _, Below.refl _ _⟩
 case round =>
  obtain ⟨k, rfl, hk, hO, hB⟩ := hrel
  by_cases hlt : k < N
  ·have i1 : (k : Int) < (N : Int) := by omega
   have hkl : k < L.length := by rw [hN.out]; exact hlt
   obtain ⟨gb, off, rfl, y0, y1⟩ := q3.out k hkl
   rw [← hB.out.cell (p := ⟨gb, off + k * 2, none⟩) (lt_of_cell y0)] at y0
   rw [← hB.out.cell (p := ⟨gb, off + k * 2 + 1, none⟩) (lt_of_cell y1)] at y1
   have hp := hgL.out L[k] (List.getElem_mem hkl)
   have MR := hide (M1.out.below hB.out)
   obtain ⟨g, cap, evf, fl1, fl2, hl, z0, z1, z2⟩ := MR.out.at hp
   have c1 : wr.cell? ⟨b, 1, none⟩ = some V.vF := (MR.out.cell 1).trans rfl
   rw [evf] at c1
   obtain ⟨ta, tc, et, tl1, tl2⟩ := (MR.out.nn _ hp).1.form
   obtain ⟨la, lc, eL, ll1, ll2⟩ := (MR.out.nn _ hp).2.form
   have hlap := hla.out _ (List.getElem_mem hp)
   have hto : R.tlOf L[k].2 = R.F[L[k].2].1.length - R.F[L[k].2].2.1.length := by unfold RB.tlOf; rw [List.getElem?_eq_getElem hp]
   have hsn : Hid ((L.take (k + 1)).map (fun e => (e.1, R.tlOf e.2)) = (L.take k).map (fun e => (e.1, R.tlOf e.2)) ++ [(L[k].1, R.F[L[k].2].1.length - R.F[L[k].2].2.1.length)]) := by show _ = _; rw [List.take_succ_eq_append_getElem hkl, List.map_append, ← hto]; rfl
   have hll : Hid (((L.take k).map (fun e => (e.1, R.tlOf e.2))).length = k) := by show _ = _; rw [List.length_map, List.length_take]; omega
   rw [et] at z0
   rw [eL] at z1
   have ip : (L[k].2 : Int) < (R.F.length : Int) := by omega
   have en : Hid (((R.F[L[k].2].1.length - R.F[L[k].2].2.1.length : Nat) : Int) = (R.F[L[k].2].1.length : Int) - (R.F[L[k].2].2.1.length : Int)) := by show _ = _; have := hlap.1; omega
   have hwr : IntKind.i64.wrap ((R.F[L[k].2].1.length : Int) - (R.F[L[k].2].2.1.length : Int)) = (R.F[L[k].2].1.length : Int) - (R.F[L[k].2].2.1.length : Int) := by rw [IntKind.wrap_i64]; omega
   generalize R.F[L[k].2].1.length = bl at *
   generalize R.F[L[k].2].2.1.length = ll at *
   generalize R.F[L[k].2].2.2 = sp at *
   clear et eL hto hlap
   generalize hpp : L[k].2 = p at *
   generalize hss : L[k].1 = s at *
   generalize (L.take k).map (fun e => (e.1, R.tlOf e.2)) = D at *
   have hes : Hid (encStr s = .string (bsOf s)) := rfl
   generalize bsOf s = t at *
   generalize hFl : R.F.length = fl at *
   clear hpp hss MR hp
   replace hsn := hide hsn
   have KC : Hid (∀ q : World, Below wr.heap.size wr q → q.cell? ⟨b, 1, none⟩ = some (.slice (some ⟨g, 0, none⟩) fl cap) ∧ q.cell? ⟨gb, off + k * 2 + 1, none⟩ = some (.int .i64 (p : Int)) ∧ q.cell? ⟨g, p * 3, none⟩ = some (.slice ta bl tc) ∧ q.cell? ⟨g, p * 3 + 1, none⟩ = some (.slice la ll lc) ∧ q.cell? ⟨g, p * 3 + 2, none⟩ = some (.int .i64 sp) ∧ q.cell? ⟨gb, off + k * 2, none⟩ = some (.string t)) := fun q hq => ⟨by rw [hq.cell (lt_of_cell c1)]; exact c1, by rw [hq.cell (lt_of_cell y1)]; exact y1, by rw [hq.cell (lt_of_cell z0)]; exact z0, by rw [hq.cell (lt_of_cell z1)]; exact z1, by rw [hq.cell (lt_of_cell z2)]; exact z2, by rw [hq.cell (lt_of_cell y0)]; exact y0⟩
   clear c1 y0 y1 z0 z1 z2
   go_upto_region 6 with fail
   have KP : Hid (Below wr.heap.size wr wr.drew) := (Below.refl _ _).drew
   refine wp_region_T (fun q => Below wr.heap.size wr q) 12 (by kernel_rfl) ?_
   generalize wr.drew = q at *
   refine Ix.tk 0 ⟨some 18, .move (.tmp 0), _, _, _, _⟩ (.pointer (some ⟨b, 0, none⟩)) [1,2,3,9,10,12] ?_ KP.out ?_
   ·intro wq hSw
    obtain ⟨x1, x2, x3, x4, x5, x6⟩ := KC.out wq hSw
    go_simp
   (try simp only [zzp, zzb, zzc])
   refine Ix.tk 1 ⟨some 19, .nilCheck (.tmp 18), _, _, _, _⟩ (.pointer (some ⟨b, 0, none⟩)) [2,3,9,10,12] ?_ KP.out ?_
   ·intro wq hSw
    obtain ⟨x1, x2, x3, x4, x5, x6⟩ := KC.out wq hSw
    go_simp
   (try simp only [zzp, zzb, zzc])
   refine Ix.tk 2 ⟨some 20, .fieldAddr 103 (.tmp 19) 1, _, _, _, _⟩ (.pointer (some ⟨b, 1, none⟩)) [3,9,10,12] ?_ KP.out ?_
   ·intro wq hSw
    obtain ⟨x1, x2, x3, x4, x5, x6⟩ := KC.out wq hSw
    go_simp
   (try simp only [zzp, zzb, zzc])
   refine Ix.tk 3 ⟨some 21, .load 99 (.tmp 20), _, _, _, _⟩ (.slice (some ⟨g, 0, none⟩) fl cap) [9,10,12] ?_ KP.out ?_
   ·intro wq hSw
    obtain ⟨x1, x2, x3, x4, x5, x6⟩ := KC.out wq hSw
    go_simp
   (try simp only [zzp, zzb, zzc])
   refine Ix.tk 4 ⟨some 22, .move (.tmp 6), _, _, _, _⟩ (.slice (some ⟨gb, off, none⟩) N dc) [6,7,8,9,10,12] ?_ KP.out ?_
   ·intro wq hSw
    obtain ⟨x1, x2, x3, x4, x5, x6⟩ := KC.out wq hSw
    go_simp
   (try simp only [zzp, zzb, zzc])
   refine Ix.tk 5 ⟨some 23, .move (.tmp 7), _, _, _, _⟩ (.int .i64 (k : Int)) [6,7,8,9,10,12] ?_ KP.out ?_
   ·intro wq hSw
    obtain ⟨x1, x2, x3, x4, x5, x6⟩ := KC.out wq hSw
    go_simp
   (try simp only [zzp, zzb, zzc])
   refine Ix.tk 6 ⟨some 24, .indexAddr 100 (.tmp 22) (.tmp 23), _, _, _, _⟩ (.pointer (some ⟨gb, off + k * 2, none⟩)) [7,8,9,10,12] ?_ KP.out ?_
   ·intro wq hSw
    obtain ⟨x1, x2, x3, x4, x5, x6⟩ := KC.out wq hSw
    go_simp
   (try simp only [zzp, zzb, zzc])
   refine Ix.tk 7 ⟨some 25, .fieldAddr 142 (.tmp 24) 1, _, _, _, _⟩ (.pointer (some ⟨gb, off + k * 2 + 1, none⟩)) [8,9,10,12] ?_ KP.out ?_
   ·intro wq hSw
    obtain ⟨x1, x2, x3, x4, x5, x6⟩ := KC.out wq hSw
    go_simp
   (try simp only [zzp, zzb, zzc])
   refine Ix.tk 8 ⟨some 26, .load 3 (.tmp 25), _, _, _, _⟩ (.int .i64 (p : Int)) [9,10,12] ?_ KP.out ?_
   ·intro wq hSw
    obtain ⟨x1, x2, x3, x4, x5, x6⟩ := KC.out wq hSw
    go_simp
   (try simp only [zzp, zzb, zzc])
   refine Ix.tk 9 ⟨some 27, .indexAddr 99 (.tmp 21) (.tmp 26), _, _, _, _⟩ (.pointer (some ⟨g, p * 3, none⟩)) [10,12] ?_ KP.out ?_
   ·intro wq hSw
    obtain ⟨x1, x2, x3, x4, x5, x6⟩ := KC.out wq hSw
    go_simp
   (try simp only [zzp, zzb, zzc])
   refine Ix.tk 10 ⟨some 28, .load 138 (.tmp 27), _, _, _, _⟩ (.agg #[.slice ta bl tc, .slice la ll lc, .int .i64 sp]) [12] ?_ KP.out ?_
   ·intro wq hSw
    obtain ⟨x1, x2, x3, x4, x5, x6⟩ := KC.out wq hSw
    go_simp
   (try simp only [zzp, zzb, zzc])
   refine wpAnyT_one (i := 11) (o := ⟨some 8, .alloc 138, _, _, _, _⟩) (by kernel_rfl) rfl (fun K hK => ?_)
   go_simp
   have B1 : Hid (Below wr.heap.size wr (q.alloc (.cells #[.slice none 0 0, .slice none 0 0, .int .i64 0] 138))) := KP.out.trans ((box_below q _).mono KP.out.size)
   refine hK.out _ _ (fun _ => B1.out) ?_
   clear hK K
   (try simp only [zzp, zzb, zzc])
   have N1 := heap_alloc_new q (.cells #[.slice none 0 0, .slice none 0 0, .int .i64 0] 138)
   have qz : Hid (wr.heap.size ≤ q.heap.size) := KP.out.size
   generalize hnb : q.heap.size = nb at *
   generalize (q.alloc (.cells #[.slice none 0 0, .slice none 0 0, .int .i64 0] 138)) = w2 at *
   obtain ⟨⟨d1, d2⟩, ⟨d3, d4⟩, ⟨d5, d6⟩, N3, U3⟩ := three_store (.slice ta bl tc) (.slice la ll lc) (.int .i64 sp) N1
   have B3 : Hid (Below wr.heap.size wr (((w2.setCell ⟨nb, 0, none⟩ (.slice ta bl tc)).setCell ⟨nb, 1, none⟩ (.slice la ll lc)).setCell ⟨nb, 2, none⟩ (.int .i64 sp))) := below_new B1.out U3 qz.out
   replace N3 := hide N3
   refine wpAnyT_one (i := 12) (o := ⟨none, .store 138 (.tmp 8) (.tmp 28), _, _, _, _⟩) (by kernel_rfl) rfl (fun K hK => ?_)
   go_simp
   refine hK.out _ _ (vac (by kernel_rfl)) ?_
   clear hK K d1 d2 d3 d4 d5 d6 U3
   (try simp only [zzq])
   refine wpAnyT_done (by kernel_rfl) ?_ _
   generalize (((w2.setCell ⟨nb, 0, none⟩ (.slice ta bl tc)).setCell ⟨nb, 1, none⟩ (.slice la ll lc)).setCell ⟨nb, 2, none⟩ (.int .i64 sp)) = w3 at *
   go_upto_region 7 with fail
   have KD : Hid (∀ q : World, Below w3.heap.size w3 q → q.cell? ⟨gb, off + k * 2, none⟩ = some (.string t) ∧ q.cell? ⟨nb, 0, none⟩ = some (.slice ta bl tc) ∧ q.cell? ⟨nb, 1, none⟩ = some (.slice la ll lc)) := fun q hq => by
    have x := (KC.out w3 B3.out).2.2.2.2.2
    obtain ⟨v0, v1, _⟩ := cells3 N3.out
    exact ⟨by rw [hq.cell (lt_of_cell x)]; exact x, by rw [hq.cell (lt_of_cell v0)]; exact v0, by rw [hq.cell (lt_of_cell v1)]; exact v1⟩
   clear KC KP B1 N1 N3
   have KP : Hid (Below w3.heap.size w3 w3.drew) := (Below.refl _ _).drew
   refine wp_region_T (fun q => Below w3.heap.size w3 q) 15 (by kernel_rfl) ?_
   generalize w3.drew = q3w at *
   refine Ix.tk 0 ⟨some 29, .move (.tmp 5), _, _, _, _⟩ (u5) [15] ?_ KP.out ?_
   ·intro wq hSw
    obtain ⟨x1, x2, x3⟩ := KD.out wq hSw
    go_simp
   (try simp only [zzp, zzb, zzc])
   refine Ix.tk 1 ⟨some 30, .move (.tmp 6), _, _, _, _⟩ (.slice (some ⟨gb, off, none⟩) N dc) [3,4,5,13,14,15] ?_ KP.out ?_
   ·intro wq hSw
    obtain ⟨x1, x2, x3⟩ := KD.out wq hSw
    go_simp
   (try simp only [zzp, zzb, zzc])
   refine Ix.tk 2 ⟨some 31, .move (.tmp 7), _, _, _, _⟩ (.int .i64 (k : Int)) [3,4,5,13,14,15] ?_ KP.out ?_
   ·intro wq hSw
    obtain ⟨x1, x2, x3⟩ := KD.out wq hSw
    go_simp
   (try simp only [zzp, zzb, zzc])
   refine Ix.tk 3 ⟨some 32, .indexAddr 100 (.tmp 30) (.tmp 31), _, _, _, _⟩ (.pointer (some ⟨gb, off + k * 2, none⟩)) [4,5,13,14,15] ?_ KP.out ?_
   ·intro wq hSw
    obtain ⟨x1, x2, x3⟩ := KD.out wq hSw
    go_simp
   (try simp only [zzp, zzb, zzc])
   refine Ix.tk 4 ⟨some 33, .fieldAddr 142 (.tmp 32) 0, _, _, _, _⟩ (.pointer (some ⟨gb, off + k * 2, none⟩)) [5,13,14,15] ?_ KP.out ?_
   ·intro wq hSw
    obtain ⟨x1, x2, x3⟩ := KD.out wq hSw
    go_simp
   (try simp only [zzp, zzb, zzc])
   refine Ix.tk 5 ⟨some 34, .load 9 (.tmp 33), _, _, _, _⟩ (.string t) [13,14,15] ?_ KP.out ?_
   ·intro wq hSw
    obtain ⟨x1, x2, x3⟩ := KD.out wq hSw
    go_simp
   (try simp only [zzp, zzb, zzc])
   refine Ix.tk 6 ⟨some 35, .fieldAddr 138 (.tmp 8) 0, _, _, _, _⟩ (.pointer (some ⟨nb, 0, none⟩)) [7,8,12,13,14,15] ?_ KP.out ?_
   ·intro wq hSw
    obtain ⟨x1, x2, x3⟩ := KD.out wq hSw
    go_simp
   (try simp only [zzp, zzb, zzc])
   refine Ix.tk 7 ⟨some 36, .load 30 (.tmp 35), _, _, _, _⟩ (.slice ta bl tc) [8,12,13,14,15] ?_ KP.out ?_
   ·intro wq hSw
    obtain ⟨x1, x2, x3⟩ := KD.out wq hSw
    go_simp
   (try simp only [zzp, zzb, zzc])
   refine Ix.tk 8 ⟨some 37, .call { callee := .builtin .len, args := #[.tmp 36], argTypes := #[30] }, _, _, _, _⟩ (.int .i64 (bl : Int)) [12,13,14,15] ?_ KP.out ?_
   ·intro wq hSw
    obtain ⟨x1, x2, x3⟩ := KD.out wq hSw
    go_simp
   (try simp only [zzp, zzb, zzc])
   refine Ix.tk 9 ⟨some 38, .fieldAddr 138 (.tmp 8) 1, _, _, _, _⟩ (.pointer (some ⟨nb, 1, none⟩)) [10,11,12,13,14,15] ?_ KP.out ?_
   ·intro wq hSw
    obtain ⟨x1, x2, x3⟩ := KD.out wq hSw
    go_simp
   (try simp only [zzp, zzb, zzc])
   refine Ix.tk 10 ⟨some 39, .load 30 (.tmp 38), _, _, _, _⟩ (.slice la ll lc) [11,12,13,14,15] ?_ KP.out ?_
   ·intro wq hSw
    obtain ⟨x1, x2, x3⟩ := KD.out wq hSw
    go_simp
   (try simp only [zzp, zzb, zzc])
   refine Ix.tk 11 ⟨some 40, .call { callee := .builtin .len, args := #[.tmp 39], argTypes := #[30] }, _, _, _, _⟩ (.int .i64 (ll : Int)) [12,13,14,15] ?_ KP.out ?_
   ·intro wq hSw
    obtain ⟨x1, x2, x3⟩ := KD.out wq hSw
    go_simp
   (try simp only [zzp, zzb, zzc])
   refine Ix.tk 12 ⟨some 41, .binOp .sub 3 (.tmp 37) (.tmp 40) 3, _, _, _, _⟩ (.int .i64 ((bl : Int) - (ll : Int))) [13,14,15] ?_ KP.out ?_
   ·intro wq hSw
    obtain ⟨x1, x2, x3⟩ := KD.out wq hSw
    go_simp
   (try simp only [zzp, zzb, zzc])
   refine Ix.tk 13 ⟨some 42, .build 68 #[(0, .tmp 34), (1, .tmp 41)], _, _, _, _⟩ (.agg #[.string t, .int .i64 ((bl : Int) - (ll : Int))]) [14,15] ?_ KP.out ?_
   ·intro wq hSw
    obtain ⟨x1, x2, x3⟩ := KD.out wq hSw
    go_simp
   (try simp only [zzp, zzb, zzc])
   have B4 : Hid (Below w3.heap.size w3 (q3w.alloc (.cells #[.string t, .int .i64 ((bl : Int) - (ll : Int))] 68))) := KP.out.trans ((box_below q3w _).mono KP.out.size)
   have N4 := hide (heap_alloc_new q3w (.cells #[.string t, .int .i64 ((bl : Int) - (ll : Int))] 68))
   refine wpAnyT_one (i := 14) (o := ⟨some 43, .buildSlice 65 1 #[(0, .tmp 42)], _, _, _, _⟩) (by kernel_rfl) rfl (fun K hK => ?_)
   go_simp
   refine hK.out _ _ (fun _ => B4.out) ?_
   clear hK K
   (try simp only [zzp, zzb, zzc])
   have W4 : Hid (Below w1.heap.size w1 (q3w.alloc (.cells #[.string t, .int .i64 ((bl : Int) - (ll : Int))] 68))) := hB.out.trans ((B3.out.trans (B4.out.mono B3.out.size)).mono hB.out.size)
   have O4 : Hid (Tl w1.heap.size (q3w.alloc (.cells #[.string t, .int .i64 ((bl : Int) - (ll : Int))] 68)) u5 D) := owns_belowN hO.out (B3.out.trans (B4.out.mono B3.out.size))
   have hz4 := hide W4.out.size
   generalize hne : q3w.heap.size = ne at *
   generalize (q3w.alloc (.cells #[.string t, .int .i64 ((bl : Int) - (ll : Int))] 68)) = w4 at *
   refine wpAnyT_one (i := 15) (o := ⟨some 44, .call { callee := .builtin .append, args := #[.tmp 29, .tmp 43], argTypes := #[65, 65] }, _, _, _, _⟩) (by kernel_rfl) rfl (fun K hK => ?_)
   refine step_append_lies _ rfl (.tmp 29) (.tmp 43) 65 rfl w1.heap.size 68 i0 (.agg #[.string ⟨#[]⟩, .int .i64 0]) 2 24 Tryz.underlying65 hi.out hz0 hz1 hz2 rfl (by decide) u5 D.length (tcells D) (by simp [Act.eval]) O4.out ⟨ne, 0, none⟩ 1 1 [.string t, .int .i64 ((bl : Int) - (ll : Int))] (by simp [Act.eval]) rfl (two_new N4.out) (by simp [Value.oneCell']) (by decide) (by have := hll.out; have := hN3.out; unfold maxLen; omega) (by have := hll.out; have := hN3.out; omega) hz4.out w4.heap.size rfl ?_
   intro g2 cap2 w5 ho5 hg5 hat hlt5
   have W5 : Hid (Below w1.heap.size w1 w5) := Below.grown W4.out hg5 hz4.out (fun j hj => (World.ownsRow.lt O4.out j hj).1)
   replace ho5 := hide ho5
   refine hK.out _ _ (vac (by kernel_rfl)) ?_
   clear hK K
   (try simp only [zzp, zzb, zzc])
   refine wpAnyT_one (i := 16) (o := ⟨some 5, .assign (.tmp 44), _, _, _, _⟩) (by kernel_rfl) rfl (fun K hK => ?_)
   go_simp
   refine hK.out _ _ (vac (by kernel_rfl)) ?_
   clear hK K
   (try simp only [zzp, zzb, zzc])
   refine wpAnyT_done (by kernel_rfl) ?_ _
   go_wp2_with fail
   go_roundw
   case rel =>
    refine ⟨k + 1, by go_num, by omega, ?_, W5⟩
    show Tl _ _ _ _
    unfold Tl
    rw [hsn.out.out, List.length_append, tcells_snoc, hes.out, en.out]
    exact ho5.out
   case measure => simp [intOf]; omega
  ·have i1 : ¬ ((k : Int) < (N : Int)) := by omega
   obtain rfl : k = N := by omega
   rw [List.take_of_length_le (by rw [hN.out]; omega)] at hO
   go_wp2_with fail
   go_ret
   exact ⟨_, rfl, owns_lowerT hO.out b1.out.size, b1.out.trans (hB.out.mono b1.out.size)⟩
end Go.Proofs.YtjehpijjneghpaaGreat.Re
