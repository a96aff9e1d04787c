/-
  The document's disk as one of the program's kind: what holds of it, and what each operation makes of that.
-/
import Derived.Test.YtjehpijjneghpaaGreatM26
import Derived.Test.YtjehpijjneghpaaGreatM31
import Derived.Test.YtjehpijjneghpaaGreatM19
namespace Go.Proofs.YtjehpijjneghpaaGreat.Re
open Go.RowKit Go.Maps Go.Sort Go.Shelf Go.Proofs.YtjehpijjneghpaaGreat.Nm Go.Proofs.YtjehpijjneghpaaGreat.Dk
set_option linter.unusedVariables false
def RC.ch (c : RC) : Ch := if c.fr.data.toList = [] then .cr c.tn c.fi.toNat else if c.fi < 0 then .rm c.fr else .rn c.fr c.tn
def Chs : Dr → List RC → Prop
  | _, [] => True
  | l, c :: r => c.run l = c.ch.run l ∧ Chs (c.run l) r
theorem chs_runs : ∀ (P : List RC) (l : Dr), Chs l P → ∀ k, runR l (P.take k) = runs l ((P.map RC.ch).take k) := by
  intro P
  induction P with
  | nil => intro l _ k; simp [runR, runs]
  | cons c r ih =>
    intro l h k
    cases k with
    | zero => simp [runR, runs]
    | succ k =>
      have := ih _ h.2 k
      simp only [List.take_succ_cons, List.map_cons, runR, runs, List.foldl_cons] at *
      rw [← h.1]
      exact this
theorem chs_all {P : List RC} {l : Dr} (h : Chs l P) : runR l P = runs l (P.map RC.ch) := by
  have := chs_runs P l h P.length
  rw [List.take_length] at this
  rw [this]
  congr 1
  rw [List.take_of_length_le (by rw [List.length_map]; exact Nat.le_refl _)]
theorem chs_snoc : ∀ (P : List RC) (l : Dr) (c : RC), Chs l P → c.run (runR l P) = c.ch.run (runR l P) → Chs l (P ++ [c]) := by
  intro P
  induction P with
  | nil => intro l c _ h; exact ⟨h, trivial⟩
  | cons a r ih => intro l c h h2; exact ⟨h.1, ih _ c h.2 h2⟩
def RB.ds (R : RB) (al : Ar) : DS := ⟨R.most, !R.down, R.old, R.pe.map RC.ch, al, R.c0, R.c1, R.c2, R.c3, R.c4, R.c5, R.c6, R.c7, R.c8, fun p => flD (R.fOf p)⟩
structure RI (R : RB) : Prop where
  ok : R.ok
  most : 0 ≤ R.most ∧ R.most ≤ 16777216
  dir : R.dir = runR R.old R.pe
  rise : Rise R.old
  chs : Chs R.old R.pe
  old : ∀ e ∈ R.old, e.2 < R.F.length
  pe : ∀ c ∈ R.pe, -1 ≤ c.fi ∧ c.fi < (R.F.length : Int) ∧ (c.fr.data.toList = [] → 0 ≤ c.fi)
  fi : ∀ f ∈ R.F, f.2.1.length ≤ f.1.length ∧ f.1.length ≤ 16777216
  cnt : ((R.old.length + R.pe.length : Nat) : Int) ≤ R.c7
  fl : (R.F.length : Int) ≤ R.c7
  c8 : 0 ≤ R.c8 ∧ R.c8 ≤ 16777216 * R.c7
  part : ∀ f ∈ R.fs, 1 ≤ f.2.1 ∧ f.2.1 ≤ 3 ∧ 0 ≤ f.2.2
  few : ∀ k, (runR R.old (R.pe.take k)).length ≤ 256
def ArmR (R : RB) (al : Ar) : Prop := ∀ n : Int, R.c7 < n → aget al n = R.fs.find? fun f => f.1 == n - R.c7 + R.si
theorem rise_ddel {l : Dr} (h : Rise l) (n : List UInt8) : Rise (ddel l n) := List.Pairwise.filter _ h
theorem less_lt : ∀ (x y : List UInt8), Op.bytesLess x y = decide (x < y)
  | [], [] => by simp [Op.bytesLess]
  | _ :: _, [] => by simp [Op.bytesLess]
  | [], _ :: _ => by simp [Op.bytesLess]
  | a :: x, b :: y => by
    rw [Op.bytesLess, less_lt x y]
    by_cases h1 : a < b
    · simp [h1, List.cons_lt_cons_iff]
    · by_cases h2 : a = b
      · subst h2; simp [h1]
      · simp [h1, h2, List.cons_lt_cons_iff]
theorem before_lt (x y : List UInt8) : bytesBefore x y = decide (x < y) := by rw [← less_before, less_lt]
theorem before_or {x y : List UInt8} (h : bytesBefore x y = false) (hne : y ≠ x) : bytesBefore y x = true := by
  rw [before_lt] at *
  simp only [decide_eq_false_iff_not, decide_eq_true_eq] at *
  have h1 : y ≤ x := List.not_lt.1 h
  exact Classical.byContradiction fun c => hne (List.le_antisymm h1 (List.not_lt.1 c))
theorem rise_dins {x : List UInt8 × Nat} : ∀ {l : Dr}, Rise l → (∀ e ∈ l, e.1 ≠ x.1) → Rise (dins x l) := by
  intro l
  induction l with
  | nil => intro _ _; exact List.pairwise_singleton _ _
  | cons y r ih =>
    intro h hx
    obtain ⟨h1, h2⟩ := List.pairwise_cons.1 h
    unfold dins
    split
    · rename_i q
      refine List.pairwise_cons.2 ⟨fun e he => ?_, h⟩
      rcases List.mem_cons.1 he with rfl | he
      · exact q
      · exact Go.WideShapes.bytes_trans _ _ _ q (h1 e he)
    · rename_i q
      have hy : bytesBefore y.1 x.1 = true := before_or (by simpa using q) (hx y (by simp))
      refine List.pairwise_cons.2 ⟨fun e he => ?_, ih h2 (fun e he => hx e (by simp [he]))⟩
      rcases dins_mem he with rfl | he
      · exact hy
      · exact h1 e he
theorem rise_dput {l : Dr} (h : Rise l) (n : List UInt8) (p : Nat) : Rise (dput l n p) := rise_dins (rise_ddel h n) (fun e he => (mem_ddel he).2)
theorem rise_one {l : Dr} (h : Rise l) (c : RC) : Rise (c.one l) := by unfold RC.one; split; exact h; exact rise_ddel h _
theorem rise_run {l : Dr} (h : Rise l) (c : RC) : Rise (c.run l) := by
  unfold RC.run
  split
  · exact rise_dput (rise_one h c) _ _
  · exact rise_one h c
theorem rise_runR {P : List RC} : ∀ {l : Dr}, Rise l → Rise (runR l P) := by
  induction P with
  | nil => intro l h; exact h
  | cons c r ih => intro l h; exact ih (rise_run h c)
theorem mem_one {l : Dr} {c : RC} {e : List UInt8 × Nat} (h : e ∈ c.one l) : e ∈ l := by
  unfold RC.one at h
  split at h
  · exact h
  · exact ddel_mem h
theorem mem_runR {P : List RC} : ∀ {l : Dr} {e : List UInt8 × Nat}, e ∈ runR l P → e.2 ∈ l.map (·.2) ∨ ∃ c ∈ P, 0 ≤ c.fi ∧ e.2 = c.fi.toNat := by
  induction P with
  | nil => intro l e h; exact .inl (List.mem_map.2 ⟨e, h, rfl⟩)
  | cons c r ih =>
    intro l e h
    rcases ih (l := c.run l) h with q | ⟨c', hc, q⟩
    · obtain ⟨x, hx, e2⟩ := List.mem_map.1 q
      unfold RC.run at hx
      split at hx
      · rename_i h0
        rcases dput_mem hx with rfl | hx
        · exact .inr ⟨c, by simp, h0, e2.symm⟩
        · exact .inl (List.mem_map.2 ⟨x, mem_one hx, e2⟩)
      · exact .inl (List.mem_map.2 ⟨x, mem_one hx, e2⟩)
    · exact .inr ⟨c', by simp [hc], q⟩
theorem RI.front {R : RB} (h : RI R) (n : Int) : ∀ e ∈ R.front n, e.2 < R.F.length := fun e he => by
  rcases mem_runR he with q | ⟨c, hc, h0, q⟩
  · obtain ⟨x, hx, e2⟩ := List.mem_map.1 q
    rw [← e2]
    exact h.old x hx
  · have := (h.pe c (List.mem_of_mem_take hc)).2.1
    omega
theorem front_all (R : RB) : runR R.old R.pe = R.front (R.pe.length : Int) := by unfold RB.front; rw [Int.toNat_natCast, List.take_length]
theorem RI.dirF {R : RB} (h : RI R) : ∀ e ∈ R.dir, e.2 < R.F.length := by rw [h.dir, front_all]; exact h.front _
theorem RI.dirR {R : RB} (h : RI R) : Rise R.dir := by rw [h.dir]; exact rise_runR h.rise
theorem RI.la {R : RB} (h : RI R) : ∀ f ∈ R.F, f.2.1.length ≤ f.1.length ∧ (f.1.length : Int) ≤ 100000000 := fun f hf => ⟨(h.fi f hf).1, by have := (h.fi f hf).2; omega⟩
theorem RI.dlen {R : RB} (h : RI R) : R.dir.length ≤ 256 := by have := h.few R.pe.length; rw [List.take_length] at this; rw [h.dir]; exact this
theorem RI.pf {R : RB} (h : RI R) (hc : R.c7 ≤ 1000000000) : ∀ c ∈ R.pe, -9223372036854775808 ≤ c.fi ∧ c.fi ≤ 9223372036854775807 := fun c hm => by have := h.pe c hm; have := h.fl; omega
theorem ds_dir {R : RB} (h : RI R) (al : Ar) : (R.ds al).dir = R.dir := by
  show runs R.old (R.pe.map RC.ch) = _
  rw [h.dir, chs_all h.chs]
theorem ds_front {R : RB} (h : RI R) (al : Ar) (n : Int) : (R.ds al).front n = R.front n := by
  show runs R.old ((R.pe.map RC.ch).take (wthn n (R.pe.map RC.ch).length)) = _
  unfold RB.front
  rw [chs_runs _ _ h.chs]
  congr 1
  unfold wthn
  rw [List.length_map]
  by_cases q : n.toNat ≤ R.pe.length
  · rw [Nat.min_eq_left q]
  · rw [Nat.min_eq_right (by omega), List.take_of_length_le (by rw [List.length_map]; exact Nat.le_refl _), List.take_of_length_le (by rw [List.length_map]; omega)]
theorem ds_ps {R : RB} (h : RI R) (al : Ar) : ∀ p ∈ (R.ds al).ps, p < R.F.length := fun p hp => by
  unfold DS.ps at hp
  rcases List.mem_append.1 hp with q | q
  · obtain ⟨x, hx, e2⟩ := List.mem_map.1 q
    rw [← e2]
    exact h.old x hx
  · obtain ⟨c, hc, e⟩ := List.mem_filterMap.1 q
    obtain ⟨x, hx, rfl⟩ := List.mem_map.1 hc
    have := h.pe x hx
    unfold RC.ch at e
    split at e
    · rename_i h0
      have h1 := this.2.2 h0
      simp only [Ch.ptr, Option.some.injEq] at e
      omega
    · split at e <;> simp [Ch.ptr] at e
end Go.Proofs.YtjehpijjneghpaaGreat.Re
namespace Go.Proofs.YtjehpijjneghpaaGreat.Re
open Go.RowKit Go.Maps Go.Sort Go.Shelf Go.Proofs.YtjehpijjneghpaaGreat.Nm Go.Proofs.YtjehpijjneghpaaGreat.Dk
set_option linter.unusedVariables false
variable {R : RB} {al : Ar}
theorem aget_adel (l : Ar) (n k : Int) : aget (adel l n) k = if n = k then none else aget l k := by
  unfold aget adel
  induction l with
  | nil => simp
  | cons y r ih =>
    by_cases e : y.1 = n
    · subst e
      rw [List.filter_cons_of_neg (by simp), ih, List.find?_cons]
      by_cases e2 : y.1 = k
      · simp [e2]
      · simp only [show (y.1 == k) = false by simpa using e2, if_neg e2]
    · rw [List.filter_cons_of_pos (by simpa using e), List.find?_cons, List.find?_cons]
      by_cases e2 : y.1 = k
      · subst e2
        simp [Ne.symm e]
      · simp only [show (y.1 == k) = false by simpa using e2]
        exact ih
theorem aget_ains {x : Int × Ft} {l : Ar} (hx : ∀ e ∈ l, e.1 ≠ x.1) (k : Int) : aget (ains x l) k = if x.1 = k then some x.2 else aget l k := by
  induction l with
  | nil => unfold aget ains; by_cases e : x.1 = k <;> simp [e]
  | cons y r ih =>
    have ih := ih (fun e he => hx e (by simp [he]))
    have hy := hx y (by simp)
    unfold ains
    split
    · unfold aget
      rw [List.find?_cons]
      by_cases e : x.1 = k
      · simp [e]
      · simp only [show (x.1 == k) = false by simpa using e, if_neg e]
    · unfold aget at ih ⊢
      rw [List.find?_cons, List.find?_cons]
      by_cases e : y.1 = k
      · subst e
        simp [Ne.symm hy]
      · simp only [show (y.1 == k) = false by simpa using e]
        exact ih
theorem aget_aput (l : Ar) (n : Int) (f : Ft) (k : Int) : aget (aput l n f) k = if n = k then some f else aget l k := by
  unfold aput
  rw [aget_ains (fun e he => by have := (List.mem_filter.1 he).2; simpa using this), aget_adel]
  split <;> rfl
theorem ds_flt (A : ArmR R al) : (R.ds al).flt = R.flt := by
  show (aget al (R.c7 + 1)).getD zf = rfl1 R.fs (R.si + 1)
  rw [A _ (by omega), show R.c7 + 1 - R.c7 + R.si = R.si + 1 by omega]
  rfl
theorem RI.flt (I : RI R) : (0 ≤ R.flt.2.1 ∧ R.flt.2.1 ≤ 3) ∧ 0 ≤ R.flt.2.2 := by
  unfold RB.flt rfl1
  cases hf : R.fs.find? (fun f => f.1 == R.si + 1) with
  | none => simp [zf]
  | some f => have := I.part f (List.mem_of_find?_eq_some hf); simp only [Option.getD_some]; omega
theorem beg_more (R : RB) (j : Nat) : (R.beg j).c7 = R.c7 + 1 ∧ (R.beg j).si = R.si + 1 ∧ (R.beg j).c8 = R.c8 ∧ (R.beg j).down = (R.down || decide (R.flt.2.1 = 3)) := by
  unfold RB.beg
  split <;> exact ⟨rfl, rfl, rfl, rfl⟩
theorem ds_hit (A : ArmR R al) (j : Nat) : (R.ds al).hit j = (R.beg j).ds (adel al (R.c7 + 1)) := by
  unfold DS.hit DS.str
  rw [ds_flt A]
  rcases j with _ | _ | _ | _ | _ | _ | _ | j <;> by_cases h : R.flt.2.1 = 3 <;> simp [DS.beg, RB.beg, RB.tick, RB.ds, RB.fOf, h]
theorem ds_beg (A : ArmR R al) (h : R.flt.2.1 ≠ 3) (j : Nat) : (R.ds al).beg j = (R.beg j).ds (adel al (R.c7 + 1)) := by
  rw [← ds_hit A]
  unfold DS.hit DS.str
  rw [ds_flt A, if_neg h]
theorem ArmR.of {R' : RB} (A : ArmR R al) (e1 : R'.c7 = R.c7) (e2 : R'.fs = R.fs) (e3 : R'.si = R.si) : ArmR R' al := fun n hn => by rw [e1] at hn; rw [e1, e2, e3]; exact A n hn
theorem ArmR.beg (A : ArmR R al) (j : Nat) : ArmR (R.beg j) (adel al (R.c7 + 1)) := fun n hn => by
  obtain ⟨e1, e2, _⟩ := beg_more R j
  obtain ⟨_, _, _, _, e5, _⟩ := beg_same R j
  rw [e1] at hn
  rw [e1, e2, e5, aget_adel, if_neg (by omega), A n (by omega), show n - (R.c7 + 1) + (R.si + 1) = n - R.c7 + R.si by omega]
theorem ri_beg (I : RI R) (j : Nat) : RI (R.beg j) := by
  obtain ⟨b1, b2, b3, b4, b5, b6⟩ := beg_same R j
  obtain ⟨e1, e2, e3, _⟩ := beg_more R j
  have hok : (R.beg j).ok := by
    obtain ⟨l0, l1, l2, l3, l4, l5, l6, l7, l8⟩ := I.ok.lo
    obtain ⟨m0, m1, m2, m3, m4, m5, m6, m8⟩ := I.ok.hi
    rcases j with _ | _ | _ | _ | _ | _ | _ | j <;>
      exact ⟨⟨by simp only [RB.beg, RB.tick]; omega, by simp only [RB.beg, RB.tick]; omega, by simp only [RB.beg, RB.tick]; omega, by simp only [RB.beg, RB.tick]; omega, by simp only [RB.beg, RB.tick]; omega, by simp only [RB.beg, RB.tick]; omega, by simp only [RB.beg, RB.tick]; omega, by simp only [RB.beg, RB.tick]; omega, by simp only [RB.beg, RB.tick]; omega⟩,
        ⟨by simp only [RB.beg, RB.tick]; omega, by simp only [RB.beg, RB.tick]; omega, by simp only [RB.beg, RB.tick]; omega, by simp only [RB.beg, RB.tick]; omega, by simp only [RB.beg, RB.tick]; omega, by simp only [RB.beg, RB.tick]; omega, by simp only [RB.beg, RB.tick]; omega, by simp only [RB.beg, RB.tick]; omega⟩, I.ok.no4⟩
  have := I.cnt
  have := I.fl
  have := I.c8
  exact ⟨hok, by rw [b6]; exact I.most, by rw [b2, b3, b4]; exact I.dir, by rw [b3]; exact I.rise, by rw [b3, b4]; exact I.chs, by rw [b3, b1]; exact I.old, by rw [b4, b1]; exact I.pe, by rw [b1]; exact I.fi, by rw [b3, b4, e1]; omega, by rw [b1, e1]; omega, by rw [e3, e1]; omega, by rw [b5]; exact I.part, by rw [b3, b4]; exact I.few⟩
theorem ri_chg (I : RI R) (c : RC) (h1 : c.run R.dir = c.ch.run R.dir) (h2 : -1 ≤ c.fi ∧ c.fi < (R.F.length : Int) ∧ (c.fr.data.toList = [] → 0 ≤ c.fi)) (h3 : (c.run R.dir).length ≤ 256) (h4 : ((R.old.length + R.pe.length : Nat) : Int) + 1 ≤ R.c7) : RI (R.chg c) := by
  refine ⟨⟨I.ok.lo, I.ok.hi, I.ok.no4⟩, I.most, ?_, I.rise, chs_snoc _ _ _ I.chs (by show c.run (runR R.old R.pe) = c.ch.run (runR R.old R.pe); rw [← I.dir]; exact h1), I.old, fun x hx => ?_, I.fi, ?_, I.fl, I.c8, I.part, fun k => ?_⟩
  · show c.run R.dir = runR R.old (R.pe ++ [c])
    rw [runR_snoc, ← I.dir]
  · rcases List.mem_append.1 hx with q | q
    · exact I.pe x q
    · rw [List.mem_singleton.1 q]; exact h2
  · show ((R.old.length + (R.pe ++ [c]).length : Nat) : Int) ≤ R.c7
    rw [List.length_append]
    simp only [List.length_singleton]
    omega
  · show (runR R.old ((R.pe ++ [c]).take k)).length ≤ 256
    by_cases q : k ≤ R.pe.length
    · rw [List.take_append_of_le_length q]; exact I.few k
    · rw [List.take_of_length_le (by rw [List.length_append]; simp; omega), runR_snoc, ← I.dir]; exact h3
theorem fOf_one (R : RB) {p : Nat} (hp : p < R.F.length) (f : FD) (q : Nat) : (R.one p f).fOf q = if q = p then f else R.fOf q := by
  show ((R.F.set p f)[q]?).getD ([], [], 0) = _
  by_cases e : q = p
  · subst e
    rw [if_pos rfl, List.getElem?_set_self hp]
    rfl
  · rw [if_neg e, List.getElem?_set_ne (Ne.symm e)]
    rfl
theorem ds_one {p : Nat} (hp : p < R.F.length) (f : FD) (al : Ar) : (R.one p f).ds al = { R.ds al with F := upd (R.ds al).F p (flD f) } := by
  have : (fun q => flD ((R.one p f).fOf q)) = upd (R.ds al).F p (flD f) := by
    funext q
    rw [fOf_one R hp]
    unfold upd
    split <;> rfl
  unfold RB.ds at *
  rw [this]
  rfl
theorem ri_one (I : RI R) {p : Nat} (hp : p < R.F.length) {f : FD} (hf : f.2.1.length ≤ f.1.length ∧ f.1.length ≤ 16777216) : RI (R.one p f) := by
  have hl : (R.one p f).F.length = R.F.length := by show (R.F.set p f).length = _; rw [List.length_set]
  refine ⟨⟨I.ok.lo, I.ok.hi, I.ok.no4⟩, I.most, I.dir, I.rise, I.chs, by rw [hl]; exact I.old, by rw [hl]; exact I.pe, fun x hx => ?_, I.cnt, by rw [hl]; exact I.fl, I.c8, I.part, I.few⟩
  rcases List.mem_or_eq_of_mem_set hx with q | q
  · exact I.fi x q
  · rw [q]; exact hf
theorem ri_put (I : RI R) {n : Int} (h : 0 ≤ n ∧ n ≤ 16777216 * R.c7) : RI (R.put n) := ⟨⟨I.ok.lo, I.ok.hi, I.ok.no4⟩, I.most, I.dir, I.rise, I.chs, I.old, I.pe, I.fi, I.cnt, I.fl, h, I.part, I.few⟩
theorem fOf_file (R : RB) (q : Nat) : R.file.fOf q = R.fOf q := by
  show ((R.F ++ [([], [], 0)])[q]?).getD ([], [], 0) = (R.F[q]?).getD ([], [], 0)
  by_cases h : q < R.F.length
  · rw [List.getElem?_append_left h]
  · rw [List.getElem?_eq_none (l := R.F) (by omega)]
    by_cases h2 : q = R.F.length
    · subst h2; simp
    · rw [List.getElem?_eq_none (by simp; omega)]
theorem fOf_out (R : RB) {q : Nat} (h : R.F.length ≤ q) : R.fOf q = ([], [], 0) := by unfold RB.fOf; rw [List.getElem?_eq_none h]; rfl
theorem ri_file (I : RI R) (h : (R.F.length : Int) + 1 ≤ R.c7) : RI R.file := by
  have hl : R.file.F.length = R.F.length + 1 := by show (R.F ++ _).length = _; rw [List.length_append]; rfl
  refine ⟨⟨I.ok.lo, I.ok.hi, I.ok.no4⟩, I.most, I.dir, I.rise, I.chs, fun e he => by have := I.old e he; rw [hl]; omega, fun c hc => ⟨(I.pe c hc).1, by have := (I.pe c hc).2.1; rw [hl]; omega, (I.pe c hc).2.2⟩, fun x hx => ?_, I.cnt, by show (R.file.F.length : Int) ≤ R.c7; rw [hl]; omega, I.c8, I.part, I.few⟩
  rcases List.mem_append.1 hx with q | q
  · exact I.fi x q
  · rw [List.mem_singleton.1 q]; exact ⟨Nat.le_refl _, Nat.zero_le _⟩
theorem ds_ref1 (R : RB) (al : Ar) (s : ByteArray) : (R.ds al).ref [s] = refN R.down R.dir s false := by
  unfold DS.ref refN RB.ds
  cases R.down <;> simp
theorem ds_find (I : RI R) (al : Ar) (s : ByteArray) : (R.ds al).find s = if refN R.down R.dir s true = 0 then (some (R.pOf s), 0) else (none, refN R.down R.dir s true) := by
  unfold DS.find
  rw [ds_ref1, ds_dir I]
  by_cases h0 : refN R.down R.dir s false = 0
  · rw [if_pos h0]
    have hx : refN R.down R.dir s true = if (Dk.get R.dir s.data.toList).isNone then 6 else 0 := by
      unfold refN at h0 ⊢
      split at h0
      · cases h0
      · split at h0
        · simp only [Bool.true_and]
          rename_i a b
          rw [if_neg a, if_pos b]
        · cases h0
    cases hg : Dk.get R.dir s.data.toList with
    | none => rw [hg] at hx; simp only [Option.isNone_none, if_true] at hx; rw [hx]; simp
    | some p =>
      rw [hg] at hx
      simp only [Option.isNone_some, Bool.false_eq_true, if_false] at hx
      rw [hx, if_pos rfl]
      have : R.pOf s = p := by unfold RB.pOf findN; rw [hg]; exact Int.toNat_natCast p
      rw [this]
  · have hx : refN R.down R.dir s true = refN R.down R.dir s false := by
      unfold refN at h0 ⊢
      split
      · rfl
      · rename_i a
        rw [if_neg a] at h0
        by_cases b : may s.data.toList = true
        · rw [if_pos b] at h0; simp at h0
        · rw [if_neg b, if_neg b]
    rw [if_neg h0, hx, if_neg h0]
theorem strF_told {k : Int} (h : 0 ≤ k ∧ k ≤ 3) : (strF k ≠ 0 ↔ k ≠ 0) ∧ (k ≠ 0 → strF k = toldN k) := by
  have : k = 0 ∨ k = 1 ∨ k = 2 ∨ k = 3 := by omega
  rcases this with rfl | rfl | rfl | rfl <;> simp [strF, toldN]
theorem strR_strN {k : Int} (h : 0 ≤ k ∧ k ≤ 3) : strR k = strN k := by
  have : k = 0 ∨ k = 1 ∨ k = 2 ∨ k = 3 := by omega
  rcases this with rfl | rfl | rfl | rfl <;> simp [strR, strF, strN, toldN]
theorem ri_create (I : RI R) (s : ByteArray) : RI (R.create s).1 := by
  unfold RB.create
  split
  · exact I
  · split
    · exact I
    · split
      · exact I
      · split
        · exact ri_beg I 0
        · rename_i h256 _
          obtain ⟨b1, b2, b3, b4, b5, b6⟩ := beg_same R 0
          obtain ⟨e1, _⟩ := beg_more R 0
          have hl : (R.beg 0).file.F.length = R.F.length + 1 := by show ((R.beg 0).F ++ _).length = _; rw [List.length_append, b1]; rfl
          have hr : ∀ l : Dr, RC.run ⟨s, (R.F.length : Int), ⟨#[]⟩⟩ l = dput l s.data.toList R.F.length := fun l => by
            unfold RC.run RC.one
            simp
          refine ri_chg (ri_file (ri_beg I 0) (by rw [b1, e1]; have := I.fl; omega)) _ ?_ ⟨?_, ?_, fun _ => ?_⟩ ?_ ?_
          · rw [hr]
            rfl
          · show (-1 : Int) ≤ (R.F.length : Int); omega
          · show (R.F.length : Int) < _; rw [hl]; omega
          · show (0 : Int) ≤ (R.F.length : Int); omega
          · rw [hr]
            have h1 := dput_le (R.beg 0).file.dir s.data.toList R.F.length
            have h2 : (R.beg 0).file.dir.length = R.dir.length := by show (R.beg 0).dir.length = _; rw [b2]
            have := I.dlen
            omega
          · show (((R.beg 0).old.length + (R.beg 0).pe.length : Nat) : Int) + 1 ≤ (R.beg 0).c7
            rw [b3, b4, e1]
            have := I.cnt
            omega
theorem ds_create (I : RI R) (A : ArmR R al) (s : ByteArray) : ∃ al', (R.ds al).create s R.F.length = ((R.create s).1.ds al', (R.create s).2) ∧ ArmR (R.create s).1 al' := by
  have hf := I.flt.1
  have hg : (Dk.get R.dir s.data.toList).isSome = true ↔ ¬ findN R.dir s.data.toList < 0 := by
    rw [findN_neg]
    cases h : Dk.get R.dir s.data.toList <;> simp
  have hd := I.dlen
  have eS : (R.ds al).create s R.F.length = if refN R.down R.dir s false ≠ 0 then (R.ds al, refN R.down R.dir s false) else if (Dk.get R.dir s.data.toList).isSome then (R.ds al, 7) else if 256 ≤ R.dir.length then (R.ds al, 9) else if strF R.flt.2.1 ≠ 0 then ((R.beg 0).ds (adel al (R.c7 + 1)), strF R.flt.2.1) else ({ (R.beg 0).ds (adel al (R.c7 + 1)) with P := (R.ds al).P ++ [.cr s R.F.length], F := upd (R.ds al).F R.F.length ⟨[], [], 0⟩ }, 0) := by
    have hh := ds_hit A 0
    unfold DS.hit at hh
    rw [ds_flt A] at hh
    unfold DS.create
    rw [ds_ref1, ds_dir I, ds_flt A, hh]
  by_cases h0 : refN R.down R.dir s false = 0
  · by_cases h1 : findN R.dir s.data.toList < 0
    · by_cases h2 : R.dir.length = 256
      · have e1 : R.create s = (R, 9) := by unfold RB.create; rw [if_neg (by simp [h0]), if_neg (by simpa using h1), if_pos h2]
        rw [eS, e1, if_neg (by simp [h0]), if_neg (fun c => hg.1 c h1), if_pos (by omega)]
        exact ⟨al, rfl, A⟩
      · by_cases h3 : R.flt.2.1 = 0
        · have e1 : R.create s = ((R.beg 0).file.chg ⟨s, (R.F.length : Int), ⟨#[]⟩⟩, 0) := by unfold RB.create; rw [if_neg (by simp [h0]), if_neg (by simpa using h1), if_neg h2, if_neg (by simp [h3])]
          rw [eS, e1, if_neg (by simp [h0]), if_neg (fun c => hg.1 c h1), if_neg (by omega), if_neg (by simp [h3, strF])]
          refine ⟨adel al (R.c7 + 1), ?_, (A.beg 0).of rfl rfl rfl⟩
          obtain ⟨b1, b2, b3, b4, b5, b6⟩ := beg_same R 0
          have hF : upd (R.ds al).F R.F.length ⟨[], [], 0⟩ = fun p => flD (R.fOf p) := by
            funext q
            unfold upd
            split
            · rename_i e
              subst e
              rw [fOf_out R (Nat.le_refl _)]
              rfl
            · rfl
          have hF2 : ∀ q, ((R.beg 0).file.chg ⟨s, (R.F.length : Int), ⟨#[]⟩⟩).fOf q = R.fOf q := fun q => by
            show (R.beg 0).file.fOf q = _
            rw [fOf_file]
            rfl
          have hP : (R.ds al).P ++ [Ch.cr s R.F.length] = ((R.beg 0).file.chg ⟨s, (R.F.length : Int), ⟨#[]⟩⟩).pe.map RC.ch := by
            show R.pe.map RC.ch ++ _ = ((R.beg 0).pe ++ [_]).map RC.ch
            rw [b4, List.map_append]
            rfl
          rw [hF, hP]
          unfold RB.ds
          simp only [hF2]
          rfl
        · have e1 : R.create s = (R.beg 0, toldN R.flt.2.1) := by unfold RB.create; rw [if_neg (by simp [h0]), if_neg (by simpa using h1), if_neg h2, if_pos h3]
          rw [eS, e1, if_neg (by simp [h0]), if_neg (fun c => hg.1 c h1), if_neg (by omega), if_pos ((strF_told hf).1.2 h3), (strF_told hf).2 h3]
          exact ⟨adel al (R.c7 + 1), rfl, A.beg 0⟩
    · have e1 : R.create s = (R, 7) := by unfold RB.create; rw [if_neg (by simp [h0]), if_pos h1]
      rw [eS, e1, if_neg (by simp [h0]), if_pos (hg.2 h1)]
      exact ⟨al, rfl, A⟩
  · have e1 : R.create s = (R, refN R.down R.dir s false) := by unfold RB.create; rw [if_pos h0]
    rw [eS, e1, if_pos h0]
    exact ⟨al, rfl, A⟩
end Go.Proofs.YtjehpijjneghpaaGreat.Re
namespace Go.Proofs.YtjehpijjneghpaaGreat.Re
open Go.RowKit Go.Maps Go.Sort Go.Shelf Go.Proofs.YtjehpijjneghpaaGreat.Nm Go.Proofs.YtjehpijjneghpaaGreat.Dk
set_option linter.unusedVariables false
variable {R : RB} {al : Ar}
theorem may_some {s : List UInt8} (h : may s = true) : s ≠ [] := fun c => by subst c; revert h; decide
theorem refN_parts {down : Bool} {L : Dr} {s : ByteArray} {t : Bool} (h : refN down L s t = 0) : down = false ∧ may s.data.toList = true := by
  unfold refN at h
  split at h
  · cases h
  · rename_i a
    split at h
    · rename_i b
      exact ⟨by simpa using a, b⟩
    · cases h
theorem rm_run {s : ByteArray} (h : s.data.toList ≠ []) (l : Dr) : RC.run ⟨⟨#[]⟩, -1, s⟩ l = ddel l s.data.toList := by
  unfold RC.run RC.one
  rw [if_neg (by show ¬ (0 : Int) ≤ -1; decide)]
  exact if_neg h
theorem rm_ch {s : ByteArray} (h : s.data.toList ≠ []) : RC.ch ⟨⟨#[]⟩, -1, s⟩ = .rm s := by
  unfold RC.ch
  rw [if_neg h, if_pos (by show (-1 : Int) < 0; decide)]
theorem ri_remove (I : RI R) (s : ByteArray) : RI (R.remove s).1 := by
  unfold RB.remove
  split
  · exact I
  · rename_i h0
    split
    · exact ri_beg I 5
    · obtain ⟨b1, b2, b3, b4, b5, b6⟩ := beg_same R 5
      obtain ⟨e1, _⟩ := beg_more R 5
      have hs := may_some (refN_parts (by simpa using h0)).2
      refine ri_chg (ri_beg I 5) _ ?_ ⟨?_, ?_, fun c => absurd c hs⟩ ?_ ?_
      · rw [rm_run hs, rm_ch hs]; rfl
      · show (-1 : Int) ≤ -1; decide
      · show (-1 : Int) < _; omega
      · rw [rm_run hs, b2]; have := ddel_len R.dir s.data.toList; have := I.dlen; omega
      · rw [b3, b4, e1]; have := I.cnt; omega
theorem ds_remove (I : RI R) (A : ArmR R al) (s : ByteArray) : ∃ al', (R.ds al).remove s = ((R.remove s).1.ds al', (R.remove s).2) ∧ ArmR (R.remove s).1 al' := by
  have hf := I.flt.1
  unfold DS.remove
  rw [ds_find I, ds_flt A, ds_hit A, strR_strN hf]
  by_cases h0 : refN R.down R.dir s true = 0
  · have hs := may_some (refN_parts h0).2
    rw [if_pos h0]
    by_cases h1 : strN R.flt.2.1 = 0
    · have e1 : R.remove s = ((R.beg 5).chg ⟨⟨#[]⟩, -1, s⟩, 0) := by unfold RB.remove; rw [if_neg (by simp [h0]), if_neg (by simp [h1])]
      rw [e1, if_neg (by simp), if_neg (by simp [h1])]
      refine ⟨_, ?_, (A.beg 5).of rfl rfl rfl⟩
      have hP : (R.ds al).P ++ [Ch.rm s] = ((R.beg 5).chg ⟨⟨#[]⟩, -1, s⟩).pe.map RC.ch := by
        show R.pe.map RC.ch ++ _ = ((R.beg 5).pe ++ [_]).map RC.ch
        rw [(beg_same R 5).2.2.2.1, List.map_append, List.map_singleton, rm_ch hs]
      rw [hP]
      rfl
    · have e1 : R.remove s = (R.beg 5, strN R.flt.2.1) := by unfold RB.remove; rw [if_neg (by simp [h0]), if_pos h1]
      rw [e1, if_neg (by simp), if_pos h1]
      exact ⟨_, rfl, A.beg 5⟩
  · have e1 : R.remove s = (R, refN R.down R.dir s true) := by unfold RB.remove; rw [if_pos h0]
    rw [if_neg h0, e1, if_pos h0]
    exact ⟨al, rfl, A⟩
theorem rn_run {f t : ByteArray} (h : f.data.toList ≠ []) {p : Nat} (l : Dr) : RC.run ⟨t, (p : Int), f⟩ l = dput (ddel l f.data.toList) t.data.toList p := by
  unfold RC.run RC.one
  rw [if_pos (by show (0 : Int) ≤ (p : Int); omega)]
  show dput (if f.data.toList = [] then l else ddel l f.data.toList) _ (Int.toNat (p : Int)) = _
  rw [if_neg h, Int.toNat_natCast]
theorem rn_ch {f t : ByteArray} (h : f.data.toList ≠ []) {p : Nat} : RC.ch ⟨t, (p : Int), f⟩ = .rn f t := by
  unfold RC.ch
  rw [if_neg h, if_neg (by show ¬ (p : Int) < 0; omega)]
theorem data_ne {f t : ByteArray} (h : f ≠ t) : f.data.toList ≠ t.data.toList := fun c => h (by
  obtain ⟨a⟩ := f
  obtain ⟨b⟩ := t
  have : a = b := Array.toList_inj.1 c
  rw [this])
theorem rn_same {l : Dr} (hr : Rise l) {f t : ByteArray} (h : f.data.toList ≠ []) (hne : f ≠ t) {p : Nat} (hg : Dk.get l f.data.toList = some p) : RC.run ⟨t, (p : Int), f⟩ l = (RC.ch ⟨t, (p : Int), f⟩).run l := by
  rw [rn_run h, rn_ch h]
  show _ = (match Dk.get l f.data.toList with | some p => ddel (dput l t.data.toList p) f.data.toList | none => l)
  rw [hg]
  refine rise_ext (rise_dput (rise_ddel hr _) _ _) (rise_ddel (rise_dput hr _ _) _) fun k => ?_
  rw [get_dput, get_ddel, get_ddel, get_dput]
  have := data_ne hne
  by_cases e1 : t.data.toList = k
  · rw [if_pos e1, if_neg (fun c => this (c.trans e1.symm)), if_pos e1]
  · rw [if_neg e1, if_neg e1]
theorem ddel_less {l : Dr} {n : List UInt8} {p : Nat} (h : Dk.get l n = some p) : (ddel l n).length + 1 ≤ l.length := by
  have hm := get_mem h
  unfold ddel
  have : (l.filter fun p => !(p.1 == n)).length < l.length := by
    rw [List.length_filter_lt_length_iff_exists]
    exact ⟨_, hm, by simp⟩
  omega
theorem ri_rename (I : RI R) (f t : ByteArray) : RI (R.rename f t).1 := by
  unfold RB.rename
  split
  · exact I
  · rename_i h0
    split
    · exact ri_beg I 4
    · split
      · exact ri_beg I 4
      · rename_i hne
        obtain ⟨b1, b2, b3, b4, b5, b6⟩ := beg_same R 4
        obtain ⟨e1, _⟩ := beg_more R 4
        obtain ⟨h1, h2, h3⟩ := ref2_zero (by simpa using h0)
        have hs := may_some (refN_parts h3).2
        obtain ⟨q1, q2, q3⟩ := refN_there I.dirF h3
        rw [q1]
        refine ri_chg (ri_beg I 4) _ ?_ ⟨?_, ?_, fun c => absurd c hs⟩ ?_ ?_
        · rw [b2]; exact rn_same I.dirR hs hne q3
        · show (-1 : Int) ≤ (R.pOf f : Int); omega
        · show (R.pOf f : Int) < _; rw [b1]; omega
        · rw [rn_run hs, b2]
          have w1 := dput_le (ddel R.dir f.data.toList) t.data.toList (R.pOf f)
          have w2 := ddel_less q3
          have := I.dlen
          omega
        · rw [b3, b4, e1]; have := I.cnt; omega
theorem ds_ref2 (I : RI R) (al : Ar) (f t : ByteArray) : (if (R.ds al).ref [f, t] ≠ 0 then (R.ds al).ref [f, t] else ((R.ds al).find f).2) = R.ref2 f t := by
  have hx : (R.ds al).ref [f, t] = if refN R.down R.dir f false ≠ 0 then refN R.down R.dir f false else refN R.down R.dir t false := by
    unfold DS.ref refN RB.ds
    cases R.down
    · by_cases a : may f.data.toList = true
      · by_cases b : may t.data.toList = true
        · simp [a, b]
        · simp [a, b]
      · simp [a]
    · simp
  have hy : ((R.ds al).find f).2 = refN R.down R.dir f true := by
    rw [ds_find I]
    by_cases h2 : refN R.down R.dir f true = 0
    · rw [if_pos h2, h2]
    · rw [if_neg h2]
  rw [hx, hy]
  unfold RB.ref2
  by_cases h0 : refN R.down R.dir f false = 0
  · by_cases h1 : refN R.down R.dir t false = 0
    · simp [h0, h1]
    · simp [h0, h1]
  · simp [h0]
theorem ds_rename (I : RI R) (A : ArmR R al) (f t : ByteArray) : ∃ al', (R.ds al).rename f t = ((R.rename f t).1.ds al', (R.rename f t).2) ∧ ArmR (R.rename f t).1 al' := by
  have hf := I.flt.1
  have hr := ds_ref2 I al f t
  have eS : (R.ds al).rename f t = if R.ref2 f t ≠ 0 then (R.ds al, R.ref2 f t) else if strN R.flt.2.1 ≠ 0 then ((R.beg 4).ds (adel al (R.c7 + 1)), strN R.flt.2.1) else if f = t then ((R.beg 4).ds (adel al (R.c7 + 1)), 0) else ({ (R.beg 4).ds (adel al (R.c7 + 1)) with P := (R.ds al).P ++ [.rn f t] }, 0) := by
    unfold DS.rename
    rw [ds_flt A, ds_hit A, strR_strN hf, ← hr]
    by_cases h0 : (R.ds al).ref [f, t] = 0
    · rw [if_neg (by simp [h0])]
      rw [h0] at *
      simp only [ne_eq, not_true_eq_false, if_false]
    · rw [if_pos h0, if_pos h0, if_pos h0]
  rw [eS]
  by_cases h0 : R.ref2 f t = 0
  · rw [if_neg (by simp [h0])]
    by_cases h1 : strN R.flt.2.1 = 0
    · rw [if_neg (by simp [h1])]
      by_cases h2 : f = t
      · have e1 : R.rename f t = (R.beg 4, 0) := by unfold RB.rename; rw [if_neg (by simp [h0]), if_neg (by simp [h1]), if_pos h2]
        rw [if_pos h2, e1]
        exact ⟨_, rfl, A.beg 4⟩
      · have e1 : R.rename f t = ((R.beg 4).chg ⟨t, findN R.dir f.data.toList, f⟩, 0) := by unfold RB.rename; rw [if_neg (by simp [h0]), if_neg (by simp [h1]), if_neg h2]
        rw [if_neg h2, e1]
        obtain ⟨_, _, h3⟩ := ref2_zero h0
        have hs := may_some (refN_parts h3).2
        obtain ⟨q1, q2, q3⟩ := refN_there I.dirF h3
        refine ⟨_, ?_, (A.beg 4).of rfl rfl rfl⟩
        have hP : (R.ds al).P ++ [Ch.rn f t] = ((R.beg 4).chg ⟨t, findN R.dir f.data.toList, f⟩).pe.map RC.ch := by
          show R.pe.map RC.ch ++ _ = ((R.beg 4).pe ++ [_]).map RC.ch
          rw [(beg_same R 4).2.2.2.1, List.map_append, List.map_singleton, q1, rn_ch hs]
        rw [hP]
        rfl
    · have e1 : R.rename f t = (R.beg 4, strN R.flt.2.1) := by unfold RB.rename; rw [if_neg (by simp [h0]), if_pos h1]
      rw [if_pos h1, e1]
      exact ⟨_, rfl, A.beg 4⟩
  · have e1 : R.rename f t = (R, R.ref2 f t) := by unfold RB.rename; rw [if_pos h0]
    rw [if_pos h0, e1]
    exact ⟨al, rfl, A⟩
theorem runR_nil (l : Dr) (k : Nat) : runR l (([] : List RC).take k) = l := by simp [runR]
theorem dir_cnt (I : RI R) : R.dir.length ≤ R.old.length + R.pe.length := by rw [I.dir]; exact runR_len _ _
theorem ri_kept (I : RI R) : RI R.kept := by
  have hd := dir_cnt I
  have := I.cnt
  refine ⟨⟨I.ok.lo, I.ok.hi, I.ok.no4⟩, I.most, rfl, I.dirR, trivial, I.dirF, fun c hc => (by cases hc), I.fi, ?_, I.fl, I.c8, I.part, fun k => ?_⟩
  · show ((R.dir.length + ([] : List RC).length : Nat) : Int) ≤ R.c7
    simp only [List.length_nil]
    omega
  · show (runR R.dir (([] : List RC).take k)).length ≤ 256
    rw [runR_nil]
    exact I.dlen
theorem ri_syncDir (I : RI R) : RI R.syncDir.1 := by
  unfold RB.syncDir
  split
  · exact I
  · split
    · exact ri_beg I 6
    · exact ri_kept (ri_beg I 6)
theorem ds_syncDir (I : RI R) (A : ArmR R al) : ∃ al', (R.ds al).syncDir = (R.syncDir.1.ds al', R.syncDir.2) ∧ ArmR R.syncDir.1 al' := by
  have hf := I.flt.1
  have hr : (R.ds al).ref [] = if R.down then 22 else 0 := by unfold DS.ref RB.ds; cases R.down <;> simp
  unfold DS.syncDir
  rw [ds_flt A, ds_hit A, strR_strN hf, hr, ds_dir I]
  cases hd : R.down with
  | true =>
    have e1 : R.syncDir = (R, 22) := by unfold RB.syncDir; rw [hd]; rfl
    rw [e1]
    exact ⟨al, rfl, A⟩
  | false =>
    by_cases h1 : strN R.flt.2.1 = 0
    · have e1 : R.syncDir = ((R.beg 6).kept, 0) := by unfold RB.syncDir; rw [hd, if_neg (by simp), if_neg (by simp [h1])]
      rw [e1, if_neg (by simp), if_neg (by simp [h1])]
      refine ⟨adel al (R.c7 + 1), ?_, (A.beg 6).of rfl rfl rfl⟩
      unfold RB.ds RB.kept
      simp only [(beg_same R 6).2.1, List.map_nil]
      rfl
    · have e1 : R.syncDir = (R.beg 6, strN R.flt.2.1) := by unfold RB.syncDir; rw [hd, if_neg (by simp), if_pos h1]
      rw [e1, if_neg (by simp), if_pos h1]
      exact ⟨_, rfl, A.beg 6⟩
end Go.Proofs.YtjehpijjneghpaaGreat.Re
