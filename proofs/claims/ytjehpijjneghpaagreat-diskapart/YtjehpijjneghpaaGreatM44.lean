/-
  Two pairs of disks, side by side.
-/
import Derived.Test.YtjehpijjneghpaaGreatM41
import Derived.Test.YtjehpijjneghpaaGreatM43
import Derived.Test.YtjehpijjneghpaaGreatM30
import Derived.Test.YtjehpijjneghpaaGreatM14
import Derived.Test.YtjehpijjneghpaaGreatM19
namespace Go.Proofs.YtjehpijjneghpaaGreat.Re
open Go.RowKit Go.Maps Go.Sort Go.Shelf Go.Proofs.YtjehpijjneghpaaGreat.Nm Go.Proofs.YtjehpijjneghpaaGreat.Dk
open Ix (wp_region_T wpAnyT wpAnyT_take wpAnyT_one wpAnyT_done vac)
set_option linter.unusedVariables false
theorem bt {w q : World} (h : Below w.heap.size w q) (o : Obj) : Below w.heap.size w (q.alloc o) := h.trans ((box_below q o).mono h.size)
theorem bs2 {w q q' : World} (h : Below w.heap.size w q) (h2 : Below q.heap.size q q') : Below w.heap.size w q' := h.trans (h2.mono h.size)
structure DA (w q : World) (pb qb : Nat) (k : Nat) : Prop where
  out : ∃ b1 S1 R1 Q1 b2 S2 R2 Q2, PW q pb b1 S1 R1 Q1 ∧ PW q qb b2 S2 R2 Q2 ∧ (∀ j, Q1 j → ¬ Q2 j) ∧ Rel S1 R1 ∧ Rel S2 R2 ∧ S1.c7 ≤ (k : Int) ∧ S2.c7 ≤ (k : Int) ∧ (∀ j, Q1 j → w.heap.size ≤ j) ∧ (∀ j, Q2 j → w.heap.size ≤ j)
  bel : Below w.heap.size w q
theorem DA.below {w q q' : World} {pb qb k : Nat} (h : DA w q pb qb k) (hb : Below q.heap.size q q') : DA w q' pb qb k := by
  obtain ⟨b1, S1, R1, Q1, b2, S2, R2, Q2, p1, p2, rest⟩ := h.out
  exact ⟨⟨b1, S1, R1, Q1, b2, S2, R2, Q2, p1.below hb, p2.below hb, rest⟩, bs2 h.bel hb⟩
theorem pair_new {w u q : World} {b : Nat} {most : Int} {O : Nat → Prop} (hD : DskE u b (DS.new most) O) (hlo : ∀ k, O k → w.heap.size ≤ k) (hu : Below w.heap.size w u) (hq : Below u.heap.size u q) (hR : RM q u.heap.size (RB.new most) RV.nil) :
    PW (q.alloc (.cells #[.pointer (some ⟨b, 0, none⟩), .pointer (some ⟨u.heap.size, 0, none⟩)] 29)) q.heap.size b (DS.new most) (RB.new most) (own q.heap.size O u.heap.size RV.nil) ∧ ∀ k, own q.heap.size O u.heap.size RV.nil k → w.heap.size ≤ k := by
  refine ⟨(px_new hD hq hR).toPW, ?_⟩
  rintro k (e | c | ⟨x, c⟩)
  · have := hu.size; have := hq.size; omega
  · exact hlo k c
  · have := blk_nil c; have := hu.size; omega
end Go.Proofs.YtjehpijjneghpaaGreat.Re
namespace Go.Proofs.YtjehpijjneghpaaGreat.Re
open Go.RowKit Go.Maps Go.Sort Go.Shelf Go.Proofs.YtjehpijjneghpaaGreat.Nm Go.Proofs.YtjehpijjneghpaaGreat.Dk
set_option linter.unusedVariables false
structure D1 (w q : World) (B pb tb k : Nat) : Prop where
  out : ∃ b S R Q, PW q pb b S R Q ∧ Rel S R ∧ S.c7 ≤ (k : Int) ∧ (∀ j, Q j → B ≤ j)
  bel : Below w.heap.size w q
  hB : w.heap.size ≤ B ∧ B ≤ q.heap.size
  box : q.heap[tb]? = some (.cells #[.pointer none, .pointer none] 29 (0, 0))
  lt : tb < B
end Go.Proofs.YtjehpijjneghpaaGreat.Re
namespace Go.Proofs.YtjehpijjneghpaaGreat.Re
open Go.RowKit Go.Maps Go.Sort Go.Shelf Go.Proofs.YtjehpijjneghpaaGreat.Nm Go.Proofs.YtjehpijjneghpaaGreat.Dk
set_option linter.unusedVariables false
structure AI (w : World) (pb kb b : Nat) (S : DS) (R : RB) (Q C : Nat → Prop) (q : World) : Prop where
  pw : PW q pb b S R Q
  rel : Rel S R
  kp : Kpr w.heap.size q kb C
  dj : ∀ j, Q j → ¬ C j
  lo : ∀ j, Q j → w.heap.size ≤ j
  bel : Below w.heap.size w q
variable {w q q' : World} {pb kb b : Nat} {S : DS} {R : RB} {Q C : Nat → Prop}
theorem AI.but {X : Nat → Prop} (h : AI w pb kb b S R Q C q) (hb : But X q q') (hX : ∀ k, X k → ¬ Q k ∧ ¬ C k ∧ w.heap.size ≤ k) : AI w pb kb b S R Q C q' :=
  ⟨h.pw.but hb (fun k hk c => (hX k c).1 hk), h.rel, h.kp.but hb (fun k hk => (hX k hk).2.1), h.dj, h.lo, h.bel.trans (hb.below h.bel.size (fun k hk => (hX k hk).2.2))⟩
theorem AI.below (h : AI w pb kb b S R Q C q) (hb : Below q.heap.size q q') : AI w pb kb b S R Q C q' := h.but (But.of_below hb fun _ => False) (fun _ c => c.elim)
theorem AI.new (h : AI w pb kb b S R Q C q) {k : Nat} (hk : q.heap.size ≤ k) : ¬ Q k ∧ ¬ C k ∧ w.heap.size ≤ k :=
  ⟨fun c => by have := h.pw.lt k c; omega, fun c => by have := (h.kp.lt k c).1; omega, by have := h.bel.size; omega⟩
theorem AI.keep (h : AI w pb kb b S R Q C q) {v : Value} {l : List UInt8} (ho : Ob w.heap.size q v l) (hl : l.length ≤ 281474976710656) (hv : ∀ k, v.ownBlock = some k → ¬ C k ∧ ¬ Q k) (cc : Nat) :
    Calls Tryz.prog 25 #[.pointer (some ⟨kb, 0, none⟩), .slice (some ⟨q.heap.size, 0, none⟩) 1 cc] (q.alloc (.cells #[v] 30)) fun e w' => e = .returned (.tuple #[]) ∧ ∃ C', AI w pb kb b S R Q C' w' ∧ But C q w' ∧ (∀ k, C' k → C k ∨ v.ownBlock = some k ∨ q.heap.size ≤ k) := by
  refine (h.kp.keep (l := l) (n := l.length) ho rfl hl (fun k hk => (hv k hk).1) cc).mono ?_
  rintro e w' ⟨he, C', hk, hb, hc⟩
  refine ⟨he, C', ⟨h.pw.but hb (fun k hk c => h.dj k hk c), h.rel, hk, fun j hj c => ?_, h.lo, h.bel.trans (hb.below h.bel.size (fun k hk => (h.kp.lt k hk).2))⟩, hb, hc⟩
  rcases hc j c with c | c | c
  · exact h.dj j hj c
  · exact (hv j c).2 hj
  · have := h.pw.lt j hj; omega
theorem AI.plays (h : AI w pb kb b S R Q C q) {k : Nat} (hk : k ≤ 1000) (hc : S.c7 ≤ (k : Int)) (o : Dop) (ho : DopOk w o) :
    Calls Tryz.prog 11 #[.pointer (some ⟨pb, 0, none⟩), opV o] q fun e w' => e = .returned (.bool true) ∧ ∃ b' S' R' Q', AI w pb kb b' S' R' Q' C w' ∧ S'.c7 ≤ ((k + 1 : Nat) : Int) := by
  refine (pl_all (W0 := w) o ⟨h.pw, ho, h.bel, h.lo, h.rel.ri, h.rel.uq, by omega, by have := h.rel.cnts; omega⟩).mono ?_
  rintro e w' ⟨⟨rr, S', Q', b', rfl, pw, g, pl, hr, hb⟩⟩
  obtain rfl := hr h.rel
  refine ⟨rfl, b', S', R.play o, Q', ⟨pw, rel_play h.rel pl, h.kp.but g.but (fun k hk => h.dj k hk), fun j hj c => ?_, g.low h.bel.size h.lo, g.under h.lo (Nat.le_refl _) h.bel⟩, by have := play_c7 pl; omega⟩
  rcases g.own j hj with x | x
  · exact h.dj j x c
  · have := (h.kp.lt j c).1; omega
theorem fcells_app : ∀ (L : Fil2) (vs : List Value) (L' : Fil2) (vs' : List Value), vs.length = L.length → Dk.fcells (L ++ L') (vs ++ vs') = Dk.fcells L vs ++ Dk.fcells L' vs'
  | [], [], _, _, _ => rfl
  | l :: r, v :: s, L', vs', h => by
    simp only [List.cons_append, Dk.fcells]
    rw [fcells_app r s L' vs' (by simpa using h)]
    try simp
  | [], _ :: _, _, _, h => by simp at h
  | _ :: _, [], _, _, h => by simp at h
theorem fcells_len : ∀ (L : Fil2) (vs : List Value), vs.length = L.length → (Dk.fcells L vs).length = L.length * 2
  | [], [], _ => rfl
  | l :: r, v :: s, h => by
    simp only [Dk.fcells, List.length_cons]
    have := fcells_len r s (by simpa using h)
    omega
  | [], _ :: _, h => by simp at h
  | _ :: _, [], h => by simp at h
theorem FlI.join {B : Nat} {w wc w' : World} {v v' vb : Value} {L L2 : Fil2} {vs vs2 : List Value} (h : FlI B w v L vs) (hB : B ≤ w.heap.size) (h2 : FlI w.heap.size wc vb L2 vs2) (hbc : Below w.heap.size w wc)
    (hr : w'.ownsRow B 61 2 v' (L.length + L2.length) (Dk.fcells L vs ++ Dk.fcells L2 vs2)) (hg : wc.grownBy w' v.ownBlock) (hv : v'.ownBlock = v.ownBlock ∨ ∃ k, v'.ownBlock = some k ∧ wc.heap.size ≤ k) : FlI B w' v' (L ++ L2) (vs ++ vs2) := by
  have hGb := But.of_grownBy (X := fun k => v.ownBlock = some k) hg fun k e => e
  have h1 := h.below hbc
  have vlt : ∀ k, v.ownBlock = some k → k < w.heap.size := fun k hk => (World.ownsRow.lt h.row k hk).2
  have cases_u : ∀ i x, (vs ++ vs2)[i]? = some x → (i < vs.length ∧ vs[i]? = some x) ∨ (vs.length ≤ i ∧ vs2[i - vs.length]? = some x) := by
    intro i x hx
    rcases Nat.lt_or_ge i vs.length with q | q
    · rw [List.getElem?_append_left q] at hx; exact .inl ⟨q, hx⟩
    · rw [List.getElem?_append_right q] at hx; exact .inr ⟨q, hx⟩
  have blk : ∀ i x, (vs ++ vs2)[i]? = some x → ∀ k, x.ownBlock = some k → (i < vs.length ∧ k < w.heap.size) ∨ (vs.length ≤ i ∧ w.heap.size ≤ k ∧ k < wc.heap.size) := by
    intro i x hx k hk
    rcases cases_u i x hx with ⟨q, hx'⟩ | ⟨q, hx'⟩
    · obtain ⟨l', _, ho⟩ := h.get hx'
      exact .inl ⟨q, (ho.lt k hk).2⟩
    · obtain ⟨l', _, ho⟩ := h2.get hx'
      exact .inr ⟨q, ho.lt k hk⟩
  refine ⟨by simp [h.len, h2.len], ?_, ?_, ?_, ?_⟩
  · rw [fcells_app L vs L2 vs2 h.len, List.length_append]; exact hr
  · intro i m x hx hm
    rcases cases_u i x hx with ⟨q, hx'⟩ | ⟨q, hx'⟩
    · rw [List.getElem?_append_left (by rw [← h.len]; exact q)] at hm
      exact (h1.ob i m x hx' hm).but hGb (fun k hk c => h.no i x hx' k hk c)
    · rw [List.getElem?_append_right (by rw [← h.len]; exact q), ← h.len] at hm
      have hu := h2.ob _ m x hx' hm
      refine (hu.low hB).but hGb (fun k hk c => ?_)
      have := (hu.lt k hk).1
      have := vlt k c
      omega
  · intro i j x y hij hx hy k hk c
    rcases cases_u i x hx with ⟨q, hx'⟩ | ⟨q, hx'⟩
    · rcases cases_u j y hy with ⟨q2, hy'⟩ | ⟨q2, hy'⟩
      · exact h.ap i j x y hij hx' hy' k hk c
      · rcases blk i x hx k hk with ⟨_, z⟩ | ⟨z, _⟩ <;> rcases blk j y hy k c with ⟨z2, _⟩ | ⟨_, z2, _⟩ <;> omega
    · rcases cases_u j y hy with ⟨q2, hy'⟩ | ⟨q2, hy'⟩
      · rcases blk i x hx k hk with ⟨z, _⟩ | ⟨_, z, _⟩ <;> rcases blk j y hy k c with ⟨_, z2⟩ | ⟨z2, _⟩ <;> omega
      · exact h2.ap _ _ x y (by omega) hx' hy' k hk c
  · intro i x hx k hk c
    rcases hv with e | ⟨k', e, hk'⟩
    · rw [e] at c
      rcases cases_u i x hx with ⟨q, hx'⟩ | ⟨q, hx'⟩
      · exact h.no i x hx' k hk c
      · obtain ⟨l', _, ho⟩ := h2.get hx'
        have := (ho.lt k hk).1
        have := vlt k c
        omega
    · rw [e] at c
      simp at c
      have hz := hbc.size
      rcases blk i x hx k hk with ⟨_, z⟩ | ⟨_, _, z⟩ <;> omega
theorem mem_fcells : ∀ (L : Fil2) (vs : List Value) (x : Value), x ∈ Dk.fcells L vs → (∃ l, x = encStr l) ∨ x ∈ vs
  | [], _, x, h => by simp [Dk.fcells] at h
  | _ :: _, [], x, h => by simp [Dk.fcells] at h
  | l :: r, v :: s, x, h => by
    simp only [Dk.fcells, List.mem_cons] at h
    rcases h with h | h | h
    · exact .inl ⟨_, h⟩
    · exact .inr (by simp [h])
    · rcases mem_fcells r s x h with c | c
      · exact .inl c
      · exact .inr (by simp [c])
theorem run_appFl {B : Nat} {w wc : World} {va vb : Value} {L L2 : Fil2} {vs vs2 : List Value} (h : FlI B w va L vs) (hB : B ≤ w.heap.size) (h2 : FlI w.heap.size wc vb L2 vs2) (hbc : Below w.heap.size w wc) (hl : L.length + L2.length ≤ 2000000) (ty : TypeId) :
    ∃ v' w', (Builtin.append_ #[57, 57] ty #[va, vb]).run Tryz.prog wc = .ok v' w' ∧ FlI B w' v' (L ++ L2) (vs ++ vs2) ∧ wc.grownBy w' va.ownBlock := by
  obtain ⟨i0, hi, hz0, hz1, hz2⟩ := info_parts infoFile
  have h1 := h.below hbc
  rcases id h2.row.2 with ⟨e, hz⟩ | ⟨g, cap, cur, e, hg, hc, a1, a2, a3, a4⟩
  · have : L2 = [] := List.length_eq_zero_iff.1 hz
    subst this
    have : vs2 = [] := List.length_eq_zero_iff.1 h2.len
    subst this
    subst e
    refine ⟨va, wc, ?_, by simpa using h1, ⟨rfl, rfl, rfl, Nat.le_refl _, fun _ _ _ => rfl⟩⟩
    exact run_append_owned_none (P := Tryz.prog) (w := wc) B 57 ty 61 i0 2 Tryz.underlying57 hi va L.length (Dk.fcells L vs) h1.row
  · subst e
    obtain ⟨v', w', hr, ho, hg', _, hat⟩ := run_append_own_at (P := Tryz.prog) wc B 57 ty 61 i0 (.agg #[.string ⟨#[]⟩, .slice none 0 0]) 2 40 Tryz.underlying57 hi hz0 hz1 hz2 rfl (by decide) va L.length (Dk.fcells L vs) h1.row ⟨g, 0, none⟩ L2.length cap (Dk.fcells L2 vs2) (fcells_len L2 vs2 h2.len) (World.ownsRow.cells h2.row (g := g) rfl) (fun u hu => by
      rcases mem_fcells L2 vs2 u hu with ⟨l, rfl⟩ | hm
      · rfl
      · obtain ⟨n, hn⟩ := List.getElem?_of_mem hm
        obtain ⟨l, _, ho⟩ := h2.get hn
        obtain ⟨ao, ca, rfl, _⟩ := ho.form
        rfl) (by unfold maxLen; omega) (by omega) (Nat.le_trans hB hbc.size)
    refine ⟨v', w', hr, FlI.join h hB h2 hbc ho hg' (hat.imp id fun e => ⟨_, e, Nat.le_refl _⟩), hg'⟩
structure FL (w : World) (pb kb b : Nat) (S : DS) (R : RB) (Q : Nat → Prop) (v : Value) (vs : List Value) (n j : Nat) (wr : World) : Prop where
  out : ∃ C xs, AI w pb kb b S R Q C wr ∧ wr.ownsRow w.heap.size 61 2 v n xs ∧ xs.length = n * 2 ∧
    (∀ i u, j ≤ i → vs[i]? = some u → xs[i * 2 + 1]? = some u ∧ ∃ l, Ob w.heap.size wr u l ∧ l.length ≤ 281474976710656) ∧
    (∀ i u, j ≤ i → vs[i]? = some u → ∀ k, u.ownBlock = some k → ¬ C k ∧ ¬ Q k ∧ v.ownBlock ≠ some k) ∧ (∀ k, v.ownBlock = some k → ¬ C k ∧ ¬ Q k)
  len : vs.length = n
  ap : ∀ (i j : Nat) (u u' : Value), i ≠ j → vs[i]? = some u → vs[j]? = some u' → ∀ k, u.ownBlock = some k → u'.ownBlock ≠ some k
theorem FL.of {w q q' : World} {v : Value} {L : Fil2} {vs : List Value} (h : AI w pb kb b S R Q C q) (hf : FlI q.heap.size q' v L vs) (hb : Below q.heap.size q q') (hl : ∀ e ∈ L, e.2.length ≤ 281474976710656) : FL w pb kb b S R Q v vs L.length 0 q' := by
  have h' := h.below hb
  have z := h.bel.size
  have hlow := hf.low z
  refine ⟨⟨C, Dk.fcells L vs, h', hlow.row, fcells_len L vs hf.len, fun i u _ hu => ?_, fun i u _ hu k hk => ?_, fun k hk => ?_⟩, hf.len, hf.ap⟩
  · obtain ⟨l, hL, ho⟩ := hlow.get hu
    refine ⟨(ficells_at L vs hf.len i l u hL hu).2, l.2, ho, hl l (List.mem_of_getElem? hL)⟩
  · obtain ⟨l, hL, ho⟩ := hf.get hu
    have := h.new (ho.lt k hk).1
    exact ⟨this.2.1, this.1, hf.no i u hu k hk⟩
  · have := h.new (World.ownsRow.lt hf.row k hk).1
    exact ⟨this.2.1, this.1⟩
theorem FL.kept {w wr : World} {v u : Value} {vs : List Value} {n j : Nat} (h : FL w pb kb b S R Q v vs n j wr) (hu : vs[j]? = some u) (cc : Nat) :
    Calls Tryz.prog 25 #[.pointer (some ⟨kb, 0, none⟩), .slice (some ⟨wr.heap.size, 0, none⟩) 1 cc] (wr.alloc (.cells #[u] 30)) fun e w' => e = .returned (.tuple #[]) ∧ FL w pb kb b S R Q v vs n (j + 1) w' := by
  obtain ⟨C, xs, ai, row, xl, hx, hd, hv⟩ := h.out
  obtain ⟨_, l, ho, hl⟩ := hx j u (Nat.le_refl _) hu
  refine (ai.keep ho hl (fun k hk => ⟨(hd j u (Nat.le_refl _) hu k hk).1, (hd j u (Nat.le_refl _) hu k hk).2.1⟩) cc).mono ?_
  rintro e w' ⟨rfl, C', ai', hb, hc⟩
  refine ⟨rfl, ⟨⟨C', xs, ai', row_but row hb (fun k hk c => (hv k hk).1 c), xl, fun i x hi hxx => ?_, fun i x hi hxx k hk => ?_, fun k hk => ⟨fun c => ?_, (hv k hk).2⟩⟩, h.len, h.ap⟩⟩
  · obtain ⟨a, l', b', c'⟩ := hx i x (by omega) hxx
    exact ⟨a, l', b'.but hb (fun k hk c => (hd i x (by omega) hxx k hk).1 c), c'⟩
  · have a := hd i x (by omega) hxx k hk
    refine ⟨fun c => ?_, a.2.1, a.2.2⟩
    rcases hc k c with c | c | c
    · exact a.1 c
    · exact h.ap j i u x (by omega) hu hxx k c hk
    · obtain ⟨_, l', b', _⟩ := hx i x (by omega) hxx
      have := (b'.lt k hk).2
      omega
  · rcases hc k c with c | c | c
    · exact (hv k hk).1 c
    · exact (hd j u (Nat.le_refl _) hu k c).2.2 hk
    · have := (World.ownsRow.lt row k hk).2
      omega
theorem FL.emptied {w wr : World} {vs : List Value} {n j g cap : Nat} (h : FL w pb kb b S R Q (.slice (some ⟨g, 0, none⟩) n cap) vs n (j + 1) wr) (x y : Value) :
    FL w pb kb b S R Q (.slice (some ⟨g, 0, none⟩) n cap) vs n (j + 1) ((wr.setCell ⟨g, j * 2, none⟩ x).setCell ⟨g, j * 2 + 1, none⟩ y) := by
  obtain ⟨C, xs, ai, row, xl, hx, hd, hv⟩ := h.out
  have b1 : But (fun k => k = g) wr (wr.setCell ⟨g, j * 2, none⟩ x) := But.of_grownBy (grown_setCell wr g (j * 2) x) fun j e => by cases e; rfl
  have b2 : But (fun k => k = g) (wr.setCell ⟨g, j * 2, none⟩ x) ((wr.setCell ⟨g, j * 2, none⟩ x).setCell ⟨g, j * 2 + 1, none⟩ y) := But.of_grownBy (grown_setCell _ g (j * 2 + 1) y) fun j e => by cases e; rfl
  have b3 := b1.trans b2
  have hg := hv g rfl
  refine ⟨⟨C, (xs.set (j * 2) x).set (j * 2 + 1) y, ai.but b3 (fun k e => by subst e; exact ⟨hg.2, hg.1, (World.ownsRow.lt row k rfl).1⟩), ((row.stored (j * 2) x).1.stored (j * 2 + 1) y).1, by simp [xl], fun i u hi hu => ?_, fun i u hi hu => hd i u hi hu, hv⟩, h.len, h.ap⟩
  obtain ⟨a, l, o, e⟩ := hx i u hi hu
  refine ⟨?_, l, o.but b3 (fun k hk c => (hd i u hi hu k hk).2.2 (by rw [c]; rfl)), e⟩
  rw [List.getElem?_set_ne (by omega), List.getElem?_set_ne (by omega)]
  exact a
theorem FL.cells {w wr : World} {vs : List Value} {n j : Nat} {v : Value} (h : FL w pb kb b S R Q v vs n j wr) (hj : j < n) : ∃ g cap u, v = .slice (some ⟨g, 0, none⟩) n cap ∧ n ≤ cap ∧ cap ≤ 9223372036854775807 ∧ vs[j]? = some u ∧ wr.cell? ⟨g, j * 2 + 1, none⟩ = some u ∧ ∃ ua un uc, u = .slice ua un uc := by
  obtain ⟨C, xs, ai, row, xl, hx, hd, hv⟩ := h.out
  obtain ⟨u, hu⟩ : ∃ u, vs[j]? = some u := ⟨vs[j]'(by rw [h.len]; exact hj), List.getElem?_eq_getElem _⟩
  rcases id row.2 with ⟨e, hz⟩ | ⟨g, cap, cur, e, hB, hc, h1, h2, h3, h4⟩
  · omega
  · subst e
    have q := World.ownsRow.cells row (g := g) rfl (j * 2 + 1) u (hx j u (Nat.le_refl _) hu).1
    rw [addr_add] at q
    obtain ⟨l, ho, _⟩ := (hx j u (Nat.le_refl _) hu).2
    obtain ⟨ua, uc, eu, _⟩ := ho.form
    refine ⟨g, cap, u, rfl, h1, by unfold maxLen at h2; omega, hu, ?_, ua, _, uc, eu⟩
    simpa using q
theorem FL.place {w wr : World} {vs : List Value} {n j i g cap : Nat} (h : FL w pb kb b S R Q (.slice (some ⟨g, 0, none⟩) n cap) vs n i wr) (hj : j < n) : (∃ a, wr.cell? ⟨g, j * 2, none⟩ = some a) ∧ (∃ a, wr.cell? ⟨g, j * 2 + 1, none⟩ = some a) ∧ wr.frozen? ⟨g, j * 2, none⟩ = false ∧ wr.frozen? ⟨g, j * 2 + 1, none⟩ = false := by
  obtain ⟨C, xs, ai, row, xl, hx, hd, hv⟩ := h.out
  have c1 := row.cellAt (j * 2) (by omega)
  have c2 := row.cellAt (j * 2 + 1) (by omega)
  exact ⟨Option.isSome_iff_exists.1 (by rw [c1]; simp [xl]; omega), Option.isSome_iff_exists.1 (by rw [c2]; simp [xl]; omega), row.frozenAt _, row.frozenAt _⟩
structure OL (w : World) (pb kb b : Nat) (S : DS) (R : RB) (Q C : Nat → Prop) (T : TypeId) (sz : Nat) (v : Value) (n : Nat) (wr : World) : Prop where
  ai : AI w pb kb b S R Q C wr
  row : ∃ xs, wr.ownsRow w.heap.size T sz v n xs ∧ xs.length = n * sz
  vC : ∀ k, v.ownBlock = some k → ¬ C k ∧ ¬ Q k
theorem OL.of {w q q' : World} {T : TypeId} {sz n : Nat} {v : Value} {xs : List Value} (h : AI w pb kb b S R Q C q) (hr : q'.ownsRow q.heap.size T sz v n xs) (hx : xs.length = n * sz) (hb : Below q.heap.size q q') : OL w pb kb b S R Q C T sz v n q' :=
  ⟨h.below hb, ⟨xs, ownsRow_base_a hr h.bel.size, hx⟩, fun k hk => by have := h.new (World.ownsRow.lt hr k hk).1; exact ⟨this.2.1, this.1⟩⟩
theorem OL.store {w wr : World} {T : TypeId} {sz n g cap : Nat} (h : OL w pb kb b S R Q C T sz (.slice (some ⟨g, 0, none⟩) n cap) n wr) (o : Nat) (x : Value) : OL w pb kb b S R Q C T sz (.slice (some ⟨g, 0, none⟩) n cap) n (wr.setCell ⟨g, o, none⟩ x) := by
  obtain ⟨xs, hr, hl⟩ := h.row
  have hg := h.vC g rfl
  exact ⟨h.ai.but (But.of_grownBy (X := fun k => k = g) (grown_setCell wr g o x) fun j e => by cases e; rfl) (fun k e => by subst e; exact ⟨hg.2, hg.1, (World.ownsRow.lt hr k rfl).1⟩), ⟨_, (hr.stored o x).1, by simp [hl]⟩, h.vC⟩
theorem OL.place {w wr : World} {T : TypeId} {sz n g cap : Nat} (h : OL w pb kb b S R Q C T sz (.slice (some ⟨g, 0, none⟩) n cap) n wr) {o : Nat} (ho : o < n * sz) : (∃ a, wr.cell? ⟨g, o, none⟩ = some a) ∧ wr.frozen? ⟨g, o, none⟩ = false := by
  obtain ⟨xs, hr, hl⟩ := h.row
  have c1 := hr.cellAt o (by omega)
  exact ⟨Option.isSome_iff_exists.1 (by rw [c1]; simp [hl]; omega), hr.frozenAt _⟩
theorem OL.form {w wr : World} {T : TypeId} {sz n : Nat} {v : Value} (h : OL w pb kb b S R Q C T sz v n wr) : ∃ ao cap, v = .slice ao n cap ∧ n ≤ cap ∧ cap ≤ 9223372036854775807 ∧ (0 < n → ∃ g, ao = some ⟨g, 0, none⟩) := by
  obtain ⟨xs, hr, hl⟩ := h.row
  rcases hr.2 with ⟨e, hz⟩ | ⟨g, cap, cur, e, hB, hc, h1, h2, h3, h4⟩
  · exact ⟨none, 0, by rw [hz]; exact e, by omega, by omega, fun c => by omega⟩
  · exact ⟨some ⟨g, 0, none⟩, cap, e, h1, by unfold maxLen at h2; omega, fun _ => ⟨g, rfl⟩⟩
theorem files_few {S : DS} {R : RB} (h : Rel S R) : (∀ e ∈ S.files ++ S.lasts, e.2.length ≤ 281474976710656) := by
  intro e he
  rw [h.files, h.lasts] at he
  have fo : ∀ p, (R.fOf p).1.length ≤ 16777216 ∧ (R.fOf p).2.1.length ≤ 16777216 := fun p => by
    unfold RB.fOf
    cases hg : R.F[p]? with
    | none => exact ⟨Nat.zero_le _, Nat.zero_le _⟩
    | some f =>
      have := h.ri.fi f (List.mem_of_getElem? hg)
      exact ⟨this.2, Nat.le_trans this.1 this.2⟩
  rcases List.mem_append.1 he with he | he
  · unfold RB.all at he
    obtain ⟨x, _, rfl⟩ := List.mem_map.1 he
    have := fo x.2
    simp only
    omega
  · unfold RB.lasts at he
    obtain ⟨x, _, rfl⟩ := List.mem_map.1 he
    have := fo x.2
    simp only
    omega
theorem read_few {S : DS} {R : RB} (h : Rel S R) (s : ByteArray) (o n : Int) : (S.read s o n).1.length ≤ 281474976710656 := by
  rw [h.read]
  unfold RB.read
  split
  · exact Nat.zero_le _
  · split
    · rw [byOf_fOf]
      have : (R.fOf (R.pOf s)).1.length ≤ 16777216 := by
        unfold RB.fOf
        cases hg : R.F[R.pOf s]? with
        | none => exact Nat.zero_le _
        | some f => exact (h.ri.fi f (List.mem_of_getElem? hg)).2
      simp only [List.length_take, List.length_drop]
      omega
    · exact Nat.zero_le _
theorem AI.apart {w q : World} {pb kb b : Nat} {S : DS} {R : RB} {Q C : Nat → Prop} (h : AI w pb kb b S R Q C q) : Calls Tryz.prog 28 #[.pointer (some ⟨kb, 0, none⟩)] q fun e w' => e = .returned (.bool true) ∧ PW w' pb b S R Q ∧ Below w.heap.size w w' := by
  refine h.kp.apart.mono ?_
  rintro e w' ⟨he, hb⟩
  exact ⟨he, h.pw.but hb (fun k hk => h.dj k hk), h.bel.trans (hb.below h.bel.size (fun k hk => (h.kp.lt k hk).2))⟩
end Go.Proofs.YtjehpijjneghpaaGreat.Re
