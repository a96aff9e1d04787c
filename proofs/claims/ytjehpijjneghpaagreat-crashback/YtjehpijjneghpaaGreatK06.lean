/-
  A disk whole, with its files, by data: DS; how it is carried from world to world.
-/
import Derived.Test.YtjehpijjneghpaaGreatK05
namespace Go.Proofs.YtjehpijjneghpaaGreat.Dk
open Go.RowKit Go.Maps Go.Proofs.YtjehpijjneghpaaGreat.Nm
structure DS where
  most : Int
  up : Bool
  l2 : Dr
  P : List Ch
  al : Ar
  c0 : Int
  c1 : Int
  c2 : Int
  c3 : Int
  c4 : Int
  c5 : Int
  c6 : Int
  c7 : Int
  c8 : Int
  F : Nat → Fl
def DS.dc (S : DS) (f g : Nat) (pd : Value) (am : Option Nat) : Dc := ⟨S.most, S.up, some f, some g, pd, am, S.c0, S.c1, S.c2, S.c3, S.c4, S.c5, S.c6, S.c7, S.c8⟩
def DS.dir (S : DS) : Dr := runs S.l2 S.P
def Ch.ptr : Ch → Option Nat
  | .cr _ p => some p
  | _ => none
def DS.ps (S : DS) : List Nat := S.l2.map (·.2) ++ S.P.filterMap Ch.ptr
structure DS.ok (S : DS) : Prop where
  most : 0 ≤ S.most ∧ S.most ≤ 16777216
  sz : ∀ p ∈ S.ps, (S.F p).by_.length ≤ 16777216
  cnt : ((S.l2.length + S.P.length : Nat) : Int) ≤ S.c7
  calm : ∀ e ∈ S.al, (1 ≤ e.2.2.1 ∧ e.2.2.1 ≤ 3) ∧ 0 ≤ e.2.2.2
  by8 : 0 ≤ S.c8 ∧ S.c8 ≤ 16777216 * S.c7
structure Fs (w : World) (Ow : Nat → Prop) (ps : List Nat) (F : Nat → Fl) (VB VL : Nat → Value) : Prop where
  at_ : ∀ p ∈ ps, FlAt w p (F p) (VB p) (VL p)
  ap : ∀ p ∈ ps, ∀ q ∈ ps, p ≠ q → ∀ k, FOwn p (VB p) (VL p) k → ¬ FOwn q (VB q) (VL q) k
  no : ∀ p ∈ ps, ∀ k, FOwn p (VB p) (VL p) k → ¬ Ow k
structure Sgo (w w' : World) (O O' : Nat → Prop) : Prop where
  but : But O w w'
  own : ∀ k, O' k → O k ∨ w.heap.size ≤ k
theorem Sgo.refl (w : World) (O : Nat → Prop) : Sgo w w O O := ⟨But.of_below (Below.refl _ _) _, fun _ h => .inl h⟩
theorem Sgo.of_below {w w' : World} {O : Nat → Prop} (h : Below w.heap.size w w') : Sgo w w' O O := ⟨But.of_below h _, fun _ q => .inl q⟩
theorem Sgo.trans {w u w' : World} {O O1 O2 : Nat → Prop} (h : Sgo w u O O1) (k : Sgo u w' O1 O2) : Sgo w w' O O2 := by
  refine ⟨⟨k.but.os.trans h.but.os, k.but.tape.trans h.but.tape, k.but.output.trans h.but.output, Nat.le_trans h.but.size k.but.size, fun i hi hx => ?_⟩, fun i hi => ?_⟩
  · rw [k.but.block i (Nat.lt_of_lt_of_le hi h.but.size) (fun c => ?_)]
    · exact h.but.block i hi hx
    · rcases h.own i c with q | q
      · exact hx q
      · omega
  · rcases k.own i hi with q | q
    · exact h.own i q
    · exact .inr (Nat.le_trans h.but.size q)
theorem Sgo.low {w w' : World} {O O' : Nat → Prop} {B : Nat} (h : Sgo w w' O O') (hB : B ≤ w.heap.size) (lo : ∀ k, O k → B ≤ k) : ∀ k, O' k → B ≤ k := fun k hk => by
  rcases h.own k hk with q | q
  · exact lo k q
  · omega
theorem Sgo.under {w0 w w' : World} {O O' : Nat → Prop} {B : Nat} (h : Sgo w w' O O') (lo : ∀ k, O k → B ≤ k) (hB : B ≤ w0.heap.size) (hb : Below B w0 w) : Below B w0 w' :=
  ⟨h.but.os.trans hb.os, h.but.tape.trans hb.tape, h.but.output.trans hb.output, Nat.le_trans hb.size h.but.size, fun k hk => (h.but.block k (Nat.lt_of_lt_of_le (Nat.lt_of_lt_of_le hk hB) hb.size) (fun c => by have := lo k c; omega)).trans (hb.block k hk)⟩
theorem Fs.but {X : Nat → Prop} {A B : World} {Ow : Nat → Prop} {ps : List Nat} {F : Nat → Fl} {VB VL : Nat → Value} (h : Fs A Ow ps F VB VL) (hb : But X A B) (hx : ∀ p ∈ ps, ∀ k, FOwn p (VB p) (VL p) k → ¬ X k) : Fs B Ow ps F VB VL :=
  ⟨fun p hp => (h.at_ p hp).but hb (hx p hp), h.ap, h.no⟩
theorem Fs.lt {w : World} {Ow : Nat → Prop} {ps : List Nat} {F : Nat → Fl} {VB VL : Nat → Value} (h : Fs w Ow ps F VB VL) {p : Nat} (hp : p ∈ ps) : ∀ k, FOwn p (VB p) (VL p) k → k < w.heap.size := (h.at_ p hp).lt
theorem Fs.stp {w w' : World} {b : Nat} {x x' : Dc} {ps : List Nat} {F : Nat → Fl} {VB VL : Nat → Value} (h : Fs w (Own b x) ps F VB VL) (st : Stp w w' b x x') : Fs w' (Own b x') ps F VB VL := by
  refine ⟨fun p hp => (h.at_ p hp).but st.but (h.no p hp), h.ap, fun p hp k hk c => ?_⟩
  rcases st.own k c with q | q
  · exact h.no p hp k hk q
  · have := h.lt hp k hk
    omega
theorem Fs.sub {w : World} {Ow : Nat → Prop} {ps qs : List Nat} {F : Nat → Fl} {VB VL : Nat → Value} (h : Fs w Ow ps F VB VL) (hs : ∀ q ∈ qs, q ∈ ps) : Fs w Ow qs F VB VL :=
  ⟨fun p hp => h.at_ p (hs p hp), fun p hp q hq => h.ap p (hs p hp) q (hs q hq), fun p hp => h.no p (hs p hp)⟩
def upd {α : Type} (F : Nat → α) (p : Nat) (t : α) : Nat → α := fun q => if q = p then t else F q
theorem upd_same {α : Type} (F : Nat → α) (p : Nat) (t : α) : upd F p t p = t := if_pos rfl
theorem upd_ne {α : Type} (F : Nat → α) {p q : Nat} (t : α) (h : q ≠ p) : upd F p t q = F q := if_neg h
theorem Fs.one {w w' : World} {Ow : Nat → Prop} {ps : List Nat} {F : Nat → Fl} {VB VL : Nat → Value} {p : Nat} {t : Fl} {vb vl : Value} (h : Fs w Ow ps F VB VL) (hp : p ∈ ps) (ht : FlAt w' p t vb vl) (hb : But (FOwn p (VB p) (VL p)) w w') (ho : ∀ k, FOwn p vb vl k → FOwn p (VB p) (VL p) k ∨ w.heap.size ≤ k)
    (hO : ∀ k, Ow k → k < w.heap.size) : Fs w' Ow ps (upd F p t) (upd VB p vb) (upd VL p vl) := by
  refine ⟨fun q hq => ?_, fun q hq r hr hne k hk c => ?_, fun q hq k hk c => ?_⟩
  · by_cases e : q = p
    · subst e; rw [upd_same, upd_same, upd_same]; exact ht
    · rw [upd_ne _ _ e, upd_ne _ _ e, upd_ne _ _ e]; exact (h.at_ q hq).but hb (fun k hk c => h.ap q hq p hp e k hk c)
  · by_cases e : q = p
    · subst e
      rw [upd_same, upd_same] at hk
      rw [upd_ne _ _ (Ne.symm hne), upd_ne _ _ (Ne.symm hne)] at c
      rcases ho k hk with z | z
      · exact h.ap q hq r hr hne k z c
      · have := h.lt hr k c; omega
    · rw [upd_ne _ _ e, upd_ne _ _ e] at hk
      by_cases e2 : r = p
      · subst e2
        rw [upd_same, upd_same] at c
        rcases ho k c with z | z
        · exact h.ap q hq r hr hne k hk z
        · have := h.lt hq k hk; omega
      · rw [upd_ne _ _ e2, upd_ne _ _ e2] at c
        exact h.ap q hq r hr hne k hk c
  · by_cases e : q = p
    · subst e
      rw [upd_same, upd_same] at hk
      rcases ho k hk with z | z
      · exact h.no q hq k z c
      · have := hO k c; omega
    · rw [upd_ne _ _ e, upd_ne _ _ e] at hk
      exact h.no q hq k hk c
structure Dsk (w : World) (b : Nat) (S : DS) (O : Nat → Prop) (f g : Nat) (pd : Value) (am : Option Nat) (VB VL : Nat → Value) : Prop where
  dk : Dk w b (S.dc f g pd am) f g S.dir S.l2 S.P S.al
  fs : Fs w (Own b (S.dc f g pd am)) S.ps S.F VB VL
  ow : ∀ k, Own b (S.dc f g pd am) k → O k
  of : ∀ p ∈ S.ps, ∀ k, FOwn p (VB p) (VL p) k → O k
  lt : ∀ k, O k → k < w.heap.size
  ok : S.ok
def DskE (w : World) (b : Nat) (S : DS) (O : Nat → Prop) : Prop := ∃ f g pd am VB VL, Dsk w b S O f g pd am VB VL
theorem Dsk.but {X : Nat → Prop} {A B : World} {b : Nat} {S : DS} {O : Nat → Prop} {f g : Nat} {pd : Value} {am : Option Nat} {VB VL : Nat → Value} (h : Dsk A b S O f g pd am VB VL) (hb : But X A B) (hx : ∀ k, O k → ¬ X k) : Dsk B b S O f g pd am VB VL :=
  ⟨h.dk.but hb fun k hk => hx k (h.ow k hk), h.fs.but hb fun p hp k hk => hx k (h.of p hp k hk), h.ow, h.of, fun k hk => Nat.lt_of_lt_of_le (h.lt k hk) hb.size, h.ok⟩
theorem Dsk.below {A B : World} {b : Nat} {S : DS} {O : Nat → Prop} {f g : Nat} {pd : Value} {am : Option Nat} {VB VL : Nat → Value} (h : Dsk A b S O f g pd am VB VL) (hb : Below A.heap.size A B) : Dsk B b S O f g pd am VB VL := h.but (But.of_below hb fun _ => False) fun _ _ c => c
theorem DskE.but {X : Nat → Prop} {A B : World} {b : Nat} {S : DS} {O : Nat → Prop} (h : DskE A b S O) (hb : But X A B) (hx : ∀ k, O k → ¬ X k) : DskE B b S O := by
  obtain ⟨f, g, pd, am, VB, VL, h⟩ := h
  exact ⟨f, g, pd, am, VB, VL, h.but hb hx⟩
theorem DskE.below {A B : World} {b : Nat} {S : DS} {O : Nat → Prop} (h : DskE A b S O) (hb : Below A.heap.size A B) : DskE B b S O := h.but (But.of_below hb fun _ => False) fun _ _ c => c
theorem DskE.lt {w : World} {b : Nat} {S : DS} {O : Nat → Prop} (h : DskE w b S O) : ∀ k, O k → k < w.heap.size := by
  obtain ⟨f, g, pd, am, VB, VL, h⟩ := h
  exact h.lt
theorem DskE.ok {w : World} {b : Nat} {S : DS} {O : Nat → Prop} (h : DskE w b S O) : S.ok := by
  obtain ⟨f, g, pd, am, VB, VL, h⟩ := h
  exact h.ok
theorem DskE.box {w : World} {b : Nat} {S : DS} {O : Nat → Prop} (h : DskE w b S O) : O b := by
  obtain ⟨f, g, pd, am, VB, VL, h⟩ := h
  exact h.ow b (.inl rfl)
theorem ddel_mem {l : Dr} {n : List UInt8} {e : List UInt8 × Nat} (h : e ∈ ddel l n) : e ∈ l := (List.mem_filter.1 h).1
theorem dins_mem {x e : List UInt8 × Nat} {l : Dr} (h : e ∈ dins x l) : e = x ∨ e ∈ l := by
  induction l with
  | nil => simp [dins] at h; exact .inl h
  | cons y r ih =>
    unfold dins at h
    split at h
    · rcases List.mem_cons.1 h with q | q
      · exact .inl q
      · exact .inr q
    · rcases List.mem_cons.1 h with q | q
      · exact .inr (by rw [q]; simp)
      · rcases ih q with z | z
        · exact .inl z
        · exact .inr (by simp [z])
theorem dput_mem {l : Dr} {n : List UInt8} {p : Nat} {e : List UInt8 × Nat} (h : e ∈ dput l n p) : e = (n, p) ∨ e ∈ l := by
  rcases dins_mem h with q | q
  · exact .inl q
  · exact .inr (ddel_mem q)
theorem get_mem {l : Dr} {n : List UInt8} {p : Nat} (h : get l n = some p) : (n, p) ∈ l := by
  unfold get at h
  cases hf : l.find? fun e => e.1 == n with
  | none => rw [hf] at h; simp at h
  | some e =>
    rw [hf] at h
    simp at h
    have h1 := List.mem_of_find?_eq_some hf
    have h2 := List.find?_some hf
    have : e = (n, p) := by
      obtain ⟨a, c⟩ := e
      simp at h2 h
      rw [h2, h]
    rw [← this]
    exact h1
theorem run_mem {l : Dr} {c : Ch} {p : Nat} (h : p ∈ (c.run l).map (·.2)) : p ∈ l.map (·.2) ∨ c.ptr = some p := by
  rw [List.mem_map] at h
  obtain ⟨e, he, rfl⟩ := h
  cases c with
  | cr n p =>
    rcases dput_mem he with q | q
    · rw [q]; exact .inr rfl
    · exact .inl (List.mem_map.2 ⟨e, q, rfl⟩)
  | rm n => exact .inl (List.mem_map.2 ⟨e, ddel_mem he, rfl⟩)
  | rn f t =>
    left
    simp only [Ch.run] at he
    split at he
    · rename_i p hp
      rcases dput_mem (ddel_mem he) with q | q
      · rw [q]; exact List.mem_map.2 ⟨_, get_mem hp, rfl⟩
      · exact List.mem_map.2 ⟨e, q, rfl⟩
    · exact List.mem_map.2 ⟨e, he, rfl⟩
theorem runs_mem {l : Dr} : ∀ {P : List Ch} {p : Nat}, p ∈ (runs l P).map (·.2) → p ∈ l.map (·.2) ++ P.filterMap Ch.ptr := by
  intro P
  induction P generalizing l with
  | nil => intro p h; simpa [runs] using h
  | cons c r ih =>
    intro p h
    have := ih (l := c.run l) h
    rcases List.mem_append.1 this with q | q
    · rcases run_mem q with z | z
      · exact List.mem_append.2 (.inl z)
      · exact List.mem_append.2 (.inr (List.mem_filterMap.2 ⟨c, by simp, z⟩))
    · refine List.mem_append.2 (.inr ?_)
      rw [List.mem_filterMap] at q ⊢
      obtain ⟨d, hd, e⟩ := q
      exact ⟨d, by simp [hd], e⟩
theorem DS.mem_dir {S : DS} {n : List UInt8} {p : Nat} (h : get S.dir n = some p) : p ∈ S.ps := runs_mem (List.mem_map.2 ⟨_, get_mem h, rfl⟩)
theorem DS.mem_front {S : DS} {k : Nat} {p : Nat} (h : p ∈ (runs S.l2 (S.P.take k)).map (·.2)) : p ∈ S.ps := by
  have := runs_mem h
  rcases List.mem_append.1 this with q | q
  · exact List.mem_append.2 (.inl q)
  · refine List.mem_append.2 (.inr ?_)
    rw [List.mem_filterMap] at q ⊢
    obtain ⟨d, hd, e⟩ := q
    exact ⟨d, List.mem_of_mem_take hd, e⟩
theorem Dsk.one {w w' : World} {b : Nat} {S : DS} {O : Nat → Prop} {f g : Nat} {pd : Value} {am : Option Nat} {VB VL : Nat → Value} {p : Nat} {t : Fl} {vb vl : Value} (h : Dsk w b S O f g pd am VB VL) (hp : p ∈ S.ps) (ht : FlAt w' p t vb vl) (hb : But (FOwn p (VB p) (VL p)) w w') (ho : ∀ k, FOwn p vb vl k → FOwn p (VB p) (VL p) k ∨ w.heap.size ≤ k)
    (hz : t.by_.length ≤ 16777216) : ∃ O', Dsk w' b { S with F := upd S.F p t } O' f g pd am (upd VB p vb) (upd VL p vl) ∧ Sgo w w' O O' := by
  refine ⟨fun k => O k ∨ (w.heap.size ≤ k ∧ k < w'.heap.size), ⟨?_, ?_, fun k hk => .inl (h.ow k hk), ?_, ?_, ?_⟩, ⟨hb.mono fun k _ c => h.of p hp k c, fun k hk => ?_⟩⟩
  · exact h.dk.but hb fun k hk c => h.fs.no p hp k c hk
  · exact h.fs.one hp ht hb ho fun k hk => h.lt k (h.ow k hk)
  · intro q hq k hk
    by_cases e : q = p
    · subst e
      rw [upd_same, upd_same] at hk
      rcases ho k hk with z | z
      · exact .inl (h.of q hp k z)
      · exact .inr ⟨z, ht.lt k hk⟩
    · rw [upd_ne _ _ e, upd_ne _ _ e] at hk
      exact .inl (h.of q hq k hk)
  · rintro k (q | q)
    · exact Nat.lt_of_lt_of_le (h.lt k q) hb.size
    · exact q.2
  · refine ⟨h.ok.most, fun q hq => ?_, h.ok.cnt, h.ok.calm, h.ok.by8⟩
    by_cases e : q = p
    · subst e; show (upd S.F q t q).by_.length ≤ _; rw [upd_same]; exact hz
    · show (upd S.F p t q).by_.length ≤ _; rw [upd_ne _ _ e]; exact h.ok.sz q hq
  · rcases hk with q | q
    · exact .inl q
    · exact .inr q.1
end Go.Proofs.YtjehpijjneghpaaGreat.Dk
namespace Go.Proofs.YtjehpijjneghpaaGreat.Dk
open Go.RowKit Go.Maps Go.Proofs.YtjehpijjneghpaaGreat.Nm
def DS.beg (S : DS) : Nat → DS
  | 0 => { S with c0 := S.c0 + 1, c7 := S.c7 + 1, al := adel S.al (S.c7 + 1) }
  | 1 => { S with c1 := S.c1 + 1, c7 := S.c7 + 1, al := adel S.al (S.c7 + 1) }
  | 2 => { S with c2 := S.c2 + 1, c7 := S.c7 + 1, al := adel S.al (S.c7 + 1) }
  | 3 => { S with c3 := S.c3 + 1, c7 := S.c7 + 1, al := adel S.al (S.c7 + 1) }
  | 4 => { S with c4 := S.c4 + 1, c7 := S.c7 + 1, al := adel S.al (S.c7 + 1) }
  | 5 => { S with c5 := S.c5 + 1, c7 := S.c7 + 1, al := adel S.al (S.c7 + 1) }
  | _ => { S with c6 := S.c6 + 1, c7 := S.c7 + 1, al := adel S.al (S.c7 + 1) }
def DS.flt (S : DS) : Ft := (aget S.al (S.c7 + 1)).getD zf
def DS.str (S : DS) (k : Int) : DS := if k = 3 then { S with up := false } else S
theorem beg_dc (S : DS) (f g : Nat) (pd : Value) (am : Option Nat) (j : Nat) : inc (S.dc f g pd am) j = (S.beg j).dc f g pd am := by
  match j with
  | 0 => rfl
  | 1 => rfl
  | 2 => rfl
  | 3 => rfl
  | 4 => rfl
  | 5 => rfl
  | _ + 6 => rfl
theorem beg_rest (S : DS) (j : Nat) : (S.beg j).most = S.most ∧ (S.beg j).up = S.up ∧ (S.beg j).l2 = S.l2 ∧ (S.beg j).P = S.P ∧ (S.beg j).al = adel S.al (S.c7 + 1) ∧ (S.beg j).c7 = S.c7 + 1 ∧ (S.beg j).c8 = S.c8 ∧ (S.beg j).F = S.F := by
  unfold DS.beg
  split <;> exact ⟨rfl, rfl, rfl, rfl, rfl, rfl, rfl, rfl⟩
theorem str_dc (S : DS) (f g : Nat) (pd : Value) (am : Option Nat) (k : Int) : strX k (S.dc f g pd am) = (S.str k).dc f g pd am := by
  unfold strX DS.str
  split <;> rfl
theorem str_rest (S : DS) (k : Int) : (S.str k).most = S.most ∧ (S.str k).l2 = S.l2 ∧ (S.str k).P = S.P ∧ (S.str k).al = S.al ∧ (S.str k).c7 = S.c7 ∧ (S.str k).c8 = S.c8 ∧ (S.str k).F = S.F := by
  unfold DS.str
  split <;> exact ⟨rfl, rfl, rfl, rfl, rfl, rfl, rfl⟩
theorem DS.ok.calm_at {S : DS} (h : S.ok) (n : Int) : (0 ≤ ((aget S.al n).getD zf).2.1 ∧ ((aget S.al n).getD zf).2.1 ≤ 3) ∧ 0 ≤ ((aget S.al n).getD zf).2.2 := by
  unfold aget
  cases hf : S.al.find? fun p => p.1 == n with
  | none => simp [zf]
  | some e =>
    have := h.calm e (List.mem_of_find?_eq_some hf)
    simp
    omega
theorem DS.ok.flt {S : DS} (h : S.ok) : (0 ≤ S.flt.2.1 ∧ S.flt.2.1 ≤ 3) ∧ 0 ≤ S.flt.2.2 := h.calm_at _
theorem DS.ok.flt4 {S : DS} (h : S.ok) : S.flt.2.1 ≠ 4 := by have := h.flt; omega
theorem DS.ok.beg {S : DS} (h : S.ok) (j : Nat) : (S.beg j).ok := by
  obtain ⟨e1, e2, e3, e4, e5, e6, e7, e8⟩ := beg_rest S j
  have e9 : (S.beg j).ps = S.ps := by unfold DS.ps; rw [e3, e4]
  refine ⟨by rw [e1]; exact h.most, by rw [e9, e8]; exact h.sz, ?_, ?_, ?_⟩
  · rw [e3, e4, e6]; have := h.cnt; omega
  · rw [e5]; exact fun e he => h.calm e (List.mem_filter.1 he).1
  · rw [e7, e6]; have := h.by8; omega
theorem DS.ok.str {S : DS} (h : S.ok) (k : Int) : (S.str k).ok := by
  obtain ⟨e1, e3, e4, e5, e6, e7, e8⟩ := str_rest S k
  have e9 : (S.str k).ps = S.ps := by unfold DS.ps; rw [e3, e4]
  exact ⟨by rw [e1]; exact h.most, by rw [e9, e8]; exact h.sz, by rw [e3, e4, e6]; exact h.cnt, by rw [e5]; exact h.calm, by rw [e7, e6]; exact h.by8⟩
theorem Dsk.turn {w w' : World} {b : Nat} {S T : DS} {O : Nat → Prop} {f g : Nat} {pd : Value} {am : Option Nat} {VB VL : Nat → Value} (h : Dsk w b S O f g pd am VB VL) (e3 : T.l2 = S.l2) (e4 : T.P = S.P) (e8 : T.F = S.F) (hok : T.ok) (hd : Dk w' b (T.dc f g pd am) f g S.dir S.l2 S.P T.al) (st : Stp w w' b (S.dc f g pd am) (T.dc f g pd am)) :
    Dsk w' b T O f g pd am VB VL ∧ Sgo w w' O O := by
  have e9 : T.ps = S.ps := by unfold DS.ps; rw [e3, e4]
  have e10 : T.dir = S.dir := by unfold DS.dir; rw [e3, e4]
  refine ⟨⟨by rw [e10, e3, e4]; exact hd, by rw [e9, e8]; exact h.fs.stp st, h.ow, by rw [e9]; exact h.of, fun k hk => Nat.lt_of_lt_of_le (h.lt k hk) st.but.size, hok⟩, ⟨st.but.mono fun k _ c => h.ow k c, fun k hk => .inl hk⟩⟩
theorem dsk_begin {w : World} {b : Nat} {S : DS} {O : Nat → Prop} {f g : Nat} {pd : Value} {am : Option Nat} {VB VL : Nat → Value} (h : Dsk w b S O f g pd am VB VL) (j : Nat) (hj : j < 7) (hc : S.c7 < 1000000000) :
    Calls Tryz.prog 70 #[.pointer (some ⟨b, 0, none⟩), .pointer (some ⟨b, 6 + j, none⟩)] w fun e w' => e = .returned (fv S.flt) ∧ Dsk w' b (S.beg j) O f g pd am VB VL ∧ Sgo w w' O O := by
  refine (begin_any w b (S.dc f g pd am) f g S.dir S.l2 S.P S.al j hj h.dk (by show S.c7 < _; omega)).mono ?_
  rintro e w' ⟨rfl, hd, hb⟩
  obtain ⟨e1, e2, e3, e4, e5, e6, e7, e8⟩ := beg_rest S j
  refine ⟨rfl, h.turn e3 e4 e8 (h.ok.beg j) (by rw [e5, ← beg_dc]; exact hd) ?_⟩
  rw [← beg_dc]
  exact Stp.inc hb
theorem dsk_strike {w : World} {b : Nat} {S : DS} {O : Nat → Prop} {f g : Nat} {pd : Value} {am : Option Nat} {VB VL : Nat → Value} (h : Dsk w b S O f g pd am VB VL) (t : Ft) (hk : t.2.1 ≠ 4) :
    Calls Tryz.prog 69 #[.pointer (some ⟨b, 0, none⟩), fv t] w fun e w' => e = .returned (.int .i64 (strF t.2.1)) ∧ Dsk w' b (S.str t.2.1) O f g pd am VB VL ∧ Sgo w w' O O := by
  refine (dk_strike w b _ f g S.dir S.l2 S.P S.al t h.dk hk).mono ?_
  rintro e w' ⟨rfl, hd, hb⟩
  obtain ⟨e1, e3, e4, e5, e6, e7, e8⟩ := str_rest S t.2.1
  refine ⟨rfl, h.turn e3 e4 e8 (h.ok.str _) (by rw [e5, ← str_dc]; exact hd) ?_⟩
  rw [← str_dc]
  exact Stp.strX hb
theorem dsk_strikeR {w : World} {b : Nat} {S : DS} {O : Nat → Prop} {f g : Nat} {pd : Value} {am : Option Nat} {VB VL : Nat → Value} (h : Dsk w b S O f g pd am VB VL) (t : Ft) (hk : t.2.1 ≠ 4) :
    Calls Tryz.prog 73 #[.pointer (some ⟨b, 0, none⟩), fv t] w fun e w' => e = .returned (.int .i64 (strR t.2.1)) ∧ Dsk w' b (S.str t.2.1) O f g pd am VB VL ∧ Sgo w w' O O := by
  refine (dk_strikeR w b _ f g S.dir S.l2 S.P S.al t h.dk hk).mono ?_
  rintro e w' ⟨rfl, hd, hb⟩
  obtain ⟨e1, e3, e4, e5, e6, e7, e8⟩ := str_rest S t.2.1
  refine ⟨rfl, h.turn e3 e4 e8 (h.ok.str _) (by rw [e5, ← str_dc]; exact hd) ?_⟩
  rw [← str_dc]
  exact Stp.strX hb
def DS.ref (S : DS) (L : List ByteArray) : Int := if S.up then (if L.all (fun s => may s.data.toList) then 0 else 24) else 22
theorem ref_dc (S : DS) (f g : Nat) (pd : Value) (am : Option Nat) (L : List ByteArray) : refF (some (S.dc f g pd am)) L = S.ref L := rfl
def DS.find (S : DS) (s : ByteArray) : Option Nat × Int :=
  if S.ref [s] = 0 then (match get S.dir s.data.toList with | some p => (some p, 0) | none => (none, 6)) else (none, S.ref [s])
theorem find_dc (S : DS) (f g : Nat) (pd : Value) (am : Option Nat) (s : ByteArray) : findF (some (S.dc f g pd am)) S.dir s = (.pointer ((S.find s).1.map fun p => ⟨p, 0, none⟩), (S.find s).2) := by
  unfold findF DS.find
  rw [ref_dc]
  split
  · cases get S.dir s.data.toList <;> rfl
  · rfl
theorem find_ok {S : DS} {s : ByteArray} (h : (S.find s).2 = 0) : ∃ p, S.find s = (some p, 0) ∧ get S.dir s.data.toList = some p ∧ S.ref [s] = 0 ∧ p ∈ S.ps := by
  unfold DS.find at h ⊢
  split at h
  · rename_i h0
    rw [if_pos h0]
    cases hp : get S.dir s.data.toList with
    | some p => exact ⟨p, rfl, rfl, h0, DS.mem_dir hp⟩
    | none => rw [hp] at h; exact absurd h (by decide)
  · rename_i h0
    exact absurd h h0
theorem find_no {S : DS} {s : ByteArray} (h : (S.find s).2 ≠ 0) : (S.find s).1 = none := by
  unfold DS.find at h ⊢
  split
  · rename_i h0
    rw [if_pos h0] at h
    cases hp : get S.dir s.data.toList with
    | some p => rw [hp] at h; exact absurd rfl h
    | none => rfl
  · rfl
theorem dsk_find {w : World} {b : Nat} {S : DS} {O : Nat → Prop} {f g : Nat} {pd : Value} {am : Option Nat} {VB VL : Nat → Value} (h : Dsk w b S O f g pd am VB VL) (s : ByteArray) (hs : s.size ≤ maxLen) :
    Calls Tryz.prog 75 #[.pointer (some ⟨b, 0, none⟩), .string s] w fun e w' => e = .returned (.tuple #[.pointer ((S.find s).1.map fun p => ⟨p, 0, none⟩), .int .i64 (S.find s).2]) ∧ Below w.heap.size w w' := by
  have := h.dk.find s hs
  rw [find_dc] at this
  exact this
def DS.create (S : DS) (s : ByteArray) (p : Nat) : DS × Int :=
  if S.ref [s] ≠ 0 then (S, S.ref [s])
  else if (get S.dir s.data.toList).isSome then (S, 7)
  else if 256 ≤ S.dir.length then (S, 9)
  else if strF S.flt.2.1 ≠ 0 then ((S.beg 0).str S.flt.2.1, strF S.flt.2.1)
  else ({ (S.beg 0).str S.flt.2.1 with P := S.P ++ [.cr s p], F := upd S.F p ⟨[], [], 0⟩ }, 0)
theorem beg_dir (S : DS) (j : Nat) : (S.beg j).dir = S.dir := by obtain ⟨e1, e2, e3, e4, e5, e6, e7, e8⟩ := beg_rest S j; unfold DS.dir; rw [e3, e4]
theorem beg_ps (S : DS) (j : Nat) : (S.beg j).ps = S.ps := by obtain ⟨e1, e2, e3, e4, e5, e6, e7, e8⟩ := beg_rest S j; unfold DS.ps; rw [e3, e4]
theorem str_ps (S : DS) (k : Int) : (S.str k).ps = S.ps := by obtain ⟨e1, e3, e4, e5, e6, e7, e8⟩ := str_rest S k; unfold DS.ps; rw [e3, e4]
def DS.hit (S : DS) (j : Nat) : DS := (S.beg j).str S.flt.2.1
theorem hit_rest (S : DS) (j : Nat) : (S.hit j).most = S.most ∧ (S.hit j).l2 = S.l2 ∧ (S.hit j).P = S.P ∧ (S.hit j).al = adel S.al (S.c7 + 1) ∧ (S.hit j).c7 = S.c7 + 1 ∧ (S.hit j).c8 = S.c8 ∧ (S.hit j).F = S.F := by
  obtain ⟨a1, a2, a3, a4, a5, a6, a7, a8⟩ := beg_rest S j
  obtain ⟨e1, e3, e4, e5, e6, e7, e8⟩ := str_rest (S.beg j) S.flt.2.1
  exact ⟨e1.trans a1, e3.trans a3, e4.trans a4, e5.trans a5, e6.trans a6, e7.trans a7, e8.trans a8⟩
theorem hit_dc (S : DS) (f g : Nat) (pd : Value) (am : Option Nat) (j : Nat) : strX (nextF (S.dc f g pd am) S.al).2.1 (inc (S.dc f g pd am) j) = (S.hit j).dc f g pd am := by
  rw [beg_dc, str_dc]
  rfl
theorem Dsk.hit {w w' : World} {b : Nat} {S : DS} {O : Nat → Prop} {f g : Nat} {pd : Value} {am : Option Nat} {VB VL : Nat → Value} (h : Dsk w b S O f g pd am VB VL) (j : Nat) (hd : Dk w' b (strX (nextF (S.dc f g pd am) S.al).2.1 (inc (S.dc f g pd am) j)) f g S.dir S.l2 S.P (adel S.al ((S.dc f g pd am).c7 + 1)))
    (st : Stp w w' b (S.dc f g pd am) (strX (nextF (S.dc f g pd am) S.al).2.1 (inc (S.dc f g pd am) j))) : Dsk w' b (S.hit j) O f g pd am VB VL ∧ Sgo w w' O O := by
  obtain ⟨e1, e3, e4, e5, e6, e7, e8⟩ := hit_rest S j
  refine h.turn e3 e4 e8 ((h.ok.beg j).str _) ?_ (by rw [← hit_dc]; exact st)
  rw [← hit_dc, e5]
  exact hd
theorem Dsk.more {w w' : World} {b : Nat} {S T : DS} {O : Nat → Prop} {f g : Nat} {pd pd' : Value} {am : Option Nat} {VB VL : Nat → Value} (h : Dsk w b S O f g pd am VB VL) (c : Ch) (hn : c.ptr = none) (e3 : T.l2 = S.l2) (e4 : T.P = S.P ++ [c]) (e8 : T.F = S.F) (hok : T.ok)
    (hd : Dk w' b (T.dc f g pd' am) f g (c.run S.dir) S.l2 (S.P ++ [c]) T.al) (st : Stp w w' b (S.dc f g pd am) (T.dc f g pd' am)) : ∃ O', Dsk w' b T O' f g pd' am VB VL ∧ Sgo w w' O O' := by
  have e9 : T.ps = S.ps := by unfold DS.ps; rw [e3, e4, List.filterMap_append]; simp [hn]
  have e10 : T.dir = c.run S.dir := by unfold DS.dir; rw [e3, e4, runs_snoc]
  refine ⟨fun k => O k ∨ (w.heap.size ≤ k ∧ k < w'.heap.size), ⟨by rw [e10, e3, e4]; exact hd, by rw [e9, e8]; exact h.fs.stp st, ?_, fun p hp k hk => .inl (h.of p (by rw [← e9]; exact hp) k hk), ?_, hok⟩, ⟨st.but.mono fun k _ c => h.ow k c, ?_⟩⟩
  · intro k hk
    rcases st.own k hk with q | q
    · exact .inl (h.ow k q)
    · exact .inr ⟨q, hd.lt k hk⟩
  · rintro k (q | q)
    · exact Nat.lt_of_lt_of_le (h.lt k q) st.but.size
    · exact q.2
  · rintro k (q | q)
    · exact .inl q
    · exact .inr q.1
end Go.Proofs.YtjehpijjneghpaaGreat.Dk
namespace Go.Proofs.YtjehpijjneghpaaGreat.Dk
open Go.RowKit Go.Maps Go.Proofs.YtjehpijjneghpaaGreat.Nm
theorem Dsk.fresh {w : World} {b : Nat} {S : DS} {O : Nat → Prop} {f g : Nat} {pd : Value} {am : Option Nat} {VB VL : Nat → Value} (h : Dsk w b S O f g pd am VB VL) {p : Nat} (hp : w.heap.size ≤ p) : p ∉ S.ps := fun c => by
  have := h.fs.lt c p (.inl rfl)
  omega
theorem Dsk.e {w : World} {b : Nat} {S : DS} {O : Nat → Prop} {f g : Nat} {pd : Value} {am : Option Nat} {VB VL : Nat → Value} (h : Dsk w b S O f g pd am VB VL) : DskE w b S O := ⟨f, g, pd, am, VB, VL, h⟩
theorem ps_snoc (l2 : Dr) (P : List Ch) (s : ByteArray) (p : Nat) : l2.map (·.2) ++ (P ++ [Ch.cr s p]).filterMap Ch.ptr = (l2.map (·.2) ++ P.filterMap Ch.ptr) ++ [p] := by
  rw [List.filterMap_append, ← List.append_assoc]
  rfl
theorem fown_nil {p k : Nat} (h : FOwn p (.slice none 0 0) (.slice none 0 0) k) : k = p := by
  rcases h with q | q | q
  · exact q
  · simp [Value.ownBlock] at q
  · simp [Value.ownBlock] at q
theorem Fs.new {w : World} {Ow : Nat → Prop} {ps : List Nat} {F : Nat → Fl} {VB VL : Nat → Value} {p : Nat} (h : Fs w Ow ps F VB VL) (hp : p ∉ ps) (hf : w.heap[p]? = some (.cells #[.slice none 0 0, .slice none 0 0, .int .i64 0] 124 (0, 0))) (ho : ¬ Ow p) (ha : ∀ q ∈ ps, ¬ FOwn q (VB q) (VL q) p) :
    Fs w Ow (ps ++ [p]) (upd F p ⟨[], [], 0⟩) (upd VB p (.slice none 0 0)) (upd VL p (.slice none 0 0)) := by
  have hne : ∀ q ∈ ps, q ≠ p := fun q hq e => hp (by rw [← e]; exact hq)
  refine ⟨fun q hq => ?_, fun q hq r hr hqr k hk c => ?_, fun q hq k hk c => ?_⟩
  · rcases List.mem_append.1 hq with z | z
    · rw [upd_ne _ _ (hne q z), upd_ne _ _ (hne q z), upd_ne _ _ (hne q z)]; exact h.at_ q z
    · have e := List.mem_singleton.1 z; subst e; rw [upd_same, upd_same, upd_same]; exact FlAt.new hf
  · rcases List.mem_append.1 hq with z | z
    · rw [upd_ne _ _ (hne q z), upd_ne _ _ (hne q z)] at hk
      rcases List.mem_append.1 hr with y | y
      · rw [upd_ne _ _ (hne r y), upd_ne _ _ (hne r y)] at c
        exact h.ap q z r y hqr k hk c
      · have e := List.mem_singleton.1 y; subst e
        rw [upd_same, upd_same] at c
        have := fown_nil c
        subst this
        exact ha q z hk
    · have e := List.mem_singleton.1 z; subst e
      rw [upd_same, upd_same] at hk
      have := fown_nil hk
      subst this
      rcases List.mem_append.1 hr with y | y
      · rw [upd_ne _ _ (hne r y), upd_ne _ _ (hne r y)] at c
        exact ha r y c
      · exact hqr (List.mem_singleton.1 y).symm
  · rcases List.mem_append.1 hq with z | z
    · rw [upd_ne _ _ (hne q z), upd_ne _ _ (hne q z)] at hk
      exact h.no q z k hk c
    · have e := List.mem_singleton.1 z; subst e
      rw [upd_same, upd_same] at hk
      have := fown_nil hk
      subst this
      exact ho c
def Does (w : World) (b : Nat) (O : Nat → Prop) (R : DS × Int) (e : Ending) (w' : World) : Prop := e = .returned (.int .i64 R.2) ∧ ∃ O', DskE w' b R.1 O' ∧ Sgo w w' O O'
theorem create_dsk {w : World} {b : Nat} {S : DS} {O : Nat → Prop} (h : DskE w b S O) (s : ByteArray) (hs : s.size ≤ 140737488355328) (hc : S.c7 < 1000000000) :
    Calls Tryz.prog 14 #[.pointer (some ⟨b, 0, none⟩), .string s] w fun e w' => ∃ p, w.heap.size ≤ p ∧ p ∉ S.ps ∧ Does w b O (S.create s p) e w' := by
  obtain ⟨f, g, pd, am, VB, VL, h⟩ := h
  have hcn := h.ok.cnt
  refine (create_any w b (S.dc f g pd am) f g S.dir S.l2 S.P S.al s hs h.dk (by show S.c7 < _; omega) h.ok.flt4 (by omega)).mono ?_
  rintro e w' ⟨r, rfl, hr⟩
  have hf := h.fresh (Nat.le_refl w.heap.size)
  have hn : ∀ hd : Dk w' b (S.dc f g pd am) f g S.dir S.l2 S.P S.al, Stp w w' b (S.dc f g pd am) (S.dc f g pd am) → ∃ O', DskE w' b S O' ∧ Sgo w w' O O' := fun hd st => by
    have := h.turn (T := S) rfl rfl rfl h.ok hd st
    exact ⟨O, this.1.e, this.2⟩
  cases hr with
  | no _ hr h0 hd st =>
    refine ⟨w.heap.size, Nat.le_refl _, hf, ?_⟩
    rw [ref_dc] at hr
    have e : S.create s w.heap.size = (S, r) := by unfold DS.create; rw [hr, if_pos h0]
    rw [e]
    exact ⟨rfl, hn hd st⟩
  | there hr ht hd st =>
    refine ⟨w.heap.size, Nat.le_refl _, hf, ?_⟩
    rw [ref_dc] at hr
    have e : S.create s w.heap.size = (S, 7) := by unfold DS.create; rw [hr, if_neg (by simp), if_pos ht]
    rw [e]
    exact ⟨rfl, hn hd st⟩
  | many hr ht hm hd st =>
    refine ⟨w.heap.size, Nat.le_refl _, hf, ?_⟩
    rw [ref_dc] at hr
    have e : S.create s w.heap.size = (S, 9) := by unfold DS.create; rw [hr, if_neg (by simp), ht, if_neg (by simp), if_pos hm]
    rw [e]
    exact ⟨rfl, hn hd st⟩
  | struck _ hr ht hm he h0 hd st =>
    refine ⟨w.heap.size, Nat.le_refl _, hf, ?_⟩
    rw [ref_dc] at hr
    have he' : strF S.flt.2.1 = r := he
    have e : S.create s w.heap.size = (S.hit 0, r) := by unfold DS.create; rw [hr, if_neg (by simp), ht, if_neg (by simp), if_neg (by omega), he', if_pos h0]; rfl
    rw [e]
    have := h.hit 0 hd st
    exact ⟨rfl, O, this.1.e, this.2⟩
  | done hr ht hm he p pd' hp ho hf2 hd st =>
    have hf3 := h.fresh hp
    refine ⟨p, hp, hf3, ?_⟩
    rw [ref_dc] at hr
    have he' : strF S.flt.2.1 = 0 := he
    have e : S.create s p = ({ S.hit 0 with P := S.P ++ [.cr s p], F := upd S.F p ⟨[], [], 0⟩ }, 0) := by unfold DS.create; rw [hr, if_neg (by simp), ht, if_neg (by simp), if_neg (by omega), he', if_neg (by simp)]; rfl
    rw [e]
    obtain ⟨e1, e3, e4, e5, e6, e7, e8⟩ := hit_rest S 0
    obtain ⟨T, hT⟩ : ∃ T : DS, T = { S.hit 0 with P := S.P ++ [.cr s p], F := upd S.F p ⟨[], [], 0⟩ } := ⟨_, rfl⟩
    rw [← hT]
    rw [hit_dc] at ho hd st
    have hx : ({ (S.hit 0).dc f g pd am with pd := pd' } : Dc) = T.dc f g pd' am := by rw [hT]; rfl
    rw [hx] at ho hd st
    have t3 : T.l2 = S.l2 := by rw [hT]; exact e3
    have t4 : T.P = S.P ++ [.cr s p] := by rw [hT]
    have t5 : T.al = adel S.al (S.c7 + 1) := by rw [hT]; exact e5
    have t6 : T.c7 = S.c7 + 1 := by rw [hT]; exact e6
    have t7 : T.c8 = S.c8 := by rw [hT]; exact e7
    have t8 : T.F = upd S.F p ⟨[], [], 0⟩ := by rw [hT]
    have t1 : T.most = S.most := by rw [hT]; exact e1
    have t9 : T.ps = S.ps ++ [p] := by unfold DS.ps; rw [t3, t4, ps_snoc]
    have t10 : T.dir = dput S.dir s.data.toList p := by unfold DS.dir; rw [t3, t4, runs_snoc]; rfl
    refine ⟨rfl, fun k => O k ∨ (w.heap.size ≤ k ∧ k < w'.heap.size), ⟨f, g, pd', am, upd VB p (.slice none 0 0), upd VL p (.slice none 0 0), ⟨?_, ?_, ?_, ?_, ?_, ?_⟩⟩, ⟨st.but.mono fun k _ c => h.ow k c, ?_⟩⟩
    · rw [t10, t3, t4, t5]; exact hd
    · rw [t9, t8]
      refine (h.fs.stp st).new hf3 hf2 ho fun q hq c => ?_
      have := h.fs.lt hq p c
      omega
    · intro k hk
      rcases st.own k hk with q | q
      · exact .inl (h.ow k q)
      · exact .inr ⟨q, hd.lt k hk⟩
    · rw [t9]
      intro q hq k hk
      rcases List.mem_append.1 hq with z | z
      · have e : q ≠ p := fun e => hf3 (by rw [← e]; exact z)
        rw [upd_ne _ _ e, upd_ne _ _ e] at hk
        exact .inl (h.of q z k hk)
      · have e := List.mem_singleton.1 z; subst e
        rw [upd_same, upd_same] at hk
        have := fown_nil hk
        subst this
        exact .inr ⟨hp, heap_lt hf2⟩
    · rintro k (q | q)
      · exact Nat.lt_of_lt_of_le (h.lt k q) st.but.size
      · exact q.2
    · refine ⟨by rw [t1]; exact h.ok.most, ?_, ?_, ?_, ?_⟩
      · rw [t9, t8]
        intro q hq
        rcases List.mem_append.1 hq with z | z
        · rw [upd_ne _ _ (fun e => hf3 (by rw [← e]; exact z))]; exact h.ok.sz q z
        · have e := List.mem_singleton.1 z; subst e; rw [upd_same]; exact Nat.zero_le _
      · rw [t3, t4, t6, List.length_append, List.length_singleton]; omega
      · rw [t5]; exact fun e he => h.ok.calm e (List.mem_filter.1 he).1
      · rw [t7, t6]; have := h.ok.by8; omega
    · rintro k (q | q)
      · exact .inl q
      · exact .inr q.1
def DS.remove (S : DS) (s : ByteArray) : DS × Int :=
  if (S.find s).2 ≠ 0 then (S, (S.find s).2)
  else if strR S.flt.2.1 ≠ 0 then (S.hit 5, strR S.flt.2.1)
  else ({ S.hit 5 with P := S.P ++ [.rm s] }, 0)
theorem hit_more {S : DS} (h : S.ok) (j : Nat) (c : Ch) (hn : c.ptr = none) : ({ S.hit j with P := S.P ++ [c] } : DS).ok := by
  obtain ⟨e1, e3, e4, e5, e6, e7, e8⟩ := hit_rest S j
  obtain ⟨T, hT⟩ : ∃ T : DS, T = { S.hit j with P := S.P ++ [c] } := ⟨_, rfl⟩
  rw [← hT]
  have t3 : T.l2 = S.l2 := by rw [hT]; exact e3
  have t4 : T.P = S.P ++ [c] := by rw [hT]
  have t9 : T.ps = S.ps := by unfold DS.ps; rw [t3, t4, List.filterMap_append]; simp [hn]
  refine ⟨by rw [hT]; show 0 ≤ (S.hit j).most ∧ _; rw [e1]; exact h.most, ?_, ?_, ?_, ?_⟩
  · rw [t9, hT]; show ∀ p ∈ S.ps, ((S.hit j).F p).by_.length ≤ _; rw [e8]; exact h.sz
  · rw [t3, t4, hT]; show _ ≤ (S.hit j).c7; rw [e6, List.length_append, List.length_singleton]; have := h.cnt; omega
  · rw [hT]; show ∀ e ∈ (S.hit j).al, _; rw [e5]; exact fun e he => h.calm e (List.mem_filter.1 he).1
  · rw [hT]; show 0 ≤ (S.hit j).c8 ∧ (S.hit j).c8 ≤ 16777216 * (S.hit j).c7; rw [e7, e6]; have := h.by8; omega
theorem find2 (S : DS) (f g : Nat) (pd : Value) (am : Option Nat) (s : ByteArray) : (findF (some (S.dc f g pd am)) S.dir s).2 = (S.find s).2 := by rw [find_dc]
theorem dir_len {S : DS} (h : S.ok) (hc : S.c7 < 1000000000) : S.dir.length < 1000000000 ∧ S.P.length < 1000000000 ∧ S.l2.length < 1000000000 := by
  have := h.cnt
  have := runs_len S.l2 S.P
  unfold DS.dir
  omega
theorem remove_dsk {w : World} {b : Nat} {S : DS} {O : Nat → Prop} (h : DskE w b S O) (s : ByteArray) (hs : s.size ≤ 140737488355328) (hc : S.c7 < 1000000000) :
    Calls Tryz.prog 53 #[.pointer (some ⟨b, 0, none⟩), .string s] w (Does w b O (S.remove s)) := by
  obtain ⟨f, g, pd, am, VB, VL, h⟩ := h
  obtain ⟨d1, d2, d3⟩ := dir_len h.ok hc
  refine (remove_any w b (S.dc f g pd am) f g S.dir S.l2 S.P S.al s hs h.dk (by show S.c7 < _; omega) h.ok.flt4 d2 d1).mono ?_
  rintro e w' ⟨r, rfl, hr⟩
  cases hr with
  | no _ hr h0 hd st =>
    rw [find2] at hr
    have e : S.remove s = (S, r) := by unfold DS.remove; rw [hr, if_pos h0]
    rw [e]
    have := h.turn (T := S) rfl rfl rfl h.ok hd st
    exact ⟨rfl, O, this.1.e, this.2⟩
  | struck _ hr he h0 hd st =>
    rw [find2] at hr
    have he' : strR S.flt.2.1 = r := he
    have e : S.remove s = (S.hit 5, r) := by unfold DS.remove; rw [hr, if_neg (by simp), he', if_pos h0]
    rw [e]
    have := h.hit 5 hd st
    exact ⟨rfl, O, this.1.e, this.2⟩
  | done hr he pd' hd st =>
    rw [find2] at hr
    have he' : strR S.flt.2.1 = 0 := he
    have e : S.remove s = ({ S.hit 5 with P := S.P ++ [.rm s] }, 0) := by unfold DS.remove; rw [hr, if_neg (by simp), he', if_neg (by simp)]
    rw [e]
    obtain ⟨e1, e3, e4, e5, e6, e7, e8⟩ := hit_rest S 5
    rw [hit_dc] at hd st
    obtain ⟨O', k1, k2⟩ := h.more (T := { S.hit 5 with P := S.P ++ [.rm s] }) (.rm s) rfl e3 rfl e8 (hit_more h.ok 5 _ rfl) (pd' := pd') (by show Dk w' b _ f g _ _ _ (S.hit 5).al; rw [e5]; exact hd) st
    exact ⟨rfl, O', k1.e, k2⟩
def DS.rename (S : DS) (s t : ByteArray) : DS × Int :=
  if S.ref [s, t] ≠ 0 then (S, S.ref [s, t])
  else if (S.find s).2 ≠ 0 then (S, (S.find s).2)
  else if strR S.flt.2.1 ≠ 0 then (S.hit 4, strR S.flt.2.1)
  else if s = t then (S.hit 4, 0)
  else ({ S.hit 4 with P := S.P ++ [.rn s t] }, 0)
def DS.syncDir (S : DS) : DS × Int :=
  if S.ref [] ≠ 0 then (S, S.ref [])
  else if strR S.flt.2.1 ≠ 0 then (S.hit 6, strR S.flt.2.1)
  else ({ S.hit 6 with l2 := S.dir, P := [] }, 0)
theorem syncDir_dsk {w : World} {b : Nat} {S : DS} {O : Nat → Prop} (h : DskE w b S O) (hc : S.c7 < 1000000000) :
    Calls Tryz.prog 15 #[.pointer (some ⟨b, 0, none⟩)] w (Does w b O S.syncDir) := by
  obtain ⟨f, g, pd, am, VB, VL, h⟩ := h
  refine (syncDir_any w b (S.dc f g pd am) f g S.dir S.l2 S.P S.al h.dk (by show S.c7 < _; omega) h.ok.flt4).mono ?_
  have hq : (nextF (S.dc f g pd am) S.al).2.1 = S.flt.2.1 := rfl
  rintro e w' (⟨h0, rfl, hd, st⟩ | ⟨h0, rfl, ⟨s0, hd, st⟩ | ⟨s0, g', hd, st⟩⟩)
  · rw [ref_dc] at h0 ⊢
    have e : S.syncDir = (S, S.ref []) := by unfold DS.syncDir; rw [if_pos h0]
    rw [e]
    have := h.turn (T := S) rfl rfl rfl h.ok hd st
    exact ⟨rfl, O, this.1.e, this.2⟩
  · rw [ref_dc] at h0
    have s0' : strR S.flt.2.1 ≠ 0 := s0
    have e : S.syncDir = (S.hit 6, strR S.flt.2.1) := by unfold DS.syncDir; rw [h0, if_neg (by simp), if_pos s0']
    rw [e]
    have := h.hit 6 hd st
    exact ⟨rfl, O, this.1.e, this.2⟩
  · rw [ref_dc] at h0
    have s0' : strR S.flt.2.1 = 0 := s0
    have e : S.syncDir = ({ S.hit 6 with l2 := S.dir, P := [] }, 0) := by unfold DS.syncDir; rw [h0, if_neg (by simp), if_neg (by simpa using s0')]
    rw [e, hq, show strR S.flt.2.1 = 0 from s0]
    obtain ⟨e1, e3, e4, e5, e6, e7, e8⟩ := hit_rest S 6
    rw [hit_dc] at hd st
    obtain ⟨T, hT⟩ : ∃ T : DS, T = { S.hit 6 with l2 := S.dir, P := [] } := ⟨_, rfl⟩
    rw [← hT]
    have hx : ({ (S.hit 6).dc f g pd am with lm := some g', pd := .slice none 0 0 } : Dc) = T.dc f g' (.slice none 0 0) am := by rw [hT]; rfl
    rw [hx] at hd st
    have t3 : T.l2 = S.dir := by rw [hT]
    have t4 : T.P = [] := by rw [hT]
    have t5 : T.al = adel S.al (S.c7 + 1) := by rw [hT]; exact e5
    have t6 : T.c7 = S.c7 + 1 := by rw [hT]; exact e6
    have t7 : T.c8 = S.c8 := by rw [hT]; exact e7
    have t8 : T.F = S.F := by rw [hT]; exact e8
    have t1 : T.most = S.most := by rw [hT]; exact e1
    have t9 : ∀ p ∈ T.ps, p ∈ S.ps := by
      intro p hp
      unfold DS.ps at hp
      rw [t3, t4] at hp
      simp only [List.filterMap_nil, List.append_nil] at hp
      exact runs_mem hp
    have t10 : T.dir = S.dir := by unfold DS.dir; rw [t3, t4]; rfl
    refine ⟨rfl, fun k => O k ∨ (w.heap.size ≤ k ∧ k < w'.heap.size), ⟨f, g', .slice none 0 0, am, VB, VL, ⟨?_, ?_, ?_, ?_, ?_, ?_⟩⟩, ⟨st.but.mono fun k _ c => h.ow k c, ?_⟩⟩
    · rw [t10, t3, t4, t5]; exact hd
    · rw [t8]; exact (h.fs.stp st).sub t9
    · intro k hk
      rcases st.own k hk with q | q
      · exact .inl (h.ow k q)
      · exact .inr ⟨q, hd.lt k hk⟩
    · exact fun p hp k hk => .inl (h.of p (t9 p hp) k hk)
    · rintro k (q | q)
      · exact Nat.lt_of_lt_of_le (h.lt k q) st.but.size
      · exact q.2
    · refine ⟨by rw [t1]; exact h.ok.most, fun p hp => by rw [t8]; exact h.ok.sz p (t9 p hp), ?_, ?_, ?_⟩
      · rw [t3, t4, t6]; have := h.ok.cnt; have := runs_len S.l2 S.P; unfold DS.dir; simp only [List.length_nil]; omega
      · rw [t5]; exact fun e he => h.ok.calm e (List.mem_filter.1 he).1
      · rw [t7, t6]; have := h.ok.by8; omega
    · rintro k (q | q)
      · exact .inl q
      · exact .inr q.1
end Go.Proofs.YtjehpijjneghpaaGreat.Dk
