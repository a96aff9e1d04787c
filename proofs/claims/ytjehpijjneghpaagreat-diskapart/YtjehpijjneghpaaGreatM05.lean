/-
  change: a change is done, and pends.
-/
import Derived.Test.YtjehpijjneghpaaGreatM04
import Derived.Deep.AppendLies
import Derived.Shelf.SlGeneric
import Derived.Shelf.SlIter.Nil
import Derived.Shelf.SortM.Plain
import Derived.Shelf.SortM.SortNone
import Derived.Ground.GgzProg
import Derived.Ground.SlgmProg
import Derived.Test.YtjehpijjneghpaaGreatProg
import Derived.Shelf.LaysM
import Derived.Shelf.Strconv.Clone
namespace Go.Proofs.YtjehpijjneghpaaGreat.Dk
open Go.RowKit Go.Maps Go.Proofs.YtjehpijjneghpaaGreat.Nm
def Pd (w : World) (v : Value) (P : List Ch) : Prop := w.ownsRow 0 148 1 v P.length (P.map Ch.iface)
theorem Pd.nil (w : World) : Pd w (.slice none 0 0) [] := World.ownsRow_nil _ _ _ _
theorem Pd.no {w : World} {v : Value} {P : List Ch} {b : Nat} {cs : Array Value} {T : TypeId} {fz : Nat × Nat} (h : Pd w v P) (hb : w.heap[b]? = some (.cells cs T fz)) (hT : T ≠ 148) : v.ownBlock ≠ some b := fun e1 => by
  rcases h.2 with ⟨rfl, _⟩ | ⟨g, cap, cur, rfl, hg, hh, r⟩
  · simp [Value.ownBlock] at e1
  · simp [Value.ownBlock] at e1
    subst e1
    rw [hb] at hh
    simp at hh
    exact hT hh.2.1
theorem Pd.noM {w : World} {v : Value} {P : List Ch} {m : Nat} {l : Dr} (h : Pd w v P) (hm : Mp w m l) : v.ownBlock ≠ some m := fun e1 => by
  rcases h.2 with ⟨rfl, _⟩ | ⟨g, cap, cur, rfl, hg, hh, r⟩
  · simp [Value.ownBlock] at e1
  · simp [Value.ownBlock] at e1
    subst e1
    obtain ⟨es, clock, hb, _⟩ := hm
    rw [hb] at hh
    cases hh
theorem Pd.but {X : Nat → Prop} {A B : World} {v : Value} {P : List Ch} (h : Pd A v P) (hb : But X A B) (hx : ∀ k, v.ownBlock = some k → ¬ X k) : Pd B v P := by
  refine ⟨h.1, ?_⟩
  rcases h.2 with h | ⟨g, cap, cur, rfl, hg, hh, r⟩
  · exact .inl h
  · exact .inr ⟨g, cap, cur, rfl, hg, hb.at hh (hx g rfl), r⟩
theorem Pd.row {w : World} {v : Value} {P : List Ch} (h : Pd w v P) : Row w v (P.map Ch.iface) := by
  have h0 := h
  rcases h.2 with ⟨rfl, e⟩ | ⟨g, cap, cur, rfl, hg, hh, a, b, c⟩
  · have : P = [] := List.length_eq_zero_iff.1 e
    subst this
    exact Row.nil w
  · refine ⟨some ⟨g, 0, none⟩, cap, by rw [List.length_map], fun e => by simp at e, by rw [List.length_map]; exact a, b, fun i hi => ?_⟩
    have q := World.ownsRow.cells h0 (g := g) rfl i _ (List.getElem?_eq_getElem hi)
    exact ⟨g, 0, rfl, by rw [addr_add] at q; exact q⟩
theorem Pd.lt {w : World} {v : Value} {P : List Ch} (h : Pd w v P) : ∀ k, v.ownBlock = some k → k < w.heap.size := fun k hk => (World.ownsRow.lt h k hk).2
theorem infoCh : (Tryz.prog.info? 148).map (fun i => (i.zero, i.size, i.bytes)) = some (some .nilIface, 1, 16) := by kernel_rfl
theorem infoCh2 : ∃ i, Tryz.prog.info? 148 = some i ∧ i.zero = some .nilIface ∧ i.size = 1 ∧ i.bytes = 16 := by
  have h := infoCh
  cases hq : Tryz.prog.info? 148 with
  | none => rw [hq] at h; cases h
  | some i => rw [hq] at h; simp only [Option.map_some, Option.some.injEq, Prod.mk.injEq] at h; exact ⟨i, rfl, h.1, h.2.1, h.2.2⟩
set_option maxRecDepth 100000 in
theorem ahead_any (c : Ch) : ∀ q, (nilAhead 325 c.ty c.val "flume/disk.do").run Tryz.prog q = .ok (some false) q := by
  cases c with
  | cr n p => exact fun q => by kernel_rfl
  | rn f t => exact fun q => by kernel_rfl
  | rm n => exact fun q => by kernel_rfl
theorem grownAt {w3 w4 : World} {b : Nat} {o o' : Obj} {r : Option Nat} (hb : w3.heap[b]? = some o) (hg : (w3.alloc o').grownBy w4 r) (hr : r ≠ some b) : w4.heap[b]? = some o := by
  rw [hg.block b (by have := heap_lt hb; simp; omega) (fun e => hr e.symm)]
  exact (Below.heap_alloc _ _ _ (heap_lt hb)).trans hb
set_option maxRecDepth 100000 in
theorem change_any (w : World) (b m : Nat) (cs : Array Value) (l : Dr) (P : List Ch) (pd : Value) (c : Ch) (hb : w.heap[b]? = some (.cells cs TD (0, 0))) (h2 : cs[2]? = some (.map (some m))) (h4 : cs[4]? = some pd)
    (hm : Mp w m l) (hp : Pd w pd P) (hc : c.ok) (hk : c.can l) (hl : l.length < maxLen) (hP : P.length < 1000000000) :
    Calls Tryz.prog 71 #[.pointer (some ⟨b, 0, none⟩), c.iface] w fun e w' => e = .returned (.tuple #[]) ∧ Mp w' m (c.run l) ∧ ∃ pd', Pd w' pd' (P ++ [c]) ∧ w'.heap[b]? = some (.cells (cs.setIfInBounds 4 pd') TD (0, 0)) ∧
      But (fun k => k = b ∨ k = m ∨ pd.ownBlock = some k) w w' ∧ (∀ k, pd'.ownBlock = some k → pd.ownBlock = some k ∨ w.heap.size ≤ k) := by
  have c2 : w.cell? ⟨b, 2, none⟩ = some (.map (some m)) := by simp [World.cell?, hb, h2]
  have hD := do_any w.drew m l c hm hc hk hl
  obtain ⟨d1, d2⟩ := disp_any c
  have d3 := ahead_any c
  have hne := hide (hm.ne hb)
  have hnp := hide (hp.no hb (by decide))
  have hnm := hide (hp.noM hm)
  have KC : Hid (∀ q, But (fun k => k = m) w.drew q → q.cell? ⟨b, 2, none⟩ = some (.map (some m))) := by
    intro q B3
    have q1 := B3.at (k := b) hb hne.out
    simp [World.cell?, q1, h2]
  rw [show c.iface = .iface c.ty c.val from rfl]
  obtain ⟨ci, hci⟩ : ∃ ci, Hid (c.iface = ci) := ⟨_, rfl⟩
  have hci2 : Hid (Value.iface c.ty c.val = ci) := hci.out
  replace hb := hide hb
  replace hp := hide hp
  replace hm := hide hm
  obtain ⟨r, hr⟩ : ∃ r, Hid (c.run l = r) := ⟨_, rfl⟩
  rw [hr.out] at hD ⊢
  generalize hfn : c.fn = f at *
  generalize hty : c.ty = T at *
  generalize hvl : c.val = u at *
  replace hD := hide hD
  replace hty := hide hty
  replace hvl := hide hvl
  clear hfn hk hc
  go_enter Tryz.func71, Tryz.ntmps71
  go_upto_region 0 with fail
  go_region_held3 (fun q => q.cell? ⟨b, 2, none⟩ = some (.map (some m)))
    (first | exact c2 | assumption | exact KC.out _ (Hid.out (by assumption)) | fail)
    (first | (refine hD.out.mono ?_; rintro e w3 ⟨rfl, M3, B3⟩; replace M3 := hide M3; replace B3 := hide B3) | fail)
  have hb3 : Hid (w3.heap[b]? = some (.cells cs TD (0, 0))) := B3.out.at (k := b) hb.out hne.out
  have hp3 : Hid (Pd w3 pd P) := hp.out.but (A := w.drew) B3.out (fun k hk e => hnm.out (by rw [← e]; exact hk))
  have hW3 := hide (((But.of_below ((Below.refl _ w).drew) (fun k => k = m)).trans B3.out))
  have c4 : w3.cell? ⟨b, 4, none⟩ = some pd := by simp [World.cell?, hb3.out, h4]
  clear d1 d2 d3 hD KC c2 h2
  obtain ⟨i0, hi, hz0, hz1, hz2⟩ : ∃ i, Tryz.prog.info? 148 = some i ∧ i.zero = some .nilIface ∧ i.size = 1 ∧ i.bytes = 16 := infoCh2
  replace hi := hide hi
  go_wp2_with (first
    | (at_builtin; refine wpList_append_lies _ rfl (.tmp 17) (.tmp 19) 93 rfl 0 148 i0 .nilIface 1 16 Tryz.underlying93 hi.out hz0 hz1 hz2 rfl (by decide) pd P.length (P.map Ch.iface) rfl (World.ownsRow.alloc hp3.out _) ⟨w3.heap.size, 0, none⟩ 1 1 [.iface T u] rfl rfl (cell_one_new _ _ _) (by simp [Value.oneCell']) (by decide) (by unfold maxLen; omega) (by omega) (Nat.zero_le _) (w3.heap.size + 1) (by simp) ?_; intro g2 cap2 w4 ho4 g4 hat hlt4; have hb4 : Hid (w4.heap[b]? = some (.cells cs TD (0, 0))) := hide (grownAt hb3.out g4 hnp.out); have f1 : w4.cell? ⟨b, 4, none⟩ = some pd := (by simp [World.cell?, hb4.out, h4]); have f2 : w4.frozen? ⟨b, 4, none⟩ = false := (by simp [World.frozen?, hb4.out]); replace ho4 := hide ho4; replace g4 := hide g4; replace hat := hide hat)
    | fail)
  go_end0
  have e1 : T = c.ty ∧ u = c.val := ⟨hty.out.symm, hvl.out.symm⟩
  have G4 : But (fun k => pd.ownBlock = some k) w3 w4 := (But.of_below ((Below.refl _ w3).alloc (Nat.le_refl _) _) _).trans (But.of_grownBy g4.out fun k e => e)
  have G5 : But (fun k => k = b) w4 (w4.setCell ⟨b, 4, none⟩ (.slice (some ⟨g2, 0, none⟩) (P.length + 1) cap2)) := But.of_grownBy (grown_setCell _ _ _ _) fun k e => by cases e; rfl
  have p4 : Pd w4 (.slice (some ⟨g2, 0, none⟩) (P.length + 1) cap2) (P ++ [c]) := by
    unfold Pd
    rw [List.length_append, List.map_append]
    have q := ho4.out
    rw [e1.1, e1.2] at q
    exact q
  refine ⟨rfl, ?_, _, p4.but G5 (fun k hk e => p4.no hb4.out (by decide) (by rw [← e]; exact hk)), heap_setCell_same _ _ _ _ _ _ hb4.out, ?_, ?_⟩
  · have q1 := M3.out.but G4 (fun e => hp3.out.noM M3.out e)
    exact q1.but G5 (fun e => hne.out e.symm)
  · exact ((hW3.out.mono fun k _ e => .inr (.inl e)).trans (G4.mono fun k _ e => .inr (.inr e))).trans (G5.mono fun k _ e => .inl e)
  · intro k hk
    simp only [Value.ownBlock, Option.some.injEq] at hk
    subst hk
    rcases hat.out with e | e
    · exact .inl e
    · right
      have := hW3.out.size
      omega
structure Dk (w : World) (b : Nat) (x : Dc) (f g : Nat) (l l2 : Dr) (P : List Ch) (al : Ar) : Prop where
  box : Bx w b x
  fm : x.fm = some f
  lm : x.lm = some g
  mf : Mp w f l
  mg : Mp w g l2
  fg : f ≠ g
  pd : Pd w x.pd P
  am : ∀ m, x.am = some m → Am w m al ∧ m ≠ f ∧ m ≠ g
  an : x.am = none → al = []
  run : l = runs l2 P
  can : Cans l2 P
  ok : ∀ c ∈ P, c.ok
  c0 : 0 ≤ x.c0 ∧ 0 ≤ x.c1 ∧ 0 ≤ x.c2 ∧ 0 ≤ x.c3 ∧ 0 ≤ x.c4 ∧ 0 ≤ x.c5 ∧ 0 ≤ x.c6 ∧ 0 ≤ x.c7
  c1 : x.c0 ≤ x.c7 ∧ x.c1 ≤ x.c7 ∧ x.c2 ≤ x.c7 ∧ x.c3 ≤ x.c7 ∧ x.c4 ≤ x.c7 ∧ x.c5 ≤ x.c7 ∧ x.c6 ≤ x.c7
def Own (b : Nat) (x : Dc) (k : Nat) : Prop := k = b ∨ x.fm = some k ∨ x.lm = some k ∨ x.pd.ownBlock = some k ∨ x.am = some k
def inc (x : Dc) : Nat → Dc
  | 0 => { x with c0 := x.c0 + 1, c7 := x.c7 + 1 }
  | 1 => { x with c1 := x.c1 + 1, c7 := x.c7 + 1 }
  | 2 => { x with c2 := x.c2 + 1, c7 := x.c7 + 1 }
  | 3 => { x with c3 := x.c3 + 1, c7 := x.c7 + 1 }
  | 4 => { x with c4 := x.c4 + 1, c7 := x.c7 + 1 }
  | 5 => { x with c5 := x.c5 + 1, c7 := x.c7 + 1 }
  | _ => { x with c6 := x.c6 + 1, c7 := x.c7 + 1 }
def cnt (x : Dc) : Nat → Int
  | 0 => x.c0 | 1 => x.c1 | 2 => x.c2 | 3 => x.c3 | 4 => x.c4 | 5 => x.c5 | _ => x.c6
theorem inc_cells (x : Dc) : ∀ j, j < 7 → ((dcells x).setIfInBounds (6 + j) (.int .i64 (cnt x j + 1))).setIfInBounds 13 (.int .i64 (x.c7 + 1)) = dcells (inc x j) := by
  intro j hj
  match j with
  | 0 => rfl
  | 1 => rfl
  | 2 => rfl
  | 3 => rfl
  | 4 => rfl
  | 5 => rfl
  | 6 => rfl
  | j + 7 => omega
theorem cnt_cell (x : Dc) : ∀ j, j < 7 → (dcells x)[6 + j]? = some (.int .i64 (cnt x j)) := by
  intro j hj
  match j with
  | 0 => rfl
  | 1 => rfl
  | 2 => rfl
  | 3 => rfl
  | 4 => rfl
  | 5 => rfl
  | 6 => rfl
  | j + 7 => omega
theorem inc_rest (x : Dc) (j : Nat) : (inc x j).most = x.most ∧ (inc x j).up = x.up ∧ (inc x j).fm = x.fm ∧ (inc x j).lm = x.lm ∧ (inc x j).pd = x.pd ∧ (inc x j).am = x.am ∧ (inc x j).c7 = x.c7 + 1 ∧ (inc x j).c8 = x.c8 := by
  unfold inc
  split <;> exact ⟨rfl, rfl, rfl, rfl, rfl, rfl, rfl, rfl⟩
theorem cnt_all {w : World} {b : Nat} {x : Dc} {f g : Nat} {l l2 : Dr} {P : List Ch} {al : Ar} (h : Dk w b x f g l l2 P al) (j : Nat) : 0 ≤ cnt x j ∧ cnt x j ≤ x.c7 ∧ 0 ≤ x.c7 := by
  have h0 := h.c0
  have h1 := h.c1
  unfold cnt
  split <;> omega
theorem inc_ok {x : Dc} (h0 : 0 ≤ x.c0 ∧ 0 ≤ x.c1 ∧ 0 ≤ x.c2 ∧ 0 ≤ x.c3 ∧ 0 ≤ x.c4 ∧ 0 ≤ x.c5 ∧ 0 ≤ x.c6 ∧ 0 ≤ x.c7) (h1 : x.c0 ≤ x.c7 ∧ x.c1 ≤ x.c7 ∧ x.c2 ≤ x.c7 ∧ x.c3 ≤ x.c7 ∧ x.c4 ≤ x.c7 ∧ x.c5 ≤ x.c7 ∧ x.c6 ≤ x.c7) (j : Nat) :
    (0 ≤ (inc x j).c0 ∧ 0 ≤ (inc x j).c1 ∧ 0 ≤ (inc x j).c2 ∧ 0 ≤ (inc x j).c3 ∧ 0 ≤ (inc x j).c4 ∧ 0 ≤ (inc x j).c5 ∧ 0 ≤ (inc x j).c6 ∧ 0 ≤ (inc x j).c7) ∧
    ((inc x j).c0 ≤ (inc x j).c7 ∧ (inc x j).c1 ≤ (inc x j).c7 ∧ (inc x j).c2 ≤ (inc x j).c7 ∧ (inc x j).c3 ≤ (inc x j).c7 ∧ (inc x j).c4 ≤ (inc x j).c7 ∧ (inc x j).c5 ≤ (inc x j).c7 ∧ (inc x j).c6 ≤ (inc x j).c7) := by
  unfold inc
  split <;> (dsimp only; omega)
theorem Dk.cells {w : World} {b : Nat} {x : Dc} {f g : Nat} {l l2 : Dr} {P : List Ch} {al : Ar} (h : Dk w b x f g l l2 P al) : w.heap[b]? = some (.cells (dcells x) TD (0, 0)) := h.box
theorem Dk.but {X : Nat → Prop} {A B : World} {b : Nat} {x : Dc} {f g : Nat} {l l2 : Dr} {P : List Ch} {al : Ar} (h : Dk A b x f g l l2 P al) (hb : But X A B) (hx : ∀ k, Own b x k → ¬ X k) : Dk B b x f g l l2 P al :=
  ⟨hb.at h.box (hx b (.inl rfl)), h.fm, h.lm, h.mf.but hb (hx f (.inr (.inl h.fm))), h.mg.but hb (hx g (.inr (.inr (.inl h.lm)))), h.fg, h.pd.but hb (fun k hk => hx k (.inr (.inr (.inr (.inl hk))))),
    fun m e => ⟨(h.am m e).1.but hb (hx m (.inr (.inr (.inr (.inr e))))), (h.am m e).2⟩, h.an, h.run, h.can, h.ok, h.c0, h.c1⟩
theorem Dk.below {A B : World} {b : Nat} {x : Dc} {f g : Nat} {l l2 : Dr} {P : List Ch} {al : Ar} (h : Dk A b x f g l l2 P al) (hb : Below A.heap.size A B) : Dk B b x f g l l2 P al := h.but (But.of_below hb fun _ => False) fun _ _ c => c
theorem Dk.lt {w : World} {b : Nat} {x : Dc} {f g : Nat} {l l2 : Dr} {P : List Ch} {al : Ar} (h : Dk w b x f g l l2 P al) : ∀ k, Own b x k → k < w.heap.size := by
  rintro k (rfl | e | e | e | e)
  · exact heap_lt h.box
  · rw [h.fm] at e; cases e; exact h.mf.lt
  · rw [h.lm] at e; cases e; exact h.mg.lt
  · exact h.pd.lt k e
  · exact (h.am k e).1.lt
theorem Dk.dp {w : World} {b : Nat} {x : Dc} {f g : Nat} {l l2 : Dr} {P : List Ch} {al : Ar} (h : Dk w b x f g l l2 P al) : Dp w (.pointer (some ⟨b, 0, none⟩)) (some x) := .inr ⟨b, x, rfl, rfl, h.box⟩
theorem begin_any (w : World) (b : Nat) (x : Dc) (f g : Nat) (l l2 : Dr) (P : List Ch) (al : Ar) (j : Nat) (hj : j < 7) (h : Dk w b x f g l l2 P al) (hc : x.c7 < 4611686018427387904) :
    Calls Tryz.prog 70 #[.pointer (some ⟨b, 0, none⟩), .pointer (some ⟨b, 6 + j, none⟩)] w fun e w' => e = .returned (fv ((aget al (x.c7 + 1)).getD zf)) ∧ Dk w' b (inc x j) f g l l2 P (adel al (x.c7 + 1)) ∧ But (Own b x) w w' := by
  obtain ⟨q0, q1, q2⟩ := cnt_all h j
  refine (begin_gen w b j (dcells x) (cnt x j) x.c7 x.am al h.box rfl hj (cnt_cell x j hj) rfl rfl (fun m e => (h.am m e).1) h.an q0 (by omega) q2 hc).mono ?_
  rintro e w' ⟨rfl, hb, hm, hB⟩
  rw [inc_cells x j hj] at hb
  obtain ⟨e1, e2, e3, e4, e5, e6, e7, e8⟩ := inc_rest x j
  obtain ⟨k0, k1⟩ := inc_ok h.c0 h.c1 j
  refine ⟨rfl, ⟨hb, by rw [e3]; exact h.fm, by rw [e4]; exact h.lm, ?_, ?_, h.fg, ?_, ?_, ?_, h.run, h.can, h.ok, k0, k1⟩, hB.mono ?_⟩
  · refine h.mf.but hB ?_
    rintro (c | c)
    · exact h.mf.ne h.box c.symm
    · exact (h.am f c).2.1 rfl
  · refine h.mg.but hB ?_
    rintro (c | c)
    · exact h.mg.ne h.box c.symm
    · exact (h.am g c).2.2 rfl
  · rw [e5]
    refine h.pd.but hB fun k hk => ?_
    rintro (c | c)
    · exact h.pd.no h.box (by decide) (by rw [← c]; exact hk)
    · rcases h.pd.2 with ⟨q, _⟩ | ⟨g', cap, cur, q, hg, hh, r⟩
      · rw [q] at hk; simp [Value.ownBlock] at hk
      · rw [q] at hk; simp [Value.ownBlock] at hk; subst hk; exact (h.am _ c).1.ne hh rfl
  · rw [e6]
    exact fun m e => ⟨hm m e, (h.am m e).2⟩
  · rw [e6]
    intro e
    rw [h.an e]
    rfl
  · rintro k _ (c | c)
    · exact .inl c
    · exact .inr (.inr (.inr (.inr c)))
def strX (k : Int) (x : Dc) : Dc := if k = 3 then { x with up := false } else x
theorem str_cells (k : Int) (x : Dc) : strC k (dcells x) = dcells (strX k x) := by
  unfold strC strX
  split <;> rfl
theorem strX_rest (k : Int) (x : Dc) : (strX k x).fm = x.fm ∧ (strX k x).lm = x.lm ∧ (strX k x).pd = x.pd ∧ (strX k x).am = x.am ∧ (strX k x).c0 = x.c0 ∧ (strX k x).c1 = x.c1 ∧ (strX k x).c2 = x.c2 ∧ (strX k x).c3 = x.c3 ∧ (strX k x).c4 = x.c4 ∧ (strX k x).c5 = x.c5 ∧ (strX k x).c6 = x.c6 ∧ (strX k x).c7 = x.c7 := by
  unfold strX
  split <;> exact ⟨rfl, rfl, rfl, rfl, rfl, rfl, rfl, rfl, rfl, rfl, rfl, rfl⟩
theorem Dk.noB {w : World} {b : Nat} {x : Dc} {f g : Nat} {l l2 : Dr} {P : List Ch} {al : Ar} (h : Dk w b x f g l l2 P al) : f ≠ b ∧ g ≠ b ∧ (∀ m, x.am = some m → m ≠ b) ∧ (∀ k, x.pd.ownBlock = some k → k ≠ b) :=
  ⟨fun e => h.mf.ne h.box e.symm, fun e => h.mg.ne h.box e.symm, fun m e c => (h.am m e).1.ne h.box c.symm, fun k e c => h.pd.no h.box (by decide) (by rw [← c]; exact e)⟩
theorem Dk.noP {w : World} {b : Nat} {x : Dc} {f g : Nat} {l l2 : Dr} {P : List Ch} {al : Ar} (h : Dk w b x f g l l2 P al) : ∀ k, x.pd.ownBlock = some k → k ≠ f ∧ k ≠ g ∧ x.am ≠ some k := by
  intro k hk
  refine ⟨fun e => h.pd.noM h.mf (by rw [← e]; exact hk), fun e => h.pd.noM h.mg (by rw [← e]; exact hk), fun c => ?_⟩
  rcases h.pd.2 with ⟨q, _⟩ | ⟨g', cap, cur, q, hg, hh, r⟩
  · rw [q] at hk; simp [Value.ownBlock] at hk
  · rw [q] at hk; simp [Value.ownBlock] at hk; subst hk; exact (h.am _ c).1.ne hh rfl
theorem Dk.strX {w w' : World} {b : Nat} {x : Dc} {f g : Nat} {l l2 : Dr} {P : List Ch} {al : Ar} (h : Dk w b x f g l l2 P al) (k : Int) (hc : w'.heap[b]? = some (.cells (strC k (dcells x)) TD (0, 0))) (hB : But (fun k => k = b) w w') : Dk w' b (strX k x) f g l l2 P al := by
  rw [str_cells] at hc
  obtain ⟨e3, e4, e5, e6, r⟩ := strX_rest k x
  obtain ⟨r0, r1, r2, r3, r4, r5, r6, r7⟩ := r
  obtain ⟨n1, n2, n3, n4⟩ := h.noB
  refine ⟨hc, by rw [e3]; exact h.fm, by rw [e4]; exact h.lm, h.mf.but hB n1, h.mg.but hB n2, h.fg, by rw [e5]; exact h.pd.but hB n4, ?_, by rw [e6]; exact h.an, h.run, h.can, h.ok, by rw [r0, r1, r2, r3, r4, r5, r6, r7]; exact h.c0, by rw [r0, r1, r2, r3, r4, r5, r6, r7]; exact h.c1⟩
  rw [e6]
  exact fun m e => ⟨(h.am m e).1.but hB (n3 m e), (h.am m e).2⟩
theorem dk_strike (w : World) (b : Nat) (x : Dc) (f g : Nat) (l l2 : Dr) (P : List Ch) (al : Ar) (t : Ft) (h : Dk w b x f g l l2 P al) (hk : t.2.1 ≠ 4) :
    Calls Tryz.prog 69 #[.pointer (some ⟨b, 0, none⟩), fv t] w fun e w' => e = .returned (.int .i64 (strF t.2.1)) ∧ Dk w' b (strX t.2.1 x) f g l l2 P al ∧ But (fun k => k = b) w w' :=
  (strike_any w b (dcells x) t h.box ⟨_, rfl⟩ hk).mono fun _ _ ⟨he, hc, hB⟩ => ⟨he, h.strX _ hc hB, hB⟩
theorem dk_strikeR (w : World) (b : Nat) (x : Dc) (f g : Nat) (l l2 : Dr) (P : List Ch) (al : Ar) (t : Ft) (h : Dk w b x f g l l2 P al) (hk : t.2.1 ≠ 4) :
    Calls Tryz.prog 73 #[.pointer (some ⟨b, 0, none⟩), fv t] w fun e w' => e = .returned (.int .i64 (strR t.2.1)) ∧ Dk w' b (strX t.2.1 x) f g l l2 P al ∧ But (fun k => k = b) w w' :=
  (strikeRoomless_any w b (dcells x) t h.box ⟨_, rfl⟩ hk).mono fun _ _ ⟨he, hc, hB⟩ => ⟨he, h.strX _ hc hB, hB⟩
theorem dk_settle (w : World) (b : Nat) (x : Dc) (f g : Nat) (l l2 : Dr) (P : List Ch) (al : Ar) (h : Dk w b x f g l l2 P al) :
    Calls Tryz.prog 74 #[.pointer (some ⟨b, 0, none⟩)] w fun e w' => e = .returned (.tuple #[]) ∧ ∃ g', w.heap.size ≤ g' ∧ Dk w' b { x with lm := some g', pd := .slice none 0 0 } f g' l l [] al ∧ But (fun k => k = b) w w' := by
  refine (settle_any w b f (dcells x) l h.box rfl (by rw [← h.fm]; rfl) h.mf).mono ?_
  rintro e w' ⟨rfl, g', hg, mg, hc, hB⟩
  obtain ⟨n1, n2, n3, n4⟩ := h.noB
  refine ⟨rfl, g', hg, ⟨hc, h.fm, rfl, h.mf.but hB n1, mg, ?_, Pd.nil _, ?_, h.an, rfl, trivial, by simp, h.c0, h.c1⟩, hB⟩
  · have := h.mf.lt; omega
  · intro m e
    refine ⟨(h.am m e).1.but hB (n3 m e), (h.am m e).2.1, ?_⟩
    have := (h.am m e).1.lt
    omega
theorem cans_snoc {l : Dr} {P : List Ch} {c : Ch} (h : Cans l P) (hc : c.can (runs l P)) : Cans l (P ++ [c]) := by
  induction P generalizing l with
  | nil => exact ⟨hc, trivial⟩
  | cons d r ih => exact ⟨h.1, ih h.2 (by simpa [runs] using hc)⟩
theorem dk_change (w : World) (b : Nat) (x : Dc) (f g : Nat) (l l2 : Dr) (P : List Ch) (al : Ar) (c : Ch) (h : Dk w b x f g l l2 P al) (hc : c.ok) (hk : c.can l) (hl : l.length < maxLen) (hP : P.length < 1000000000) :
    Calls Tryz.prog 71 #[.pointer (some ⟨b, 0, none⟩), c.iface] w fun e w' => e = .returned (.tuple #[]) ∧ ∃ pd', Dk w' b { x with pd := pd' } f g (c.run l) l2 (P ++ [c]) al ∧ But (Own b x) w w' ∧ (∀ k, pd'.ownBlock = some k → x.pd.ownBlock = some k ∨ w.heap.size ≤ k) := by
  refine (change_any w b f (dcells x) l P x.pd c h.box (by rw [← h.fm]; rfl) rfl h.mf h.pd hc hk hl hP).mono ?_
  rintro e w' ⟨rfl, mf, pd', hp, hb, hB, ho⟩
  obtain ⟨n1, n2, n3, n4⟩ := h.noB
  refine ⟨rfl, pd', ⟨hb, h.fm, h.lm, mf, ?_, h.fg, hp, ?_, h.an, by rw [runs_snoc, ← h.run], cans_snoc h.can (by rw [← h.run]; exact hk), ?_, h.c0, h.c1⟩, hB.mono ?_, ho⟩
  · refine h.mg.but hB ?_
    rintro (q | q | q)
    · exact n2 q
    · exact h.fg q.symm
    · exact (h.noP g q).2.1 rfl
  · intro m e
    refine ⟨(h.am m e).1.but hB ?_, (h.am m e).2⟩
    rintro (q | q | q)
    · exact n3 m e q
    · exact (h.am m e).2.1 q
    · exact (h.noP m q).2.2 e
  · intro d hd
    rcases List.mem_append.1 hd with q | q
    · exact h.ok d q
    · rw [List.mem_singleton.1 q]; exact hc
  · rintro k _ (q | q | q)
    · exact .inl q
    · rw [q]; exact .inr (.inl h.fm)
    · exact .inr (.inr (.inr (.inl q)))
def nextF (x : Dc) (al : Ar) : Ft := (aget al (x.c7 + 1)).getD zf
structure Stp (w w' : World) (b : Nat) (x x' : Dc) : Prop where
  but : But (Own b x) w w'
  own : ∀ k, Own b x' k → Own b x k ∨ w.heap.size ≤ k
theorem Stp.of_below {w w' : World} {b : Nat} {x : Dc} (h : Below w.heap.size w w') : Stp w w' b x x := ⟨But.of_below h _, fun _ q => .inl q⟩
theorem Stp.trans {w u w' : World} {b : Nat} {x y z : Dc} (h : Stp w u b x y) (k : Stp u w' b y z) : Stp w w' b x z := by
  refine ⟨⟨k.but.os.trans h.but.os, k.but.tape.trans h.but.tape, k.but.output.trans h.but.output, Nat.le_trans h.but.size k.but.size, fun i hi hx => ?_⟩, fun i hi => ?_⟩
  · rw [k.but.block i (Nat.lt_of_lt_of_le hi h.but.size) (fun c => ?_)]
    · exact h.but.block i hi hx
    · rcases h.own i c with q | q
      · exact hx q
      · omega
  · rcases k.own i hi with q | q
    · exact h.own i q
    · exact .inr (Nat.le_trans h.but.size q)
theorem own_inc {b : Nat} {x : Dc} {j k : Nat} : Own b (inc x j) k ↔ Own b x k := by
  obtain ⟨e1, e2, e3, e4, e5, e6, e7, e8⟩ := inc_rest x j
  unfold Own
  rw [e3, e4, e5, e6]
theorem own_strX {b : Nat} {x : Dc} {t : Int} {k : Nat} : Own b (strX t x) k ↔ Own b x k := by
  obtain ⟨e3, e4, e5, e6, _⟩ := strX_rest t x
  unfold Own
  rw [e3, e4, e5, e6]
theorem Stp.inc {w w' : World} {b : Nat} {x : Dc} {j : Nat} (h : But (Own b x) w w') : Stp w w' b x (inc x j) := ⟨h, fun _ q => .inl (own_inc.1 q)⟩
theorem Stp.strX {w w' : World} {b : Nat} {x : Dc} {t : Int} (h : But (fun k => k = b) w w') : Stp w w' b x (strX t x) := ⟨h.mono fun _ _ e => .inl e, fun _ q => .inl (own_strX.1 q)⟩
theorem Stp.settle {w w' : World} {b g' : Nat} {x : Dc} (h : But (fun k => k = b) w w') (hg : w.heap.size ≤ g') : Stp w w' b x { x with lm := some g', pd := .slice none 0 0 } := by
  refine ⟨h.mono fun _ _ e => .inl e, ?_⟩
  rintro k (q | q | q | q | q)
  · exact .inl (.inl q)
  · exact .inl (.inr (.inl q))
  · simp at q; subst q; exact .inr hg
  · simp [Value.ownBlock] at q
  · exact .inl (.inr (.inr (.inr (.inr q))))
theorem Stp.change {w w' : World} {b : Nat} {x : Dc} {pd : Value} (h : But (Own b x) w w') (ho : ∀ k, pd.ownBlock = some k → x.pd.ownBlock = some k ∨ w.heap.size ≤ k) : Stp w w' b x { x with pd := pd } := by
  refine ⟨h, ?_⟩
  rintro k (q | q | q | q | q)
  · exact .inl (.inl q)
  · exact .inl (.inr (.inl q))
  · exact .inl (.inr (.inr (.inl q)))
  · rcases ho k q with r | r
    · exact .inl (.inr (.inr (.inr (.inl r))))
    · exact .inr r
  · exact .inl (.inr (.inr (.inr (.inr q))))
set_option maxHeartbeats 1000000 in
theorem syncDir_any (w : World) (b : Nat) (x : Dc) (f g : Nat) (l l2 : Dr) (P : List Ch) (al : Ar) (h : Dk w b x f g l l2 P al) (hc : x.c7 < 4611686018427387904) (hk : (nextF x al).2.1 ≠ 4) :
    Calls Tryz.prog 15 #[.pointer (some ⟨b, 0, none⟩)] w fun e w' =>
      (refF (some x) [] ≠ 0 ∧ e = .returned (.int .i64 (refF (some x) [])) ∧ Dk w' b x f g l l2 P al ∧ Stp w w' b x x) ∨
      (refF (some x) [] = 0 ∧ e = .returned (.int .i64 (strR (nextF x al).2.1)) ∧ ((strR (nextF x al).2.1 ≠ 0 ∧ Dk w' b (strX (nextF x al).2.1 (inc x 6)) f g l l2 P (adel al (x.c7 + 1)) ∧ Stp w w' b x (strX (nextF x al).2.1 (inc x 6))) ∨
        (strR (nextF x al).2.1 = 0 ∧ ∃ g', Dk w' b { strX (nextF x al).2.1 (inc x 6) with lm := some g', pd := .slice none 0 0 } f g' l l [] (adel al (x.c7 + 1)) ∧ Stp w w' b x { strX (nextF x al).2.1 (inc x 6) with lm := some g', pd := .slice none 0 0 }))) := by
  have hr := refuse_any w _ _ (some x) [] h.dp (row0 w) (by simp)
  obtain ⟨r, hR⟩ : ∃ r, Hid (refF (some x) [] = r) := ⟨_, rfl⟩
  rw [hR.out] at hr ⊢
  have H := hide h
  by_cases r0 : r = 0
  · subst r0
    have hb := begin_any w b x f g l l2 P al 6 (by omega) h hc
    rw [show (aget al (x.c7 + 1)).getD zf = nextF x al from rfl] at hb
    generalize nextF x al = t at *
    have hS : Hid (∀ u, Dk u b (inc x 6) f g l l2 P (adel al (x.c7 + 1)) → _) := fun u hu => dk_strikeR u b (inc x 6) f g l l2 P (adel al (x.c7 + 1)) t hu hk
    obtain ⟨s, hs⟩ : ∃ s, Hid (strR t.2.1 = s) := ⟨_, rfl⟩
    rw [hs.out] at hS ⊢
    by_cases s0 : s = 0
    · subst s0
      have hT : Hid (∀ u, Dk u b (strX t.2.1 (inc x 6)) f g l l2 P (adel al (x.c7 + 1)) → _) := fun u hu => dk_settle u b _ f g l l2 P _ hu
      clear h hk
      generalize hX : strX t.2.1 (inc x 6) = y at *
      replace hX := hide hX
      go_enter Tryz.func15, Tryz.ntmps15
      go_wp2_with (first
        | (go_at_call 68; refine hr.mono ?_; rintro e w1 ⟨rfl, e1⟩; subst w1)
        | (go_at_call 70; refine hb.mono ?_; rintro e w1 ⟨rfl, D1, B1⟩; replace D1 := hide D1; replace B1 := hide B1)
        | (go_at_call 73; refine (hS.out _ D1.out).mono ?_; rintro e w2 ⟨rfl, D2, B2⟩; replace D2 := hide D2; replace B2 := hide B2)
        | (go_at_call 74; refine (hT.out _ D2.out).mono ?_; rintro e w3 ⟨rfl, g', hg, D3, B3⟩; replace D3 := hide D3; replace B3 := hide B3; replace hg := hide hg))
      go_ret
      have T2 : Stp w1 w2 b (inc x 6) y := by rw [← hX.out]; exact Stp.strX B2.out
      exact .inr ⟨by trivial, rfl, .inr ⟨by trivial, g', D3.out, ((Stp.inc B1.out).trans T2).trans (Stp.settle B3.out hg.out)⟩⟩
    · have s0' : (s != 0) = true := by simpa using s0
      clear h hk
      generalize hX : strX t.2.1 (inc x 6) = y at *
      replace hX := hide hX
      replace s0 := hide s0
      go_enter Tryz.func15, Tryz.ntmps15
      go_wp2_with (first
        | (go_at_call 68; refine hr.mono ?_; rintro e w1 ⟨rfl, e1⟩; subst w1)
        | (go_at_call 70; refine hb.mono ?_; rintro e w1 ⟨rfl, D1, B1⟩; replace D1 := hide D1; replace B1 := hide B1)
        | (go_at_call 73; refine (hS.out _ D1.out).mono ?_; rintro e w2 ⟨rfl, D2, B2⟩; replace D2 := hide D2; replace B2 := hide B2))
      go_ret
      have T2 : Stp w1 w2 b (inc x 6) y := by rw [← hX.out]; exact Stp.strX B2.out
      exact .inr ⟨by trivial, rfl, .inl ⟨s0.out, D2.out, (Stp.inc B1.out).trans T2⟩⟩
  · have r0' : (r != 0) = true := by simpa using r0
    replace r0 := hide r0
    clear h hk hR
    go_enter Tryz.func15, Tryz.ntmps15
    go_wp2_with (go_at_call 68; refine hr.mono ?_; rintro e w1 ⟨rfl, e1⟩; subst w1)
    go_ret
    exact .inl ⟨r0.out, rfl, H.out, Stp.of_below (Below.refl _ _)⟩
end Go.Proofs.YtjehpijjneghpaaGreat.Dk
namespace Go.Proofs
open Go.Shelf
def Tryz.keys110_ren : Go.Shelf.Ren := ⟨fun | 7 => 110 | 10 => 120 | n => n, fun | 23 => 92 | 26 => 9 | 3 => 114 | 28 => 171 | 0 => 0 | 27 => 170 | 33 => 164 | 4 => 4 | n => n, fun | n => n⟩
theorem Tryz.keys110 : Go.Proofs.SlLaysZ.n7 Tryz.prog Tryz.keys110_ren := {
  mixed := by kernel_rfl
  f7 := ⟨Tryz.f110.name, by decide, Tryz.func110.trans (congrArg some (by kernel_rfl))⟩
  f10 := ⟨Tryz.f120.name, by decide, Tryz.func120.trans (congrArg some (by kernel_rfl))⟩
  t0 := Tryz.underlying0
  a0 := Tryz.isAgg0
  z0 := Tryz.sizeOf0
  v0 := Tryz.zeroValue0
  t4 := Tryz.underlying4
  a4 := Tryz.isAgg4
  z4 := Tryz.sizeOf4
  v4 := Tryz.zeroValue4
  t23 := Tryz.underlying92
  a23 := Tryz.isAgg92
  z23 := Tryz.sizeOf92
  v23 := Tryz.zeroValue92
  t26 := Tryz.underlying9
  a26 := Tryz.isAgg9
  z26 := Tryz.sizeOf9
  v26 := Tryz.zeroValue9
  t27 := Tryz.underlying170
  a27 := Tryz.isAgg170
  z27 := Tryz.sizeOf170
  v27 := Tryz.zeroValue170
  t28 := Tryz.underlying171
  a28 := Tryz.isAgg171
  z28 := Tryz.sizeOf171
  v28 := Tryz.zeroValue171
  t33 := Tryz.underlying164
  a33 := Tryz.isAgg164
  z33 := Tryz.sizeOf164
  v33 := Tryz.zeroValue164 }
def Tryz.sorted109_ren : Go.Shelf.Ren := ⟨fun | 6 => 109 | 8 => 118 | 9 => 119 | 11 => 125 | 13 => 127 | 12 => 126 | 23 => 137 | 24 => 138 | 14 => 128 | 15 => 129 | 16 => 130 | 17 => 131 | 18 => 132 | 19 => 133 | 20 => 134 | 21 => 135 | 22 => 136 | 25 => 139 | 26 => 140 | 27 => 141 | 28 => 142 | 29 => 143 | 30 => 144 | 31 => 145 | n => n, fun | 26 => 9 | 28 => 171 | 24 => 62 | 0 => 0 | 3 => 3 | 37 => 188 | 48 => 199 | 50 => 201 | 4 => 4 | 40 => 191 | 39 => 190 | 45 => 196 | 5 => 5 | 9 => 9 | 51 => 202 | 55 => 206 | 57 => 208 | 58 => 209 | 33 => 164 | n => n, fun | n => n⟩
theorem Tryz.sorted109 : Go.Proofs.SlLaysZ.n6 Tryz.prog Tryz.sorted109_ren := {
  mixed := by kernel_rfl
  f6 := ⟨Tryz.f109.name, by decide, Tryz.func109.trans (congrArg some (by kernel_rfl))⟩
  f8 := ⟨Tryz.f118.name, by decide, Tryz.func118.trans (congrArg some (by kernel_rfl))⟩
  f11 := ⟨Tryz.f125.name, by decide, Tryz.func125.trans (congrArg some (by kernel_rfl))⟩
  t0 := Tryz.underlying0
  a0 := Tryz.isAgg0
  z0 := Tryz.sizeOf0
  v0 := Tryz.zeroValue0
  t24 := Tryz.underlying62
  a24 := Tryz.isAgg62
  z24 := Tryz.sizeOf62
  v24 := Tryz.zeroValue62
  t26 := Tryz.underlying9
  a26 := Tryz.isAgg9
  z26 := Tryz.sizeOf9
  v26 := Tryz.zeroValue9
  t28 := Tryz.underlying171
  a28 := Tryz.isAgg171
  z28 := Tryz.sizeOf171
  v28 := Tryz.zeroValue171
  i26 := by kernel_rfl }
def Tryz.sort119_ren : Go.Shelf.Ren := ⟨fun | 6 => 119 | 8 => 127 | 9 => 126 | 19 => 137 | 20 => 138 | 21 => 128 | 22 => 129 | 23 => 130 | 24 => 131 | 25 => 132 | 26 => 133 | 27 => 134 | 28 => 135 | 29 => 136 | 36 => 139 | 31 => 140 | 32 => 141 | 37 => 142 | 38 => 143 | 39 => 144 | 41 => 145 | n => n, fun | 27 => 62 | 29 => 9 | 3 => 3 | 32 => 188 | 26 => 62 | 0 => 0 | 44 => 199 | 46 => 201 | 4 => 4 | 36 => 191 | 35 => 190 | 41 => 196 | 5 => 5 | 9 => 9 | 53 => 202 | 57 => 206 | 63 => 208 | 64 => 209 | n => n, fun | n => n⟩
theorem Tryz.sort119 : Go.Proofs.SlLaysM.n6 Tryz.prog Tryz.sort119_ren := {
  mixed := by kernel_rfl
  f6 := ⟨Tryz.f119.name, by decide, Tryz.func119.trans (congrArg some (by kernel_rfl))⟩
  f8 := Tryz.func127.trans (congrArg some (by kernel_rfl))
  f9 := ⟨Tryz.f126.name, by decide, Tryz.func126.trans (congrArg some (by kernel_rfl))⟩
  f19 := Tryz.func137.trans (congrArg some (by kernel_rfl))
  f20 := Tryz.func138.trans (congrArg some (by kernel_rfl))
  f21 := ⟨Tryz.f128.name, by decide, Tryz.func128.trans (congrArg some (by kernel_rfl))⟩
  f22 := ⟨Tryz.f129.name, by decide, Tryz.func129.trans (congrArg some (by kernel_rfl))⟩
  f23 := ⟨Tryz.f130.name, by decide, Tryz.func130.trans (congrArg some (by kernel_rfl))⟩
  f24 := ⟨Tryz.f131.name, by decide, Tryz.func131.trans (congrArg some (by kernel_rfl))⟩
  f25 := ⟨Tryz.f132.name, by decide, Tryz.func132.trans (congrArg some (by kernel_rfl))⟩
  f26 := ⟨Tryz.f133.name, by decide, Tryz.func133.trans (congrArg some (by kernel_rfl))⟩
  f27 := ⟨Tryz.f134.name, by decide, Tryz.func134.trans (congrArg some (by kernel_rfl))⟩
  f28 := ⟨Tryz.f135.name, by decide, Tryz.func135.trans (congrArg some (by kernel_rfl))⟩
  f29 := ⟨Tryz.f136.name, by decide, Tryz.func136.trans (congrArg some (by kernel_rfl))⟩
  f31 := Tryz.func140.trans (congrArg some (by kernel_rfl))
  f32 := Tryz.func141.trans (congrArg some (by kernel_rfl))
  f36 := ⟨Tryz.f139.name, by decide, Tryz.func139.trans (congrArg some (by kernel_rfl))⟩
  f37 := ⟨Tryz.f142.name, by decide, Tryz.func142.trans (congrArg some (by kernel_rfl))⟩
  f38 := ⟨Tryz.f143.name, by decide, Tryz.func143.trans (congrArg some (by kernel_rfl))⟩
  f39 := ⟨Tryz.f144.name, by decide, Tryz.func144.trans (congrArg some (by kernel_rfl))⟩
  f41 := ⟨Tryz.f145.name, by decide, Tryz.func145.trans (congrArg some (by kernel_rfl))⟩
  t0 := Tryz.underlying0
  a0 := Tryz.isAgg0
  z0 := Tryz.sizeOf0
  v0 := Tryz.zeroValue0
  t3 := Tryz.underlying3
  a3 := Tryz.isAgg3
  z3 := Tryz.sizeOf3
  v3 := Tryz.zeroValue3
  t4 := Tryz.underlying4
  a4 := Tryz.isAgg4
  z4 := Tryz.sizeOf4
  v4 := Tryz.zeroValue4
  t5 := Tryz.underlying5
  a5 := Tryz.isAgg5
  z5 := Tryz.sizeOf5
  v5 := Tryz.zeroValue5
  t9 := Tryz.underlying9
  a9 := Tryz.isAgg9
  z9 := Tryz.sizeOf9
  v9 := Tryz.zeroValue9
  t26 := Tryz.underlying62
  a26 := Tryz.isAgg62
  z26 := Tryz.sizeOf62
  v26 := Tryz.zeroValue62
  t27 := Tryz.underlying62
  a27 := Tryz.isAgg62
  z27 := Tryz.sizeOf62
  v27 := Tryz.zeroValue62
  t29 := Tryz.underlying9
  a29 := Tryz.isAgg9
  z29 := Tryz.sizeOf9
  v29 := Tryz.zeroValue9
  t32 := Tryz.underlying188
  a32 := Tryz.isAgg188
  z32 := Tryz.sizeOf188
  v32 := Tryz.zeroValue188
  t35 := Tryz.underlying190
  a35 := Tryz.isAgg190
  z35 := Tryz.sizeOf190
  v35 := Tryz.zeroValue190
  t36 := Tryz.underlying191
  a36 := Tryz.isAgg191
  z36 := Tryz.sizeOf191
  v36 := Tryz.zeroValue191
  t41 := Tryz.underlying196
  a41 := Tryz.isAgg196
  z41 := Tryz.sizeOf196
  v41 := Tryz.zeroValue196
  t44 := Tryz.underlying199
  a44 := Tryz.isAgg199
  z44 := Tryz.sizeOf199
  v44 := Tryz.zeroValue199
  t46 := Tryz.underlying201
  a46 := Tryz.isAgg201
  z46 := Tryz.sizeOf201
  v46 := Tryz.zeroValue201
  t53 := Tryz.underlying202
  a53 := Tryz.isAgg202
  z53 := Tryz.sizeOf202
  v53 := Tryz.zeroValue202
  t57 := Tryz.underlying206
  a57 := Tryz.isAgg206
  z57 := Tryz.sizeOf206
  v57 := Tryz.zeroValue206
  t63 := Tryz.underlying208
  a63 := Tryz.isAgg208
  z63 := Tryz.sizeOf208
  v63 := Tryz.zeroValue208
  t64 := Tryz.underlying209
  a64 := Tryz.isAgg209
  z64 := Tryz.sizeOf209
  v64 := Tryz.zeroValue209 }
end Go.Proofs
namespace Go.Proofs.YtjehpijjneghpaaGreat.Dk
open Go.RowKit Go.Maps Go.Sort Go.Shelf Go.Proofs.YtjehpijjneghpaaGreat.Nm
theorem sorts_any (m : Nat) : AnyZ.SortsIn Tryz.prog Tryz.sorted109_ren Fence.wide m :=
  ⟨fun blk off cap ss W hH hblk hsz => callsIn_wide.2 (AnyM.slices_Sort_string Tryz.sort119 blk off cap ss W hH hblk hsz),
   fun p cap W => callsIn_wide.2 (AnyM.slices_Sort_string_none Tryz.sort119 p cap W)⟩
theorem keys_any (mb : Option Nat) (W : World) : CallsIn Fence.wide 5 Tryz.prog 110 #[.map mb] W fun e w' => e = .returned (.func (.func 120) #[] #[.pointer (some ⟨W.heap.size, 0, none⟩)]) ∧ w' = W.alloc (.cells #[.map mb] 92) :=
  AnyZ.keys_in Tryz.keys110 Fence.wide 5 trivial rfl mb W
set_option maxHeartbeats 1000000 in
theorem sorted_any (b : Nat) (l : Dr) (w : World) (h : Mp w b l) (hl : l.length ≤ 1000000000) :
    CallsIn Fence.wide 5 Tryz.prog 109 #[.func (.func 120) #[] #[.pointer (some ⟨w.heap.size, 0, none⟩)]] (w.alloc (.cells #[.map (some b)] 92)) fun e w' => ∃ (v : Value) (ss : List (List UInt8)), e = .returned v ∧ ss.Perm (strKeys (dirD l)) ∧
      w'.ownsRow (w.alloc (.cells #[.map (some b)] 92)).heap.size 9 1 v ss.length ((ss.mergeSort (fun x y => decide (x ≤ y))).map encStr) ∧ (v = .slice none 0 0 ↔ ss = []) ∧ Below (w.alloc (.cells #[.map (some b)] 92)).heap.size (w.alloc (.cells #[.map (some b)] 92)) w' := by
  have hbl := h.lt
  have hown : w.ownsMap Tryz.prog 9 ptrR b l.length (dirD l) := h
  have hsz : Maps.size (dirD l) = l.length := dirD_size l
  have hseq : SeqGives Fence.wide 2 Tryz.prog 120 #[.pointer (some ⟨w.heap.size, 0, none⟩)] encStr (fun ss => ss.Perm (strKeys (dirD l))) (Maps.size (dirD l)) (w.alloc (.cells #[.map (some b)] 92)) :=
    AnyZ.keys_gives (ρ := Tryz.keys110_ren) { Tryz.keys110 with } Fence.wide _ trivial rfl (by omega) w.heap.size b l.length (dirD l) _ (by simp) (by simp) (by
      obtain ⟨es, clock, hb, Ft, hs, hD⟩ := hown
      exact ⟨es, clock, (Below.heap_alloc _ _ b hbl).trans hb, Ft, hs, hD⟩)
  exact AnyZ.sorted_in Tryz.sorted109 Fence.wide 5 trivial trivial trivial trivial rfl (by omega) (sorts_any _) (enters_of Tryz.func119 (by kernel_rfl) rfl) 120 #[.pointer (some ⟨w.heap.size, 0, none⟩)] trivial (enters_of Tryz.func120 (by kernel_rfl) rfl) _ _ (by rw [hsz]; unfold maxLen; omega) (by rw [hsz]; omega) _ hseq
set_option maxHeartbeats 1000000 in
theorem names_gen (b : Nat) (l : Dr) (w : World) (h : Mp w b l) (hl : l.length ≤ 1000000000) :
    Calls Tryz.prog 81 #[.map (some b)] w fun e w' => ∃ (v : Value) (ss : List (List UInt8)), e = .returned v ∧ ss.Perm (strKeys (dirD l)) ∧
      w'.ownsRow w.heap.size 9 1 v ss.length ((ss.mergeSort (fun x y => decide (x ≤ y))).map encStr) ∧ (v = .slice none 0 0 ↔ ss = []) ∧ Below w.heap.size w w' := by
  refine (callsIn_wide (n := 6)).1 ?_
  have hfK : Fence.wide.fn 110 := trivial
  have hfS : Fence.wide.fn 109 := trivial
  refine callsIn_of_wp Tryz.func81 rfl trivial ?_ rfl
  simp only [Tryz.ntmps81, List.size_toArray, List.length_cons, List.length_nil, Nat.reduceAdd, Nat.reduceSub, Array.replicate_succ, Array.replicate_zero, List.push_toArray, List.append_toArray, List.nil_append, List.cons_append]
  gi_wp2_with (first
    | (gi_at_call 110; refine (keys_any _ _).mono ?_; rintro e w' ⟨rfl, rfl⟩)
    | (gi_at_call 109; refine (sorted_any b l w h hl).mono ?_; rintro e w' ⟨v, ss, rfl, hS, hrow, hnil, hb⟩))
  go_ret
  exact ⟨v, ss, rfl, hS, ownsRow_base_a hrow (by simp), hnil, ((Below.refl _ w).alloc (Nat.le_refl _) _).trans (hb.mono (by simp))⟩
end Go.Proofs.YtjehpijjneghpaaGreat.Dk
namespace Go.Proofs
open Go.Shelf
def Tryz.laysM316_ren : Go.Shelf.Ren := ⟨fun | 316 => 105 | n => n, fun | 9 => 9 | 3 => 3 | 4 => 4 | 37 => 30 | 0 => 0 | 127 => 180 | 5 => 5 | n => n, fun | n => n⟩
theorem Tryz.laysM316 : Go.Proofs.LaysM.n316 Tryz.prog Tryz.laysM316_ren := {
  mixed := by kernel_rfl
  f316 := Tryz.func105.trans (congrArg some (by kernel_rfl))
  t0 := Tryz.underlying0
  a0 := Tryz.isAgg0
  z0 := Tryz.sizeOf0
  v0 := Tryz.zeroValue0
  t3 := Tryz.underlying3
  a3 := Tryz.isAgg3
  z3 := Tryz.sizeOf3
  v3 := Tryz.zeroValue3
  t4 := Tryz.underlying4
  a4 := Tryz.isAgg4
  z4 := Tryz.sizeOf4
  v4 := Tryz.zeroValue4
  t9 := Tryz.underlying9
  a9 := Tryz.isAgg9
  z9 := Tryz.sizeOf9
  v9 := Tryz.zeroValue9
  t37 := Tryz.underlying30
  a37 := Tryz.isAgg30
  z37 := Tryz.sizeOf30
  v37 := Tryz.zeroValue30
  t127 := Tryz.underlying180
  a127 := Tryz.isAgg180
  z127 := Tryz.sizeOf180
  v127 := Tryz.zeroValue180
  t5 := Tryz.underlying5
  a5 := Tryz.isAgg5
  z5 := Tryz.sizeOf5
  v5 := Tryz.zeroValue5
  i0 := by kernel_rfl
  i3 := by kernel_rfl
  i4 := by kernel_rfl
  i5 := by kernel_rfl
  i9 := by kernel_rfl
  i37 := by kernel_rfl
  i127 := by kernel_rfl }
open Go.RowKit in
theorem Tryz.stringslite_Clone (s : ByteArray) (w : World) (hlim : s.size ≤ 281474976710656) :
    Calls Tryz.prog 105 #[.string s] w fun e w' => e = .returned (.string s) ∧ Below w.heap.size w w' := Any.stringslite_Clone Tryz.laysM316 s w hlim
end Go.Proofs
