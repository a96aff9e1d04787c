/-
  Records made into frames, in one piece: write.
-/
import Derived.Test.YtbmnjaaacodgdaaL06
import Derived.Test.YtbmnjaaacodgdaaL05
import Derived.Defers
import Derived.Recover
import Derived.Sort.Row
import Derived.Test.YtbmnjaaacodgdaaL03
import Derived.Test.YtbmnjaaacodgdaaL01
import Derived.Test.YtbmnjaaacodgdaaL02
import Derived.Deep.RegionHeld3
import Derived.Handy
import Derived.BigRegion
import Derived.Lib.SlBytesRow
import Derived.BigQuiet
import Derived.Deep.CutRange
set_option maxRecDepth 100000
set_option maxHeartbeats 40000000
set_option linter.unusedVariables false
namespace Go.Proofs.Ytbmnjaaacodgdaa.Sg
open Go.RowKit Go.Maps Go.Sort Go.Shelf Go.Proofs.Ytbmnjaaacodgdaa.Nm Go.Proofs.Ytbmnjaaacodgdaa.Dk
def fcell (e : Int × Int) : List Value := [.int .i64 e.1, .int .u32 e.2]
def fcells (l : List (Int × Int)) : List Value := l.flatMap fcell
theorem fcells_snoc (l : List (Int × Int)) (e : Int × Int) : fcells (l ++ [e]) = fcells l ++ [.int .i64 e.1, .int .u32 e.2] := by simp [fcells, fcell]
theorem fcells_get (l : List (Int × Int)) : ∀ i (_ : i < l.length), (fcells l)[i * 2]? = some (.int .i64 (l.getD i (0, 0)).1) ∧ (fcells l)[i * 2 + 1]? = some (.int .u32 (l.getD i (0, 0)).2) := by
 induction l with
 | nil => intro i h; simp at h
 | cons p r ih =>
  intro i h
  rw [fcells, List.flatMap_cons, ← fcells]
  match i with
  | 0 => simp [fcell]
  | i + 1 =>
   have := ih i (by simpa using h)
   rw [show (i + 1) * 2 = i * 2 + 1 + 1 by omega]
   simpa [fcell] using this
def Frs (B : Nat) (w : World) (v : Value) (l : List (Int × Int)) : Prop := w.ownsRow B 95 2 v l.length (fcells l)
theorem Frs.but {X : Nat → Prop} {A B : World} {b : Nat} {v : Value} {l : List (Int × Int)} (h : Frs b A v l) (hb : But X A B) (hx : ∀ k, v.ownBlock = some k → ¬ X k) : Frs b B v l := by
 refine ⟨h.1, ?_⟩
 rcases h.2 with h | ⟨g, cap, cur, rfl, hg, hh, r⟩
 ·exact .inl h
 ·exact .inr ⟨g, cap, cur, rfl, hg, hb.at hh (hx g rfl), r⟩
theorem ob_but {X : Nat → Prop} {A B : World} {b : Nat} {v : Value} {l : List UInt8} (h : Ob b A v l) (hb : But X A B) (hx : ∀ k, v.ownBlock = some k → ¬ X k) : Ob b B v l := by
 refine ⟨h.1, ?_⟩
 rcases h.2 with h | ⟨g, cap, cur, rfl, hg, hh, r⟩
 ·exact .inl h
 ·exact .inr ⟨g, cap, cur, rfl, hg, hb.at hh (hx g rfl), r⟩
theorem rows_apart {w : World} {base e s n : Nat} {v : Value} {xs : List Value} {base' e' s' n' : Nat} {v' : Value} {xs' : List Value} (h : w.ownsRow base e s v n xs) (h' : w.ownsRow base' e' s' v' n' xs') (hT : e ≠ e') : ∀ k, v.ownBlock = some k → v'.ownBlock ≠ some k := fun k hk c => by
 rcases h.2 with ⟨rfl, _⟩ | ⟨g, cap, cur, rfl, hg, hh, r⟩
 ·simp [Value.ownBlock] at hk
 ·rcases h'.2 with ⟨rfl, _⟩ | ⟨g', cap', cur', rfl, hg', hh', r'⟩
  ·simp [Value.ownBlock] at c
  ·simp [Value.ownBlock] at hk c
   subst hk
   subst c
   rw [hh] at hh'
   simp at hh'
   exact hT hh'.2
theorem Frs.at {B : Nat} {w : World} {v : Value} {l : List (Int × Int)} (h : Frs B w v l) (hl : l ≠ []) : ∃ g ca, v = .slice (some ⟨g, 0, none⟩) l.length ca ∧ (∀ i, i < l.length → w.cell? ⟨g, i * 2, none⟩ = some (.int .i64 (l.getD i (0, 0)).1) ∧ w.cell? ⟨g, i * 2 + 1, none⟩ = some (.int .u32 (l.getD i (0, 0)).2)) ∧ l.length ≤ ca ∧ ca ≤ 9223372036854775807 ∧ g < w.heap.size ∧ B ≤ g := by
 rcases h.2 with ⟨rfl, e⟩ | ⟨g, cap, cur, rfl, hg, hh, a, b, c, d⟩
 ·exact absurd (List.length_eq_zero_iff.1 e) hl
 ·refine ⟨g, cap, rfl, fun i hi => ?_, a, by unfold maxLen at b; omega, heap_lt hh, hg⟩
  have hj : ∀ j, j < l.length * 2 → w.cell? ⟨g, j, none⟩ = (fcells l)[j]? := by
   intro j hj
   rw [cell_of hh, ← d, List.getElem?_take_of_lt hj]
   simp
  obtain ⟨e1, e2⟩ := fcells_get l i hi
  exact ⟨by rw [hj _ (by omega), e1], by rw [hj _ (by omega), e2]⟩
theorem infoWr : (Try.prog.info? 95).map (fun i => (i.zero, i.size, i.bytes)) = some (some (.agg #[.int .i64 0, .int .u32 0]), 2, 16) := by kernel_rfl
theorem run_appW {B : Nat} {w : World} {v : Value} {l : List (Int × Int)} (t : Int × Int) (gg : Nat) (h : Frs B w v l) (h0 : w.cell? ⟨gg, 0, none⟩ = some (.int .i64 t.1)) (h1 : w.cell? ⟨gg, 1, none⟩ = some (.int .u32 t.2)) (hl : l.length ≤ 34000000000) (hB : B ≤ w.heap.size) (ty : TypeId) :
    ∃ v' w', (Builtin.append_ #[85, 85] ty #[v, .slice (some ⟨gg, 0, none⟩) 1 1]).run Try.prog w = .ok v' w' ∧ Frs B w' v' (l ++ [t]) ∧ w.grownBy w' v.ownBlock ∧ (v'.ownBlock = v.ownBlock ∨ v'.ownBlock = some w.heap.size) := by
 obtain ⟨i0, hi, hz0, hz1, hz2⟩ := info_parts infoWr
 have hcells : ∀ j u, ([.int .i64 t.1, .int .u32 t.2] : List Value)[j]? = some u → w.cell? ((⟨gg, 0, none⟩ : Addr).add j) = some u := by
  intro j u hu
  rw [addr_add]
  match j with
  | 0 => simp at hu; subst hu; exact h0
  | 1 => simp at hu; subst hu; exact h1
  | j + 2 => simp at hu
 obtain ⟨v', w', hr, ho, hg, _, hat⟩ := run_append_own_at (P := Try.prog) w B 85 ty 95 i0 (.agg #[.int .i64 0, .int .u32 0]) 2 16 Try.underlying85 hi hz0 hz1 hz2 rfl (by decide) v l.length (fcells l) h ⟨gg, 0, none⟩ 1 1 [.int .i64 t.1, .int .u32 t.2] rfl hcells (by
     intro u hu
     simp at hu
     rcases hu with rfl | rfl <;> rfl) (by unfold maxLen; omega) (by omega) hB
 refine ⟨v', w', hr, ?_, hg, hat⟩
 unfold Frs
 rw [List.length_append, fcells_snoc]
 exact ho
def wk (seed : Crc.R) (n : Int) (ls : List (List UInt8)) : Nat → List UInt8 × List (Int × Int) × Crc.R
 | 0 => ([], [], seed)
 | i + 1 => ((wk seed n ls i).1 ++ (wrF (wk seed n ls i).2.2 (n + (i : Int)) (ls.getD i [])).1, (wk seed n ls i).2.1 ++ [(((wrF (wk seed n ls i).2.2 (n + (i : Int)) (ls.getD i [])).1.length : Int), ((wrF (wk seed n ls i).2.2 (n + (i : Int)) (ls.getD i [])).2.1.toNat : Int))], (wrF (wk seed n ls i).2.2 (n + (i : Int)) (ls.getD i [])).2.1)
theorem wr_len (seed : Crc.R) (n : Int) (d : List UInt8) : (wrF seed n d).1.length ≤ 4112 := by
 unfold wrF
 split
 ·simp
 ·split
  ·simp
  ·rw [frm_len]; omega
theorem wk_len (seed : Crc.R) (n : Int) (ls : List (List UInt8)) : ∀ i, (wk seed n ls i).1.length ≤ i * 4112 ∧ (wk seed n ls i).2.1.length = i
 | 0 => ⟨by simp [wk], by simp [wk]⟩
 | i + 1 => by
  obtain ⟨a, b⟩ := wk_len seed n ls i
  have := wr_len (wk seed n ls i).2.2 (n + (i : Int)) (ls.getD i [])
  refine ⟨?_, ?_⟩
  ·rw [wk, List.length_append]; omega
  ·rw [wk]; simp [b]
theorem writeS_any {w : World} {sb : Nat} {s : SG} {xb mb : Nat} {v : Value} (h : Seg w sb s xb mb v) (ok : SOk s) (seed : Crc.R) (hsd : s.seed = (seed.toNat : Int)) (vd : Value) (vs : List Value) (ls : List (List UInt8)) (hr : Row w vd vs) (hs : Sls w vs ls) (hl : ls.length ≤ 34000000000) (hn : s.next + (ls.length : Int) ≤ 9223372036854775807) :
    Calls Try.prog 34 #[.pointer (some ⟨sb, 0, none⟩), vd] w fun e w' => ∃ v1 v2, e = .returned (.tuple #[v1, v2]) ∧ Ob w.heap.size w' v1 (wk seed s.next ls ls.length).1 ∧ Frs w.heap.size w' v2 (wk seed s.next ls ls.length).2.1 ∧ Below w.heap.size w w' := by
 have H := hide h
 obtain ⟨y0, y1, y2, y3, y4, y5, y6, y7, y8, y9, y10⟩ := h.cells
 rw [hsd] at y7
 have HS := hide hs
 have HR := hide hr
 obtain ⟨ao, ca, rfl, _, h2, h3, _⟩ := hr
 have hNn : Hid (vs.length = ls.length) := hs.1
 rw [hNn.out] at h2 HR ⊢
 have hnx := ok.n1
 obtain ⟨N, hlN⟩ : ∃ N, Hid (ls.length = N) := ⟨_, rfl⟩
 rw [hlN.out] at HR hl hn ⊢
 obtain ⟨n, hnn⟩ : ∃ n, Hid (s.next = n) := ⟨_, rfl⟩
 rw [hnn.out] at hn hnx y5 ⊢
 have hWk := hide (wk_len seed n ls)
 clear h h2 h3 hs hsd
 go_enter Try.func34, Try.ntmps34
 go_wp2_with fail
 go_loopw [6, 7, 8, 20] (fun v6 v7 v8 v20 wr => ∃ i : Nat, i ≤ N ∧ v20 = .int .i64 (i : Int) ∧ v8 = .int .u32 ((wk seed n ls i).2.2.toNat : Int) ∧ Hid (Ob w.heap.size wr v6 (wk seed n ls i).1) ∧ Hid (Frs w.heap.size wr v7 (wk seed n ls i).2.1) ∧ Hid (Below w.heap.size w wr)) (fun _ _ _ v _ => N - (intOf v).toNat)
 case atStart => exact ⟨0, by omega, rfl, rfl, World.ownsRow_nil _ _ _ _, World.ownsRow_nil _ _ _ _, Below.refl _ _⟩
 case round =>
  obtain ⟨i, hi, rfl, rfl, O6, O7, BE⟩ := hrel
  by_cases hin : i = N
  ·subst hin
   go_wp2_with fail
   go_ret2
   exact ⟨_, _, rfl, O6.out, O7.out, BE.out⟩
  ·have hil : i < N := by omega
   have i1 : (i : Int) < (N : Int) := by omega
   have i0 : (0 : Int) ≤ (i : Int) := by omega
   obtain ⟨da, dc, hv, hsl⟩ := sls_at HS.out (i := i) (by rw [hlN.out]; exact hil)
   obtain ⟨rb, off, rfl, d0⟩ := row_at (Below.row BE.out HR.out) hv
   obtain ⟨z0, z1, z2, z3, z4, z5, z6, z7, z8, z9, z10⟩ := (H.out.below BE.out).cells
   rw [hnn.out] at z5
   have kw : IntKind.i64.wrap (n + (i : Int)) = n + (i : Int) := by simp [IntKind.wrap, IntKind.bits, IntKind.signed]; omega
   have hWr := hide (write_any wr (wk seed n ls i).2.2 (n + (i : Int)) _ _ (by omega) (by omega) (Below.sl BE.out hsl))
   have hst : Hid (wk seed n ls (i + 1) = ((wk seed n ls i).1 ++ (wrF (wk seed n ls i).2.2 (n + (i : Int)) (ls.getD i [])).1, (wk seed n ls i).2.1 ++ [(((wrF (wk seed n ls i).2.2 (n + (i : Int)) (ls.getD i [])).1.length : Int), ((wrF (wk seed n ls i).2.2 (n + (i : Int)) (ls.getD i [])).2.1.toNat : Int))], (wrF (wk seed n ls i).2.2 (n + (i : Int)) (ls.getD i [])).2.1)) := hide rfl
   obtain ⟨l1, l2⟩ := hWk.out i
   have l3 := wr_len (wk seed n ls i).2.2 (n + (i : Int)) (ls.getD i [])
   obtain ⟨F, hF⟩ : ∃ F, Hid (wrF (wk seed n ls i).2.2 (n + (i : Int)) (ls.getD i []) = F) := ⟨_, rfl⟩
   obtain ⟨P, hP⟩ : ∃ P, Hid (wk seed n ls i = P) := ⟨_, rfl⟩
   rw [hF.out] at hWr hst l3
   rw [hP.out] at hst O6 O7 l1 l2 hWr ⊢
   obtain ⟨fb, fs, fe⟩ := F
   obtain ⟨pb, pf, ps⟩ := P
   simp only at hWr hst l1 l2 l3 O6 O7 ⊢
   generalize (ls.getD i []).length = M at *
   clear hsl hv
   go_wp2_with fail
   go_at_call 68
   refine hWr.out.mono ?_
   rintro e w2 ⟨vb, rfl, ob, b2⟩
   have hsb := Sl.of_owns ob
   obtain ⟨ba, bc, hvb⟩ := Sl.form hsb rfl
   subst hvb
   have O62 := ob_but O6.out (But.of_below b2 fun _ => False) (fun _ _ c => c)
   have O72 := O7.out.but (But.of_below b2 fun _ => False) (fun _ _ c => c)
   have BE2 := keepF BE.out b2
   obtain ⟨v6', w3, r3, O63, g3, at3⟩ := run_app O62 hsb (by omega) BE2.size 40
   have ap67 := rows_apart O62 O72 (by decide)
   have O73 := O72.but (But.of_grownBy g3 (X := fun k => u6.ownBlock = some k) fun k e => e) (fun k hk c => ap67 k c hk)
   have BE3 : Below w.heap.size w w3 := Below.grown BE2 g3 BE2.size (fun k hk => (World.ownsRow.lt O62 k hk).1)
   have B4 := box_below w3 (.cells #[.int .i64 (fb.length : Int), .int .u32 (fs.toNat : Int)] 95)
   have N4 := heap_alloc_new w3 (.cells #[.int .i64 (fb.length : Int), .int .u32 (fs.toNat : Int)] 95)
   have O64 := ob_but O63 (But.of_below B4 fun _ => False) (fun _ _ c => c)
   have O74 := O73.but (But.of_below B4 fun _ => False) (fun _ _ c => c)
   have BE4 := keepF BE3 B4
   obtain ⟨v7', w5, r5, O75, g5, at5⟩ := run_appW ((fb.length : Int), (fs.toNat : Int)) w3.heap.size O74 (by rw [cell_of N4]; rfl) (by rw [cell_of N4]; rfl) (by omega) BE4.size 85
   have ap64 := rows_apart O64 O74 (by decide)
   have O65 : Hid (Ob w.heap.size w5 v6' (pb ++ fb)) := hide (ob_but O64 (But.of_grownBy g5 (X := fun k => u7.ownBlock = some k) fun k e => e) (fun k hk c => ap64 k hk c))
   have BE5 : Hid (Below w.heap.size w w5) := hide (Below.grown BE4 g5 BE4.size (fun k hk => (World.ownsRow.lt O74 k hk).1))
   replace O75 := hide O75
   replace r3 := hide r3
   replace r5 := hide r5
   obtain ⟨a6, n6, c6, h6⟩ : ∃ a n c, u6 = .slice a n c := by
    rcases O62.2 with ⟨rfl, _⟩ | ⟨_, _, _, rfl, _⟩
    ·exact ⟨_, _, _, rfl⟩
    ·exact ⟨_, _, _, rfl⟩
   obtain ⟨a7, n7, c7, h7⟩ : ∃ a n c, u7 = .slice a n c := by
    rcases O72.2 with ⟨rfl, _⟩ | ⟨_, _, _, rfl, _⟩
    ·exact ⟨_, _, _, rfl⟩
    ·exact ⟨_, _, _, rfl⟩
   subst h6
   subst h7
   clear O6 O7 BE O62 O72 BE2 O63 O73 O64 O74 BE3 BE4 B4 N4 g3 g5 at3 at5 ap67 ap64 hsb ob b2 hWr
   go_wp2_with (first
    | (at_builtin; refine Lib.wpList_append_run _ rfl (.tmp 38) (.tmp 39) 40 40 rfl _ _ rfl rfl _ _ r3.out ?_)
    | (at_builtin; refine Lib.wpList_append_run _ rfl (.tmp 41) (.tmp 46) 85 85 rfl _ _ rfl rfl _ _ r5.out ?_)
    | fail)
   go_roundw
   case rel => exact ⟨i + 1, by omega, by go_num, by rw [hst.out], by rw [hst.out]; exact O65.out, by rw [hst.out]; exact O75.out, BE5.out⟩
   case measure => simp [intOf]; omega
open Ix (wp_region_T wpAnyT wpAnyT_take wpAnyT_one wpAnyT_done vac)
theorem sync_dskE {w : World} {b : Nat} {S : DS} {O : Nat → Prop} (h : DskE w b S O) (s : ByteArray) (hs : s.size ≤ maxLen) (hc : S.c7 < 900000000) :
    Calls Try.prog 17 #[.pointer (some ⟨b, 0, none⟩), .string s] w fun e w' => e = .returned (.int .i64 (S.sync s).2) ∧ ∃ O', DskE w' b (S.sync s).1 O' ∧ Sgo w w' O O' := by
 obtain ⟨f, g, pd, am, VB, VL, hd⟩ := h
 exact syncF_any hd s hs hc
structure SW (w : World) (sb : Nat) (s : SG) (S : DS) (O : Nat → Prop) (xb mb : Nat) (v : Value) : Prop where
 sg : Seg w sb s xb mb v
 dk : DskE w s.b S O
 ap : ∀ k, SOwn sb xb mb v k → ¬ O k
theorem SW.below {A B : World} {sb : Nat} {s : SG} {S : DS} {O : Nat → Prop} {xb mb : Nat} {v : Value} (h : SW A sb s S O xb mb v) (hb : Below A.heap.size A B) : SW B sb s S O xb mb v := ⟨h.sg.below hb, h.dk.below hb, h.ap⟩
theorem SW.disk {w w' : World} {sb : Nat} {s : SG} {S S' : DS} {O O' : Nat → Prop} {xb mb : Nat} {v : Value} (h : SW w sb s S O xb mb v) (hd : DskE w' s.b S' O') (hg : Sgo w w' O O') : SW w' sb s S' O' xb mb v :=
 ⟨h.sg.but hg.but fun k hk => h.ap k hk, hd, fun k hk c => by
  rcases hg.own k c with c | c
  ·exact h.ap k hk c
  ·have := h.sg.lt k hk; omega⟩
def Bx1 (w : World) (p : Nat) (T : TypeId) (x : Value) : Prop := w.heap[p]? = some (.cells #[x] T (0, 0))
theorem Bx1.but {Y : Nat → Prop} {A B : World} {p : Nat} {T : TypeId} {x : Value} (h : Bx1 A p T x) (hb : But Y A B) (hx : ¬ Y p) : Bx1 B p T x := hb.at h hx
theorem Bx1.below {A B : World} {p : Nat} {T : TypeId} {x : Value} (h : Bx1 A p T x) (hb : Below A.heap.size A B) : Bx1 B p T x := h.but (But.of_below hb fun _ => False) fun c => c
theorem Bx1.cell {w : World} {p : Nat} {T : TypeId} {x : Value} (h : Bx1 w p T x) : w.cell? ⟨p, 0, none⟩ = some x := by rw [cell_of h]; rfl
theorem Bx1.frozen {w : World} {p : Nat} {T : TypeId} {x : Value} (h : Bx1 w p T x) : w.frozen? ⟨p, 0, none⟩ = false := by unfold Bx1 at h; simp [World.frozen?, h]
theorem Bx1.set {w : World} {p : Nat} {T : TypeId} {x : Value} (h : Bx1 w p T x) (y : Value) : Bx1 (w.setCell ⟨p, 0, none⟩ y) p T y := by unfold Bx1 at h ⊢; rw [heap_setCell_same w p 0 _ _ _ h]; rfl
theorem Bx1.lt {w : World} {p : Nat} {T : TypeId} {x : Value} (h : Bx1 w p T x) : p < w.heap.size := heap_lt h
theorem put1_any {w : World} {sb : Nat} {s : SG} {S : DS} {O : Nat → Prop} {xb mb : Nat} {v : Value} (h : SW w sb s S O xb mb v) {p2 p7 : Nat} {vb : Value} {D : List UInt8} (h2 : Bx1 w p2 26 (.pointer (some ⟨sb, 0, none⟩))) (h7 : Bx1 w p7 40 vb) (hb : Sl w vb D) (ho : SOff O vb) (n2 : ¬ O p2) (n7 : ¬ O p7) (hf : s.file.size ≤ maxLen) (hc : S.c7 < 900000000) :
    Calls Try.prog 36 #[.pointer (some ⟨p2, 0, none⟩), .pointer (some ⟨p7, 0, none⟩)] w fun e w' => e = .returned (.int .i64 (S.append s.file D).2.2) ∧ ∃ O', DskE w' s.b (S.append s.file D).1 O' ∧ Sgo w w' O O' := by
 obtain ⟨ao, ca, hvb⟩ := Sl.form hb rfl
 subst hvb
 have hA := hide (fun u (hu : Below w.heap.size w u) => append_dsk (h.below hu).dk s.file hf _ D (Below.sl hu hb) ho hc)
 have KS : Hid (Seg w sb s xb mb v ∧ Bx1 w p2 26 (.pointer (some ⟨sb, 0, none⟩)) ∧ Bx1 w p7 40 (.slice ao D.length ca)) := hide ⟨h.sg, h2, h7⟩
 have KN : Hid ((∀ k, SOwn sb xb mb v k → ¬ O k) ∧ ¬ O p2 ∧ ¬ O p7) := hide ⟨h.ap, n2, n7⟩
 obtain ⟨R, hR⟩ : ∃ R, Hid (S.append s.file D = R) := ⟨_, rfl⟩
 rw [hR.out] at hA ⊢
 obtain ⟨S', r1, r2⟩ := R
 simp only at hA ⊢
 generalize D.length = DL at *
 clear h h2 h7 hb ho n2 n7
 go_enter Try.func36, Try.ntmps36
 go_upto_region 1 with fail
 refine wp_region_T (fun q => Seg q sb s xb mb v ∧ Bx1 q p2 26 (.pointer (some ⟨sb, 0, none⟩)) ∧ Bx1 q p7 40 (.slice ao DL ca)) 14 (by kernel_rfl) ?_
 have DB : Hid (Below w.heap.size w w.drew) := hide (Below.refl _ _).drew
 have KP : Hid (Seg w.drew sb s xb mb v ∧ Bx1 w.drew p2 26 (.pointer (some ⟨sb, 0, none⟩)) ∧ Bx1 w.drew p7 40 (.slice ao DL ca)) := hide ⟨KS.out.1.below DB.out, KS.out.2.1.below DB.out, KS.out.2.2.below DB.out⟩
 generalize w.drew = q at *
 refine Ix.tk 0 ⟨some 6, .load 26 (.tmp 0), _, _, _, _⟩ (.pointer (some ⟨sb, 0, none⟩)) [14] ?_ KP.out ?_
 ·intro wq hSw
  obtain ⟨y0, y1, y2, y3, y4, y5, y6, y7, y8, y9, y10⟩ := hSw.1.cells
  have b0 := hSw.2.1.cell
  have b1 := hSw.2.2.cell
  go_simp
 (try simp only [zzp, zzb, zzc])
 refine Ix.tk 1 ⟨some 7, .nilCheck (.tmp 6), _, _, _, _⟩ (.pointer (some ⟨sb, 0, none⟩)) [14] ?_ KP.out ?_
 ·intro wq hSw
  obtain ⟨y0, y1, y2, y3, y4, y5, y6, y7, y8, y9, y10⟩ := hSw.1.cells
  go_simp
 (try simp only [zzp, zzb, zzc])
 refine Ix.tk 2 ⟨some 8, .fieldAddr 93 (.tmp 7) 0, _, _, _, _⟩ (.pointer (some ⟨sb, 0, none⟩)) [14] ?_ KP.out ?_
 ·intro wq hSw
  obtain ⟨y0, y1, y2, y3, y4, y5, y6, y7, y8, y9, y10⟩ := hSw.1.cells
  go_simp
 (try simp only [zzp, zzb, zzc])
 refine Ix.tk 3 ⟨some 9, .load 24 (.tmp 8), _, _, _, _⟩ (.pointer (some ⟨s.b, 0, none⟩)) [14] ?_ KP.out ?_
 ·intro wq hSw
  obtain ⟨y0, y1, y2, y3, y4, y5, y6, y7, y8, y9, y10⟩ := hSw.1.cells
  have b0 := hSw.2.1.cell
  have b1 := hSw.2.2.cell
  go_simp
 (try simp only [zzp, zzb, zzc])
 refine Ix.tk 4 ⟨some 10, .load 26 (.tmp 0), _, _, _, _⟩ (.pointer (some ⟨sb, 0, none⟩)) [14] ?_ KP.out ?_
 ·intro wq hSw
  obtain ⟨y0, y1, y2, y3, y4, y5, y6, y7, y8, y9, y10⟩ := hSw.1.cells
  have b0 := hSw.2.1.cell
  have b1 := hSw.2.2.cell
  go_simp
 (try simp only [zzp, zzb, zzc])
 refine Ix.tk 5 ⟨some 11, .nilCheck (.tmp 10), _, _, _, _⟩ (.pointer (some ⟨sb, 0, none⟩)) [14] ?_ KP.out ?_
 ·intro wq hSw
  obtain ⟨y0, y1, y2, y3, y4, y5, y6, y7, y8, y9, y10⟩ := hSw.1.cells
  go_simp
 (try simp only [zzp, zzb, zzc])
 refine Ix.tk 6 ⟨some 12, .fieldAddr 93 (.tmp 11) 1, _, _, _, _⟩ (.pointer (some ⟨sb, 1, none⟩)) [14] ?_ KP.out ?_
 ·intro wq hSw
  obtain ⟨y0, y1, y2, y3, y4, y5, y6, y7, y8, y9, y10⟩ := hSw.1.cells
  go_simp
 (try simp only [zzp, zzb, zzc])
 refine Ix.tk 7 ⟨some 13, .load 9 (.tmp 12), _, _, _, _⟩ (.string s.file) [14] ?_ KP.out ?_
 ·intro wq hSw
  obtain ⟨y0, y1, y2, y3, y4, y5, y6, y7, y8, y9, y10⟩ := hSw.1.cells
  have b0 := hSw.2.1.cell
  have b1 := hSw.2.2.cell
  go_simp
 (try simp only [zzp, zzb, zzc])
 refine Ix.tk 8 ⟨some 14, .load 40 (.tmp 1), _, _, _, _⟩ (.slice ao DL ca) [14] ?_ KP.out ?_
 ·intro wq hSw
  obtain ⟨y0, y1, y2, y3, y4, y5, y6, y7, y8, y9, y10⟩ := hSw.1.cells
  have b0 := hSw.2.1.cell
  have b1 := hSw.2.2.cell
  go_simp
 (try simp only [zzp, zzb, zzc])
 refine wpAnyT_one (i := 9) (o := ⟨some 15, .call { callee := .value (.func 11), args := #[.tmp 9, .tmp 13, .tmp 14], argTypes := #[24, 9, 40] }, _, _, _, _⟩) (by kernel_rfl) rfl (fun K hK => ?_)
 go_simp
 go_at_call 11
 refine (hA.out q DB.out).mono ?_
 rintro e w1 ⟨rfl, O1, D1, G1⟩
 have G2 : Hid (Sgo w w1 O O1) := hide ((Sgo.of_below DB.out).trans G1)
 have K1 : Hid (Seg w1 sb s xb mb v ∧ Bx1 w1 p2 26 (.pointer (some ⟨sb, 0, none⟩)) ∧ Bx1 w1 p7 40 (.slice ao DL ca)) := hide ⟨KP.out.1.but G1.but fun k hk => KN.out.1 k hk, KP.out.2.1.but G1.but KN.out.2.1, KP.out.2.2.but G1.but KN.out.2.2⟩
 replace D1 := hide D1
 clear G1
 (try go_simp)
 refine hK.out _ _ (fun _ => K1.out) ?_
 clear hK K
 (try simp only [zzp, zzb, zzc])
 refine Ix.tk 10 ⟨some 5, .move (.tmp 15), _, _, _, _⟩ (.tuple #[.int .i64 r1, .int .i64 r2]) [14] ?_ K1.out ?_
 ·intro wq hSw; go_simp
 (try simp only [zzp, zzb, zzc])
 refine Ix.tk 11 ⟨some 16, .extract (.tmp 5) 0, _, _, _, _⟩ (.int .i64 r1) [14] ?_ K1.out ?_
 ·intro wq hSw; go_simp
 (try simp only [zzp, zzb, zzc])
 refine Ix.tk 12 ⟨some 17, .extract (.tmp 5) 1, _, _, _, _⟩ (.int .i64 r2) [14] ?_ K1.out ?_
 ·intro wq hSw; go_simp
 (try simp only [zzp, zzb, zzc])
 refine wpAnyT_one (i := 13) (o := ⟨some 3, .assign (.tmp 16), _, _, _, _⟩) (by kernel_rfl) rfl (fun K hK => ?_)
 go_simp
 refine hK.out _ _ (fun _ => K1.out) ?_
 clear hK K
 (try simp only [zzp, zzb, zzc])
 refine wpAnyT_one (i := 14) (o := ⟨some 4, .assign (.tmp 17), _, _, _, _⟩) (by kernel_rfl) rfl (fun K hK => ?_)
 go_simp
 refine hK.out _ _ (vac (by kernel_rfl)) ?_
 clear hK K
 (try simp only [zzp, zzb, zzc])
 refine wpAnyT_done (by kernel_rfl) ?_ _
 go_wp2_with fail
 go_ret
 exact ⟨rfl, O1, D1.out, G2.out⟩
theorem set_twice (w : World) (b o : Nat) (x y : Value) : (w.setCell ⟨b, o, none⟩ x).setCell ⟨b, o, none⟩ y = w.setCell ⟨b, o, none⟩ y := by
 rw [Go.Sort.setCell_eq, Go.Sort.setCell_eq, Go.Sort.mapBlock_mapBlock, Go.Sort.setCell_eq]
 congr 1
 funext cs
 simp
theorem fails_not (u : FrameMode) (w : World) {eb p2 sb : Nat} (h0 : w.cell? ⟨eb, 0, none⟩ = some (.int .i64 0)) :
    CallsD Try.prog 69 #[.pointer (some ⟨eb, 0, none⟩), .pointer (some ⟨p2, 0, none⟩)] u w fun e u' w' => u' = u ∧ (e = .returned (.tuple #[]) ∧ w' = w) := by
 go_enter_d Try.func69, Try.ntmps69
 go_wp2_with fail
 go_end0
 exact ⟨rfl, rfl⟩
theorem fails_so (u : FrameMode) (w : World) {eb p2 sb : Nat} {r : Int} (hr : r ≠ 0) (h0 : w.cell? ⟨eb, 0, none⟩ = some (.int .i64 r)) (h1 : w.cell? ⟨p2, 0, none⟩ = some (.pointer (some ⟨sb, 0, none⟩))) {c : Int} (h2 : w.cell? ⟨sb, 8, none⟩ = some (.int .i64 c)) (hz : w.frozen? ⟨sb, 8, none⟩ = false) :
    CallsD Try.prog 69 #[.pointer (some ⟨eb, 0, none⟩), .pointer (some ⟨p2, 0, none⟩)] u w fun e u' w' => u' = u ∧ (e = .returned (.tuple #[]) ∧ w' = w.setCell ⟨sb, 8, none⟩ (.int .i64 2)) := by
 have kr : (r != 0) = true := by simp [hr]
 go_enter_d Try.func69, Try.ntmps69
 go_wp2_with fail
 go_end0
 exact ⟨rfl, rfl⟩
theorem attempt_put {w : World} {sb : Nat} {s : SG} {S S' : DS} {O : Nat → Prop} {xb mb : Nat} {v : Value} {r : Int} (h : SW w sb s S O xb mb v) {p2 p7 : Nat}
    (hop : ∀ u, Below w.heap.size w u → Calls Try.prog 36 #[.pointer (some ⟨p2, 0, none⟩), .pointer (some ⟨p7, 0, none⟩)] u fun e w' => e = .returned (.int .i64 r) ∧ ∃ O', DskE w' s.b S' O' ∧ Sgo u w' O O') :
    Calls Try.prog 35 #[.pointer (some ⟨sb, 0, none⟩), .func (.func 36) #[] #[.pointer (some ⟨p2, 0, none⟩), .pointer (some ⟨p7, 0, none⟩)]] w fun e w' => e = .returned (.int .i64 r) ∧ ∃ O', SW w' sb { s with cond := if r = 0 then s.cond else 2 } S' O' xb mb v ∧ But (fun k => SOwn sb xb mb v k ∨ O k) w w' ∧ (∀ k, O' k → O k ∨ w.heap.size ≤ k) := by
 have hmf : ∀ (fn : Fn) (first cap : Array Value) (w : World), (Instr.makeFunc fn first cap).run Try.prog w = .ok (.func fn first cap) w := fun _ _ _ _ => rfl
 have B1 := box_below w (.cells #[.pointer (some ⟨sb, 0, none⟩)] 26)
 have N1 : Bx1 _ w.heap.size 26 (.pointer (some ⟨sb, 0, none⟩)) := heap_alloc_new w (.cells #[.pointer (some ⟨sb, 0, none⟩)] 26)
 obtain ⟨w1, hw1⟩ : ∃ w1, Hid (w.alloc (.cells #[.pointer (some ⟨sb, 0, none⟩)] 26) = w1) := ⟨_, rfl⟩
 rw [hw1.out] at B1 N1
 have hz1 : w1.heap.size = w.heap.size + 1 := by rw [← hw1.out]; simp
 have B2 := box_below w1 (.cells #[.int .i64 23] 27)
 have N2 : Bx1 _ w1.heap.size 27 (.int .i64 23) := heap_alloc_new w1 (.cells #[.int .i64 23] 27)
 obtain ⟨w2, hw2⟩ : ∃ w2, Hid (w1.alloc (.cells #[.int .i64 23] 27) = w2) := ⟨_, rfl⟩
 rw [hw2.out] at B2 N2
 rw [hz1] at N2
 have N12 := N1.below B2
 have B12 := keepF B1 B2
 have H2 := h.below B12
 have hO := h.dk.lt
 have OP := hide (hop w2 B12)
 have ST : Hid (SW w2 sb s S O xb mb v ∧ Bx1 w2 w.heap.size 26 (.pointer (some ⟨sb, 0, none⟩)) ∧ Bx1 w2 (w.heap.size + 1) 27 (.int .i64 23) ∧ Below w.heap.size w w2 ∧ (∀ k, O k → k < w.heap.size) ∧ (∀ k, SOwn sb xb mb v k → k < w.heap.size)) := hide ⟨H2, N12, N2, B12, hO, h.sg.lt⟩
 obtain ⟨R, hR⟩ : ∃ R, Hid (r = R) := ⟨_, rfl⟩
 clear hop B1 B2 N1 N2 N12 B12 H2 hO h hz1
 go_enter_defers Try.func35, Try.ntmps35
 go_upto_region 3 with fail
 rw [hw1.out, hw2.out]
 generalize hpa : w.heap.size = pA at *
 replace hpa := hide hpa
 go_wp2_with fail
 refine OP.out.mono ?_
 rintro e w3 ⟨rfl, O3, D3, G3⟩
 obtain ⟨a1, a2, a3, a4, a5, a6⟩ := ST.out
 have nA : ¬ O pA := fun c => by have := a5 _ c; omega
 have nE : ¬ O (pA + 1) := fun c => by have := a5 _ c; omega
 have T3 := a1.disk D3 G3
 have A3 := a2.but G3.but nA
 have E3 := a3.but G3.but nE
 have G4 : But O w w3 := (But.of_below (show Below w.heap.size w w2 by rw [hpa.out]; exact a4) _).trans G3.but
 have own3 : Hid (∀ k, O3 k → O k ∨ w.heap.size ≤ k) := hide fun k hk => (G3.own k hk).imp id fun c => Nat.le_trans (by have := a4.size; have := hpa.out; omega) c
 have ze := E3.frozen
 have ce := E3.cell
 -- the error laid
 have EX : But (fun k => k = pA + 1) w3 (w3.setCell ⟨pA + 1, 0, none⟩ (.int .i64 r)) := but_sb w3 _ 0 _ _ rfl
 have hne : ¬ pA + 1 = sb := fun c => by have := a6 sb (.inl rfl); omega
 have nS : ∀ k, SOwn sb xb mb v k → ¬ k = pA + 1 := fun k hk c => by have := a6 k hk; omega
 have nO : ∀ k, O3 k → ¬ k = pA + 1 := fun k hk c => by
  rcases G3.own k hk with q | q
  ·have := a5 k q; omega
  ·have := a3.lt; omega
 have T4 : SW (w3.setCell ⟨pA + 1, 0, none⟩ (.int .i64 r)) sb s S' O3 xb mb v := ⟨T3.sg.but EX nS, T3.dk.but EX nO, T3.ap⟩
 have A4 : Bx1 (w3.setCell ⟨pA + 1, 0, none⟩ (.int .i64 r)) pA _ _ := A3.but EX (by omega)
 have E4 := E3.set (.int .i64 r)
 have BT4 : Hid (But (fun k => SOwn sb xb mb v k ∨ O k) w (w3.setCell ⟨pA + 1, 0, none⟩ (.int .i64 r))) := hide (by
  refine ⟨EX.os.trans G4.os, EX.tape.trans G4.tape, EX.output.trans G4.output, Nat.le_trans G4.size EX.size, fun i hi hx => ?_⟩
  rw [EX.block i (Nat.lt_of_lt_of_le hi G4.size) (fun c => by have := hpa.out; omega)]
  exact G4.block i hi (fun c => hx (.inr c)))
 have ze4 := E4.frozen
 have ce4 := E4.cell
 have ca4 := A4.cell
 obtain ⟨y0, y1, y2, y3, y4, y5, y6, y7, y8, y9, y10⟩ := T4.sg.cells
 have zs := T4.sg.frozen 8
 have T4' := hide T4
 clear T3 A3 G4 G3 D3 T4 A4 ST OP EX nS nO hw1 hw2 a1 a2 a3 a4 a5 a6
 have hss := set_twice w3 (pA + 1) 0 (.int .i64 r) (.int .i64 r)
 by_cases hr0 : r = 0
 ·subst hr0
  go_wp2_with fail
  refine leaves_cons (f := 69) (args := #[.pointer (some ⟨pA + 1, 0, none⟩), .pointer (some ⟨pA, 0, none⟩)]) (by simp) (by simp [go_sem]) ?_
  refine (fails_not .returning _ (sb := sb) ?_).mono ?_
  ·exact ce4
  rintro e u' w4 ⟨rfl, rfl, rfl⟩
  simp [Leaves, settle, results, Try.results35, go_sem, ce4]
  exact ⟨O3, T4'.out, BT4.out, own3.out⟩
 ·go_wp2_with fail
  refine leaves_cons (f := 69) (args := #[.pointer (some ⟨pA + 1, 0, none⟩), .pointer (some ⟨pA, 0, none⟩)]) (by simp) (by simp [go_sem]) ?_
  refine (fails_so .returning _ (sb := sb) hr0 ce4 ca4 y8 zs).mono ?_
  rintro e u' w4 ⟨rfl, rfl, rfl⟩
  have T5 := T4'.out.sg.set8 2
  have EB : But (fun k => k = sb) (w3.setCell ⟨pA + 1, 0, none⟩ (.int .i64 r)) ((w3.setCell ⟨pA + 1, 0, none⟩ (.int .i64 r)).setCell ⟨sb, 8, none⟩ (.int .i64 2)) := but_sb _ sb 8 _ _ rfl
  have ce5 := (E4.but EB hne).cell
  have D5 := T4'.out.dk.but EB (fun k hk c => by subst c; exact T4'.out.ap k (.inl rfl) hk)
  have BT5 : But (fun k => SOwn sb xb mb v k ∨ O k) w ((w3.setCell ⟨pA + 1, 0, none⟩ (.int .i64 r)).setCell ⟨sb, 8, none⟩ (.int .i64 2)) := BT4.out.trans (EB.mono fun k _ hk => .inl (.inl hk))
  simp [Leaves, settle, results, Try.results35, go_sem, ce5]
  exact ⟨O3, ⟨T5, D5, T4'.out.ap⟩, BT5, own3.out⟩
def gk (s : SG) (fs : List (Int × Int)) : Nat → SG
 | 0 => s
 | i + 1 => (gk s fs i).grown (fs.getD i (0, 0)).1 (fs.getD i (0, 0)).2
theorem gk_b (s : SG) (fs : List (Int × Int)) : ∀ i, (gk s fs i).b = s.b ∧ (gk s fs i).file = s.file ∧ (gk s fs i).cond = s.cond ∧ (gk s fs i).base = s.base ∧ (gk s fs i).num = s.num ∧ (gk s fs i).hs = s.hs ∧ (gk s fs i).next = s.next + (i : Int)
 | 0 => ⟨rfl, rfl, rfl, rfl, rfl, rfl, by simp [gk]⟩
 | i + 1 => by
  obtain ⟨a, b, c, d, e, f, g⟩ := gk_b s fs i
  refine ⟨a, b, c, d, e, f, ?_⟩
  show (gk s fs i).next + 1 = _
  rw [g]
  omega
theorem gk_size (s : SG) (fs : List (Int × Int)) (hz : ∀ f ∈ fs, 0 ≤ f.1 ∧ f.1 ≤ 4112) : ∀ i, s.size ≤ (gk s fs i).size ∧ (gk s fs i).size ≤ s.size + (i : Int) * 4112
 | 0 => ⟨by simp [gk], by simp [gk]⟩
 | i + 1 => by
  obtain ⟨a, b⟩ := gk_size s fs hz i
  have h1 : 0 ≤ (fs.getD i (0, 0)).1 ∧ (fs.getD i (0, 0)).1 ≤ 4112 := by
   by_cases hi : i < fs.length
   ·have := hz (fs[i]) (List.getElem_mem hi)
    simpa [hi] using this
   ·have : fs.getD i (0, 0) = (0, 0) := by simp [List.getD, List.getElem?_eq_none (show fs.length ≤ i by omega)]
    rw [this]; decide
  have e : (gk s fs (i + 1)).size = (gk s fs i).size + (fs.getD i (0, 0)).1 := rfl
  rw [e]
  omega
theorem gk_ok {s : SG} (ok : SOk s) (fs : List (Int × Int)) (hz : ∀ f ∈ fs, 0 ≤ f.1 ∧ f.1 ≤ 4112) (he : ∀ f ∈ fs, 0 ≤ f.2 ∧ f.2 < 4294967296) (hn : s.next + (fs.length : Int) ≤ 9223372036854775807) (hs : s.size + (fs.length : Int) * 4112 ≤ 2147483647) (hl : s.sd.length + fs.length ≤ 1000000000) : ∀ i, i ≤ fs.length → SOk (gk s fs i) ∧ (gk s fs i).sd.length ≤ s.sd.length + i
 | 0, _ => ⟨ok, by simp [gk]⟩
 | i + 1, hi => by
  obtain ⟨o, l⟩ := gk_ok ok fs hz he hn hs hl i (by omega)
  obtain ⟨a, b, c, d, e, f, g⟩ := gk_b s fs i
  obtain ⟨g1, g2⟩ := gk_size s fs hz (i + 1)
  obtain ⟨g3, g4⟩ := gk_size s fs hz i
  have hlen : ((gk s fs (i + 1)).sd).length ≤ (gk s fs i).sd.length + 1 := by
   show (if _ then sput _ _ _ else _).length ≤ _
   split
   ·exact sput_len _ _ _
   ·omega
  have hmem : fs.getD i (0, 0) ∈ fs := by simp [List.getD, show i < fs.length by omega]
  have h2 := he _ hmem
  have hsd2 : ∀ p ∈ (gk s fs (i + 1)).sd, 0 ≤ p.2 ∧ p.2 < 4294967296 := fun p hp => by
   change p ∈ (if _ then sput _ _ _ else _) at hp
   split at hp
   ·rcases sput_mem hp with rfl | hp
    ·exact o.e
    ·exact o.d p hp
   ·exact o.d p hp
  refine ⟨⟨o.x.add _ _ (by rw [g]; omega), ?_, ?_, ?_, ?_, ?_, h2, hsd2⟩, by omega⟩
  ·show 1 ≤ (gk s fs i).next + 1
   have := o.n1; omega
  ·show (gk s fs i).next + 1 ≤ _
   rw [g]; omega
  ·have := ok.z1; omega
  ·omega
  ·omega
theorem wk_fs (seed : Crc.R) (n : Int) (ls : List (List UInt8)) : ∀ i, ∀ f ∈ (wk seed n ls i).2.1, (0 ≤ f.1 ∧ f.1 ≤ 4112) ∧ (0 ≤ f.2 ∧ f.2 < 4294967296)
 | 0 => fun f hf => by simp [wk] at hf
 | i + 1 => fun f hf => by
  rw [wk] at hf
  simp only [List.mem_append, List.mem_singleton] at hf
  rcases hf with hf | rfl
  ·exact wk_fs seed n ls i f hf
  ·have h1 := wr_len (wk seed n ls i).2.2 (n + (i : Int)) (ls.getD i [])
   have h2 := (wrF (wk seed n ls i).2.2 (n + (i : Int)) (ls.getD i [])).2.1.isLt
   refine ⟨⟨by simp only; omega, by simp only; omega⟩, by simp only; omega, by simp only; omega⟩
def putF (s : SG) (S : DS) (seed : Crc.R) (ls : List (List UInt8)) : (SG × DS) × Int × Int :=
 if refF s ls ≠ 0 then ((s, S), 0, refF s ls)
 else if (S.append s.file (wk seed s.next ls ls.length).1).2.2 ≠ 0 then (({ s with cond := 2 }, (S.append s.file (wk seed s.next ls ls.length).1).1), 0, (S.append s.file (wk seed s.next ls ls.length).1).2.2)
 else ((gk s (wk seed s.next ls ls.length).2.1 ls.length, (S.append s.file (wk seed s.next ls ls.length).1).1), s.next, 0)
theorem ref_zero {s : SG} {ls : List (List UInt8)} (h : refF s ls = 0) : s.cond = 0 ∧ s.next + (ls.length : Int) ≤ 9223372036854775807 := by
 unfold refF at h
 split at h
 ·omega
 ·split at h
  ·omega
  ·split at h
   ·omega
   ·split at h
    ·omega
    ·refine ⟨by omega, by omega⟩
structure Sst (w w' : World) (sb xb mb : Nat) (v v' : Value) (O O' : Nat → Prop) : Prop where
 but : But (fun k => SOwn sb xb mb v k ∨ O k) w w'
 v : ∀ k, v'.ownBlock = some k → v.ownBlock = some k ∨ w.heap.size ≤ k
 o : ∀ k, O' k → O k ∨ w.heap.size ≤ k
theorem Sst.below {w w' : World} {sb xb mb : Nat} {v : Value} {O : Nat → Prop} (h : Below w.heap.size w w') : Sst w w' sb xb mb v v O O := ⟨But.of_below h _, fun _ h => .inl h, fun _ h => .inl h⟩
theorem Sst.trans {w u w' : World} {sb xb mb : Nat} {v v1 v2 : Value} {O O1 O2 : Nat → Prop} (h : Sst w u sb xb mb v v1 O O1) (k : Sst u w' sb xb mb v1 v2 O1 O2) : Sst w w' sb xb mb v v2 O O2 := by
 refine ⟨⟨k.but.os.trans h.but.os, k.but.tape.trans h.but.tape, k.but.output.trans h.but.output, Nat.le_trans h.but.size k.but.size, fun i hi hx => ?_⟩, fun i hi => ?_, fun i hi => ?_⟩
 ·rw [k.but.block i (Nat.lt_of_lt_of_le hi h.but.size) (fun c => ?_)]
  ·exact h.but.block i hi hx
  ·rcases c with (c | c | c | c) | c
   ·exact hx (.inl (.inl c))
   ·exact hx (.inl (.inr (.inl c)))
   ·exact hx (.inl (.inr (.inr (.inl c))))
   ·rcases h.v i c with q | q
    ·exact hx (.inl (.inr (.inr (.inr q))))
    ·omega
   ·rcases h.o i c with q | q
    ·exact hx (.inr q)
    ·omega
 ·rcases k.v i hi with q | q
  ·exact h.v i q
  ·exact .inr (Nat.le_trans h.but.size q)
 ·rcases k.o i hi with q | q
  ·exact h.o i q
  ·exact .inr (Nat.le_trans h.but.size q)
theorem SW.grow {w : World} {sb : Nat} {s : SG} {S : DS} {O : Nat → Prop} {xb mb : Nat} {v : Value} (h : SW w sb s S O xb mb v) (ok : SOk s) (z sum : Int) (hn : s.next ≤ 9223372036854775806) (hz : 0 ≤ z) (hz2 : s.size + z ≤ 2147483647) :
    Calls Try.prog 37 #[.pointer (some ⟨sb, 0, none⟩), .int .i64 z, .int .u32 sum] w fun e w' => e = .returned (.tuple #[]) ∧ ∃ v', SW w' sb (s.grown z sum) S O xb mb v' ∧ Sst w w' sb xb mb v v' O O := by
 refine (grow_any h.sg ok z sum hn hz hz2).mono ?_
 rintro e w' ⟨rfl, v', g, b, o⟩
 refine ⟨rfl, v', ⟨g, h.dk.but b (fun k hk c => h.ap k c hk), fun k hk c => ?_⟩, b.mono fun k _ hk => .inl hk, o, fun k hk => .inl hk⟩
 rcases hk with hk | hk | hk | hk
 ·exact h.ap k (.inl hk) c
 ·exact h.ap k (.inr (.inl hk)) c
 ·exact h.ap k (.inr (.inr (.inl hk))) c
 ·rcases o k hk with q | q
  ·exact h.ap k (.inr (.inr (.inr q))) c
  ·have := h.dk.lt k c; omega
theorem ob_off {B : Nat} {w : World} {v : Value} {l : List UInt8} {O : Nat → Prop} (h : Ob B w v l) (hO : ∀ k, O k → k < B) : SOff O v := by
 intro b off n c e hn ho
 rcases h.2 with ⟨rfl, _⟩ | ⟨g, cap, cur, rfl, hg, hh, r⟩
 ·simp at e
 ·simp at e
  obtain ⟨⟨rfl, _⟩, _⟩ := e
  have := hO _ ho
  omega
theorem putS_any {w : World} {sb : Nat} {s : SG} {S : DS} {O : Nat → Prop} {xb mb : Nat} {v : Value} (h : SW w sb s S O xb mb v) (ok : SOk s) (seed : Crc.R) (hsd : s.seed = (seed.toNat : Int)) (vd : Value) (vs : List Value) (ls : List (List UInt8)) (hr : Row w vd vs) (hs : Sls w vs ls) (hl : ls.length ≤ 34000000000) (hz : s.size + (ls.length : Int) * 4112 ≤ 2147483647) (hl2 : s.sd.length + ls.length ≤ 1000000000) (hf : s.file.size ≤ maxLen) (hc : S.c7 < 900000000) :
    Calls Try.prog 8 #[.pointer (some ⟨sb, 0, none⟩), vd] w fun e w' => e = .returned (.tuple #[.int .i64 (putF s S seed ls).2.1, .int .i64 (putF s S seed ls).2.2]) ∧ ∃ v' O', SW w' sb (putF s S seed ls).1.1 (putF s S seed ls).1.2 O' xb mb v' ∧ Sst w w' sb xb mb v v' O O' := by
 have B1 := box_below w (.cells #[.pointer (some ⟨sb, 0, none⟩)] 26)
 have N1 : Bx1 _ w.heap.size 26 (.pointer (some ⟨sb, 0, none⟩)) := heap_alloc_new w (.cells #[.pointer (some ⟨sb, 0, none⟩)] 26)
 have hO := h.dk.lt
 have hOs := h.sg.lt
 have H1 := h.below B1
 have hRf := hide (refuse_any H1.sg ok vd vs ls (Below.row B1 hr) (Below.sls B1 hs))
 have hRow := hide (Below.row B1 hr)
 have hSls := hide (Below.sls B1 hs)
 obtain ⟨w1, hw1⟩ : ∃ w1, Hid (w.alloc (.cells #[.pointer (some ⟨sb, 0, none⟩)] 26) = w1) := ⟨_, rfl⟩
 rw [hw1.out] at B1 N1 H1 hRf hRow hSls
 have hz1 : w1.heap.size = w.heap.size + 1 := by rw [← hw1.out]; simp
 have c1 := N1.cell
 have ST : Hid (SW w1 sb s S O xb mb v ∧ Bx1 w1 w.heap.size 26 (.pointer (some ⟨sb, 0, none⟩)) ∧ Below w.heap.size w w1 ∧ (∀ k, O k → k < w.heap.size) ∧ (∀ k, SOwn sb xb mb v k → k < w.heap.size)) := hide ⟨H1, N1, B1, hO, hOs⟩
 obtain ⟨PF, hPF⟩ : ∃ PF, Hid (putF s S seed ls = PF) := ⟨_, rfl⟩
 rw [hPF.out]
 clear B1 N1 H1 h hr hs hO hOs
 obtain ⟨ao, ca, hvd⟩ : ∃ a c, vd = .slice a vs.length c := by
  obtain ⟨a, c, e, _⟩ := hRow.out
  exact ⟨a, c, e⟩
 subst hvd
 generalize vs.length = VL at *
 by_cases hrf : refF s ls = 0
 rotate_left
 ·have kr : (refF s ls != 0) = true := by simp [hrf]
  have hE : Hid (((s, S), 0, refF s ls) = PF) := hide (by rw [← hPF.out]; unfold putF; rw [if_pos hrf])
  rw [← hE.out]
  clear hE hPF
  replace hrf := hide hrf
  generalize refF s ls = R at *
  go_enter Try.func8, Try.ntmps8
  go_upto_region 1 with fail
  rw [hw1.out]
  go_wp2_with (first | (go_at_call 33; refine hRf.out.mono ?_; rintro e w2 ⟨rfl, e1⟩; rw [e1]; clear e1 w2) | fail)
  go_ret2
  exact ⟨rfl, v, O, ST.out.1, Sst.below ST.out.2.2.1⟩
 have hPF2 : Hid ((if (S.append s.file (wk seed s.next ls ls.length).1).2.2 ≠ 0 then (({ s with cond := 2 }, (S.append s.file (wk seed s.next ls ls.length).1).1), 0, (S.append s.file (wk seed s.next ls ls.length).1).2.2)
  else ((gk s (wk seed s.next ls ls.length).2.1 ls.length, (S.append s.file (wk seed s.next ls ls.length).1).1), s.next, 0)) = PF) := hide (by rw [← hPF.out]; unfold putF; rw [if_neg (show ¬ refF s ls ≠ 0 by omega)])
 obtain ⟨hcd, hnx⟩ := ref_zero hrf
 rw [hrf] at hRf
 have hWr := hide (writeS_any ST.out.1.sg ok seed hsd _ vs ls hRow.out hSls.out hl hnx)
 have hfl := hide (wk_len seed s.next ls ls.length)
 have hfs := hide (wk_fs seed s.next ls ls.length)
 obtain ⟨Wk, hWk⟩ : ∃ Wk, Hid (wk seed s.next ls ls.length = Wk) := ⟨_, rfl⟩
 rw [hWk.out] at hWr hfl hfs hPF2
 obtain ⟨D, fs, sum⟩ := Wk
 simp only at hWr hfl hfs hPF2
 obtain ⟨AP, hAP⟩ : ∃ AP, Hid (S.append s.file D = AP) := ⟨_, rfl⟩
 rw [hAP.out] at hPF2
 obtain ⟨S', r1, r2⟩ := AP
 simp only at hPF2
 clear hRow hSls hPF
 go_enter Try.func8, Try.ntmps8
 go_upto_region 1 with fail
 rw [hw1.out]
 go_upto_region 4 with (first | (go_at_call 33; refine hRf.out.mono ?_; rintro e w2 ⟨rfl, e1⟩; rw [e1]; clear e1 w2) | fail)
 generalize hpa : w.heap.size = pA at *
 replace hpa := hide hpa
 go_wp2_with fail
 go_at_call 34
 refine hWr.out.mono ?_
 rintro e w2 ⟨v1, v2, rfl, Ob1, Fr1, b2⟩
 obtain ⟨a1, a2, a3, a4, a5⟩ := ST.out
 obtain ⟨ba, bn, bc, hv1⟩ : ∃ a n c, v1 = .slice a n c := by
  rcases Ob1.2 with ⟨rfl, _⟩ | ⟨_, _, _, rfl, _⟩
  ·exact ⟨_, _, _, rfl⟩
  ·exact ⟨_, _, _, rfl⟩
 subst hv1
 have hsz1 : w1.heap.size = pA + 1 := hz1
 have B3 := box_below w2 (.cells #[.slice ba bn bc] 40)
 have N3 : Bx1 _ w2.heap.size 40 (.slice ba bn bc) := heap_alloc_new w2 (.cells #[.slice ba bn bc] 40)
 have T2 := a1.below b2
 have A2 := a2.below b2
 have hOff : SOff O (.slice ba bn bc) := ob_off Ob1 (fun k hk => by have := a4 k hk; omega)
 have hSb := Sl.of_owns Ob1
 have n2 : ¬ O pA := fun c => by have := a4 _ c; omega
 have hw2s : pA + 1 ≤ w2.heap.size := by have := b2.size; omega
 have n7 : ¬ O w2.heap.size := fun c => by have := a4 _ c; omega
 obtain ⟨w3, hw3⟩ : ∃ w3, Hid (w2.alloc (.cells #[.slice ba bn bc] 40) = w3) := ⟨_, rfl⟩
 obtain ⟨p7, hp7⟩ : ∃ p7, Hid (w2.heap.size = p7) := ⟨_, rfl⟩
 rw [hw3.out] at B3 N3
 rw [hp7.out] at N3 n7
 have T3 := T2.below B3
 have A3 := A2.below B3
 have hSb3 := Below.sl B3 hSb
 have Fr3 : Frs w1.heap.size w3 v2 fs := Fr1.but (But.of_below B3 fun _ => False) (fun _ _ c => c)
 have hAt := hide (attempt_put (S' := S') (r := r2) T3 (p2 := pA) (p7 := p7) (fun u hu => by
  have := put1_any (T3.below hu) (A3.below hu) (N3.below hu) (Below.sl hu hSb3) hOff n2 n7 hf hc
  rwa [hAP.out] at this))
 have B13 : Below pA w w3 := by
  have e1 : Below w1.heap.size w1 w3 := keepF b2 B3
  exact a3.trans (e1.mono (by omega))
 have ST3 : Hid (SW w3 sb s S O xb mb v ∧ Bx1 w3 pA 26 (.pointer (some ⟨sb, 0, none⟩)) ∧ Below pA w w3 ∧ Frs (pA + 1) w3 v2 fs ∧ (∀ k, O k → k < pA) ∧ (∀ k, SOwn sb xb mb v k → k < pA)) := hide ⟨T3, A3, B13, by rw [hsz1] at Fr3; exact Fr3, a4, a5⟩
 have cA := A3.cell
 have hmf : ∀ (fn : Fn) (first cap : Array Value) (w : World), (Instr.makeFunc fn first cap).run Try.prog w = .ok (.func fn first cap) w := fun _ _ _ _ => rfl
 obtain ⟨fa, fn, fc, hv2⟩ : ∃ a n c, v2 = .slice a n c := by
  rcases Fr1.2 with ⟨rfl, _⟩ | ⟨_, _, _, rfl, _⟩
  ·exact ⟨_, _, _, rfl⟩
  ·exact ⟨_, _, _, rfl⟩
 subst hv2
 have hfn : fn = fs.length := by
  rcases Fr1.2 with ⟨e, e2⟩ | ⟨_, _, _, e, _⟩
  ·simp at e; omega
  ·simp at e; omega
 have hN : Hid (fs.length = fn) := hide hfn.symm
 clear hfn
 clear a1 a2 a3 T2 A2 Ob1 Fr1 b2 B3 N3 T3 A3 hSb hSb3 Fr3 hOff ST hWr hRf c1 B13
 go_upto_region 5 with fail
 rw [hw3.out, hp7.out]
 go_wp2_with fail
 go_at_call 35
 refine hAt.out.mono ?_
 rintro e w4 ⟨rfl, O4, T4, b4, o4⟩
 obtain ⟨z1, z2, z3, z4, z5, z6⟩ := ST3.out
 have nA : ¬ (SOwn sb xb mb v pA ∨ O pA) := fun c => by
  rcases c with c | c
  ·have := z6 _ c; omega
  ·have := z5 _ c; omega
 have A4 := z2.but b4 nA
 have S34 : Sst w w4 sb xb mb v v O O4 := by
  have e1 : Below w.heap.size w w3 := by rw [hpa.out]; exact z3
  exact (Sst.below e1).trans ⟨b4, fun _ h => .inl h, o4⟩
 by_cases hr2 : r2 = 0
 rotate_left
 ·rw [if_pos hr2] at hPF2
  rw [if_neg hr2] at T4
  have kr : (r2 != 0) = true := by simp [hr2]
  have T4' := hide T4
  have S4' := hide S34
  replace hr2 := hide hr2
  clear T4 b4 o4 S34
  go_wp2_with fail
  go_ret2
  rw [← hPF2.out]
  exact ⟨rfl, v, O4, T4'.out, S4'.out⟩
 ·rw [if_neg (by simp [hr2])] at hPF2
  rw [if_pos hr2] at T4
  subst hr2
  have F4 : Frs (pA + 1) w4 (.slice fa fn fc) fs := z4.but b4 (fun k hk c => by
   have := (World.ownsRow.lt z4 k hk).1
   rcases c with c | c
   ·have := z6 _ c; omega
   ·have := z5 _ c; omega)
  have hls : fs.length = ls.length := hfl.out.2
  have okI := hide (gk_ok ok fs (fun f hf => (hfs.out f hf).1) (fun f hf => (hfs.out f hf).2) (by rw [hls]; exact hnx) (by rw [hls]; exact hz) (by rw [hls]; exact hl2))
  have szI := hide (gk_size s fs (fun f hf => (hfs.out f hf).1))
  rw [hN.out] at hls okI
  rw [← hls] at hPF2
  have hN63 : fn ≤ 34000000000 := by omega
  have hsz4 : pA + 1 ≤ w4.heap.size := by have := A4.lt; omega
  have LT : Hid (SW w4 sb (gk s fs 0) S' O4 xb mb v ∧ Bx1 w4 pA 26 (.pointer (some ⟨sb, 0, none⟩)) ∧ Frs (pA + 1) w4 (.slice fa fn fc) fs ∧ Sst w w4 sb xb mb v v O O4 ∧ (∀ k, SOwn sb xb mb v k → k < pA) ∧ Sst w4 w4 sb xb mb v v O4 O4) := hide ⟨T4, A4, F4, S34, z6, Sst.below (Below.refl _ _)⟩
  have OB : Hid (∀ k, O4 k → k < pA ∨ w3.heap.size ≤ k) := hide fun k hk => (o4 k hk).imp (z5 k) id
  have GB : Hid (∀ k, (Value.slice fa fn fc).ownBlock = some k → k < w3.heap.size) := hide fun k hk => (World.ownsRow.lt z4 k hk).2
  have PB : Hid (pA < w3.heap.size ∧ w3.heap.size ≤ w4.heap.size) := hide ⟨z2.lt, b4.size⟩
  have cA4 := A4.cell
  obtain ⟨y0, y1, y2, y3, y4, y5, y6, y7, y8, y9, y10⟩ := T4.sg.cells
  simp only at y5
  clear z1 z2 z3 z4 z5 T4 A4 F4 S34 b4 o4 ST3 hAt cA
  have hls' := hide hls
  clear hls
  go_wp2_with fail
  go_loopw [37] (fun v37 wr => ∃ i : Nat, ∃ vi : Value, i ≤ fn ∧ v37 = .int .i64 (i : Int) ∧ Hid (SW wr sb (gk s fs i) S' O4 xb mb vi ∧ Bx1 wr pA 26 (.pointer (some ⟨sb, 0, none⟩)) ∧ Frs (pA + 1) wr (.slice fa fn fc) fs ∧ Sst w wr sb xb mb v vi O O4 ∧ Sst w4 wr sb xb mb v vi O4 O4)) (fun v _ => fn - (intOf v).toNat)
  case atStart => exact ⟨0, v, by omega, rfl, LT.out.1, LT.out.2.1, LT.out.2.2.1, LT.out.2.2.2.1, LT.out.2.2.2.2.2⟩
  case round =>
   obtain ⟨i, vi, hi, rfl, QQ⟩ := hrel
   obtain ⟨q1, q2, q3, q4, q5⟩ := QQ.out
   by_cases hin : i = fn
   ·have e1 := hide (show ((gk s fs fn, S'), s.next, (0 : Int)) = PF from hPF2.out)
    have T9 : Hid (SW wr sb (gk s fs fn) S' O4 xb mb vi) := hide (by rw [← hin]; exact q1)
    have S9 := hide q4
    replace hin := hide hin
    clear q1 q2 q3 q4 q5 QQ cA4 y0 y1 y2 y3 y4 y5 y6 y7 y8 y9 y10
    have i1 : ¬ ((i : Int) < (fn : Int)) := by have := hin.out; omega
    go_wp2_with fail
    go_ret2
    rw [← e1.out]
    exact ⟨rfl, vi, O4, T9.out, S9.out⟩
   ·have hil : i < fn := by omega
    have i1 : (i : Int) < (fn : Int) := by omega
    have i0 : (0 : Int) ≤ (i : Int) := by omega
    obtain ⟨g, gc, eg, cells, _, _, hglt, hgB⟩ := q3.at (fun c => by rw [c] at hN; have := hN.out; simp at this; omega)
    simp only [Value.slice.injEq] at eg
    obtain ⟨rfl, hq9, rfl⟩ := eg
    clear hq9
    obtain ⟨d0, d1⟩ := cells i (by rw [hN.out]; exact hil)
    have hmem : fs.getD i (0, 0) ∈ fs := by simp [List.getD, show i < fs.length by rw [hN.out]; exact hil]
    have hfz := (hfs.out _ hmem).1
    obtain ⟨okk, _⟩ := okI.out i (by omega)
    obtain ⟨_, sz2⟩ := szI.out i
    obtain ⟨_, sz3⟩ := szI.out (i + 1)
    have hst : gk s fs (i + 1) = (gk s fs i).grown (fs.getD i (0, 0)).1 (fs.getD i (0, 0)).2 := rfl
    have hnxi : (gk s fs i).next = s.next + (i : Int) := (gk_b s fs i).2.2.2.2.2.2
    have hszi : (gk s fs (i + 1)).size = (gk s fs i).size + (fs.getD i (0, 0)).1 := rfl
    rw [hszi] at sz3
    obtain ⟨⟨fz, fm⟩, hfe⟩ : ∃ f, Hid (fs.getD i (0, 0) = f) := ⟨_, rfl⟩
    rw [hfe.out] at d0 d1 hfz hst sz3
    simp only at d0 d1 hfz hst sz3
    have hzz : s.size + (fn : Int) * 4112 ≤ 2147483647 := by have := hls'.out; rw [this]; exact hz
    have hnn : s.next + (fn : Int) ≤ 9223372036854775807 := by have := hls'.out; rw [this]; exact hnx
    have B5 := box_below wr (.cells #[.int .i64 fz, .int .u32 fm] 95)
    have T5 := q1.below B5
    have A5 := q2.below B5
    have F5 : Frs (pA + 1) _ (.slice (some ⟨g, 0, none⟩) fn fc) fs := q3.but (But.of_below B5 fun _ => False) (fun _ _ c => c)
    have hGr := hide (T5.grow okk fz fm (by rw [hnxi]; omega) hfz.1 (by omega))
    have cA5 := A5.cell
    have ST5 : Hid (Bx1 (wr.alloc (.cells #[.int .i64 fz, .int .u32 fm] 95)) pA 26 (.pointer (some ⟨sb, 0, none⟩)) ∧ Frs (pA + 1) (wr.alloc (.cells #[.int .i64 fz, .int .u32 fm] 95)) (.slice (some ⟨g, 0, none⟩) fn fc) fs ∧ Sst w (wr.alloc (.cells #[.int .i64 fz, .int .u32 fm] 95)) sb xb mb v vi O O4 ∧ Sst w4 (wr.alloc (.cells #[.int .i64 fz, .int .u32 fm] 95)) sb xb mb v vi O4 O4) := hide ⟨A5, F5, q4.trans (Sst.below B5), q5.trans (Sst.below B5)⟩
    have hg4 : Hid (g < w4.heap.size) := hide (by
     obtain ⟨_, _, e, _, _, _, l, _⟩ := LT.out.2.2.1.at (fun c => by rw [c] at hN; have := hN.out; simp at this; omega)
     simp only [Value.slice.injEq, Option.some.injEq, Addr.mk.injEq] at e
     obtain ⟨⟨rfl, _⟩, _⟩ := e
     exact l)
    rw [← hst] at hGr
    clear q1 q2 q3 q4 q5 QQ cA4 y0 y1 y2 y3 y4 y5 y6 y7 y8 y9 y10 cells T5 A5 F5 B5 hst hszi hmem sz2 sz3
    have off1 : (i : Int) * 2 = ((i * 2 : Nat) : Int) := by omega
    go_wp2_with fail
    go_at_call 37
    refine hGr.out.mono ?_
    rintro e w6 ⟨rfl, v6, T6, S6⟩
    obtain ⟨r1', r2', r3', r4'⟩ := ST5.out
    have nS : ∀ k, (SOwn sb xb mb vi k ∨ O4 k) → k < pA ∨ w4.heap.size ≤ k ∨ O4 k := fun k hk => by
     rcases hk with (c | c | c | c) | c
     ·exact .inl (LT.out.2.2.2.2.1 k (.inl c))
     ·exact .inl (LT.out.2.2.2.2.1 k (.inr (.inl c)))
     ·exact .inl (LT.out.2.2.2.2.1 k (.inr (.inr (.inl c))))
     ·rcases r4'.v k c with q | q
      ·exact .inl (LT.out.2.2.2.2.1 k (.inr (.inr (.inr q))))
      ·exact .inr (.inl q)
     ·exact .inr (.inr c)
    have FIN : Hid (SW w6 sb (gk s fs (i + 1)) S' O4 xb mb v6 ∧ Bx1 w6 pA 26 (.pointer (some ⟨sb, 0, none⟩)) ∧ Frs (pA + 1) w6 (.slice (some ⟨g, 0, none⟩) fn fc) fs ∧ Sst w w6 sb xb mb v v6 O O4 ∧ Sst w4 w6 sb xb mb v v6 O4 O4) := hide (by
     refine ⟨T6, r1'.but S6.but (fun c => ?_), r2'.but S6.but (fun k hk c => ?_), r3'.trans S6, r4'.trans S6⟩
     ·have := PB.out
      rcases nS _ c with q | q | q
      ·omega
      ·omega
      ·rcases OB.out _ q with q | q <;> omega
     ·have h1 := GB.out k hk
      have h2 := PB.out
      have h3 := (World.ownsRow.lt r2' k hk).1
      rcases nS _ c with q | q | q
      ·omega
      ·omega
      ·rcases OB.out _ q with q | q <;> omega)
    clear T6 S6 r1' r2' r3' r4' nS ST5 hGr
    go_wp2_with fail
    go_roundw
    case rel => exact ⟨i + 1, v6, by omega, by go_num, FIN.out⟩
    case measure => simp [intOf]; omega
end Go.Proofs.Ytbmnjaaacodgdaa.Sg
namespace Go.Proofs.Ytbmnjaaacodgdaa
open Go.RowKit
end Go.Proofs.Ytbmnjaaacodgdaa
namespace Go.Proofs.Ytbmnjaaacodgdaa.Crc
open Go.RowKit
end Go.Proofs.Ytbmnjaaacodgdaa.Crc
namespace Go.Proofs.Ytbmnjaaacodgdaa
open Go.RowKit
def ttl : List UInt8 := [70, 76, 85, 77, 69, 76, 79, 71]
def hfs (nm bs : Nat) (seed : Crc.R) : List UInt8 := ttl ++ (fx 8 nm ++ (fx 8 bs ++ fx 4 seed.toNat))
def hsum (nm bs : Nat) (seed : Crc.R) : Crc.R := Crc.more 0#32 (hfs nm bs seed)
def hed (nm bs : Nat) (seed : Crc.R) : List UInt8 := hfs nm bs seed ++ fmark (hsum nm bs seed)
theorem hfs_len (nm bs : Nat) (seed : Crc.R) : (hfs nm bs seed).length = 28 := by simp [hfs, ttl, fx_len]
theorem hed_len (nm bs : Nat) (seed : Crc.R) : (hed nm bs seed).length = 32 := by simp [hed, hfs_len, fmark_len]
theorem three_cells {w : World} {b : Nat} {a0 a1 a2 : Value} {T : TypeId} (h : w.heap[b]? = some (.cells #[a0, a1, a2] T (0, 0))) : w.cell? ⟨b, 0, none⟩ = some a0 ∧ w.cell? ⟨b, 1, none⟩ = some a1 ∧ w.cell? ⟨b, 2, none⟩ = some a2 ∧ w.frozen? ⟨b, 0, none⟩ = false ∧ w.frozen? ⟨b, 1, none⟩ = false ∧ w.frozen? ⟨b, 2, none⟩ = false := by
 simp [World.cell?, World.frozen?, h]
def whF (nm bs : Int) (seed : Crc.R) : List UInt8 × Crc.R × Int :=
 if nm < 1 ∨ bs < 1 then ([], 0#32, 1) else (hed nm.toNat bs.toNat seed, hsum nm.toNat bs.toNat seed, 0)
def DoesWH (f : Nat) : Prop := ∀ (w : World) (nm bs : Int) (seed : Crc.R), -9223372036854775808 ≤ nm → nm ≤ 9223372036854775807 → -9223372036854775808 ≤ bs → bs ≤ 9223372036854775807 →
 Calls Try.prog f #[.agg #[.int .i64 nm, .int .i64 bs, .int .u32 (seed.toNat : Int)]] w fun e w' => ∃ v', e = .returned (.tuple #[v', .int .u32 ((whF nm bs seed).2.1.toNat : Int), .int .i64 (whF nm bs seed).2.2]) ∧ w'.ownsRow w.heap.size 5 1 v' (whF nm bs seed).1.length (bvals (whF nm bs seed).1) ∧ Below w.heap.size w w'
theorem mayBe_any (w : World) (nm bs : Int) (seed : Crc.R) :
    Calls Try.prog 62 #[.agg #[.int .i64 nm, .int .i64 bs, .int .u32 (seed.toNat : Int)]] w fun e w' => e = .returned (.bool (inB nm 9223372036854775807 && inB bs 9223372036854775807)) ∧ Below w.heap.size w w' := by
 cases h1 : inB nm 9223372036854775807 with
 | false =>
  replace h1 := hide h1
  go_enter Try.func62, Try.ntmps62
  go_wp2_with fail
  refine (within_any _ nm 9223372036854775807).mono ?_
  rintro e w0 ⟨rfl, hw⟩
  obtain rfl := hw.symm
  rw [h1.out]
  go_wp2_with fail
  go_ret
  exact ⟨rfl, box_below _ _⟩
 | true =>
  replace h1 := hide h1
  obtain ⟨B, hB⟩ : ∃ B, Hid (inB bs 9223372036854775807 = B) := ⟨_, rfl⟩
  rw [hB.out, Bool.true_and]
  go_enter Try.func62, Try.ntmps62
  go_wp2_with fail
  refine (within_any _ nm 9223372036854775807).mono ?_
  rintro e w0 ⟨rfl, hw⟩
  obtain rfl := hw.symm
  rw [h1.out]
  go_wp2_with fail
  refine (within_any _ bs 9223372036854775807).mono ?_
  rintro e w0 ⟨rfl, hw⟩
  obtain rfl := hw.symm
  rw [hB.out]
  go_wp2_with fail
  go_ret
  exact ⟨rfl, box_below _ _⟩
def frz (q : World) (b : Nat) : World := q.freeze ⟨b, 8, none⟩ 1
def tC : Array Value := #[.int .u8 70, .int .u8 76, .int .u8 85, .int .u8 77, .int .u8 69, .int .u8 76, .int .u8 79, .int .u8 71]
theorem frz_size (q : World) (b : Nat) : (frz q b).heap.size = q.heap.size := by
 unfold frz World.freeze
 rw [if_neg (by decide)]
 simp
theorem frz_other (q : World) (b k : Nat) (h : k ≠ b) : (frz q b).heap[k]? = q.heap[k]? := by
 unfold frz World.freeze
 rw [if_neg (by decide)]
 simp [Array.getElem?_modify, h.symm]
theorem frz_cell (q : World) (b : Nat) (a : Addr) : (frz q b).cell? a = q.cell? a := by
 by_cases h : a.block = b
 ·unfold frz World.freeze
  rw [if_neg (by decide)]
  simp only [World.cell?, Array.getElem?_modify, h, if_true]
  cases q.heap[b]? with
  | none => rfl
  | some o => cases o <;> rfl
 ·simp only [World.cell?, frz_other q b a.block h]
theorem frz_below {B b : Nat} {u q : World} (h : Below B u q) (hb : B ≤ b) : Below B u (frz q b) := by
 refine ⟨?_, ?_, ?_, ?_, fun k hk => ?_⟩
 ·unfold frz World.freeze; rw [if_neg (by decide)]; exact h.os
 ·unfold frz World.freeze; rw [if_neg (by decide)]; exact h.tape
 ·unfold frz World.freeze; rw [if_neg (by decide)]; exact h.output
 ·rw [frz_size]; exact h.size
 ·rw [frz_other q b k (by omega)]; exact h.block k hk
theorem Sl.frz {q : World} {b : Nat} {v : Value} {l : List UInt8} (h : Sl q v l) : Sl (frz q b) v l := by
 obtain ⟨ao, ca, e, g2, g3, g4, g5⟩ := h
 refine ⟨ao, ca, e, g2, g3, g4, fun i hi => ?_⟩
 obtain ⟨b', off, e1, hc⟩ := g5 i hi
 exact ⟨b', off, e1, by rw [frz_cell]; exact hc⟩
theorem conv_at {q : World} {b : Nat} (h : q.heap[b]? = some (.cells tC 5 (0, 0))) : (convert 40 40 (.slice (some ⟨b, 0, none⟩) 8 8)).run Try.prog q = .ok (.slice (some ⟨b, 0, none⟩) 8 8) (frz q b) := by
 have hsh : q.shape? b = some (5, 8) := by
  unfold World.shape?
  rw [h]; rfl
 simp [convert, run_underlying Try.underlying40, run_underlying Try.underlying5, markStringish, hsh]
 rfl
structure SlH (w : World) (v : Value) (l : List UInt8) : Prop where
 out : Sl w v l
theorem SlH.bel {w w' : World} {v : Value} {l : List UInt8} (hb : Below w.heap.size w w') (h : SlH w v l) : SlH w' v l := ⟨Below.sl hb h.out⟩
theorem SlH.dr {w : World} {v : Value} {l : List UInt8} (h : SlH w v l) : SlH w.drew v l := ⟨h.out⟩
def Mkd (q : World) (b : Nat) (q' : World) : Prop := (∀ B u, Below B u q → B ≤ b → Below B u q') ∧ ∀ v l, SlH q v l → SlH q' v l
theorem conv_ex {q : World} {b : Nat} (h : q.heap[b]? = some (.cells tC 5 (0, 0))) : ∃ q', (convert 40 40 (.slice (some ⟨b, 0, none⟩) 8 8)).run Try.prog q = .ok (.slice (some ⟨b, 0, none⟩) 8 8) q' ∧ Hid (Mkd q b q') :=
 ⟨frz q b, conv_at h, fun _ _ a b => frz_below a b, fun _ _ a => ⟨a.out.frz⟩⟩
theorem conv1 {W u : World} (h : Below (W.alloc (.cells tC 5)).heap.size (W.alloc (.cells tC 5)) u) : u.heap[W.heap.size]? = some (.cells tC 5 (0, 0)) := by
 rw [h.block W.heap.size (by simp)]; exact heap_alloc_new _ _
theorem conv1d {W u : World} (h : Below (W.alloc (.cells tC 5)).drew.heap.size (W.alloc (.cells tC 5)).drew u) : u.heap[W.heap.size]? = some (.cells tC 5 (0, 0)) := by
 rw [h.block W.heap.size (by simp)]; exact heap_alloc_new _ _
theorem conv2 {u v : World} {b : Nat} (h : u.heap[b]? = some (.cells tC 5 (0, 0))) (hb : Below u.heap.size u v) : v.heap[b]? = some (.cells tC 5 (0, 0)) := by
 rw [hb.block b (heap_lt h)]; exact h
theorem sl_tC (W : World) : SlH (W.alloc (.cells tC 5)) (.slice (some ⟨W.heap.size, 0, none⟩) 8 8) ttl := ⟨sl_lit W ttl 5 (by decide) _ rfl⟩
theorem sl_tCm (W : World) (fr : Nat × Nat) : SlH (W.alloc (.cells tC 5 fr)) (.slice (some ⟨W.heap.size, 0, none⟩) 8 8) ttl := ⟨sl_lit_mark W ttl 5 fr (by decide) _ rfl⟩
theorem concat4 (lo : Nat) (X : World) (hlo : lo ≤ X.heap.size) (g : Nat) (hg : g = X.heap.size) (v1 v2 v3 v4 : Value) (l1 l2 l3 l4 : List UInt8) (h1 : SlH X v1 l1) (h2 : SlH X v2 l2) (h3 : SlH X v3 l3) (h4 : SlH X v4 l4) (hl : l1.length + l2.length + l3.length + l4.length ≤ 4096) :
    Calls Try.prog 65 #[.slice (some ⟨g, 0, none⟩) 4 4] (X.alloc (.cells #[v1, v2, v3, v4] 40)) fun e w' => ∃ v', e = .returned v' ∧ w'.ownsRow lo 5 1 v' (l1 ++ (l2 ++ (l3 ++ l4))).length (bvals (l1 ++ (l2 ++ (l3 ++ l4)))) ∧ Below X.heap.size X w' ∧ Below (X.alloc (.cells #[v1, v2, v3, v4] 40)).heap.size (X.alloc (.cells #[v1, v2, v3, v4] 40)) w' := by
 subst hg
 refine (concat_any (X.alloc (.cells #[v1, v2, v3, v4] 40)) _ [v1, v2, v3, v4] [l1, l2, l3, l4] (row_lit X [v1, v2, v3, v4] 40 (by show 4 ≤ maxLen; decide)) (Below.sls (box_below X _) (.cons h1.out (.cons h2.out (.cons h3.out (.cons h4.out (.nil _)))))) (by simp; omega)).mono ?_
 rintro e w' ⟨v', rfl, ho, hb⟩
 have e1 : [l1, l2, l3, l4].flatten = l1 ++ (l2 ++ (l3 ++ l4)) := by simp
 rw [e1] at ho
 exact ⟨v', rfl, owns_lower ho (by simp; omega), keepF (box_below X _) hb, hb⟩
theorem headFields_any (w : World) (nm bs : Int) (seed : Crc.R) (h0 : 1 ≤ nm) (h1 : nm ≤ 9223372036854775807) (h2 : 1 ≤ bs) (h3 : bs ≤ 9223372036854775807) :
    Calls Try.prog 63 #[.agg #[.int .i64 nm, .int .i64 bs, .int .u32 (seed.toNat : Int)]] w fun e w' => ∃ v', e = .returned v' ∧ w'.ownsRow w.heap.size 5 1 v' (hfs nm.toNat bs.toNat seed).length (bvals (hfs nm.toNat bs.toNat seed)) ∧ Below w.heap.size w w' := by
 have HS := hide (Crc.lt32 seed)
 obtain ⟨HH, hHH⟩ : ∃ HH, Hid (hfs nm.toNat bs.toNat seed = HH) := ⟨_, rfl⟩
 rw [hHH.out]
 obtain ⟨w1, hw1⟩ : ∃ w1, Hid (w.alloc (.cells #[.int .i64 nm, .int .i64 bs, .int .u32 (seed.toNat : Int)] 32) = w1) := ⟨_, rfl⟩
 have hb1 : Hid (Below w.heap.size w w1) := by rw [← hw1.out]; exact box_below _ _
 have hh1 : Hid (w1.heap[w.heap.size]? = some (.cells #[.int .i64 nm, .int .i64 bs, .int .u32 (seed.toNat : Int)] 32 (0, 0))) := by rw [← hw1.out]; exact heap_alloc_new _ _
 have kd := fun (w : World) (C : Array Value) (n c : Nat) => Lib.run_convert_bytes_const (P := Try.prog) w 40 5 C n c Try.underlying40 Try.underlying5
 have kc : ∀ (w : World) (C : Array Value) (n c : Nat), (convert 40 40 (.slice (some ⟨w.heap.size, 0, none⟩) n c)).run Try.prog (w.alloc (.cells C 5)).drew = .ok (.slice (some ⟨w.heap.size, 0, none⟩) n c) (w.alloc (.cells C 5 (C.size, C.size + 1))).drew := fun w C n c => Lib.run_convert_bytes_const (P := Try.prog) w.drew 40 5 C n c Try.underlying40 Try.underlying5
 have n1 : IntKind.u64.wrap nm = nm := by rw [IntKind.wrap_u64]; omega
 have n2 : IntKind.u64.wrap bs = bs := by rw [IntKind.wrap_u64]; omega
 go_enter Try.func63, Try.ntmps63
 go_wp2_with fail
 rw [hw1.out]
 have KS : Hid (∀ q : World, Below w1.heap.size w1 q → Below w1.heap.size w1 q ∧ q.cell? ⟨w.heap.size, 0, none⟩ = some (.int .i64 nm) ∧ q.cell? ⟨w.heap.size, 1, none⟩ = some (.int .i64 bs) ∧ q.cell? ⟨w.heap.size, 2, none⟩ = some (.int .u32 (seed.toNat : Int))) := fun q hb => by
  have hh : q.heap[w.heap.size]? = some (.cells #[.int .i64 nm, .int .i64 bs, .int .u32 (seed.toNat : Int)] 32 (0, 0)) := by rw [hb.block w.heap.size (heap_lt hh1.out)]; exact hh1.out
  obtain ⟨a, b, c, _⟩ := three_cells hh
  exact ⟨hb, a, b, c⟩
 have hS0 := KS.out w1.drew (Below.refl _ _).drew
 have F8 : Hid (∀ (q : World) (x : Int), 1 ≤ x → x ≤ 9223372036854775807 → Calls Try.prog 83 #[.int .u64 x] q fun e w' => ∃ ao ca, e = .returned (.slice ao 8 ca) ∧ SlH w' (.slice ao 8 ca) (fx 8 x.toNat) ∧ Below q.heap.size q w') := fun q x g0 g1 =>
  (fixed64_any q x (by omega) (by omega)).mono fun e w' ⟨v, a, b, c⟩ => by
   have s := Sl.of_owns b
   obtain ⟨ao, ca, rfl⟩ := s.form (fx_len _ _)
   exact ⟨ao, ca, a, ⟨s⟩, c⟩
 have F4 : Hid (∀ (q : World), Calls Try.prog 84 #[.int .u32 (seed.toNat : Int)] q fun e w' => ∃ ao ca, e = .returned (.slice ao 4 ca) ∧ SlH w' (.slice ao 4 ca) (fx 4 seed.toNat) ∧ Below q.heap.size q w') := fun q =>
  (fixed32_any q _ (by omega) (by have := HS.out; omega)).mono fun e w' ⟨v, a, b, c⟩ => by
   rw [Int.toNat_natCast] at b
   have s := Sl.of_owns b
   obtain ⟨ao, ca, rfl⟩ := s.form (fx_len _ _)
   exact ⟨ao, ca, a, ⟨s⟩, c⟩
 have BS : Hid (∀ q q' : World, (Below w1.heap.size w1 q ∧ q.cell? ⟨w.heap.size, 0, none⟩ = some (.int .i64 nm) ∧ q.cell? ⟨w.heap.size, 1, none⟩ = some (.int .i64 bs) ∧ q.cell? ⟨w.heap.size, 2, none⟩ = some (.int .u32 (seed.toNat : Int))) → Below q.heap.size q q' → Below w1.heap.size w1 q' ∧ q'.cell? ⟨w.heap.size, 0, none⟩ = some (.int .i64 nm) ∧ q'.cell? ⟨w.heap.size, 1, none⟩ = some (.int .i64 bs) ∧ q'.cell? ⟨w.heap.size, 2, none⟩ = some (.int .u32 (seed.toNat : Int))) := fun q q' h hb => KS.out q' (keepF h.1 hb)
 have BS2 : Hid (∀ q q' : World, Below q.heap.size q q' → (Below w1.heap.size w1 q ∧ q.cell? ⟨w.heap.size, 0, none⟩ = some (.int .i64 nm) ∧ q.cell? ⟨w.heap.size, 1, none⟩ = some (.int .i64 bs) ∧ q.cell? ⟨w.heap.size, 2, none⟩ = some (.int .u32 (seed.toNat : Int))) → Below w1.heap.size w1 q' ∧ q'.cell? ⟨w.heap.size, 0, none⟩ = some (.int .i64 nm) ∧ q'.cell? ⟨w.heap.size, 1, none⟩ = some (.int .i64 bs) ∧ q'.cell? ⟨w.heap.size, 2, none⟩ = some (.int .u32 (seed.toNat : Int))) := fun q q' hb h => KS.out q' (keepF h.1 hb)
 go_region_held (fun q => Below w1.heap.size w1 q ∧ q.cell? ⟨w.heap.size, 0, none⟩ = some (.int .i64 nm) ∧ q.cell? ⟨w.heap.size, 1, none⟩ = some (.int .i64 bs) ∧ q.cell? ⟨w.heap.size, 2, none⟩ = some (.int .u32 (seed.toNat : Int)))
  (first | exact hS0 | assumption | exact BS2.out _ _ (by assumption) (by assumption) | exact BS2.out _ _ (box_below _ _) (by assumption) | exact KS.out _ (box_below w1 _).drew | fail)
  (first
   | (go_at_call 83; have g := S1; clear g; refine (F8.out _ bs h2 h3).mono ?_; rintro e u2 ⟨ao2, ca2, rfl, S2, B2⟩
      have Ku2 := BS2.out _ _ B2 (by assumption)
      first | (have S12 := SlH.bel B2 S1) | (have S12 := SlH.bel B2 (Z1.out.2 _ _ S1)) | (have S12 := SlH.bel B2 (SlH.bel (box_below u1 _) S1))
      first
       | (have X2 := conv_ex (conv2 (conv1d (W := w1) B1) B2)
          obtain ⟨q2, D2, Z2⟩ := X2
          have T2 := SlH.bel B2 T1
          have K2 := KS.out q2 (Z2.out.1 _ _ Ku2.1 (Nat.le_refl _)))
       | (have X2 := conv_ex (conv1 (W := u1) B2)
          obtain ⟨q2, D2, Z2⟩ := X2
          have T2 := SlH.bel B2 (sl_tC u1)
          have K2 := KS.out q2 (Z2.out.1 _ _ Ku2.1 Ku1.1.size))
       | (have T2 := SlH.bel B2 T1)
       | (have T2 := SlH.bel B2 (Z1.out.2 _ _ T1))
       | (have T2 := SlH.bel B2 (sl_tCm u1 _))
       | skip)
   | (go_at_call 83; refine (F8.out _ nm h0 h1).mono ?_; rintro e u1 ⟨ao1, ca1, rfl, S1, B1⟩
      have Ku1 := BS2.out _ _ B1 (by assumption)
      first
       | (have X1 := conv_ex (conv1d (W := w1) B1)
          obtain ⟨q1, D1, Z1⟩ := X1
          have T1 := SlH.bel B1 (SlH.dr (sl_tC w1))
          have K1 := KS.out q1 (Z1.out.1 _ _ Ku1.1 (Nat.le_refl _)))
       | (have T1 := SlH.bel B1 (SlH.dr (sl_tCm w1 _)))
       | skip)
   | (go_at_call 84; refine (F4.out _).mono ?_; rintro e u3 ⟨ao3, ca3, rfl, S3, B3⟩
      have Ku3 := BS2.out _ _ B3 (by assumption)
      first | (have S13 := SlH.bel B3 S12) | (have S13 := SlH.bel B3 (Z2.out.2 _ _ S12)) | (have S13 := SlH.bel B3 (SlH.bel (box_below u2 _) S12))
      first | (have S23 := SlH.bel B3 S2) | (have S23 := SlH.bel B3 (Z2.out.2 _ _ S2)) | (have S23 := SlH.bel B3 (SlH.bel (box_below u2 _) S2))
      first
       | (have X3 := conv_ex (conv2 (conv2 (conv1d (W := w1) B1) B2) B3)
          obtain ⟨q3, D3, Z3⟩ := X3
          have T3 := SlH.bel B3 T2
          have K3 := KS.out q3 (Z3.out.1 _ _ Ku3.1 (Nat.le_refl _)))
       | (have X3 := conv_ex (conv2 (conv1 (W := u1) B2) B3)
          obtain ⟨q3, D3, Z3⟩ := X3
          have T3 := SlH.bel B3 T2
          have K3 := KS.out q3 (Z3.out.1 _ _ Ku3.1 Ku1.1.size))
       | (have X3 := conv_ex (conv1 (W := u2) B3)
          obtain ⟨q3, D3, Z3⟩ := X3
          have T3 := SlH.bel B3 (sl_tC u2)
          have K3 := KS.out q3 (Z3.out.1 _ _ Ku3.1 Ku2.1.size))
       | (have T3 := SlH.bel B3 T2)
       | (have T3 := SlH.bel B3 (Z2.out.2 _ _ T2))
       | (have T3 := SlH.bel B3 (sl_tCm u2 _))
       | skip)
   | (go_at_call 65
      refine (concat4 w.heap.size _ (by first | exact Nat.le_trans hb1.out.size Ku3.1.size | exact Nat.le_trans hb1.out.size K3.1.size | exact Nat.le_trans (Nat.le_trans hb1.out.size Ku3.1.size) (box_below u3 _).size | fail) _ (by first | rfl | simp) _ _ _ _ ttl (fx 8 nm.toNat) (fx 8 bs.toNat) (fx 4 seed.toNat) (by first | exact T3 | exact Z3.out.2 _ _ T3 | exact sl_tCm u3 _ | fail) (by first | exact S13 | exact Z3.out.2 _ _ S13 | exact SlH.bel (box_below u3 _) S13 | fail) (by first | exact S23 | exact Z3.out.2 _ _ S23 | exact SlH.bel (box_below u3 _) S23 | fail) (by first | exact S3 | exact Z3.out.2 _ _ S3 | exact SlH.bel (box_below u3 _) S3 | fail) (by simp [fx_len, ttl])).mono ?_
      rintro e u4 ⟨v4, rfl, ho4, B4, B5⟩)
   | fail)
 all_goals
  have hfin : Hid (Below w.heap.size w u4) := keepF hb1.out (And.left (b := u4.cell? ⟨w.heap.size, 0, none⟩ = some (.int .i64 nm) ∧ u4.cell? ⟨w.heap.size, 1, none⟩ = some (.int .i64 bs) ∧ u4.cell? ⟨w.heap.size, 2, none⟩ = some (.int .u32 (seed.toNat : Int))) (by assumption))
  have hown : Hid (u4.ownsRow w.heap.size 5 1 v4 HH.length (bvals HH)) := by rw [← hHH.out]; exact ho4
  clear ho4
  go_wp2_with fail
  go_ret
  exact ⟨_, rfl, hown.out, hfin.out⟩
set_option maxRecDepth 100000
theorem writeHead_any : DoesWH 31 := by
 intro w nm bs seed g0 g1 g2 g3
 cases hm : inB nm 9223372036854775807 && inB bs 9223372036854775807 with
 | false =>
  have E : Hid (whF nm bs seed = ([], 0#32, 1)) := by
   show _ = _
   rw [whF, if_pos]
   simp only [inB, Bool.and_eq_false_iff, decide_eq_false_iff_not] at hm
   omega
  rw [E.out]
  replace hm := hide hm
  go_enter Try.func31, Try.ntmps31
  go_wp2_with fail
  refine (mayBe_any _ nm bs seed).mono ?_
  rintro e w1 ⟨rfl, hb⟩
  have hb2 := hide (keepF (box_below w (.cells #[.int .i64 nm, .int .i64 bs, .int .u32 (seed.toNat : Int)] 32)) hb)
  clear hb
  rw [hm.out]
  go_wp2_with fail
  go_ret3
  exact ⟨_, rfl, World.ownsRow_nil _ _ _ _, hb2.out⟩
 | true =>
  have hgd : 1 ≤ nm ∧ 1 ≤ bs := by
   simp only [inB, Bool.and_eq_true, decide_eq_true_eq] at hm
   omega
  obtain ⟨j1, j2⟩ := hgd
  have E : Hid (whF nm bs seed = (hed nm.toNat bs.toNat seed, hsum nm.toNat bs.toNat seed, 0)) := by show _ = _; rw [whF, if_neg (by omega)]
  rw [E.out]
  obtain ⟨S, hS⟩ : ∃ S, Hid (hsum nm.toNat bs.toNat seed = S) := ⟨_, rfl⟩
  obtain ⟨L, hL⟩ : ∃ L, Hid (hfs nm.toNat bs.toNat seed = L) := ⟨_, rfl⟩
  obtain ⟨F, hF⟩ : ∃ F, Hid ([L, fmark S].flatten = F) := ⟨_, rfl⟩
  have E2 : Hid (hed nm.toNat bs.toNat seed = F) := by show _ = _; rw [← hF.out, ← hL.out, ← hS.out, hed]; simp
  have E3 : Hid (Crc.more 0#32 L = S) := by show _ = _; rw [← hL.out, ← hS.out]; rfl
  have hLl : Hid (L.length = 28) := by show _ = _; rw [← hL.out]; exact hfs_len _ _ _
  rw [E2.out, hS.out]
  replace hm := hide hm
  have J1 := hide j1
  have J2 := hide j2
  clear E E2 j1 j2
  go_enter Try.func31, Try.ntmps31
  go_wp2_with fail
  refine (mayBe_any _ nm bs seed).mono ?_
  rintro e w1 ⟨rfl, hb1⟩
  rw [hm.out]
  have hh1 : Hid (w1.heap[w.heap.size]? = some (.cells #[.int .i64 nm, .int .i64 bs, .int .u32 (seed.toNat : Int)] 32 (0, 0))) := by
   show _ = _
   rw [hb1.block w.heap.size (by simp)]; exact heap_alloc_new _ _
  have hb01 := hide (keepF (box_below w _) hb1)
  obtain ⟨c0, c1, c2, _, _, _⟩ := three_cells hh1.out
  clear hb1
  go_wp2_with fail
  refine (headFields_any _ nm bs seed J1.out g1 J2.out g3).mono ?_
  rintro e w2 ⟨v2, rfl, ho2, hb2⟩
  rw [hL.out] at ho2
  have s2 := hide (Sl.of_owns ho2)
  obtain ⟨ao1, ca1, rfl⟩ := s2.out.form hLl.out
  have hb02 := hide (keepF hb01.out hb2)
  clear ho2 hb2 c0 c1 c2
  go_wp2_with fail
  refine (Crc.sum_any _ _ _ s2.out).mono ?_
  rintro e w3 ⟨rfl, hb3⟩
  rw [E3.out]
  replace hb3 := hide hb3
  go_wp2_with fail
  refine (mark_any _ S).mono ?_
  rintro e w4 ⟨v4, rfl, ho4, hb4⟩
  have s4 := hide (Sl.of_owns ho4)
  obtain ⟨ao2, ca2, rfl⟩ := s4.out.form (fmark_len _)
  have hb24 := hide (keepF hb3.out hb4)
  have hb04 := hide (keepF hb02.out hb24.out)
  clear ho4 hb4
  go_wp2_with fail
  refine (concat_any (w4.alloc (.cells #[.slice ao1 28 ca1, .slice ao2 4 ca2] 40)) _ [.slice ao1 28 ca1, .slice ao2 4 ca2] [L, fmark S] (row_lit w4 [_, _] 40 (by show 2 ≤ maxLen; decide)) (Below.sls (box_below w4 _) (.cons (Below.sl hb24.out s2.out) (.cons s4.out (.nil _)))) (by simp [fmark_len, hLl.out])).mono ?_
  rintro e w5 ⟨v5, rfl, ho5, hb5⟩
  have hb05 := hide (keepF (keepF hb04.out (box_below w4 _)) hb5)
  have ho6 := hide (owns_lower ho5 (b' := w.heap.size) (keepF hb04.out (box_below w4 _)).size)
  clear hb5 ho5
  rw [hF.out] at ho6
  go_wp2_with fail
  go_ret3
  exact ⟨_, rfl, ho6.out, hb05.out⟩
end Go.Proofs.Ytbmnjaaacodgdaa
