/-
  The document's Ready, ends, panics.
-/
import Derived.Test.YtiiinpmkidobgaaDoorA04
namespace Go.Proofs.YtiiinpmkidobgaaDoor.Sd
open Go.RowKit
set_option linter.unusedVariables false
set_option linter.unusedSimpArgs false
set_option maxRecDepth 100000
/-- May a task be asked why it waits? -/
structure LvT (t : Dk) : Prop where
  wa : t.wa ≤ 2
  lv : t.hw = 0 → ∃ m a, t.ac[t.pc]? = some a ∧ OkA m a ∧ (t.wa ≠ 0 → a.k = 3)
def Lv (D : Ds) : Prop := ∀ (i : Nat) (t : Dk), D.tk[i]? = some t → LvT t
def isRD (D : Ds) (i : Nat) : Bool := match D.tk[i]? with
  | some t => match t.ac[t.pc]? with
    | some a => decide (t.hw = 0) && decide (whyD D t a = 0)
    | none => false
  | none => false
def rdyID (D : Ds) (i : Nat) : List Nat := (List.range i).filter (isRD D)
def rdyD (D : Ds) : List Nat := rdyID D D.tk.length
theorem rdyID_succ (D : Ds) (i : Nat) : rdyID D (i + 1) = if isRD D i = true then rdyID D i ++ [i] else rdyID D i := by
  unfold rdyID
  rw [List.range_succ, List.filter_append]
  simp only [List.filter_cons, List.filter_nil]
  split <;> simp
theorem rdyID_len (D : Ds) (i : Nat) : (rdyID D i).length ≤ i := by
  unfold rdyID
  exact Nat.le_trans (List.length_filter_le _ _) (by simp)
set_option maxHeartbeats 4000000 in
theorem rready_any (w0 w : World) (us : List Value) (rb : Nat) (X : Nat → Value) (D : Ds) (h : DA w0 us w rb X D) (hl : Lv D) (hn : D.tk.length ≤ 16) :
    Calls Tryd.prog 22 #[.pointer (some ⟨rb, 0, none⟩)] w fun e w' => ∃ v, e = .returned v ∧ Nms w.heap.size w' v (ns (rdyD D)) ∧ Below w.heap.size w w' := by
  obtain ⟨r0, -, -⟩ := h.cells
  obtain ⟨xo, xc, hX, hxc, -⟩ := h.form
  rw [hX] at r0
  have H := hide h
  have HL : Hid (Lv D) := hl
  clear h hl
  obtain ⟨n, hnn⟩ : ∃ n, Hid (D.tk.length = n) := ⟨_, rfl⟩
  rw [hnn.out] at r0 hn hxc hX
  have n1 : (n : Int) ≤ (xc : Int) := by omega
  have rdyE : Hid (rdyID D n = rdyD D) := by show _ = _; unfold rdyD; rw [hnn.out]
  have HX := hide hX
  clear hX hxc
  go_enter Tryd.func22, Tryd.ntmps22
  go_wp2_with fail
  go_loopw [4, 3] (fun s v wr => ∃ i : Nat, s = .int .i64 (i : Int) ∧ i ≤ n ∧ Hid (Nms w.heap.size wr v (ns (rdyID D i)) ∧ Below w.heap.size w wr)) (fun s v wr => n - (intOf s).toNat)
  case atStart => exact ⟨0, rfl, Nat.zero_le _, Nms.nil _ _, Below.refl _ _⟩
  case round =>
    obtain ⟨i, rfl, hin, hst⟩ := hrel
    have A1 := hide (H.out.below hst.out.2)
    obtain ⟨r1, -, -⟩ := A1.out.cells
    rw [HX.out] at r1
    clear r0
    by_cases hlt : i < n
    · have i1 : (i : Int) < (n : Int) := by omega
      obtain ⟨t, ht⟩ : ∃ t, D.tk[i]? = some t := ⟨_, List.getElem?_eq_getElem (by rw [hnn.out]; exact hlt)⟩
      obtain ⟨g, cap, hX2, -, -, -, ⟨u, u1, u2, c0⟩, c1, c2, c3, c4, c5⟩ := A1.out.tcell ht
      rw [HX.out, hnn.out] at hX2
      simp only [Value.slice.injEq] at hX2
      obtain ⟨hx1, -, hx2⟩ := hX2
      subst hx1
      have sx := rdyID_succ D i
      have ll := rdyID_len D i
      obtain ⟨ao, ca, e, -⟩ := hst.out.1.form
      have hlen : Hid ((ns (rdyID D i)).length ≤ 16) := by show _ ≤ _; unfold ns; rw [List.length_map]; omega
      subst e
      clear u1 c1 c2 c3 c5 hx2
      by_cases hh : t.hw = 0
      · obtain ⟨m, a, ha, oka, h3⟩ := (HL.out i t ht).lv hh
        have HW := hide (why_any w0 wr us rb X D A1.out ht ha oka h3 (HL.out i t ht).wa)
        have hr : Hid (isRD D i = decide (whyD D t a = 0)) := by show _ = _; unfold isRD; rw [ht]; simp only; rw [ha]; simp [hh]
        rw [hr.out] at sx
        rw [hh] at c4
        obtain ⟨wy, hwy⟩ : ∃ wy, Hid (whyD D t a = wy) := ⟨_, rfl⟩
        rw [hwy.out] at HW
        simp only [hwy.out] at sx
        replace ht := hide ht
        clear oka h3 ha
        by_cases h0 : wy = 0
        · subst h0
          simp only [decide_true, if_true] at sx
          go_upto_region 6 with (go_at_call 25; refine HW.out.mono ?_; rintro e w2 ⟨rfl, b2⟩; replace b2 := hide b2)
          have AP : ∃ g7 n7 c7 w7, Hid ((Builtin.append_ #[23, 23] 23 #[.slice ao (ns (rdyID D i)).length ca, .slice (some ⟨w2.heap.size, 0, none⟩) 1 1]).run Tryd.prog (w2.alloc (.cells #[.int .i64 (i : Int)] 3)) = .ok (.slice g7 n7 c7) w7) ∧ Hid (Nms w.heap.size w7 (.slice g7 n7 c7) (ns (rdyID D (i + 1))) ∧ Below w.heap.size w w7) := by
            have b3 := keepF hst.out.2 b2.out
            have bb := box_below w2 (.cells #[.int .i64 (i : Int)] 3)
            have N6 : (w2.alloc (.cells #[.int .i64 (i : Int)] 3)).cell? ⟨w2.heap.size, 0, none⟩ = some (.int .i64 (i : Int)) := by rw [cell_of (heap_alloc_new w2 _)]; rfl
            obtain ⟨v7, w7, g1, g2, g3, g4⟩ := run_appN (i : Int) w2.heap.size ((hst.out.1.below b2.out).below bb) N6 (Nat.le_trans hlen.out (by decide)) (Nat.le_trans b3.size bb.size) 23
            obtain ⟨a7, c7, e7, -⟩ := g2.form
            subst e7
            rw [sx]
            have b4 := keepF b3 bb
            refine ⟨a7, _, c7, w7, g1, by unfold ns at g2 ⊢; rw [List.map_append]; exact g2, b4.grown g3 b4.size fun k hk => ?_⟩
            exact (hst.out.1.lt k hk).1
          obtain ⟨g7, n7, c7, w7, r7, NX⟩ := AP
          obtain ⟨nl, hnl⟩ : ∃ nl, Hid ((ns (rdyID D i)).length = nl) := ⟨_, rfl⟩
          simp only [hnl.out] at r7 ⊢
          clear sx hst b2
          go_wp2_with (at_builtin; refine wpList_append_run rfl 23 (.tmp 29) (.tmp 31) rfl rfl rfl r7.out ?_)
          go_roundw
          case rel => exact ⟨i + 1, by go_num, hlt, NX.out⟩
          case measure => simp only [intOf]; omega
        · have h0' : (wy == 0) = false := by simpa using h0
          simp only [h0, decide_false, Bool.false_eq_true, if_false] at sx
          go_wp2_with (go_at_call 25; refine HW.out.mono ?_; rintro e w2 ⟨rfl, b2⟩; replace b2 := hide b2)
          go_roundw
          case rel => exact ⟨i + 1, by go_num, hlt, by rw [sx]; exact hst.out.1.below b2.out, keepF hst.out.2 b2.out⟩
          case measure => simp only [intOf]; omega
      · have hr : Hid (isRD D i = false) := by show _ = _; unfold isRD; rw [ht]; simp only; split <;> simp [hh]
        have hh' : (t.hw == 0) = false := by simpa using hh
        rw [hr.out] at sx
        simp only [Bool.false_eq_true, if_false] at sx
        replace ht := hide ht
        go_wp2_with fail
        go_roundw
        case rel => exact ⟨i + 1, by go_num, hlt, by rw [sx]; exact hst.out.1, hst.out.2⟩
        case measure => simp only [intOf]; omega
    · obtain rfl : i = n := by omega
      have i1 : ¬ (i : Int) < (i : Int) := by omega
      rw [rdyE.out] at hst
      go_wp2_with fail
      go_ret
      exact ⟨_, rfl, hst.out.1, hst.out.2⟩
def endsK (t : Dk) : Dk := if t.ac.length ≤ t.pc then { t with hw := 1 } else t
theorem ends_raw (w : World) (b o : Nat) {ao : Option Addr} {L ca P : Nat} {x : Value} (c0 : w.cell? ⟨b, o, none⟩ = some (.slice ao L ca)) (c1 : w.cell? ⟨b, o + 1, none⟩ = some (.int .i64 (P : Int))) (c4 : w.cell? ⟨b, o + 4, none⟩ = some x) (fz : w.frozen? ⟨b, o + 4, none⟩ = false) :
    Calls Tryd.prog 33 #[.pointer (some ⟨b, o, none⟩)] w fun e w' => e = .returned (.tuple #[]) ∧ ∃ n, w' = if L ≤ P then (w.drewN n).setCell ⟨b, o + 4, none⟩ (.int .i64 1) else w.drewN n := by
  by_cases h : L ≤ P
  · have h1 : (L : Int) ≤ (P : Int) := by omega
    simp only [h, if_true]
    go_enter Tryd.func33, Tryd.ntmps33
    go_upto_region 0 with fail
    go_quiet (fail)
    have c4' : (w.drewN nq).cell? ⟨b, o + 4, none⟩ = some x := c4
    have fz' : (w.drewN nq).frozen? ⟨b, o + 4, none⟩ = false := fz
    go_wp2_with fail
    go_end0
    exact ⟨rfl, nq, rfl⟩
  · have h1 : ¬ (L : Int) ≤ (P : Int) := by omega
    simp only [h, if_false]
    go_enter Tryd.func33, Tryd.ntmps33
    go_upto_region 0 with fail
    go_quiet (fail)
    go_wp2_with fail
    go_end0
    exact ⟨rfl, nq, rfl⟩
section
variable {w0 w : World} {us : List Value} {rb : Nat} {X : Nat → Value} {D : Ds}
theorem ends_any (h : DA w0 us w rb X D) {i : Nat} {t : Dk} (hi : D.tk[i]? = some t) {g n cap : Nat} (hX : X 0 = .slice (some ⟨g, 0, none⟩) n cap) :
    Calls Tryd.prog 33 #[.pointer (some ⟨g, i * 6, none⟩)] w fun e w' => e = .returned (.tuple #[]) ∧ DA w0 us w' rb X { D with tk := D.tk.set i (endsK t) } ∧ StD rb X X w w' := by
  obtain ⟨g', cap', hX', -, -, fz, ⟨u, u1, u2, c0⟩, c1, c2, c3, c4, c5⟩ := h.tcell hi
  rw [hX] at hX'
  simp only [Value.slice.injEq, Option.some.injEq, Addr.mk.injEq, and_true] at hX'
  obtain ⟨rfl, -, -⟩ := hX'
  obtain ⟨ao, ca, rfl, -, -⟩ := u2
  refine (ends_raw w g (i * 6) c0 c1 c4 (fz _)).mono ?_
  rintro e w' ⟨rfl, n, rfl⟩
  have b1 : Below w.heap.size w (w.drewN n) := Qt.below ⟨n, rfl⟩ _
  unfold endsK
  split
  · obtain ⟨k1, k2⟩ := (h.below b1).setT hi hX 3 (by omega) (.int .i64 1) (t' := { t with hw := 1 }) rfl rfl
    exact ⟨rfl, k1, (StD.of_below rb X b1).trans k2⟩
  · refine ⟨rfl, ?_, StD.of_below rb X b1⟩
    have e : D.tk.set i t = D.tk := by
      apply List.ext_getElem?
      intro k
      by_cases hk : k = i
      · subst hk; rw [List.getElem?_set_self (List.getElem?_eq_some_iff.1 hi).1, hi]
      · rw [List.getElem?_set_ne (fun e => hk e.symm)]
    rw [e]
    exact h.below b1
end
def panicD (D : Ds) (i : Nat) (t : Dk) (n : Int) : Ds := if t.gd < 0 then { D with tk := D.tk.set i { t with hw := 2, wt := n } } else { D with tk := D.tk.set i (endsK { t with pc := t.gd.toNat, gd := -1 }), rg := up D.rg 7 n }
theorem set_set {α : Type} (l : List α) (i : Nat) (a b : α) : (l.set i a).set i b = l.set i b := List.set_set ..
theorem set_at {l : List Dk} {i : Nat} {t t' : Dk} (h : l[i]? = some t) : (l.set i t')[i]? = some t' := List.getElem?_set_self (List.getElem?_eq_some_iff.1 h).1
set_option maxHeartbeats 1000000 in
theorem panics_any (w0 w : World) (us : List Value) (rb : Nat) (X : Nat → Value) (D : Ds) (h : DA w0 us w rb X D) {i : Nat} {t : Dk} (hi : D.tk[i]? = some t) (n : Int) :
    Calls Tryd.prog 34 #[.pointer (some ⟨rb, 0, none⟩), .int .i64 (i : Int), .int .i64 n] w fun e w' => e = .returned (.tuple #[]) ∧ DA w0 us w' rb X (panicD D i t n) ∧ StD rb X X w w' := by
  obtain ⟨g, cap, hX, hn, hcm, fz, ⟨u, u1, u2, c0⟩, c1, c2, c3, c4, c5⟩ := h.tcell hi
  obtain ⟨r0, -, -⟩ := h.cells
  have hil := (List.getElem?_eq_some_iff.1 hi).1
  have r0' := r0
  rw [hX] at r0
  obtain ⟨N, hN⟩ : ∃ N, Hid (D.tk.length = N) := ⟨_, rfl⟩
  rw [hN.out] at r0 hn hil
  have i1 : (i : Int) < (N : Int) := by omega
  have i2 : (N : Int) ≤ (cap : Int) := by omega
  have f4 := fz (i * 6 + 4)
  have f5 := fz (i * 6 + 5)
  by_cases hg : t.gd < 0
  · obtain ⟨A1, s1⟩ := h.setT hi hX 3 (by omega) (.int .i64 2) (t' := { t with hw := 2 }) rfl rfl
    obtain ⟨A2, s2⟩ := A1.setT (i := i) (set_at hi) hX 4 (by omega) (.int .i64 n) (t' := { t with hw := 2, wt := n }) rfl rfl
    simp only [set_set] at A2
    have e : Hid (panicD D i t n = { D with tk := D.tk.set i { t with hw := 2, wt := n } }) := by show _ = _; unfold panicD; rw [if_pos hg]
    rw [e.out]
    have FIN : Hid (DA w0 us ((w.setCell ⟨g, i * 6 + (3 + 1), none⟩ (.int .i64 2)).setCell ⟨g, i * 6 + (4 + 1), none⟩ (.int .i64 n)) rb X { D with tk := D.tk.set i { t with hw := 2, wt := n } } ∧ StD rb X X w ((w.setCell ⟨g, i * 6 + (3 + 1), none⟩ (.int .i64 2)).setCell ⟨g, i * 6 + (4 + 1), none⟩ (.int .i64 n))) := ⟨A2, s1.trans s2⟩
    clear A1 A2 s1 s2 h e u1 u2 hi hX r0'
    go_enter Tryd.func34, Tryd.ntmps34
    go_wp2_with fail
    refine bodyPost_ret (results_none rfl _ _ _) rfl ?_
    exact ⟨rfl, FIN.out.1, FIN.out.2⟩
  · obtain ⟨gn, hgn⟩ := nat_of (show (0 : Int) ≤ t.gd by omega)
    have f20 := h.frz 20
    have g7 := h.gcell (i := 7) (by omega)
    obtain ⟨A1, s1⟩ := h.setG (i := 7) (by omega) n
    obtain ⟨w1, hw1⟩ : ∃ w1, Hid (w.setCell ⟨rb, 20, none⟩ (.int .i64 n) = w1) := ⟨_, rfl⟩
    have e1 : w.setCell ⟨rb, 13 + 7, none⟩ (.int .i64 n) = w1 := hw1.out
    rw [e1] at A1 s1
    obtain ⟨A2, s2⟩ := A1.setT (i := i) (t := t) hi hX 0 (by omega) (.int .i64 (gn : Int)) (t' := { t with pc := gn }) rfl rfl
    obtain ⟨w2, hw2⟩ : ∃ w2, Hid (w1.setCell ⟨g, i * 6 + 1, none⟩ (.int .i64 (gn : Int)) = w2) := ⟨_, rfl⟩
    have e2 : w1.setCell ⟨g, i * 6 + (0 + 1), none⟩ (.int .i64 (gn : Int)) = w2 := hw2.out
    rw [e2] at A2 s2
    obtain ⟨A3, s3⟩ := A2.setT (i := i) (set_at hi) hX 2 (by omega) (.int .i64 (-1)) (t' := { t with pc := gn, gd := -1 }) rfl rfl
    obtain ⟨w3, hw3⟩ : ∃ w3, Hid (w2.setCell ⟨g, i * 6 + 3, none⟩ (.int .i64 (-1)) = w3) := ⟨_, rfl⟩
    have e3 : w2.setCell ⟨g, i * 6 + (2 + 1), none⟩ (.int .i64 (-1)) = w3 := hw3.out
    rw [e3] at A3 s3
    simp only [set_set] at A3
    have SS := hide (s1.trans (s2.trans s3))
    have EN := hide (ends_any A3 (i := i) (t := { t with pc := gn, gd := -1 }) (set_at hi) hX)
    have e : Hid (panicD D i t n = { D with tk := D.tk.set i (endsK { t with pc := gn, gd := -1 }), rg := up D.rg 7 n }) := by show _ = _; unfold panicD; rw [if_neg hg, hgn]; rfl
    simp only [set_set] at EN
    obtain ⟨g1, cap1, hX1, -, -, fz1, ⟨u', -, -, -⟩, p1, -, p3, -, -⟩ := A1.tcell (i := i) (t := t) hi
    rw [hX] at hX1
    simp only [Value.slice.injEq, Option.some.injEq, Addr.mk.injEq, and_true] at hX1
    obtain ⟨rfl, -, -⟩ := hX1
    obtain ⟨g2, cap2, hX2, -, -, fz2, ⟨u'', -, -, -⟩, q1, -, q3, -, -⟩ := A2.tcell (i := i) (set_at hi)
    rw [hX] at hX2
    simp only [Value.slice.injEq, Option.some.injEq, Addr.mk.injEq, and_true] at hX2
    obtain ⟨rfl, -, -⟩ := hX2
    have fa := fz1 (i * 6 + 1)
    have fb := fz2 (i * 6 + 3)
    rw [hgn] at c3 p3
    simp only [hgn] at q3
    have hg' : ¬ ((gn : Int) < 0) := by omega
    rw [e.out]
    clear A1 A2 A3 s1 s2 s3 e1 e2 e3 h e u1 u2 hi hX r0' fz fz1 fz2 hg c1 c2 c4 c5 c0
    go_enter Tryd.func34, Tryd.ntmps34
    go_upto_region 5 with fail
    rw [hw1.out]
    go_upto_region 6 with fail
    rw [hw2.out]
    go_upto_region 7 with fail
    rw [hw3.out]
    go_wp2_with (go_at_call 33; refine EN.out.mono ?_; rintro e w4 ⟨rfl, A4, S4⟩; replace A4 := hide A4; replace S4 := hide S4)
    go_end0
    exact ⟨rfl, A4.out, SS.out.trans S4.out⟩
end Go.Proofs.YtiiinpmkidobgaaDoor.Sd

/-
  The document's wake. (gen_TfH.py)
-/
namespace Go.Proofs.YtiiinpmkidobgaaDoor.Sd
open Go.RowKit
open Ix (wp_region_T wpAnyT wpAnyT_take wpAnyT_one wpAnyT_done vac)
set_option linter.unusedVariables false
set_option linter.unusedSimpArgs false
set_option maxRecDepth 100000
/-- append([]T(nil), l[1:]...), T of one cell. -/
theorem dup_tail1 {w : World} {B : Nat} {T U : TypeId} (hU : Tryd.prog.underlying U = some (.slice T)) {z : Value} {by_ : Nat} (hi : (Tryd.prog.info? T).map (fun i => (i.zero, i.size, i.bytes)) = some (some z, 1, by_)) (hz : z.cells.size = 1) (hby : by_ ≤ 8)
    {g n ca : Nat} {x : Value} {r : List Value} (h : w.ownsRow B T 1 (.slice (some ⟨g, 0, none⟩) n ca) n (x :: r)) (h1 : ∀ u ∈ r, u.oneCell' = true) (hl : n ≤ 1000000) (hn : n = r.length + 1) (ty : TypeId) :
    ∃ v' w', (Builtin.append_ #[U, U] ty #[.slice none 0 0, .slice (if ca = 1 then some ⟨g, 0, none⟩ else some ⟨g, 1, none⟩) (n - 1) (ca - 1)]).run Tryd.prog w = .ok v' w' ∧ w'.ownsRow w.heap.size T 1 v' r.length r ∧ Below w.heap.size w w' := by
  obtain ⟨i0, hi0, hz0, hz1, hz2⟩ := info_parts hi
  obtain ⟨o, ho, hc⟩ : ∃ o : Nat, (if ca = 1 then some (⟨g, 0, none⟩ : Addr) else some ⟨g, 1, none⟩) = some ⟨g, o, none⟩ ∧ ∀ j u, r[j]? = some u → w.cell? ⟨g, o + j, none⟩ = some u := by
    rcases h.2 with ⟨e, hz⟩ | ⟨g', cap, cur, e, hg, k1, k2, k3, k4, k5⟩
    · cases e
    · simp only [Value.slice.injEq, Option.some.injEq, Addr.mk.injEq, and_true] at e
      obtain ⟨rfl, -, rfl⟩ := e
      refine ⟨if ca = 1 then 0 else 1, by split <;> rfl, fun j u hu => ?_⟩
      have hj := (List.getElem?_eq_some_iff.1 hu).1
      rw [if_neg (by omega)]
      rw [cell_of k1, ← Array.getElem?_toList, ← List.getElem?_take_of_lt (j := n * 1) (by omega), k5, Nat.add_comm, List.getElem?_cons_succ, hu]
  rw [ho]
  obtain ⟨v', w', hr, ho', hg, _, hat⟩ := run_append_own_at (P := Tryd.prog) w w.heap.size U ty T i0 z 1 by_ hU hi0 hz0 hz1 hz2 hz (by decide) (.slice none 0 0) 0 [] (World.ownsRow_nil _ _ _ _) ⟨g, o, none⟩ (n - 1) (ca - 1) r (by omega) (fun j u hu => by rw [addr_add]; exact hc j u hu) h1 (by unfold maxLen; omega) (by have : (0 + (n - 1)) * by_ ≤ 1000001 * 8 := Nat.mul_le_mul (by omega) hby; omega) (Nat.le_refl _)
  refine ⟨v', w', hr, ?_, (Below.refl _ _).grown hg (Nat.le_refl _) (fun k hk => by simp [Value.ownBlock] at hk)⟩
  rw [hn] at ho'
  simpa using ho'
def wk2 (tk : List Dk) (j : Nat) : List Dk := match tk[j]? with
  | some t => tk.set j { t with wa := 2 }
  | none => tk
theorem wk2_len (tk : List Dk) (j : Nat) : (wk2 tk j).length = tk.length := by unfold wk2; split <;> simp
def wakeD (D : Ds) (c : Nat) : Nat → Ds
  | 0 => D
  | n + 1 => match D.sl c with
    | [] => D
    | j :: r => wakeD { D with tk := wk2 D.tk j, sl := up D.sl c r } c n
theorem wakeD_nil {D : Ds} {c : Nat} (h : D.sl c = []) : ∀ n, wakeD D c n = D
  | 0 => rfl
  | n + 1 => by unfold wakeD; rw [h]
theorem wakeD_cons {D : Ds} {c j n : Nat} {r : List Nat} (h : D.sl c = j :: r) : wakeD D c (n + 1) = wakeD { D with tk := wk2 D.tk j, sl := up D.sl c r } c n := by
  rw [wakeD, h]
theorem slice_ofR {w : World} {B : Nat} {T : TypeId} {sz n : Nat} {v : Value} {l : List Value} (h : w.ownsRow B T sz v n l) : ∃ a c, v = .slice a n c := by
  obtain ⟨a, c, e, _⟩ := own_form h
  exact ⟨a, c, e⟩
theorem ns_one (l : List Int) : ∀ u ∈ l.map (Value.int .i64), u.oneCell' = true := ivals_one l
set_option maxHeartbeats 4000000 in
theorem rwake_any (w0 w : World) (us : List Value) (rb : Nat) (X : Nat → Value) (D : Ds) (h : DA w0 us w rb X D) {c : Nat} (hc : c < 4) (n : Nat) (hs : ∀ j ∈ D.sl c, j < D.tk.length) (hl : (D.sl c).length ≤ 1000) (hn : n ≤ 1000) :
    Calls Tryd.prog 36 #[.pointer (some ⟨rb, 0, none⟩), .int .i64 (c : Int), .int .i64 (n : Int)] w fun e w' => e = .returned (.tuple #[]) ∧ ∃ X', X' 0 = X 0 ∧ DA w0 us w' rb X' (wakeD D c n) ∧ StD rb X X' w w' := by
  have hc' : (c : Int) < 4 := by omega
  have H := hide h
  have HS := hide hs
  have HL := hide hl
  have HN := hide hn
  clear h hs hl hn
  go_enter Tryd.func36, Tryd.ntmps36
  go_wp2_with fail
  go_loopw [2] (fun s wr => ∃ (k : Nat) (X' : Nat → Value) (D' : Ds), s = .int .i64 (k : Int) ∧ Hid (k ≤ 1000) ∧ Hid (DA w0 us wr rb X' D' ∧ StD rb X X' w wr ∧ X' 0 = X 0 ∧ wakeD D' c k = wakeD D c n ∧ (∀ j ∈ D'.sl c, j < D'.tk.length) ∧ (D'.sl c).length ≤ 1000)) (fun s wr => (intOf s).toNat)
  case atStart => exact ⟨n, X, D, rfl, HN.out, H.out, StD.refl _ _ _, rfl, rfl, HS.out, HL.out⟩
  case round =>
    obtain ⟨k, X', D', rfl, hk, hst⟩ := hrel
    by_cases h0 : k = 0
    · subst h0
      have i1 : ¬ (0 : Int) < 0 := by omega
      go_wp2_with fail
      go_end0
      obtain ⟨h1, h2, h3, h4, -⟩ := hst.out
      exact ⟨rfl, X', h3, by rw [← h4]; exact h1, h2⟩
    have i1 : (0 : Int) < (k : Int) := by omega
    obtain ⟨DD, SD, EX, EW, BS, BL⟩ := hst.out
    replace DD := hide DD
    replace SD := hide SD
    replace EX := hide EX
    replace EW := hide EW
    replace BS := hide BS
    replace BL := hide BL
    have rc1 := DD.out.scell hc
    have NM := DD.out.sl c hc
    cases hsl : D'.sl c with
    | nil =>
      rw [hsl] at NM
      obtain ⟨ao, ca, e, -⟩ := NM.form
      rw [e] at rc1
      have eL : (ns ([] : List Nat)).length = 0 := rfl
      rw [eL] at rc1
      clear NM e hst
      go_wp2_with fail
      go_end0
      exact ⟨rfl, X', EX.out, by rw [← EW.out, wakeD_nil hsl]; exact DD.out, SD.out⟩
    | cons j r =>
      rw [hsl] at NM
      have hlen : (ns (j :: r)).length = r.length + 1 := by simp [ns]
      obtain ⟨lg, lc, e, hcap, rc2⟩ : ∃ lg lc, X' (1 + c) = .slice (some ⟨lg, 0, none⟩) (ns (j :: r)).length lc ∧ (ns (j :: r)).length ≤ lc ∧ wr.cell? ⟨lg, 0, none⟩ = some (.int .i64 (j : Int)) := by
        obtain ⟨ao, lc, e, hcap, hr⟩ := NM.form
        obtain ⟨lg, rfl, hx⟩ := hr 0 (j : Int) rfl
        exact ⟨lg, lc, e, hcap, hx⟩
      have HX := hide e
      rw [e] at rc1
      obtain ⟨ln, hln⟩ : ∃ ln, Hid ((ns (j :: r)).length = ln) := ⟨_, rfl⟩
      rw [hln.out] at rc1 hcap hlen HX
      have hjt : j < D'.tk.length := BS.out j (by rw [hsl]; exact List.mem_cons_self ..)
      obtain ⟨t, ht⟩ : ∃ t, D'.tk[j]? = some t := ⟨_, List.getElem?_eq_getElem hjt⟩
      obtain ⟨g, cap, hX0, hN1, hN2, fz, -, -, tc2, -⟩ := DD.out.tcell ht
      obtain ⟨rc0, -, -⟩ := DD.out.cells
      rw [hX0] at rc0
      have tf2 := fz (j * 6 + 2)
      obtain ⟨N, hN⟩ : ∃ N, Hid (D'.tk.length = N) := ⟨_, rfl⟩
      rw [hN.out] at rc0 hN1 hjt
      have b1 : (j : Int) < (N : Int) := by omega
      have b2 : (N : Int) ≤ (cap : Int) := by omega
      have b3 : (0 : Int) < (ln : Int) := by omega
      have b4 : (1 : Int) ≤ (ln : Int) := by omega
      have b5 : (ln : Int) ≤ (lc : Int) := by omega
      have HR : Hid (ln = r.length + 1 ∧ ln ≤ 1000) := ⟨hlen, by have := BL.out; rw [hsl] at this; simp at this; omega⟩
      have HX0 := hide hX0
      have HT := hide ht
      have HSL := hide hsl
      clear hX0 hN1 hN2 fz hjt ht hsl NM e hcap hlen
      go_upto_region 1 with fail
      refine wp_region_T (fun q => q.cell? ⟨rb, 0, none⟩ = some (.slice (some ⟨g, 0, none⟩) N cap) ∧ q.cell? ⟨rb, 5 + c, none⟩ = some (.slice (some ⟨lg, 0, none⟩) ln lc) ∧ q.cell? ⟨lg, 0, none⟩ = some (.int .i64 (j : Int))) 14 (by kernel_rfl) ?_
      have KP : Hid (wr.drew.cell? ⟨rb, 0, none⟩ = some (.slice (some ⟨g, 0, none⟩) N cap) ∧ wr.drew.cell? ⟨rb, 5 + c, none⟩ = some (.slice (some ⟨lg, 0, none⟩) ln lc) ∧ wr.drew.cell? ⟨lg, 0, none⟩ = some (.int .i64 (j : Int))) := ⟨rc0, rc1, rc2⟩
      have CW : Hid (wr.drew.cell? ⟨g, j * 6 + 2, none⟩ = some (.int .i64 (t.wa : Int)) ∧ wr.drew.frozen? ⟨g, j * 6 + 2, none⟩ = false) := ⟨tc2, tf2⟩
      have DW := hide (DD.out.below (Below.refl _ _).drew)
      have SW : Hid (StD rb X X' w wr.drew) := SD.out.trans (StD.of_below rb X' (Below.refl _ _).drew)
      clear rc0 rc1 rc2 tc2 tf2 DD SD hst
      generalize wr.drew = u1 at *
      refine wpAnyT_take (i := 0) (oi := { dst := some 18, op := Op.move (Operand.tmp 0), type := 53, pos := "ref.go:142", after := #[], guard := none }) (v := .pointer (some ⟨rb, 0, none⟩)) [1, 2, 3, 12, 13, 14] rfl (by kernel_rfl) (by kernel_rfl) (by kernel_rfl) (by kernel_rfl) (fun _ _ _ h => h) (Or.inl ⟨by rfl, ?_⟩) KP.out ?_
      · intro wq hSw
        obtain ⟨y0, y1, y2⟩ := hSw
        go_simp
      (try simp only [Act.put, List.setIfInBounds_toArray, List.set_cons_zero, List.set_cons_succ])
      refine wpAnyT_take (i := 1) (oi := { dst := some 19, op := Op.nilCheck (Operand.tmp 18), type := 0, pos := "ref.go:142", after := #[{ on := 0, ground := Ground.data }], guard := none }) (v := .pointer (some ⟨rb, 0, none⟩)) [2, 3, 12, 13, 14] rfl (by kernel_rfl) (by kernel_rfl) (by kernel_rfl) (by kernel_rfl) (fun _ _ _ h => h) (Or.inl ⟨by rfl, ?_⟩) KP.out ?_
      · intro wq hSw
        obtain ⟨y0, y1, y2⟩ := hSw
        go_simp
      (try simp only [Act.put, List.setIfInBounds_toArray, List.set_cons_zero, List.set_cons_succ])
      refine wpAnyT_take (i := 2) (oi := { dst := some 20, op := Op.fieldAddr 63 (Operand.tmp 19) 0, type := 0, pos := "ref.go:142", after := #[{ on := 1, ground := Ground.data }], guard := none }) (v := .pointer (some ⟨rb, 0, none⟩)) [3, 12, 13, 14] rfl (by kernel_rfl) (by kernel_rfl) (by kernel_rfl) (by kernel_rfl) (fun _ _ _ h => h) (Or.inl ⟨by rfl, ?_⟩) KP.out ?_
      · intro wq hSw
        obtain ⟨y0, y1, y2⟩ := hSw
        go_simp
      (try simp only [Act.put, List.setIfInBounds_toArray, List.set_cons_zero, List.set_cons_succ])
      refine wpAnyT_take (i := 3) (oi := { dst := some 21, op := Op.load 57 (Operand.tmp 20), type := 57, pos := "ref.go:142", after := #[{ on := 2, ground := Ground.data }], guard := none }) (v := .slice (some ⟨g, 0, none⟩) N cap) [12, 13, 14] rfl (by kernel_rfl) (by kernel_rfl) (by kernel_rfl) (by kernel_rfl) (fun _ _ _ h => h) (Or.inl ⟨by rfl, ?_⟩) KP.out ?_
      · intro wq hSw
        obtain ⟨y0, y1, y2⟩ := hSw
        go_simp
      (try simp only [Act.put, List.setIfInBounds_toArray, List.set_cons_zero, List.set_cons_succ])
      refine wpAnyT_take (i := 4) (oi := { dst := some 22, op := Op.move (Operand.tmp 0), type := 53, pos := "ref.go:142", after := #[], guard := none }) (v := .pointer (some ⟨rb, 0, none⟩)) [6, 7, 8, 9, 10, 11, 12, 13, 14] rfl (by kernel_rfl) (by kernel_rfl) (by kernel_rfl) (by kernel_rfl) (fun _ _ _ h => h) (Or.inl ⟨by rfl, ?_⟩) KP.out ?_
      · intro wq hSw
        obtain ⟨y0, y1, y2⟩ := hSw
        go_simp
      (try simp only [Act.put, List.setIfInBounds_toArray, List.set_cons_zero, List.set_cons_succ])
      refine wpAnyT_take (i := 5) (oi := { dst := some 23, op := Op.move (Operand.tmp 1), type := 3, pos := "ref.go:142", after := #[], guard := none }) (v := .int .i64 (c : Int)) [8, 9, 10, 11, 12, 13, 14] rfl (by kernel_rfl) (by kernel_rfl) (by kernel_rfl) (by kernel_rfl) (fun _ _ _ h => h) (Or.inl ⟨by rfl, ?_⟩) KP.out ?_
      · intro wq hSw
        obtain ⟨y0, y1, y2⟩ := hSw
        go_simp
      (try simp only [Act.put, List.setIfInBounds_toArray, List.set_cons_zero, List.set_cons_succ])
      refine wpAnyT_take (i := 6) (oi := { dst := some 24, op := Op.nilCheck (Operand.tmp 22), type := 0, pos := "ref.go:142", after := #[{ on := 4, ground := Ground.data }], guard := none }) (v := .pointer (some ⟨rb, 0, none⟩)) [7, 8, 9, 10, 11, 12, 13, 14] rfl (by kernel_rfl) (by kernel_rfl) (by kernel_rfl) (by kernel_rfl) (fun _ _ _ h => h) (Or.inl ⟨by rfl, ?_⟩) KP.out ?_
      · intro wq hSw
        obtain ⟨y0, y1, y2⟩ := hSw
        go_simp
      (try simp only [Act.put, List.setIfInBounds_toArray, List.set_cons_zero, List.set_cons_succ])
      refine wpAnyT_take (i := 7) (oi := { dst := some 25, op := Op.fieldAddr 63 (Operand.tmp 24) 2, type := 0, pos := "ref.go:142", after := #[{ on := 6, ground := Ground.data }], guard := none }) (v := .pointer (some ⟨rb, 5, none⟩)) [8, 9, 10, 11, 12, 13, 14] rfl (by kernel_rfl) (by kernel_rfl) (by kernel_rfl) (by kernel_rfl) (fun _ _ _ h => h) (Or.inl ⟨by rfl, ?_⟩) KP.out ?_
      · intro wq hSw
        obtain ⟨y0, y1, y2⟩ := hSw
        go_simp
      (try simp only [Act.put, List.setIfInBounds_toArray, List.set_cons_zero, List.set_cons_succ])
      refine wpAnyT_take (i := 8) (oi := { dst := some 26, op := Op.indexAddr 59 (Operand.tmp 25) (Operand.tmp 23), type := 0, pos := "ref.go:142", after := #[{ on := 7, ground := Ground.data }, { on := 5, ground := Ground.data }], guard := none }) (v := .pointer (some ⟨rb, 5 + c, none⟩)) [9, 10, 11, 12, 13, 14] rfl (by kernel_rfl) (by kernel_rfl) (by kernel_rfl) (by kernel_rfl) (fun _ _ _ h => h) (Or.inl ⟨by rfl, ?_⟩) KP.out ?_
      · intro wq hSw
        obtain ⟨y0, y1, y2⟩ := hSw
        go_simp
      (try simp only [Act.put, List.setIfInBounds_toArray, List.set_cons_zero, List.set_cons_succ])
      refine wpAnyT_take (i := 9) (oi := { dst := some 27, op := Op.load 23 (Operand.tmp 26), type := 23, pos := "ref.go:142", after := #[{ on := 8, ground := Ground.data }], guard := none }) (v := .slice (some ⟨lg, 0, none⟩) ln lc) [10, 11, 12, 13, 14] rfl (by kernel_rfl) (by kernel_rfl) (by kernel_rfl) (by kernel_rfl) (fun _ _ _ h => h) (Or.inl ⟨by rfl, ?_⟩) KP.out ?_
      · intro wq hSw
        obtain ⟨y0, y1, y2⟩ := hSw
        go_simp
      (try simp only [Act.put, List.setIfInBounds_toArray, List.set_cons_zero, List.set_cons_succ])
      refine wpAnyT_take (i := 10) (oi := { dst := some 28, op := Op.indexAddr 23 (Operand.tmp 27) (Operand.const (Value.int IntKind.i64 0)), type := 0, pos := "ref.go:142", after := #[{ on := 9, ground := Ground.data }], guard := none }) (v := .pointer (some ⟨lg, 0, none⟩)) [11, 12, 13, 14] rfl (by kernel_rfl) (by kernel_rfl) (by kernel_rfl) (by kernel_rfl) (fun _ _ _ h => h) (Or.inl ⟨by rfl, ?_⟩) KP.out ?_
      · intro wq hSw
        obtain ⟨y0, y1, y2⟩ := hSw
        go_simp
      (try simp only [Act.put, List.setIfInBounds_toArray, List.set_cons_zero, List.set_cons_succ])
      refine wpAnyT_take (i := 11) (oi := { dst := some 29, op := Op.load 3 (Operand.tmp 28), type := 3, pos := "ref.go:142", after := #[{ on := 10, ground := Ground.data }], guard := none }) (v := .int .i64 (j : Int)) [12, 13, 14] rfl (by kernel_rfl) (by kernel_rfl) (by kernel_rfl) (by kernel_rfl) (fun _ _ _ h => h) (Or.inl ⟨by rfl, ?_⟩) KP.out ?_
      · intro wq hSw
        obtain ⟨y0, y1, y2⟩ := hSw
        go_simp
      (try simp only [Act.put, List.setIfInBounds_toArray, List.set_cons_zero, List.set_cons_succ])
      refine wpAnyT_take (i := 12) (oi := { dst := some 30, op := Op.indexAddr 57 (Operand.tmp 21) (Operand.tmp 29), type := 0, pos := "ref.go:142", after := #[{ on := 3, ground := Ground.data }, { on := 11, ground := Ground.data }, { on := 0, ground := Ground.phase }, { on := 1, ground := Ground.phase }, { on := 2, ground := Ground.phase }, { on := 3, ground := Ground.phase }, { on := 4, ground := Ground.phase }, { on := 5, ground := Ground.phase }, { on := 6, ground := Ground.phase }, { on := 7, ground := Ground.phase }, { on := 8, ground := Ground.phase }, { on := 9, ground := Ground.phase }, { on := 10, ground := Ground.phase }, { on := 11, ground := Ground.phase }], guard := none }) (v := .pointer (some ⟨g, j * 6, none⟩)) [13, 14] rfl (by kernel_rfl) (by kernel_rfl) (by kernel_rfl) (by kernel_rfl) (fun _ _ _ h => h) (Or.inl ⟨by rfl, ?_⟩) KP.out ?_
      · intro wq hSw
        obtain ⟨y0, y1, y2⟩ := hSw
        go_simp
      (try simp only [Act.put, List.setIfInBounds_toArray, List.set_cons_zero, List.set_cons_succ])
      refine wpAnyT_take (i := 13) (oi := { dst := some 31, op := Op.fieldAddr 65 (Operand.tmp 30) 2, type := 0, pos := "ref.go:142", after := #[{ on := 12, ground := Ground.data }, { on := 0, ground := Ground.phase }, { on := 1, ground := Ground.phase }, { on := 2, ground := Ground.phase }, { on := 3, ground := Ground.phase }, { on := 4, ground := Ground.phase }, { on := 5, ground := Ground.phase }, { on := 6, ground := Ground.phase }, { on := 7, ground := Ground.phase }, { on := 8, ground := Ground.phase }, { on := 9, ground := Ground.phase }, { on := 10, ground := Ground.phase }, { on := 11, ground := Ground.phase }], guard := none }) (v := .pointer (some ⟨g, j * 6 + 2, none⟩)) [14] rfl (by kernel_rfl) (by kernel_rfl) (by kernel_rfl) (by kernel_rfl) (fun _ _ _ h => h) (Or.inl ⟨by rfl, ?_⟩) KP.out ?_
      · intro wq hSw
        obtain ⟨y0, y1, y2⟩ := hSw
        go_simp
      (try simp only [Act.put, List.setIfInBounds_toArray, List.set_cons_zero, List.set_cons_succ])
      obtain ⟨cw1, cw2⟩ := CW.out
      refine wpAnyT_one (i := 14) (o := { dst := none, op := Op.store 3 (Operand.tmp 31) (Operand.const (Value.int IntKind.i64 2)), type := 0, pos := "ref.go:142", after := #[{ on := 13, ground := Ground.data }, { on := 0, ground := Ground.phase }, { on := 1, ground := Ground.phase }, { on := 2, ground := Ground.phase }, { on := 3, ground := Ground.phase }, { on := 4, ground := Ground.phase }, { on := 5, ground := Ground.phase }, { on := 6, ground := Ground.phase }, { on := 7, ground := Ground.phase }, { on := 8, ground := Ground.phase }, { on := 9, ground := Ground.phase }, { on := 10, ground := Ground.phase }, { on := 11, ground := Ground.phase }], guard := none }) (by kernel_rfl) rfl (fun K hK => ?_)
      go_simp
      refine hK.out _ _ (vac (by kernel_rfl)) ?_
      clear hK K
      (try simp only [Act.put, List.setIfInBounds_toArray, List.set_cons_zero, List.set_cons_succ])
      refine wpAnyT_done (by kernel_rfl) ?_ _
      have Z := DW.out.setT HT.out HX0.out 1 (by omega) (.int .i64 2) (t' := { t with wa := 2 }) rfl rfl
      have D2 : Hid (DA w0 us (u1.setCell ⟨g, j * 6 + 2, none⟩ (.int .i64 2)) rb X' { D' with tk := wk2 D'.tk j }) := by
        have e : wk2 D'.tk j = D'.tk.set j { t with wa := 2 } := by unfold wk2; rw [HT.out]
        rw [e]; exact Z.1
      have S2 : Hid (StD rb X X' w (u1.setCell ⟨g, j * 6 + 2, none⟩ (.int .i64 2))) := SW.out.trans Z.2
      clear Z CW cw1 cw2 KP DW SW
      generalize u1.setCell ⟨g, j * 6 + 2, none⟩ (.int .i64 2) = u2 at *
      have sc2 := D2.out.scell hc
      rw [HX.out] at sc2
      have TAIL : ∀ u, DA w0 us u rb X' { D' with tk := wk2 D'.tk j } → StD rb X X' w u → ∃ a7 n7 c7 w7, Hid ((Builtin.append_ #[23, 23] 23 #[.slice none 0 0, .slice (if lc = 1 then some ⟨lg, 0, none⟩ else some ⟨lg, 1, none⟩) (ln - 1) (lc - 1)]).run Tryd.prog u = .ok (.slice a7 n7 c7) w7) ∧ Hid (DA w0 us (w7.setCell ⟨rb, 5 + c, none⟩ (.slice a7 n7 c7)) rb (up X' (1 + c) (.slice a7 n7 c7)) { D' with tk := wk2 D'.tk j, sl := up D'.sl c r } ∧ StD rb X (up X' (1 + c) (.slice a7 n7 c7)) w (w7.setCell ⟨rb, 5 + c, none⟩ (.slice a7 n7 c7)) ∧ up X' (1 + c) (.slice a7 n7 c7) 0 = X 0 ∧ w7.cell? ⟨rb, 5 + c, none⟩ = some (.slice (some ⟨lg, 0, none⟩) ln lc) ∧ w7.frozen? ⟨rb, 5 + c, none⟩ = false) := by
        intro u hA hS
        have NM := hA.sl c hc
        have e1 : ({ D' with tk := wk2 D'.tk j } : Ds).sl c = j :: r := HSL.out
        rw [e1, HX.out] at NM
        unfold Nms at NM
        rw [hln.out] at NM
        obtain ⟨v7, w7, q1, q2, q3⟩ := dup_tail1 Tryd.underlying23 infoI rfl (by decide) (x := .int .i64 (j : Int)) (r := (ns r).map (Value.int .i64)) NM (ns_one _) (by have := HR.out.2; omega) (by rw [List.length_map]; simp [ns]; exact HR.out.1) 23
        obtain ⟨a7, c7, e7⟩ := slice_ofR q2
        obtain ⟨n7, hn7⟩ : ∃ n7, ((ns r).map (Value.int .i64)).length = n7 := ⟨_, rfl⟩
        have hlt := fun k hk => (World.ownsRow.lt q2 k hk).1
        have NM7 : Nms w0.heap.size w7 v7 (ns r) := by
          have hsz := hA.low.size
          have q2' := row_low q2 hsz
          rw [List.length_map] at q2'
          exact q2'
        obtain ⟨T1, T2, T3, T4⟩ := hA.turn (i := c) (w1 := w7) (v' := v7) (by omega) { D' with tk := wk2 D'.tk j, sl := up D'.sl c r } (But.of_below q3 _) (fun k hk => .inr (hlt k hk)) rfl rfl rfl rfl rfl (fun j' hj' => ⟨fun e => by rw [e]; show Nms _ _ _ (ns (up D'.sl c r c)); rw [up_same]; exact NM7, fun e => up_other _ _ e⟩) (fun j' hj' => ⟨fun e => by omega, fun e => rfl⟩)
        rw [e7, hn7] at q1 T1 T2
        exact ⟨a7, n7, c7, w7, q1, T1, hS.trans T2, by rw [up_other _ _ (by omega)]; exact EX.out, T3.trans (by rw [HX.out]), T4⟩
      clear hln
      go_upto_region 2 with fail
      refine wp_region_T (fun q => q.cell? ⟨rb, 5 + c, none⟩ = some (.slice (some ⟨lg, 0, none⟩) ln lc)) 13 (by kernel_rfl) ?_
      have KP : Hid (u2.drew.cell? ⟨rb, 5 + c, none⟩ = some (.slice (some ⟨lg, 0, none⟩) ln lc)) := sc2
      have D3 := hide (D2.out.below (Below.refl _ _).drew)
      have S3 : Hid (StD rb X X' w u2.drew) := S2.out.trans (StD.of_below rb X' (Below.refl _ _).drew)
      clear sc2 D2 S2
      generalize u2.drew = u3 at *
      refine wpAnyT_take (i := 0) (oi := { dst := some 32, op := Op.move (Operand.tmp 0), type := 53, pos := "ref.go:143", after := #[], guard := none }) (v := .pointer (some ⟨rb, 0, none⟩)) [10, 11, 12, 13] rfl (by kernel_rfl) (by kernel_rfl) (by kernel_rfl) (by kernel_rfl) (fun _ _ _ h => h) (Or.inl ⟨by rfl, ?_⟩) KP.out ?_
      · intro wq hSw
        have y0 := hSw
        go_simp
      (try simp only [Act.put, List.setIfInBounds_toArray, List.set_cons_zero, List.set_cons_succ])
      refine wpAnyT_take (i := 1) (oi := { dst := some 33, op := Op.move (Operand.tmp 1), type := 3, pos := "ref.go:143", after := #[], guard := none }) (v := .int .i64 (c : Int)) [12, 13] rfl (by kernel_rfl) (by kernel_rfl) (by kernel_rfl) (by kernel_rfl) (fun _ _ _ h => h) (Or.inl ⟨by rfl, ?_⟩) KP.out ?_
      · intro wq hSw
        have y0 := hSw
        go_simp
      (try simp only [Act.put, List.setIfInBounds_toArray, List.set_cons_zero, List.set_cons_succ])
      refine wpAnyT_take (i := 2) (oi := { dst := some 34, op := Op.move (Operand.tmp 0), type := 53, pos := "ref.go:143", after := #[], guard := none }) (v := .pointer (some ⟨rb, 0, none⟩)) [4, 5, 6, 7, 8, 9, 13] rfl (by kernel_rfl) (by kernel_rfl) (by kernel_rfl) (by kernel_rfl) (fun _ _ _ h => h) (Or.inl ⟨by rfl, ?_⟩) KP.out ?_
      · intro wq hSw
        have y0 := hSw
        go_simp
      (try simp only [Act.put, List.setIfInBounds_toArray, List.set_cons_zero, List.set_cons_succ])
      refine wpAnyT_take (i := 3) (oi := { dst := some 35, op := Op.move (Operand.tmp 1), type := 3, pos := "ref.go:143", after := #[], guard := none }) (v := .int .i64 (c : Int)) [6, 7, 8, 9, 13] rfl (by kernel_rfl) (by kernel_rfl) (by kernel_rfl) (by kernel_rfl) (fun _ _ _ h => h) (Or.inl ⟨by rfl, ?_⟩) KP.out ?_
      · intro wq hSw
        have y0 := hSw
        go_simp
      (try simp only [Act.put, List.setIfInBounds_toArray, List.set_cons_zero, List.set_cons_succ])
      refine wpAnyT_take (i := 4) (oi := { dst := some 36, op := Op.nilCheck (Operand.tmp 34), type := 0, pos := "ref.go:143", after := #[{ on := 2, ground := Ground.data }], guard := none }) (v := .pointer (some ⟨rb, 0, none⟩)) [5, 6, 7, 8, 9, 13] rfl (by kernel_rfl) (by kernel_rfl) (by kernel_rfl) (by kernel_rfl) (fun _ _ _ h => h) (Or.inl ⟨by rfl, ?_⟩) KP.out ?_
      · intro wq hSw
        have y0 := hSw
        go_simp
      (try simp only [Act.put, List.setIfInBounds_toArray, List.set_cons_zero, List.set_cons_succ])
      refine wpAnyT_take (i := 5) (oi := { dst := some 37, op := Op.fieldAddr 63 (Operand.tmp 36) 2, type := 0, pos := "ref.go:143", after := #[{ on := 4, ground := Ground.data }], guard := none }) (v := .pointer (some ⟨rb, 5, none⟩)) [6, 7, 8, 9, 13] rfl (by kernel_rfl) (by kernel_rfl) (by kernel_rfl) (by kernel_rfl) (fun _ _ _ h => h) (Or.inl ⟨by rfl, ?_⟩) KP.out ?_
      · intro wq hSw
        have y0 := hSw
        go_simp
      (try simp only [Act.put, List.setIfInBounds_toArray, List.set_cons_zero, List.set_cons_succ])
      refine wpAnyT_take (i := 6) (oi := { dst := some 38, op := Op.indexAddr 59 (Operand.tmp 37) (Operand.tmp 35), type := 0, pos := "ref.go:143", after := #[{ on := 5, ground := Ground.data }, { on := 3, ground := Ground.data }], guard := none }) (v := .pointer (some ⟨rb, 5 + c, none⟩)) [7, 8, 9, 13] rfl (by kernel_rfl) (by kernel_rfl) (by kernel_rfl) (by kernel_rfl) (fun _ _ _ h => h) (Or.inl ⟨by rfl, ?_⟩) KP.out ?_
      · intro wq hSw
        have y0 := hSw
        go_simp
      (try simp only [Act.put, List.setIfInBounds_toArray, List.set_cons_zero, List.set_cons_succ])
      refine wpAnyT_take (i := 7) (oi := { dst := some 39, op := Op.load 23 (Operand.tmp 38), type := 23, pos := "ref.go:143", after := #[{ on := 6, ground := Ground.data }], guard := none }) (v := .slice (some ⟨lg, 0, none⟩) ln lc) [8, 9, 13] rfl (by kernel_rfl) (by kernel_rfl) (by kernel_rfl) (by kernel_rfl) (fun _ _ _ h => h) (Or.inl ⟨by rfl, ?_⟩) KP.out ?_
      · intro wq hSw
        have y0 := hSw
        go_simp
      (try simp only [Act.put, List.setIfInBounds_toArray, List.set_cons_zero, List.set_cons_succ])
      refine wpAnyT_take (i := 8) (oi := { dst := some 40, op := Op.slice 23 (Operand.tmp 39) (some (Operand.const (Value.int IntKind.i64 1))) none none, type := 23, pos := "ref.go:143", after := #[{ on := 7, ground := Ground.data }], guard := none }) (v := .slice (if lc = 1 then some ⟨lg, 0, none⟩ else some ⟨lg, 1, none⟩) (ln - 1) (lc - 1)) [9, 13] rfl (by kernel_rfl) (by kernel_rfl) (by kernel_rfl) (by kernel_rfl) (fun _ _ _ h => h) (Or.inl ⟨by rfl, ?_⟩) KP.out ?_
      · intro wq hSw
        have y0 := hSw
        go_simp
      (try simp only [Act.put, List.setIfInBounds_toArray, List.set_cons_zero, List.set_cons_succ])
      refine wpAnyT_take (i := 10) (oi := { dst := some 42, op := Op.nilCheck (Operand.tmp 32), type := 0, pos := "ref.go:143", after := #[{ on := 0, ground := Ground.data }], guard := none }) (v := .pointer (some ⟨rb, 0, none⟩)) [11, 12, 13] rfl (by kernel_rfl) (by kernel_rfl) (by kernel_rfl) (by kernel_rfl) (fun _ _ _ h => h) (Or.inl ⟨by rfl, ?_⟩) KP.out ?_
      · intro wq hSw
        have y0 := hSw
        go_simp
      (try simp only [Act.put, List.setIfInBounds_toArray, List.set_cons_zero, List.set_cons_succ])
      refine wpAnyT_take (i := 11) (oi := { dst := some 43, op := Op.fieldAddr 63 (Operand.tmp 42) 2, type := 0, pos := "ref.go:143", after := #[{ on := 10, ground := Ground.data }], guard := none }) (v := .pointer (some ⟨rb, 5, none⟩)) [12, 13] rfl (by kernel_rfl) (by kernel_rfl) (by kernel_rfl) (by kernel_rfl) (fun _ _ _ h => h) (Or.inl ⟨by rfl, ?_⟩) KP.out ?_
      · intro wq hSw
        have y0 := hSw
        go_simp
      (try simp only [Act.put, List.setIfInBounds_toArray, List.set_cons_zero, List.set_cons_succ])
      obtain ⟨a7, n7, c7, w7, r7, F7⟩ := TAIL u3 D3.out S3.out
      refine wpAnyT_one (i := 9) (o := { dst := some 41, op := Op.call { callee := Callee.builtin Builtin.append, args := #[Operand.const (Value.slice none 0 0), Operand.tmp 40], argTypes := #[23, 23] }, type := 23, pos := "ref.go:143", after := #[{ on := 8, ground := Ground.data }], guard := none }) (by kernel_rfl) rfl (fun K hK => ?_)
      rw [if_pos (by simp [Region.wanted])]
      refine Lib.wp_append_run _ (.const (.slice none 0 0)) (.tmp 40) 23 23 rfl (.slice none 0 0) (.slice (if lc = 1 then some ⟨lg, 0, none⟩ else some ⟨lg, 1, none⟩) (ln - 1) (lc - 1)) (by simp [Act.eval]) (by simp [Act.eval]) _ w7 r7.out ?_
      refine hK.out _ _ (fun _ => F7.out.2.2.2.1) ?_
      clear hK K
      (try simp only [Act.put, List.setIfInBounds_toArray, List.set_cons_zero, List.set_cons_succ])
      refine wpAnyT_one (i := 12) (o := { dst := some 44, op := Op.indexAddr 59 (Operand.tmp 43) (Operand.tmp 33), type := 0, pos := "ref.go:143", after := #[{ on := 11, ground := Ground.data }, { on := 1, ground := Ground.data }, { on := 0, ground := Ground.phase }, { on := 1, ground := Ground.phase }, { on := 2, ground := Ground.phase }, { on := 3, ground := Ground.phase }, { on := 4, ground := Ground.phase }, { on := 5, ground := Ground.phase }, { on := 6, ground := Ground.phase }, { on := 7, ground := Ground.phase }, { on := 8, ground := Ground.phase }, { on := 9, ground := Ground.phase }], guard := none }) (by kernel_rfl) rfl (fun K hK => ?_)
      go_simp
      refine hK.out _ _ (fun _ => F7.out.2.2.2.1) ?_
      clear hK K
      (try simp only [Act.put, List.setIfInBounds_toArray, List.set_cons_zero, List.set_cons_succ])
      obtain ⟨-, -, -, k7, z7⟩ := F7.out
      refine wpAnyT_one (i := 13) (o := { dst := none, op := Op.store 23 (Operand.tmp 44) (Operand.tmp 41), type := 0, pos := "ref.go:143", after := #[{ on := 12, ground := Ground.data }, { on := 9, ground := Ground.data }, { on := 9, ground := Ground.chain }, { on := 0, ground := Ground.phase }, { on := 1, ground := Ground.phase }, { on := 2, ground := Ground.phase }, { on := 3, ground := Ground.phase }, { on := 4, ground := Ground.phase }, { on := 5, ground := Ground.phase }, { on := 6, ground := Ground.phase }, { on := 7, ground := Ground.phase }, { on := 8, ground := Ground.phase }, { on := 9, ground := Ground.phase }], guard := none }) (by kernel_rfl) rfl (fun K hK => ?_)
      go_simp
      refine hK.out _ _ (vac (by kernel_rfl)) ?_
      clear hK K
      (try simp only [Act.put, List.setIfInBounds_toArray, List.set_cons_zero, List.set_cons_succ])
      refine wpAnyT_done (by kernel_rfl) ?_ _
      go_wp2_with fail
      obtain ⟨f1, f2, f3, -, -⟩ := F7.out
      go_roundw
      case rel =>
        have e : wrap64 ((k : Int) - 1) = ((k - 1 : Nat) : Int) := by have := hk.out; unfold wrap64; omega
        refine ⟨k - 1, _, _, by rw [e], ?_, f1, f2, f3, ?_, ?_, ?_⟩
        · have := hk.out; show k - 1 ≤ 1000; omega
        · rw [← EW.out]
          obtain ⟨k1, rfl⟩ : ∃ k1, k = k1 + 1 := ⟨k - 1, by omega⟩
          rw [wakeD_cons HSL.out]
          rfl
        · intro j' hj'
          show j' < (wk2 D'.tk j).length
          rw [wk2_len]
          refine BS.out j' ?_
          rw [HSL.out]
          have : j' ∈ up D'.sl c r c := hj'
          rw [up_same] at this
          exact List.mem_cons_of_mem _ this
        · show (up D'.sl c r c).length ≤ 1000
          rw [up_same]
          have := HR.out
          omega
      case measure =>
        have e : wrap64 ((k : Int) - 1) = ((k - 1 : Nat) : Int) := by have := hk.out; unfold wrap64; omega
        simp only [intOf, e]
        omega
end Go.Proofs.YtiiinpmkidobgaaDoor.Sd

/-
  The document's lists: one behind, the first one away.
-/
namespace Go.Proofs.YtiiinpmkidobgaaDoor.Sd
open Go.RowKit
set_option linter.unusedVariables false
set_option linter.unusedSimpArgs false
set_option maxRecDepth 100000
theorem run_appQ {B : Nat} {w : World} {v : Value} {l : List Int} (t : Int) (gg : Nat) (h : Iw B w v l) (h0 : w.cell? ⟨gg, 0, none⟩ = some (.int .i64 t)) (hl : l.length ≤ 1000000) (hB : B ≤ w.heap.size) (ty : TypeId) :
    ∃ v' w', (Builtin.append_ #[29, 29] ty #[v, .slice (some ⟨gg, 0, none⟩) 1 1]).run Tryd.prog w = .ok v' w' ∧ Iw B w' v' (l ++ [t]) ∧ w.grownBy w' v.ownBlock ∧ (v'.ownBlock = v.ownBlock ∨ v'.ownBlock = some w.heap.size) := by
  obtain ⟨i0, hi, hz0, hz1, hz2⟩ := info_parts infoN
  have hcells : ∀ j u, ([.int .i64 t] : List Value)[j]? = some u → w.cell? ((⟨gg, 0, none⟩ : Addr).add j) = some u := by
    intro j u hu
    rw [addr_add]
    match j with
    | 0 => simp at hu; subst hu; exact h0
    | j + 1 => simp at hu
  obtain ⟨v', w', hr, ho, hg, _, hat⟩ := run_append_own_at (P := Tryd.prog) w B 29 ty 2 i0 (.int .i64 0) 1 8 Tryd.underlying29 hi hz0 hz1 hz2 rfl (by decide) v l.length (l.map (Value.int .i64)) h ⟨gg, 0, none⟩ 1 1 [.int .i64 t] rfl hcells (by
      intro u hu
      simp at hu
      rcases hu with rfl
      rfl) (by unfold maxLen; omega) (by omega) hB
  refine ⟨v', w', hr, ?_, hg, hat⟩
  unfold Iw
  rw [List.length_append, List.map_append]
  exact ho
section
variable {w0 u : World} {us : List Value} {rb : Nat} {X : Nat → Value} {D : Ds}
theorem own_of (h : DA w0 us u rb X D) {i : Nat} (hi : i < 9) {k : Nat} (hk : (X i).ownBlock = some k) : OwnD rb X k := ⟨i + 1, (bd_l rb X hi).trans hk⟩
/-- One more waits. -/
theorem pushS (h : DA w0 us u rb X D) {c : Nat} (hc : c < 4) (x : Nat) (hl : (D.sl c).length ≤ 1000) :
    ∃ a7 n7 c7 w7, Hid ((Builtin.append_ #[23, 23] 23 #[X (1 + c), .slice (some ⟨u.heap.size, 0, none⟩) 1 1]).run Tryd.prog (u.alloc (.cells #[.int .i64 (x : Int)] 3)) = .ok (.slice a7 n7 c7) w7) ∧ Hid (DA w0 us (w7.setCell ⟨rb, 5 + c, none⟩ (.slice a7 n7 c7)) rb (up X (1 + c) (.slice a7 n7 c7)) { D with sl := up D.sl c (D.sl c ++ [x]) } ∧ StD rb X (up X (1 + c) (.slice a7 n7 c7)) u (w7.setCell ⟨rb, 5 + c, none⟩ (.slice a7 n7 c7)) ∧ w7.cell? ⟨rb, 5 + c, none⟩ = some (X (1 + c)) ∧ w7.frozen? ⟨rb, 5 + c, none⟩ = false ∧ ∀ k, k < u.heap.size → ¬ OwnD rb X k → w7.heap[k]? = u.heap[k]?) := by
  have bb := box_below u (.cells #[.int .i64 (x : Int)] 3)
  have N6 : (u.alloc (.cells #[.int .i64 (x : Int)] 3)).cell? ⟨u.heap.size, 0, none⟩ = some (.int .i64 (x : Int)) := by rw [cell_of (heap_alloc_new u _)]; rfl
  have hA := h.below bb
  obtain ⟨v7, w7, g1, g2, g3, g4⟩ := run_appN (x : Int) u.heap.size (hA.sl c hc) N6 (by unfold ns; rw [List.length_map]; omega) (Nat.le_trans hA.low.size (Nat.le_refl _)) 23
  obtain ⟨a7, c7, e7, -⟩ := g2.form
  obtain ⟨n7, hn7⟩ : ∃ n7, (ns (D.sl c) ++ [(x : Int)]).length = n7 := ⟨_, rfl⟩
  have ho : ∀ k, v7.ownBlock = some k → (X (1 + c)).ownBlock = some k ∨ (u.alloc (.cells #[.int .i64 (x : Int)] 3)).heap.size ≤ k := by
    intro k hk
    rcases g4 with e | e
    · exact .inl (by rw [← e]; exact hk)
    · rw [e] at hk; cases hk; exact .inr (Nat.le_refl _)
  have e0 : ns (D.sl c) ++ [(x : Int)] = ns (D.sl c ++ [x]) := by simp [ns]
  obtain ⟨T1, T2, T3, T4⟩ := hA.turn (i := c) (w1 := w7) (v' := v7) (by omega) { D with sl := up D.sl c (D.sl c ++ [x]) } (But.of_grownBy g3 fun k e => e) ho rfl rfl rfl rfl rfl (fun j' hj' => ⟨fun e => by rw [e]; show Nms _ _ _ (ns (up D.sl c _ c)); rw [up_same, ← e0]; exact g2, fun e => up_other _ _ e⟩) (fun j' hj' => ⟨fun e => by omega, fun e => rfl⟩)
  rw [e7, hn7] at g1 T1 T2
  refine ⟨a7, n7, c7, w7, g1, T1, (StD.of_below rb X bb).trans T2, T3, T4, fun k hk hn => ?_⟩
  have hk2 := Nat.lt_of_lt_of_le hk bb.size
  rw [g3.block k hk2 (fun e => hn (own_of h (by omega) e.symm)), bb.block k hk]
/-- One more in a queue. -/
theorem pushQ (h : DA w0 us u rb X D) {c : Nat} (hc : c < 4) (x : Int) (hl : (D.qu c).length ≤ 1000) :
    ∃ a7 n7 c7 w7, Hid ((Builtin.append_ #[29, 29] 29 #[X (5 + c), .slice (some ⟨u.heap.size, 0, none⟩) 1 1]).run Tryd.prog (u.alloc (.cells #[.int .i64 x] 2)) = .ok (.slice a7 n7 c7) w7) ∧ Hid (DA w0 us (w7.setCell ⟨rb, 9 + c, none⟩ (.slice a7 n7 c7)) rb (up X (5 + c) (.slice a7 n7 c7)) { D with qu := up D.qu c (D.qu c ++ [x]) } ∧ StD rb X (up X (5 + c) (.slice a7 n7 c7)) u (w7.setCell ⟨rb, 9 + c, none⟩ (.slice a7 n7 c7)) ∧ w7.cell? ⟨rb, 9 + c, none⟩ = some (X (5 + c)) ∧ w7.frozen? ⟨rb, 9 + c, none⟩ = false ∧ ∀ k, k < u.heap.size → ¬ OwnD rb X k → w7.heap[k]? = u.heap[k]?) := by
  have bb := box_below u (.cells #[.int .i64 x] 2)
  have N6 : (u.alloc (.cells #[.int .i64 x] 2)).cell? ⟨u.heap.size, 0, none⟩ = some (.int .i64 x) := by rw [cell_of (heap_alloc_new u _)]; rfl
  have hA := h.below bb
  obtain ⟨v7, w7, g1, g2, g3, g4⟩ := run_appQ x u.heap.size (hA.qu c hc) N6 (by omega) (Nat.le_trans hA.low.size (Nat.le_refl _)) 29
  obtain ⟨a7, c7, e7⟩ := slice_ofR g2
  obtain ⟨n7, hn7⟩ : ∃ n7, (D.qu c ++ [x]).length = n7 := ⟨_, rfl⟩
  have ho : ∀ k, v7.ownBlock = some k → (X (1 + (4 + c))).ownBlock = some k ∨ (u.alloc (.cells #[.int .i64 x] 2)).heap.size ≤ k := by
    intro k hk
    rw [show 1 + (4 + c) = 5 + c by omega]
    rcases g4 with e | e
    · exact .inl (by rw [← e]; exact hk)
    · rw [e] at hk; cases hk; exact .inr (Nat.le_refl _)
  obtain ⟨T1, T2, T3, T4⟩ := hA.turn (i := 4 + c) (w1 := w7) (v' := v7) (by omega) { D with qu := up D.qu c (D.qu c ++ [x]) } (But.of_grownBy g3 fun k e => by rw [show 1 + (4 + c) = 5 + c by omega]; exact e) ho rfl rfl rfl rfl rfl (fun j' hj' => ⟨fun e => by omega, fun e => rfl⟩) (fun j' hj' => ⟨fun e => by
    obtain rfl : j' = c := by omega
    show Iw _ _ _ (up D.qu j' _ j'); rw [up_same]; exact g2, fun e => up_other _ _ (by omega)⟩)
  rw [show 1 + (4 + c) = 5 + c by omega, show 5 + (4 + c) = 9 + c by omega] at T1 T2
  rw [show 1 + (4 + c) = 5 + c by omega, show 5 + (4 + c) = 9 + c by omega] at T3
  rw [show 5 + (4 + c) = 9 + c by omega] at T4
  rw [e7, hn7] at g1 T1 T2
  refine ⟨a7, n7, c7, w7, g1, T1, (StD.of_below rb X bb).trans T2, T3, T4, fun k hk hn => ?_⟩
  have hk2 := Nat.lt_of_lt_of_le hk bb.size
  rw [g3.block k hk2 (fun e => hn (own_of h (by omega) e.symm)), bb.block k hk]
/-- The first one of a queue away. -/
theorem popQ (h : DA w0 us u rb X D) {c : Nat} (hc : c < 4) {x : Int} {r : List Int} (hq : D.qu c = x :: r) (hl : r.length ≤ 1000) {lg ln lc : Nat} (hX : X (5 + c) = .slice (some ⟨lg, 0, none⟩) ln lc) :
    ∃ a7 n7 c7 w7, Hid ((Builtin.append_ #[29, 29] 29 #[.slice none 0 0, .slice (if lc = 1 then some ⟨lg, 0, none⟩ else some ⟨lg, 1, none⟩) (ln - 1) (lc - 1)]).run Tryd.prog u = .ok (.slice a7 n7 c7) w7) ∧ Hid (DA w0 us (w7.setCell ⟨rb, 9 + c, none⟩ (.slice a7 n7 c7)) rb (up X (5 + c) (.slice a7 n7 c7)) { D with qu := up D.qu c r } ∧ StD rb X (up X (5 + c) (.slice a7 n7 c7)) u (w7.setCell ⟨rb, 9 + c, none⟩ (.slice a7 n7 c7)) ∧ w7.cell? ⟨rb, 9 + c, none⟩ = some (.slice (some ⟨lg, 0, none⟩) ln lc) ∧ w7.frozen? ⟨rb, 9 + c, none⟩ = false ∧ ∀ k, k < u.heap.size → w7.heap[k]? = u.heap[k]?) := by
  have NM := h.qu c hc
  rw [hq, hX] at NM
  unfold Iw at NM
  obtain ⟨N, hN⟩ : ∃ N, Hid ((x :: r).length = N) := ⟨_, rfl⟩
  rw [hN.out] at NM
  have hNr : N = r.length + 1 := by rw [← hN.out]; rfl
  have hlnN : ln = N := by
    obtain ⟨a, c, e, -⟩ := own_form NM
    cases e; rfl
  subst hlnN
  obtain ⟨v7, w7, q1, q2, q3⟩ := dup_tail1 Tryd.underlying29 infoN rfl (by decide) (x := .int .i64 x) (r := r.map (Value.int .i64)) NM (ns_one _) (by omega) (by rw [List.length_map]; exact hNr) 29
  obtain ⟨a7, c7, e7⟩ := slice_ofR q2
  obtain ⟨n7, hn7⟩ : ∃ n7, (r.map (Value.int .i64)).length = n7 := ⟨_, rfl⟩
  have hlt := fun k hk => (World.ownsRow.lt q2 k hk).1
  have NM7 : Iw w0.heap.size w7 v7 r := by
    have q2' := row_low q2 h.low.size
    rw [List.length_map] at q2'
    exact q2'
  obtain ⟨T1, T2, T3, T4⟩ := h.turn (i := 4 + c) (w1 := w7) (v' := v7) (by omega) { D with qu := up D.qu c r } (But.of_below q3 _) (fun k hk => .inr (hlt k hk)) rfl rfl rfl rfl rfl (fun j' hj' => ⟨fun e => by omega, fun e => rfl⟩) (fun j' hj' => ⟨fun e => by
    obtain rfl : j' = c := by omega
    show Iw _ _ _ (up D.qu j' _ j'); rw [up_same]; exact NM7, fun e => up_other _ _ (by omega)⟩)
  rw [show 1 + (4 + c) = 5 + c by omega, show 5 + (4 + c) = 9 + c by omega] at T1 T2
  rw [show 1 + (4 + c) = 5 + c by omega, show 5 + (4 + c) = 9 + c by omega, hX] at T3
  rw [show 5 + (4 + c) = 9 + c by omega] at T4
  rw [e7, hn7] at q1 T1 T2
  exact ⟨a7, n7, c7, w7, q1, T1, T2, T3, T4, fun k hk => q3.block k hk⟩
end
end Go.Proofs.YtiiinpmkidobgaaDoor.Sd

/-
  The document's wait. (gen_TfI.py)
-/
namespace Go.Proofs.YtiiinpmkidobgaaDoor.Sd
open Go.RowKit
open Ix (wp_region_T wpAnyT wpAnyT_take wpAnyT_one wpAnyT_done vac)
set_option linter.unusedVariables false
set_option linter.unusedSimpArgs false
set_option maxRecDepth 100000
set_option maxHeartbeats 4000000 in
theorem wait_2 (w0 w : World) (us : List Value) (rb : Nat) (X : Nat → Value) (D : Ds) (h : DA w0 us w rb X D) (hn : D.tk.length ≤ 16) {i ib : Nat} {t : Dk} (hi : D.tk[i]? = some t) (ak aa an : Int) (hib : ib < 4) (hw : t.wa = 2) :
    Calls Tryd.prog 35 #[.pointer (some ⟨rb, 0, none⟩), .int .i64 (i : Int), .agg #[.int .i64 ak, .int .i64 aa, .int .i64 (ib : Int), .int .i64 an]] w fun e w' => e = .returned (.tuple #[.bool true, .bool true]) ∧ DA w0 us w' rb X { D with lk := up D.lk ib (some i), tk := D.tk.set i { t with wa := 0 } } ∧ StD rb X X w w' := by
  have hib' : (ib : Int) < 4 := by omega
  have B1 := box_below w (.cells #[.int .i64 ak, .int .i64 aa, .int .i64 (ib : Int), .int .i64 an] 45)
  have N1 := heap_alloc_new w (.cells #[.int .i64 ak, .int .i64 aa, .int .i64 (ib : Int), .int .i64 an] 45)
  obtain ⟨w1, hw1⟩ : ∃ w1, Hid (w.alloc (.cells #[.int .i64 ak, .int .i64 aa, .int .i64 (ib : Int), .int .i64 an] 45) = w1) := ⟨_, rfl⟩
  rw [hw1.out] at B1 N1
  obtain ⟨xb, hxb⟩ : ∃ xb, Hid (w.heap.size = xb) := ⟨_, rfl⟩
  have hxo : Hid (¬ OwnD rb X xb) := fun c => by have := h.lt xb c; have := hxb.out; omega
  rw [hxb.out] at N1
  have DD := hide (h.below B1)
  have SD : Hid (StD rb X X w w1) := StD.of_below rb X B1
  obtain ⟨x0, x1, x2, x3⟩ := four_of N1
  obtain ⟨ab, hab⟩ : ∃ ab : Int, Hid ((ib : Int) = ab) := ⟨_, rfl⟩
  rw [hab.out] at N1
  have NB := hide N1
  obtain ⟨g, cap, hX, hN1, hN2, fz, ⟨-, -, -, -⟩, -, c2, -, -, -⟩ := DD.out.tcell hi
  obtain ⟨r0, -, -⟩ := DD.out.cells
  rw [hX] at r0
  have hil := (List.getElem?_eq_some_iff.1 hi).1
  have hn16 := hn
  obtain ⟨N, hN⟩ : ∃ N, Hid (D.tk.length = N) := ⟨_, rfl⟩
  rw [hN.out] at r0 hN1 hil hn16
  have i1 : (i : Int) < (N : Int) := by omega
  have i2 : (N : Int) ≤ (cap : Int) := by omega
  have i3 : (N : Int) ≤ 16 := by omega
  have HX := hide hX
  have HT := hide hi
  clear hX hN1 hil hn hn16 hi h B1 N1 fz
  rw [hw] at c2
  go_enter Tryd.func35, Tryd.ntmps35
  go_upto_region 1 with fail
  rw [hw1.out, hxb.out]
  go_upto_region 3 with fail
  refine wp_region_T (fun q => q.cell? ⟨xb, 2, none⟩ = some (.int .i64 (ib : Int))) 8 (by kernel_rfl) ?_
  have KP : Hid (w1.drew.cell? ⟨xb, 2, none⟩ = some (.int .i64 (ib : Int))) := x2
  have DW := hide (DD.out.below (Below.refl _ _).drew)
  have SW : Hid (StD rb X X w w1.drew) := SD.out.trans (StD.of_below rb X (Below.refl _ _).drew)
  have NW : Hid (w1.drew.heap[xb]? = some (.cells #[.int .i64 ak, .int .i64 aa, .int .i64 ab, .int .i64 an] 45)) := NB.out
  clear DD SD NB
  generalize w1.drew = u1 at *
  refine wpAnyT_take (i := 0) (oi := { dst := some 20, op := Op.move (Operand.tmp 0), type := 53, pos := "ref.go:152", after := #[], guard := none }) (v := .pointer (some ⟨rb, 0, none⟩)) [5, 6, 7, 8] rfl (by kernel_rfl) (by kernel_rfl) (by kernel_rfl) (by kernel_rfl) (fun _ _ _ h => h) (Or.inl ⟨by rfl, ?_⟩) KP.out ?_
  · intro wq hSw
    have y0 := hSw
    go_simp
  (try simp only [Act.put, List.setIfInBounds_toArray, List.set_cons_zero, List.set_cons_succ])
  refine wpAnyT_take (i := 1) (oi := { dst := some 21, op := Op.fieldAddr 45 (Operand.tmp 5) 2, type := 0, pos := "ref.go:152", after := #[], guard := none }) (v := .pointer (some ⟨xb, 2, none⟩)) [2, 7, 8] rfl (by kernel_rfl) (by kernel_rfl) (by kernel_rfl) (by kernel_rfl) (fun _ _ _ h => h) (Or.inl ⟨by rfl, ?_⟩) KP.out ?_
  · intro wq hSw
    have y0 := hSw
    go_simp
  (try simp only [Act.put, List.setIfInBounds_toArray, List.set_cons_zero, List.set_cons_succ])
  refine wpAnyT_take (i := 2) (oi := { dst := some 22, op := Op.load 3 (Operand.tmp 21), type := 3, pos := "ref.go:152", after := #[{ on := 1, ground := Ground.data }], guard := none }) (v := .int .i64 (ib : Int)) [7, 8] rfl (by kernel_rfl) (by kernel_rfl) (by kernel_rfl) (by kernel_rfl) (fun _ _ _ h => h) (Or.inl ⟨by rfl, ?_⟩) KP.out ?_
  · intro wq hSw
    have y0 := hSw
    go_simp
  (try simp only [Act.put, List.setIfInBounds_toArray, List.set_cons_zero, List.set_cons_succ])
  refine wpAnyT_take (i := 3) (oi := { dst := some 23, op := Op.move (Operand.tmp 1), type := 3, pos := "ref.go:152", after := #[], guard := none }) (v := .int .i64 (i : Int)) [4, 8] rfl (by kernel_rfl) (by kernel_rfl) (by kernel_rfl) (by kernel_rfl) (fun _ _ _ h => h) (Or.inl ⟨by rfl, ?_⟩) KP.out ?_
  · intro wq hSw
    have y0 := hSw
    go_simp
  (try simp only [Act.put, List.setIfInBounds_toArray, List.set_cons_zero, List.set_cons_succ])
  refine wpAnyT_take (i := 4) (oi := { dst := some 24, op := Op.binOp BinOp.add 3 (Operand.tmp 23) (Operand.const (Value.int IntKind.i64 1)) 3, type := 3, pos := "ref.go:152", after := #[{ on := 3, ground := Ground.data }], guard := none }) (v := .int .i64 ((i : Int) + 1)) [8] rfl (by kernel_rfl) (by kernel_rfl) (by kernel_rfl) (by kernel_rfl) (fun _ _ _ h => h) (Or.inl ⟨by rfl, ?_⟩) KP.out ?_
  · intro wq hSw
    have y0 := hSw
    go_simp
    rw [IntKind.wrap_i64]; omega
  (try simp only [Act.put, List.setIfInBounds_toArray, List.set_cons_zero, List.set_cons_succ])
  refine wpAnyT_take (i := 5) (oi := { dst := some 25, op := Op.nilCheck (Operand.tmp 20), type := 0, pos := "ref.go:152", after := #[{ on := 0, ground := Ground.data }], guard := none }) (v := .pointer (some ⟨rb, 0, none⟩)) [6, 7, 8] rfl (by kernel_rfl) (by kernel_rfl) (by kernel_rfl) (by kernel_rfl) (fun _ _ _ h => h) (Or.inl ⟨by rfl, ?_⟩) KP.out ?_
  · intro wq hSw
    have y0 := hSw
    go_simp
  (try simp only [Act.put, List.setIfInBounds_toArray, List.set_cons_zero, List.set_cons_succ])
  refine wpAnyT_take (i := 6) (oi := { dst := some 26, op := Op.fieldAddr 63 (Operand.tmp 25) 1, type := 0, pos := "ref.go:152", after := #[{ on := 5, ground := Ground.data }], guard := none }) (v := .pointer (some ⟨rb, 1, none⟩)) [7, 8] rfl (by kernel_rfl) (by kernel_rfl) (by kernel_rfl) (by kernel_rfl) (fun _ _ _ h => h) (Or.inl ⟨by rfl, ?_⟩) KP.out ?_
  · intro wq hSw
    have y0 := hSw
    go_simp
  (try simp only [Act.put, List.setIfInBounds_toArray, List.set_cons_zero, List.set_cons_succ])
  refine wpAnyT_take (i := 7) (oi := { dst := some 27, op := Op.indexAddr 58 (Operand.tmp 26) (Operand.tmp 22), type := 0, pos := "ref.go:152", after := #[{ on := 6, ground := Ground.data }, { on := 2, ground := Ground.data }, { on := 0, ground := Ground.phase }, { on := 1, ground := Ground.phase }, { on := 2, ground := Ground.phase }, { on := 3, ground := Ground.phase }, { on := 4, ground := Ground.phase }], guard := none }) (v := .pointer (some ⟨rb, 1 + ib, none⟩)) [8] rfl (by kernel_rfl) (by kernel_rfl) (by kernel_rfl) (by kernel_rfl) (fun _ _ _ h => h) (Or.inl ⟨by rfl, ?_⟩) KP.out ?_
  · intro wq hSw
    have y0 := hSw
    go_simp
  (try simp only [Act.put, List.setIfInBounds_toArray, List.set_cons_zero, List.set_cons_succ])
  have cw1 := DW.out.lcell hib
  have cw2 := DW.out.frz (1 + ib)
  refine wpAnyT_one (i := 8) (o := { dst := none, op := Op.store 3 (Operand.tmp 27) (Operand.tmp 24), type := 0, pos := "ref.go:152", after := #[{ on := 7, ground := Ground.data }, { on := 4, ground := Ground.data }, { on := 0, ground := Ground.phase }, { on := 1, ground := Ground.phase }, { on := 2, ground := Ground.phase }, { on := 3, ground := Ground.phase }, { on := 4, ground := Ground.phase }], guard := none }) (by kernel_rfl) rfl (fun K hK => ?_)
  go_simp
  refine hK.out _ _ (vac (by kernel_rfl)) ?_
  clear hK K
  (try simp only [Act.put, List.setIfInBounds_toArray, List.set_cons_zero, List.set_cons_succ])
  refine wpAnyT_done (by kernel_rfl) ?_ _
  obtain ⟨A4, s4⟩ := DW.out.setL hib (some i)
  have D4 : Hid (DA w0 us (u1.setCell ⟨rb, 1 + ib, none⟩ (.int .i64 ((i : Int) + 1))) rb X { D with lk := up D.lk ib (some i) } ∧ StD rb X X w (u1.setCell ⟨rb, 1 + ib, none⟩ (.int .i64 ((i : Int) + 1)))) := ⟨A4, SW.out.trans s4⟩
  clear A4 s4 DW SW KP NW cw1 cw2 x0 x1 x2 x3 c2
  generalize u1.setCell ⟨rb, 1 + ib, none⟩ (.int .i64 ((i : Int) + 1)) = w4 at *
  have HT' : ({ D with lk := up D.lk ib (some i) } : Ds).tk[i]? = some t := HT.out
  obtain ⟨g2, cap2, hX2, -, -, fz2, ⟨-, -, -, -⟩, -, q2, -, -, -⟩ := D4.out.1.tcell HT'
  rw [HX.out] at hX2
  simp only [Value.slice.injEq, Option.some.injEq, Addr.mk.injEq, and_true] at hX2
  obtain ⟨rfl, -, -⟩ := hX2
  have f2 := fz2 (i * 6 + 2)
  obtain ⟨A5, s5⟩ := D4.out.1.setT HT' HX.out 1 (by omega) (.int .i64 0) (t' := { t with wa := 0 }) rfl rfl
  have FIN := hide (And.intro A5 (D4.out.2.trans s5))
  clear A5 s5 fz2 HT' D4
  go_wp2_with fail
  go_ret2
  exact ⟨rfl, FIN.out.1, FIN.out.2⟩
theorem held_ne {o : Option Nat} {i : Nat} (h : o ≠ some i) : ∃ x : Int, hv o = .int .i64 x ∧ (x != (i : Int) + 1) = true := by
  cases o with
  | none => exact ⟨0, rfl, by simp; omega⟩
  | some j => exact ⟨(j : Int) + 1, rfl, by simp; intro e; exact h (by rw [show j = i by omega])⟩
set_option maxHeartbeats 4000000 in
theorem wait_no (w0 w : World) (us : List Value) (rb : Nat) (X : Nat → Value) (D : Ds) (h : DA w0 us w rb X D) (hn : D.tk.length ≤ 16) {i ib : Nat} {t : Dk} (hi : D.tk[i]? = some t) (ak aa an : Int) (hib : ib < 4) (hw : t.wa ≠ 2) (hl : D.lk ib ≠ some i) :
    Calls Tryd.prog 35 #[.pointer (some ⟨rb, 0, none⟩), .int .i64 (i : Int), .agg #[.int .i64 ak, .int .i64 aa, .int .i64 (ib : Int), .int .i64 an]] w fun e w' => e = .returned (.tuple #[.bool false, .bool false]) ∧ DA w0 us w' rb X D ∧ StD rb X X w w' := by
  have hib' : (ib : Int) < 4 := by omega
  have B1 := box_below w (.cells #[.int .i64 ak, .int .i64 aa, .int .i64 (ib : Int), .int .i64 an] 45)
  have N1 := heap_alloc_new w (.cells #[.int .i64 ak, .int .i64 aa, .int .i64 (ib : Int), .int .i64 an] 45)
  obtain ⟨w1, hw1⟩ : ∃ w1, Hid (w.alloc (.cells #[.int .i64 ak, .int .i64 aa, .int .i64 (ib : Int), .int .i64 an] 45) = w1) := ⟨_, rfl⟩
  rw [hw1.out] at B1 N1
  obtain ⟨xb, hxb⟩ : ∃ xb, Hid (w.heap.size = xb) := ⟨_, rfl⟩
  have hxo : Hid (¬ OwnD rb X xb) := fun c => by have := h.lt xb c; have := hxb.out; omega
  rw [hxb.out] at N1
  have DD := hide (h.below B1)
  have SD : Hid (StD rb X X w w1) := StD.of_below rb X B1
  obtain ⟨x0, x1, x2, x3⟩ := four_of N1
  obtain ⟨ab, hab⟩ : ∃ ab : Int, Hid ((ib : Int) = ab) := ⟨_, rfl⟩
  rw [hab.out] at N1
  have NB := hide N1
  obtain ⟨g, cap, hX, hN1, hN2, fz, ⟨-, -, -, -⟩, -, c2, -, -, -⟩ := DD.out.tcell hi
  obtain ⟨r0, -, -⟩ := DD.out.cells
  rw [hX] at r0
  have hil := (List.getElem?_eq_some_iff.1 hi).1
  have hn16 := hn
  obtain ⟨N, hN⟩ : ∃ N, Hid (D.tk.length = N) := ⟨_, rfl⟩
  rw [hN.out] at r0 hN1 hil hn16
  have i1 : (i : Int) < (N : Int) := by omega
  have i2 : (N : Int) ≤ (cap : Int) := by omega
  have i3 : (N : Int) ≤ 16 := by omega
  have HX := hide hX
  have HT := hide hi
  clear hX hN1 hil hn hn16 hi h B1 N1 fz
  have hw' : ((t.wa : Int) == 2) = false := by simp; omega
  have lc := DD.out.lcell hib
  obtain ⟨x, hx, hxi⟩ := held_ne hl
  rw [hx] at lc
  go_enter Tryd.func35, Tryd.ntmps35
  go_upto_region 1 with fail
  rw [hw1.out, hxb.out]
  go_upto_region 6 with fail
  go_quiet (fail)
  go_wp2_with fail
  go_ret2
  exact ⟨rfl, DD.out.below (Qt.below ⟨_, rfl⟩ _), SD.out.trans (StD.of_below rb X (Qt.below ⟨_, rfl⟩ _))⟩
set_option maxHeartbeats 4000000 in
theorem wait_ok (w0 w : World) (us : List Value) (rb : Nat) (X : Nat → Value) (D : Ds) (h : DA w0 us w rb X D) (hn : D.tk.length ≤ 16) {i ia ib : Nat} {t : Dk} (hi : D.tk[i]? = some t) (ak an : Int) (hia : ia < 4) (hib : ib < 4) (hw : t.wa ≠ 2) (hl : D.lk ib = some i) (hll : (D.sl ia).length ≤ 1000) :
    Calls Tryd.prog 35 #[.pointer (some ⟨rb, 0, none⟩), .int .i64 (i : Int), .agg #[.int .i64 ak, .int .i64 (ia : Int), .int .i64 (ib : Int), .int .i64 an]] w fun e w' => e = .returned (.tuple #[.bool false, .bool true]) ∧ ∃ X', X' 0 = X 0 ∧ DA w0 us w' rb X' { D with lk := up D.lk ib none, tk := D.tk.set i { t with wa := 1 }, sl := up D.sl ia (D.sl ia ++ [i]) } ∧ StD rb X X' w w' := by
  obtain ⟨aa, haa⟩ : ∃ aa : Int, Hid ((ia : Int) = aa) := ⟨_, rfl⟩
  have hia' : (ia : Int) < 4 := by omega
  rw [haa.out]
  have HLL := hide hll
  clear hll
  have hib' : (ib : Int) < 4 := by omega
  have B1 := box_below w (.cells #[.int .i64 ak, .int .i64 aa, .int .i64 (ib : Int), .int .i64 an] 45)
  have N1 := heap_alloc_new w (.cells #[.int .i64 ak, .int .i64 aa, .int .i64 (ib : Int), .int .i64 an] 45)
  obtain ⟨w1, hw1⟩ : ∃ w1, Hid (w.alloc (.cells #[.int .i64 ak, .int .i64 aa, .int .i64 (ib : Int), .int .i64 an] 45) = w1) := ⟨_, rfl⟩
  rw [hw1.out] at B1 N1
  obtain ⟨xb, hxb⟩ : ∃ xb, Hid (w.heap.size = xb) := ⟨_, rfl⟩
  have hxo : Hid (¬ OwnD rb X xb) := fun c => by have := h.lt xb c; have := hxb.out; omega
  rw [hxb.out] at N1
  have DD := hide (h.below B1)
  have SD : Hid (StD rb X X w w1) := StD.of_below rb X B1
  obtain ⟨x0, x1, x2, x3⟩ := four_of N1
  obtain ⟨ab, hab⟩ : ∃ ab : Int, Hid ((ib : Int) = ab) := ⟨_, rfl⟩
  rw [hab.out] at N1
  have NB := hide N1
  obtain ⟨g, cap, hX, hN1, hN2, fz, ⟨-, -, -, -⟩, -, c2, -, -, -⟩ := DD.out.tcell hi
  obtain ⟨r0, -, -⟩ := DD.out.cells
  rw [hX] at r0
  have hil := (List.getElem?_eq_some_iff.1 hi).1
  have hn16 := hn
  obtain ⟨N, hN⟩ : ∃ N, Hid (D.tk.length = N) := ⟨_, rfl⟩
  rw [hN.out] at r0 hN1 hil hn16
  have i1 : (i : Int) < (N : Int) := by omega
  have i2 : (N : Int) ≤ (cap : Int) := by omega
  have i3 : (N : Int) ≤ 16 := by omega
  have HX := hide hX
  have HT := hide hi
  clear hX hN1 hil hn hn16 hi h B1 N1 fz
  have hw' : ((t.wa : Int) == 2) = false := by simp; omega
  have lc := DD.out.lcell hib
  rw [hl] at lc
  simp only [hv] at lc
  have hxi : (((i : Int) + 1) != ((i : Int) + 1)) = false := by simp
  have DDD := hide (And.intro DD.out SD.out)
  have NBB := hide NB.out
  go_enter Tryd.func35, Tryd.ntmps35
  go_upto_region 1 with fail
  rw [hw1.out, hxb.out]
  go_upto_region 6 with fail
  go_quiet (fail)
  replace DD : Hid (DA w0 us (w1.drewN nq) rb X D) := DDD.out.1.below (Qt.below ⟨_, rfl⟩ _)
  replace SD : Hid (StD rb X X w (w1.drewN nq)) := DDD.out.2.trans (StD.of_below rb X (Qt.below ⟨_, rfl⟩ _))
  replace NB : Hid ((w1.drewN nq).heap[xb]? = some (.cells #[.int .i64 ak, .int .i64 aa, .int .i64 ab, .int .i64 an] 45)) := NBB.out
  replace x2 : (w1.drewN nq).cell? ⟨xb, 2, none⟩ = some (.int .i64 (ib : Int)) := x2
  clear DDD NBB lc x0 x1 x3 c2 r0 hw1
  go_upto_region 8 with fail
  generalize w1.drewN nq = w2 at *
  refine wp_region_T (fun q => q.cell? ⟨xb, 2, none⟩ = some (.int .i64 (ib : Int))) 6 (by kernel_rfl) ?_
  have KP : Hid (w2.drew.cell? ⟨xb, 2, none⟩ = some (.int .i64 (ib : Int))) := x2
  have DW := hide (DD.out.below (Below.refl _ _).drew)
  have SW : Hid (StD rb X X w w2.drew) := SD.out.trans (StD.of_below rb X (Below.refl _ _).drew)
  have NW : Hid (w2.drew.heap[xb]? = some (.cells #[.int .i64 ak, .int .i64 aa, .int .i64 ab, .int .i64 an] 45)) := NB.out
  clear DD SD NB
  generalize w2.drew = u1 at *
  refine wpAnyT_take (i := 0) (oi := { dst := some 41, op := Op.move (Operand.tmp 0), type := 53, pos := "ref.go:159", after := #[], guard := none }) (v := .pointer (some ⟨rb, 0, none⟩)) [3, 4, 5, 6] rfl (by kernel_rfl) (by kernel_rfl) (by kernel_rfl) (by kernel_rfl) (fun _ _ _ h => h) (Or.inl ⟨by rfl, ?_⟩) KP.out ?_
  · intro wq hSw
    have y0 := hSw
    go_simp
  (try simp only [Act.put, List.setIfInBounds_toArray, List.set_cons_zero, List.set_cons_succ])
  refine wpAnyT_take (i := 1) (oi := { dst := some 42, op := Op.fieldAddr 45 (Operand.tmp 5) 2, type := 0, pos := "ref.go:159", after := #[], guard := none }) (v := .pointer (some ⟨xb, 2, none⟩)) [2, 5, 6] rfl (by kernel_rfl) (by kernel_rfl) (by kernel_rfl) (by kernel_rfl) (fun _ _ _ h => h) (Or.inl ⟨by rfl, ?_⟩) KP.out ?_
  · intro wq hSw
    have y0 := hSw
    go_simp
  (try simp only [Act.put, List.setIfInBounds_toArray, List.set_cons_zero, List.set_cons_succ])
  refine wpAnyT_take (i := 2) (oi := { dst := some 43, op := Op.load 3 (Operand.tmp 42), type := 3, pos := "ref.go:159", after := #[{ on := 1, ground := Ground.data }], guard := none }) (v := .int .i64 (ib : Int)) [5, 6] rfl (by kernel_rfl) (by kernel_rfl) (by kernel_rfl) (by kernel_rfl) (fun _ _ _ h => h) (Or.inl ⟨by rfl, ?_⟩) KP.out ?_
  · intro wq hSw
    have y0 := hSw
    go_simp
  (try simp only [Act.put, List.setIfInBounds_toArray, List.set_cons_zero, List.set_cons_succ])
  refine wpAnyT_take (i := 3) (oi := { dst := some 44, op := Op.nilCheck (Operand.tmp 41), type := 0, pos := "ref.go:159", after := #[{ on := 0, ground := Ground.data }], guard := none }) (v := .pointer (some ⟨rb, 0, none⟩)) [4, 5, 6] rfl (by kernel_rfl) (by kernel_rfl) (by kernel_rfl) (by kernel_rfl) (fun _ _ _ h => h) (Or.inl ⟨by rfl, ?_⟩) KP.out ?_
  · intro wq hSw
    have y0 := hSw
    go_simp
  (try simp only [Act.put, List.setIfInBounds_toArray, List.set_cons_zero, List.set_cons_succ])
  refine wpAnyT_take (i := 4) (oi := { dst := some 45, op := Op.fieldAddr 63 (Operand.tmp 44) 1, type := 0, pos := "ref.go:159", after := #[{ on := 3, ground := Ground.data }], guard := none }) (v := .pointer (some ⟨rb, 1, none⟩)) [5, 6] rfl (by kernel_rfl) (by kernel_rfl) (by kernel_rfl) (by kernel_rfl) (fun _ _ _ h => h) (Or.inl ⟨by rfl, ?_⟩) KP.out ?_
  · intro wq hSw
    have y0 := hSw
    go_simp
  (try simp only [Act.put, List.setIfInBounds_toArray, List.set_cons_zero, List.set_cons_succ])
  refine wpAnyT_take (i := 5) (oi := { dst := some 46, op := Op.indexAddr 58 (Operand.tmp 45) (Operand.tmp 43), type := 0, pos := "ref.go:159", after := #[{ on := 4, ground := Ground.data }, { on := 2, ground := Ground.data }, { on := 0, ground := Ground.phase }, { on := 1, ground := Ground.phase }, { on := 2, ground := Ground.phase }], guard := none }) (v := .pointer (some ⟨rb, 1 + ib, none⟩)) [6] rfl (by kernel_rfl) (by kernel_rfl) (by kernel_rfl) (by kernel_rfl) (fun _ _ _ h => h) (Or.inl ⟨by rfl, ?_⟩) KP.out ?_
  · intro wq hSw
    have y0 := hSw
    go_simp
  (try simp only [Act.put, List.setIfInBounds_toArray, List.set_cons_zero, List.set_cons_succ])
  have cw1 := DW.out.lcell hib
  have cw2 := DW.out.frz (1 + ib)
  refine wpAnyT_one (i := 6) (o := { dst := none, op := Op.store 3 (Operand.tmp 46) (Operand.const (Value.int IntKind.i64 0)), type := 0, pos := "ref.go:159", after := #[{ on := 5, ground := Ground.data }, { on := 0, ground := Ground.phase }, { on := 1, ground := Ground.phase }, { on := 2, ground := Ground.phase }], guard := none }) (by kernel_rfl) rfl (fun K hK => ?_)
  go_simp
  refine hK.out _ _ (vac (by kernel_rfl)) ?_
  clear hK K
  (try simp only [Act.put, List.setIfInBounds_toArray, List.set_cons_zero, List.set_cons_succ])
  refine wpAnyT_done (by kernel_rfl) ?_ _
  obtain ⟨A4, s4⟩ := DW.out.setL hib none
  have D4 : Hid (DA w0 us (u1.setCell ⟨rb, 1 + ib, none⟩ (.int .i64 0)) rb X { D with lk := up D.lk ib none } ∧ StD rb X X w (u1.setCell ⟨rb, 1 + ib, none⟩ (.int .i64 0))) := ⟨A4, SW.out.trans s4⟩
  have N4 : Hid ((u1.setCell ⟨rb, 1 + ib, none⟩ (.int .i64 0)).heap[xb]? = some (.cells #[.int .i64 ak, .int .i64 aa, .int .i64 ab, .int .i64 an] 45)) := s4.1.at NW.out hxo.out
  clear A4 s4 DW SW KP NW cw1 cw2 x2
  generalize u1.setCell ⟨rb, 1 + ib, none⟩ (.int .i64 0) = w4 at *
  have HT' : ({ D with lk := up D.lk ib none } : Ds).tk[i]? = some t := HT.out
  obtain ⟨g2, cap2, hX2, -, -, fz2, ⟨-, -, -, -⟩, -, q2, -, -, -⟩ := D4.out.1.tcell HT'
  rw [HX.out] at hX2
  simp only [Value.slice.injEq, Option.some.injEq, Addr.mk.injEq, and_true] at hX2
  obtain ⟨rfl, -, -⟩ := hX2
  have f2 := fz2 (i * 6 + 2)
  obtain ⟨A5, s5⟩ := D4.out.1.setT HT' HX.out 1 (by omega) (.int .i64 1) (t' := { t with wa := 1 }) rfl rfl
  have DD : Hid (DA w0 us (w4.setCell ⟨g, i * 6 + 2, none⟩ (.int .i64 1)) rb X { D with lk := up D.lk ib none, tk := D.tk.set i { t with wa := 1 } }) := A5
  have SD : Hid (StD rb X X w (w4.setCell ⟨g, i * 6 + 2, none⟩ (.int .i64 1))) := D4.out.2.trans s5
  have NB : Hid ((w4.setCell ⟨g, i * 6 + 2, none⟩ (.int .i64 1)).heap[xb]? = some (.cells #[.int .i64 ak, .int .i64 aa, .int .i64 ab, .int .i64 an] 45)) := s5.1.at N4.out hxo.out
  clear A5 s5 fz2 HT' D4 N4
  go_upto_region 10 with fail
  generalize w4.setCell ⟨g, i * 6 + 2, none⟩ (.int .i64 1) = w5 at *
  clear f2 q2
  have l1 := DD.out.scell hia
  have x1 : w5.cell? ⟨xb, 1, none⟩ = some (.int .i64 (ia : Int)) := by rw [haa.out, cell_of NB.out]; rfl
  refine wp_region_T (fun q => q.cell? ⟨xb, 1, none⟩ = some (.int .i64 (ia : Int)) ∧ q.cell? ⟨rb, 5 + ia, none⟩ = some (X (1 + ia))) 16 (by kernel_rfl) ?_
  have KP : Hid (w5.drew.cell? ⟨xb, 1, none⟩ = some (.int .i64 (ia : Int)) ∧ w5.drew.cell? ⟨rb, 5 + ia, none⟩ = some (X (1 + ia))) := ⟨x1, l1⟩
  have DW := hide (DD.out.below (Below.refl _ _).drew)
  have SW : Hid (StD rb X X w w5.drew) := SD.out.trans (StD.of_below rb X (Below.refl _ _).drew)
  have NW : Hid (w5.drew.heap[xb]? = some (.cells #[.int .i64 ak, .int .i64 aa, .int .i64 ab, .int .i64 an] 45)) := NB.out
  clear DD SD NB
  generalize w5.drew = u1 at *
  refine wpAnyT_take (i := 0) (oi := { dst := some 50, op := Op.move (Operand.tmp 0), type := 53, pos := "ref.go:161", after := #[], guard := none }) (v := .pointer (some ⟨rb, 0, none⟩)) [13, 14, 15, 16] rfl (by kernel_rfl) (by kernel_rfl) (by kernel_rfl) (by kernel_rfl) (fun _ _ _ h => h) (Or.inl ⟨by rfl, ?_⟩) KP.out ?_
  · intro wq hSw
    obtain ⟨y0, y1⟩ := hSw
    go_simp
  (try simp only [Act.put, List.setIfInBounds_toArray, List.set_cons_zero, List.set_cons_succ])
  refine wpAnyT_take (i := 1) (oi := { dst := some 51, op := Op.fieldAddr 45 (Operand.tmp 5) 1, type := 0, pos := "ref.go:161", after := #[], guard := none }) (v := .pointer (some ⟨xb, 1, none⟩)) [2, 15, 16] rfl (by kernel_rfl) (by kernel_rfl) (by kernel_rfl) (by kernel_rfl) (fun _ _ _ h => h) (Or.inl ⟨by rfl, ?_⟩) KP.out ?_
  · intro wq hSw
    obtain ⟨y0, y1⟩ := hSw
    go_simp
  (try simp only [Act.put, List.setIfInBounds_toArray, List.set_cons_zero, List.set_cons_succ])
  refine wpAnyT_take (i := 2) (oi := { dst := some 52, op := Op.load 3 (Operand.tmp 51), type := 3, pos := "ref.go:161", after := #[{ on := 1, ground := Ground.data }], guard := none }) (v := .int .i64 (ia : Int)) [15, 16] rfl (by kernel_rfl) (by kernel_rfl) (by kernel_rfl) (by kernel_rfl) (fun _ _ _ h => h) (Or.inl ⟨by rfl, ?_⟩) KP.out ?_
  · intro wq hSw
    obtain ⟨y0, y1⟩ := hSw
    go_simp
  (try simp only [Act.put, List.setIfInBounds_toArray, List.set_cons_zero, List.set_cons_succ])
  refine wpAnyT_take (i := 3) (oi := { dst := some 53, op := Op.move (Operand.tmp 0), type := 53, pos := "ref.go:161", after := #[], guard := none }) (v := .pointer (some ⟨rb, 0, none⟩)) [6, 7, 8, 9, 12, 16] rfl (by kernel_rfl) (by kernel_rfl) (by kernel_rfl) (by kernel_rfl) (fun _ _ _ h => h) (Or.inl ⟨by rfl, ?_⟩) KP.out ?_
  · intro wq hSw
    obtain ⟨y0, y1⟩ := hSw
    go_simp
  (try simp only [Act.put, List.setIfInBounds_toArray, List.set_cons_zero, List.set_cons_succ])
  refine wpAnyT_take (i := 4) (oi := { dst := some 54, op := Op.fieldAddr 45 (Operand.tmp 5) 1, type := 0, pos := "ref.go:161", after := #[], guard := none }) (v := .pointer (some ⟨xb, 1, none⟩)) [5, 8, 9, 12, 16] rfl (by kernel_rfl) (by kernel_rfl) (by kernel_rfl) (by kernel_rfl) (fun _ _ _ h => h) (Or.inl ⟨by rfl, ?_⟩) KP.out ?_
  · intro wq hSw
    obtain ⟨y0, y1⟩ := hSw
    go_simp
  (try simp only [Act.put, List.setIfInBounds_toArray, List.set_cons_zero, List.set_cons_succ])
  refine wpAnyT_take (i := 5) (oi := { dst := some 55, op := Op.load 3 (Operand.tmp 54), type := 3, pos := "ref.go:161", after := #[{ on := 4, ground := Ground.data }], guard := none }) (v := .int .i64 (ia : Int)) [8, 9, 12, 16] rfl (by kernel_rfl) (by kernel_rfl) (by kernel_rfl) (by kernel_rfl) (fun _ _ _ h => h) (Or.inl ⟨by rfl, ?_⟩) KP.out ?_
  · intro wq hSw
    obtain ⟨y0, y1⟩ := hSw
    go_simp
  (try simp only [Act.put, List.setIfInBounds_toArray, List.set_cons_zero, List.set_cons_succ])
  refine wpAnyT_take (i := 6) (oi := { dst := some 56, op := Op.nilCheck (Operand.tmp 53), type := 0, pos := "ref.go:161", after := #[{ on := 3, ground := Ground.data }], guard := none }) (v := .pointer (some ⟨rb, 0, none⟩)) [7, 8, 9, 12, 16] rfl (by kernel_rfl) (by kernel_rfl) (by kernel_rfl) (by kernel_rfl) (fun _ _ _ h => h) (Or.inl ⟨by rfl, ?_⟩) KP.out ?_
  · intro wq hSw
    obtain ⟨y0, y1⟩ := hSw
    go_simp
  (try simp only [Act.put, List.setIfInBounds_toArray, List.set_cons_zero, List.set_cons_succ])
  refine wpAnyT_take (i := 7) (oi := { dst := some 57, op := Op.fieldAddr 63 (Operand.tmp 56) 2, type := 0, pos := "ref.go:161", after := #[{ on := 6, ground := Ground.data }], guard := none }) (v := .pointer (some ⟨rb, 5, none⟩)) [8, 9, 12, 16] rfl (by kernel_rfl) (by kernel_rfl) (by kernel_rfl) (by kernel_rfl) (fun _ _ _ h => h) (Or.inl ⟨by rfl, ?_⟩) KP.out ?_
  · intro wq hSw
    obtain ⟨y0, y1⟩ := hSw
    go_simp
  (try simp only [Act.put, List.setIfInBounds_toArray, List.set_cons_zero, List.set_cons_succ])
  refine wpAnyT_take (i := 8) (oi := { dst := some 58, op := Op.indexAddr 59 (Operand.tmp 57) (Operand.tmp 55), type := 0, pos := "ref.go:161", after := #[{ on := 7, ground := Ground.data }, { on := 5, ground := Ground.data }], guard := none }) (v := .pointer (some ⟨rb, 5 + ia, none⟩)) [9, 12, 16] rfl (by kernel_rfl) (by kernel_rfl) (by kernel_rfl) (by kernel_rfl) (fun _ _ _ h => h) (Or.inl ⟨by rfl, ?_⟩) KP.out ?_
  · intro wq hSw
    obtain ⟨y0, y1⟩ := hSw
    go_simp
  (try simp only [Act.put, List.setIfInBounds_toArray, List.set_cons_zero, List.set_cons_succ])
  refine wpAnyT_take (i := 9) (oi := { dst := some 59, op := Op.load 23 (Operand.tmp 58), type := 23, pos := "ref.go:161", after := #[{ on := 8, ground := Ground.data }], guard := none }) (v := X (1 + ia)) [12, 16] rfl (by kernel_rfl) (by kernel_rfl) (by kernel_rfl) (by kernel_rfl) (fun _ _ _ h => h) (Or.inl ⟨by rfl, ?_⟩) KP.out ?_
  · intro wq hSw
    obtain ⟨y0, y1⟩ := hSw
    go_simp
  (try simp only [Act.put, List.setIfInBounds_toArray, List.set_cons_zero, List.set_cons_succ])
  refine wpAnyT_take (i := 10) (oi := { dst := some 60, op := Op.move (Operand.tmp 1), type := 3, pos := "ref.go:161", after := #[], guard := none }) (v := .int .i64 (i : Int)) [11, 12, 16] rfl (by kernel_rfl) (by kernel_rfl) (by kernel_rfl) (by kernel_rfl) (fun _ _ _ h => h) (Or.inl ⟨by rfl, ?_⟩) KP.out ?_
  · intro wq hSw
    obtain ⟨y0, y1⟩ := hSw
    go_simp
  (try simp only [Act.put, List.setIfInBounds_toArray, List.set_cons_zero, List.set_cons_succ])
  refine wpAnyT_take (i := 13) (oi := { dst := some 63, op := Op.nilCheck (Operand.tmp 50), type := 0, pos := "ref.go:161", after := #[{ on := 0, ground := Ground.data }], guard := none }) (v := .pointer (some ⟨rb, 0, none⟩)) [14, 15, 16] rfl (by kernel_rfl) (by kernel_rfl) (by kernel_rfl) (by kernel_rfl) (fun _ _ _ h => h) (Or.inl ⟨by rfl, ?_⟩) KP.out ?_
  · intro wq hSw
    obtain ⟨y0, y1⟩ := hSw
    go_simp
  (try simp only [Act.put, List.setIfInBounds_toArray, List.set_cons_zero, List.set_cons_succ])
  refine wpAnyT_take (i := 14) (oi := { dst := some 64, op := Op.fieldAddr 63 (Operand.tmp 63) 2, type := 0, pos := "ref.go:161", after := #[{ on := 13, ground := Ground.data }], guard := none }) (v := .pointer (some ⟨rb, 5, none⟩)) [15, 16] rfl (by kernel_rfl) (by kernel_rfl) (by kernel_rfl) (by kernel_rfl) (fun _ _ _ h => h) (Or.inl ⟨by rfl, ?_⟩) KP.out ?_
  · intro wq hSw
    obtain ⟨y0, y1⟩ := hSw
    go_simp
  (try simp only [Act.put, List.setIfInBounds_toArray, List.set_cons_zero, List.set_cons_succ])
  obtain ⟨a7, n7, c7, w7, r7, F7⟩ := pushS DW.out hia i HLL.out
  have AL : Hid ((u1.alloc (.cells #[.int .i64 (i : Int)] 3)).cell? ⟨xb, 1, none⟩ = some (.int .i64 (ia : Int)) ∧ (u1.alloc (.cells #[.int .i64 (i : Int)] 3)).cell? ⟨rb, 5 + ia, none⟩ = some (X (1 + ia))) := ⟨alloc_cell _ KP.out.1, alloc_cell _ KP.out.2⟩
  have K7 : Hid (w7.cell? ⟨xb, 1, none⟩ = some (.int .i64 (ia : Int)) ∧ w7.cell? ⟨rb, 5 + ia, none⟩ = some (X (1 + ia))) := ⟨(World.cell?_of_block (F7.out.2.2.2.2 xb (heap_lt NW.out) hxo.out)).trans KP.out.1, F7.out.2.2.1⟩
  refine wpAnyT_one (i := 11) (o := { dst := some 61, op := Op.buildSlice 23 1 #[(0, Operand.tmp 60)], type := 23, pos := "ref.go:161", after := #[{ on := 10, ground := Ground.data }], guard := none }) (by kernel_rfl) rfl (fun K hK => ?_)
  go_simp
  refine hK.out _ _ (fun _ => AL.out) ?_
  clear hK K
  (try simp only [Act.put, List.setIfInBounds_toArray, List.set_cons_zero, List.set_cons_succ])
  refine wpAnyT_one (i := 12) (o := { dst := some 62, op := Op.call { callee := Callee.builtin Builtin.append, args := #[Operand.tmp 59, Operand.tmp 61], argTypes := #[23, 23] }, type := 23, pos := "ref.go:161", after := #[{ on := 9, ground := Ground.data }, { on := 11, ground := Ground.data }], guard := none }) (by kernel_rfl) rfl (fun K hK => ?_)
  rw [if_pos (by simp [Region.wanted])]
  refine Lib.wp_append_run _ (.tmp 59) (.tmp 61) 23 23 rfl (X (1 + ia)) (.slice (some ⟨u1.heap.size, 0, none⟩) 1 1) (by simp [Act.eval]) (by simp [Act.eval]) _ w7 r7.out ?_
  refine hK.out _ _ (fun _ => K7.out) ?_
  clear hK K
  (try simp only [Act.put, List.setIfInBounds_toArray, List.set_cons_zero, List.set_cons_succ])
  refine wpAnyT_one (i := 15) (o := { dst := some 65, op := Op.indexAddr 59 (Operand.tmp 64) (Operand.tmp 52), type := 0, pos := "ref.go:161", after := #[{ on := 14, ground := Ground.data }, { on := 2, ground := Ground.data }, { on := 0, ground := Ground.phase }, { on := 1, ground := Ground.phase }, { on := 2, ground := Ground.phase }, { on := 3, ground := Ground.phase }, { on := 4, ground := Ground.phase }, { on := 5, ground := Ground.phase }, { on := 6, ground := Ground.phase }, { on := 7, ground := Ground.phase }, { on := 8, ground := Ground.phase }, { on := 9, ground := Ground.phase }, { on := 10, ground := Ground.phase }, { on := 11, ground := Ground.phase }, { on := 12, ground := Ground.phase }], guard := none }) (by kernel_rfl) rfl (fun K hK => ?_)
  go_simp
  refine hK.out _ _ (fun _ => K7.out) ?_
  clear hK K
  (try simp only [Act.put, List.setIfInBounds_toArray, List.set_cons_zero, List.set_cons_succ])
  obtain ⟨-, -, k7, z7, -⟩ := F7.out
  clear AL K7
  refine wpAnyT_one (i := 16) (o := { dst := none, op := Op.store 23 (Operand.tmp 65) (Operand.tmp 62), type := 0, pos := "ref.go:161", after := #[{ on := 15, ground := Ground.data }, { on := 12, ground := Ground.data }, { on := 12, ground := Ground.chain }, { on := 0, ground := Ground.phase }, { on := 1, ground := Ground.phase }, { on := 2, ground := Ground.phase }, { on := 3, ground := Ground.phase }, { on := 4, ground := Ground.phase }, { on := 5, ground := Ground.phase }, { on := 6, ground := Ground.phase }, { on := 7, ground := Ground.phase }, { on := 8, ground := Ground.phase }, { on := 9, ground := Ground.phase }, { on := 10, ground := Ground.phase }, { on := 11, ground := Ground.phase }, { on := 12, ground := Ground.phase }], guard := none }) (by kernel_rfl) rfl (fun K hK => ?_)
  go_simp
  refine hK.out _ _ (vac (by kernel_rfl)) ?_
  clear hK K
  (try simp only [Act.put, List.setIfInBounds_toArray, List.set_cons_zero, List.set_cons_succ])
  refine wpAnyT_done (by kernel_rfl) ?_ _
  go_wp2_with fail
  go_ret2
  obtain ⟨G1, G2, -⟩ := F7.out
  exact ⟨rfl, up X (1 + ia) (.slice a7 n7 c7), up_other _ _ (by omega), G1, SW.out.trans G2⟩
end Go.Proofs.YtiiinpmkidobgaaDoor.Sd

/-
  What is told, as it is read; tasks laid; begun.
-/
namespace Go.Proofs.YtiiinpmkidobgaaDoor.Sd
open Go.RowKit
set_option linter.unusedVariables false
set_option linter.unusedSimpArgs false
set_option maxRecDepth 100000
theorem nums_form {B : Nat} {w : World} {v : Value} {l : List Int} (h : Iw B w v l) : ∃ ao ca, v = .slice ao l.length ca ∧ l.length ≤ ca ∧ ca ≤ 9223372036854775807 ∧ ∀ i x, l[i]? = some x → ∃ g, ao = some ⟨g, 0, none⟩ ∧ w.cell? ⟨g, i, none⟩ = some (.int .i64 x) := by
  rcases h.2 with ⟨e, hz⟩ | ⟨g, cap, cur, rfl, hg, h1, h2, h3, h4, h5⟩
  · refine ⟨none, 0, by rw [hz]; exact e, by omega, by omega, fun i x hi => ?_⟩
    rw [List.length_eq_zero_iff.1 hz] at hi
    simp at hi
  · refine ⟨_, cap, rfl, h2, by unfold maxLen at h3; exact h3, fun i x hi => ⟨g, rfl, ?_⟩⟩
    have hil := (List.getElem?_eq_some_iff.1 hi).1
    rw [cell_of h1, ← Array.getElem?_toList, ← List.getElem?_take_of_lt (j := l.length * 1) (by omega), h5, List.getElem?_map, hi]
    rfl
theorem ends_form {B : Nat} {w : World} {v : Value} {l : List (Int × Int)} (h : w.ownsRow B 48 2 v l.length (ecells l)) : ∃ ao ca, v = .slice ao l.length ca ∧ l.length ≤ ca ∧ ca ≤ 9223372036854775807 ∧ ∀ i x, l[i]? = some x → ∃ g, ao = some ⟨g, 0, none⟩ ∧ w.cell? ⟨g, i * 2, none⟩ = some (.int .i64 x.1) ∧ w.cell? ⟨g, i * 2 + 1, none⟩ = some (.int .i64 x.2) := by
  have tc : ∀ (l : List (Int × Int)) (i : Nat) (x : Int × Int), l[i]? = some x → (ecells l)[i * 2]? = some (.int .i64 x.1) ∧ (ecells l)[i * 2 + 1]? = some (.int .i64 x.2) := by
    intro l
    induction l with
    | nil => intro i x hx; simp at hx
    | cons a r ih =>
      intro i x hx
      match i with
      | 0 => simp at hx; subst hx; exact ⟨rfl, rfl⟩
      | i + 1 =>
        have := ih i x (by simpa using hx)
        rw [show (i + 1) * 2 = i * 2 + 1 + 1 by omega]
        exact this
  rcases h.2 with ⟨e, hz⟩ | ⟨g, cap, cur, rfl, hg, h1, h2, h3, h4, h5⟩
  · refine ⟨none, 0, by rw [hz]; exact e, by omega, by omega, fun i x hi => ?_⟩
    rw [List.length_eq_zero_iff.1 hz] at hi
    simp at hi
  · refine ⟨_, cap, rfl, h2, by unfold maxLen at h3; exact h3, fun i x hi => ⟨g, rfl, ?_⟩⟩
    have hil := (List.getElem?_eq_some_iff.1 hi).1
    obtain ⟨t1, t2⟩ := tc l i x hi
    rw [← h5, List.getElem?_take_of_lt (by omega)] at t1 t2
    rw [cell_of h1, cell_of h1, ← Array.getElem?_toList, ← Array.getElem?_toList]
    exact ⟨t1, t2⟩
def acell (a : Ac) : List Value := [.int .i64 a.k, .int .i64 a.a, .int .i64 a.b, .int .i64 a.n]
def acells (l : List Ac) : List Value := l.flatMap acell
theorem acells_get : ∀ (l : List Ac) (i : Nat) (a : Ac), l[i]? = some a → (acells l)[i * 4]? = some (.int .i64 a.k) ∧ (acells l)[i * 4 + 1]? = some (.int .i64 a.a) ∧ (acells l)[i * 4 + 2]? = some (.int .i64 a.b) ∧ (acells l)[i * 4 + 3]? = some (.int .i64 a.n) := by
  intro l
  induction l with
  | nil => intro i x hx; simp at hx
  | cons a r ih =>
    intro i x hx
    match i with
    | 0 => simp at hx; subst hx; exact ⟨rfl, rfl, rfl, rfl⟩
    | i + 1 =>
      have := ih i x (by simpa using hx)
      rw [show (i + 1) * 4 = i * 4 + 1 + 1 + 1 + 1 by omega]
      exact this
theorem acells_len (l : List Ac) : (acells l).length = l.length * 4 := by
  induction l with
  | nil => rfl
  | cons a r ih =>
    show (acell a ++ acells r).length = _
    rw [List.length_append, ih]
    simp [acell]; omega
theorem acts_lit {w : World} {b : Nat} {l : List Ac} {cs : Array Value} {T : TypeId} {fz : Nat × Nat} (h : w.heap[b]? = some (.cells cs T fz)) (hc : cs.toList = acells l) : ActsAt w (.slice (some ⟨b, 0, none⟩) l.length l.length) l := by
  refine ⟨_, _, rfl, Nat.le_refl _, fun i a hi => ⟨b, 0, rfl, ?_⟩⟩
  obtain ⟨h1, h2, h3, h4⟩ := acells_get l i a hi
  have hz : ∀ j, w.cell? ⟨b, j, none⟩ = (acells l)[j]? := fun j => by rw [cell_of h, ← Array.getElem?_toList, hc]
  rw [Nat.zero_add]
  exact ⟨(hz _).trans h1, (hz _).trans h2, (hz _).trans h3, (hz _).trans h4⟩
theorem acts_own {w : World} {B : Nat} {v : Value} {l : List Ac} (h : w.ownsRow B 45 4 v l.length (acells l)) : ActsAt w v l := by
  rcases h.2 with ⟨e, hz⟩ | ⟨g, cap, cur, rfl, hg, h1, h2, h3, h4, h5⟩
  · refine ⟨none, 0, by rw [hz]; exact e, by omega, fun i x hi => ?_⟩
    rw [List.length_eq_zero_iff.1 hz] at hi
    simp at hi
  · refine ⟨_, cap, rfl, h2, fun i a hi => ⟨g, 0, rfl, ?_⟩⟩
    have hil := (List.getElem?_eq_some_iff.1 hi).1
    obtain ⟨t1, t2, t3, t4⟩ := acells_get l i a hi
    rw [← h5, List.getElem?_take_of_lt (by omega)] at t1 t2 t3 t4
    rw [Nat.zero_add]
    refine ⟨?_, ?_, ?_, ?_⟩
    · rw [cell_of h1, ← Array.getElem?_toList]; exact t1
    · rw [cell_of h1, ← Array.getElem?_toList]; exact t2
    · rw [cell_of h1, ← Array.getElem?_toList]; exact t3
    · rw [cell_of h1, ← Array.getElem?_toList]; exact t4
theorem tks_lit {w : World} {b : Nat} {us : List Value} {ts : List (List Ac)} {cs : Array Value} {T : TypeId} {fz : Nat × Nat} (h : w.heap[b]? = some (.cells cs T fz)) (hc : cs.toList = us) (hm : us.length ≤ 1000000) (hl : us.length = ts.length) (ha : ∀ (i : Nat) (u : Value) (l : List Ac), us[i]? = some u → ts[i]? = some l → ActsAt w u l) : TksAt w (.slice (some ⟨b, 0, none⟩) us.length us.length) us ts := by
  refine ⟨⟨_, _, rfl, (fun e => by cases e), Nat.le_refl _, by unfold maxLen; omega, fun i hi => ⟨b, 0, rfl, ?_⟩⟩, hl, ha⟩
  rw [cell_of h, Nat.zero_add, ← Array.getElem?_toList, hc, List.getElem?_eq_getElem hi]
theorem tks_own {w : World} {B : Nat} {v : Value} {us : List Value} {ts : List (List Ac)} (h : w.ownsRow B 46 1 v us.length us) (hl : us.length = ts.length) (ha : ∀ (i : Nat) (u : Value) (l : List Ac), us[i]? = some u → ts[i]? = some l → ActsAt w u l) : TksAt w v us ts := by
  refine ⟨?_, hl, ha⟩
  rcases h.2 with ⟨e, hz⟩ | ⟨g, cap, cur, rfl, hg, h1, h2, h3, h4, h5⟩
  · have : us = [] := List.length_eq_zero_iff.1 hz
    subst this
    exact ⟨none, 0, e, fun _ => ⟨rfl, rfl⟩, Nat.le_refl _, Nat.zero_le _, fun i hi => absurd hi (by simp)⟩
  · refine ⟨_, cap, rfl, (fun e => by cases e), h2, by unfold maxLen at *; exact h3, fun i hi => ⟨g, 0, rfl, ?_⟩⟩
    rw [cell_of h1, Nat.zero_add, ← Array.getElem?_toList, ← List.getElem?_take_of_lt (j := us.length * 1) (by omega), h5, List.getElem?_eq_getElem hi]
/-- What Run answered, read: the turns, the registers, the ends. -/
structure Rd (w : World) (S : St) (ta : Option Addr) (tc gr rc : Nat) (ea : Option Addr) (ec : Nat) : Prop where
  tr : S.tr.length ≤ tc ∧ ∀ i x, S.tr[i]? = some x → ∃ g, ta = some ⟨g, 0, none⟩ ∧ w.cell? ⟨g, i * 2, none⟩ = some (.int .i64 (x.1 : Int)) ∧ w.cell? ⟨g, i * 2 + 1, none⟩ = some (.int .i64 (x.2 : Int))
  rg : 8 ≤ rc ∧ ∀ i, i < 8 → w.cell? ⟨gr, i, none⟩ = some (.int .i64 (S.rg i))
  en : S.tk.length ≤ ec ∧ ∀ i t, S.tk[i]? = some t → ∃ g, ea = some ⟨g, 0, none⟩ ∧ w.cell? ⟨g, i * 2, none⟩ = some (.int .i64 (howS S t)) ∧ w.cell? ⟨g, i * 2 + 1, none⟩ = some (.int .i64 t.wt)
theorem Rd.below {w w' : World} {S : St} {ta : Option Addr} {tc gr rc : Nat} {ea : Option Addr} {ec : Nat} (h : Rd w S ta tc gr rc ea ec) (hb : Below w.heap.size w w') : Rd w' S ta tc gr rc ea ec := by
  refine ⟨⟨h.tr.1, fun i x hi => ?_⟩, ⟨h.rg.1, fun i hi => (hb.cell (lt_of_cell (h.rg.2 i hi))).trans (h.rg.2 i hi)⟩, ⟨h.en.1, fun i t hi => ?_⟩⟩
  · obtain ⟨g, e, h1, h2⟩ := h.tr.2 i x hi
    exact ⟨g, e, (hb.cell (lt_of_cell h1)).trans h1, (hb.cell (lt_of_cell h2)).trans h2⟩
  · obtain ⟨g, e, h1, h2⟩ := h.en.2 i t hi
    exact ⟨g, e, (hb.cell (lt_of_cell h1)).trans h1, (hb.cell (lt_of_cell h2)).trans h2⟩
theorem run_read (w : World) (hT : Tb w) (v vp : Value) (us : List Value) (ts : List (List Ac)) (h : TksAt w v us ts) (picks : List Int) (hp : Row w vp (picks.map (Value.int .i64))) (hp1 : ∀ k ∈ picks, k ≤ 9223372036854775807) (room most : Nat) (hE : refE ts room picks most = 0) (S : St) (hS : runS ts room picks most = S) :
    Calls Tryd.prog 10 #[v, .int .i64 (room : Int), vp, .int .i64 (most : Int)] w fun e w' => ∃ ta tc gr rc ea ec qv, e = .returned (.tuple #[.agg #[.int .i64 (S.tr.length : Int), .slice ta S.tr.length tc, .slice (some ⟨gr, 0, none⟩) 8 rc, .slice ea S.tk.length ec, qv], .int .i64 0]) ∧ (∃ qa qc, qv = .slice qa 4 qc) ∧ Rd w' S ta tc gr rc ea ec ∧ Below w.heap.size w w' := by
  subst hS
  refine (run_yes w hT v vp us ts h picks hp hp1 room most hE).mono ?_
  rintro e w' ⟨tv, rv, ev, qv, rfl, ⟨vs, R⟩, hb⟩
  obtain ⟨ta, tc, rfl, t1, -, t2⟩ := turns_form R.tr
  obtain ⟨ra, rc, rfl, r1, -, r2⟩ := nums_form R.rg
  obtain ⟨ea, ec, rfl, e1, -, e2⟩ := ends_form R.en
  obtain ⟨qa, qc, hq, -⟩ := own_form R.qs
  have h8 : (regs (runS ts room picks most)).length = 8 := by simp [regs]
  have hr : ∀ i, i < 8 → (regs (runS ts room picks most))[i]? = some ((runS ts room picks most).rg i) := fun i hi => by simp [regs, hi]
  obtain ⟨gr, rfl, -⟩ := r2 0 _ (hr 0 (by decide))
  have hn : (endsI (runS ts room picks most) (runS ts room picks most).tk.length).length = (runS ts room picks most).tk.length := endsI_len (Nat.le_refl _)
  rw [h8] at r1
  rw [hn] at e1
  rw [h8, hn]
  refine ⟨ta, tc, gr, rc, ea, ec, qv, rfl, ⟨qa, qc, ?_⟩, ⟨⟨t1, t2⟩, ⟨r1, fun i hi => ?_⟩, ⟨e1, fun i t hi => ?_⟩⟩, hb⟩
  · rw [hq, R.ql.1]; simp [quesI]
  · obtain ⟨g, e, h1⟩ := r2 i _ (hr i hi)
    cases e
    exact h1
  · refine e2 i (howS _ t, t.wt) ?_
    unfold endsI
    rw [List.take_length, List.getElem?_map, hi]
    rfl
theorem row_nil (w : World) : Row w (.slice none 0 0) ([].map (Value.int .i64)) := ⟨none, 0, rfl, fun _ => ⟨rfl, rfl⟩, Nat.le_refl _, Nat.zero_le _, fun i hi => absurd hi (by simp)⟩
def bg1 : List (List Ac) := [[⟨13, 0, 0, 2⟩, ⟨12, 0, 0, 9⟩, ⟨8, 0, 0, 1⟩], [⟨7, 0, 0, 0⟩]]
def bg2 : List (List Ac) := [[⟨11, 0, 0, 0⟩]]
theorem bg1_ref : refE bg1 (1 : Nat) [] (99 : Nat) = 0 := by decide +kernel
theorem bg2_ref : refE bg2 (1 : Nat) [] (([] : List Int).length : Nat) = 0 := by decide +kernel
def bgS : St := runS bg1 1 [] 99
theorem bg_facts : bgS.tr.length = 3 ∧ bgS.tk.length = 2 ∧ bgS.rg 7 = 9 ∧ bgS.rg 0 = 1 ∧ (bgS.tk[0]?.map (howS bgS)) = some 1 ∧ (bgS.tk[1]?.map (howS bgS)) = some 7 := by decide +kernel
theorem bg2_rdy : rdy (runS bg2 1 [] 0) = [0] := by decide +kernel
theorem may_nil (w : World) (hT : Tb w) : Calls Tryd.prog 6 #[.slice none 0 0] w fun e w' => e = .returned (.int .i64 0) ∧ Below w.heap.size w w' := by
  have := may_any w hT (.slice none 0 0) [] [] ⟨⟨none, 0, rfl, fun _ => ⟨rfl, rfl⟩, Nat.le_refl _, Nat.zero_le _, fun i hi => absurd hi (by simp)⟩, rfl, fun i u l h => by simp at h⟩
  have e : mayE [] = 0 := by decide +kernel
  rw [e] at this
  exact this
end Go.Proofs.YtiiinpmkidobgaaDoor.Sd

