/-
  The document's begin. (gen_TfK.py)
-/
import Derived.Test.YtiiinpmkidobgaaDoorA06
import Derived.Test.YtiiinpmkidobgaaDoorA05
import Derived.Test.YtiiinpmkidobgaaDoorA03
import Derived.Deep.CutBlock
import Derived.Test.YtiiinpmkidobgaaDoorA01
namespace Go.Proofs.YtiiinpmkidobgaaDoor.Sd
open Go.RowKit
open Ix (wp_region_T wpAnyT wpAnyT_take wpAnyT_one wpAnyT_done vac)
set_option linter.unusedVariables false
set_option linter.unusedSimpArgs false
set_option maxRecDepth 100000
theorem dk0_of (l : List Ac) : (dk0 l).pc = 0 ∧ (dk0 l).wa = 0 ∧ (dk0 l).gd = -1 ∧ (dk0 l).wt = 0 ∧ (dk0 l).hw = if l.length ≤ 0 then 1 else 0 := by
  by_cases h : l.length ≤ 0
  · have h' : (tk00 l).ac.length ≤ (tk00 l).pc := h
    unfold dk0 endsK
    rw [if_pos h', if_pos h]
    exact ⟨rfl, rfl, rfl, rfl, rfl⟩
  · have h' : ¬ (tk00 l).ac.length ≤ (tk00 l).pc := h
    unfold dk0 endsK
    rw [if_neg h', if_neg h]
    exact ⟨rfl, rfl, rfl, rfl, rfl⟩
/-- ends of a task in a block of its own. -/
theorem ends_box (w : World) (xt : Nat) (l : List Ac) (ua : Option Addr) (uc : Nat) (h : w.heap[xt]? = some (.cells #[.slice ua l.length uc, .int .i64 0, .int .i64 0, .int .i64 (-1), .int .i64 0, .int .i64 0] 65 (0, 0))) :
    Calls Tryd.prog 33 #[.pointer (some ⟨xt, 0, none⟩)] w fun e w' => e = .returned (.tuple #[]) ∧ But (fun k => k = xt) w w' ∧ w'.heap[xt]? = some (.cells #[.slice ua l.length uc, .int .i64 ((dk0 l).pc : Int), .int .i64 ((dk0 l).wa : Int), .int .i64 (dk0 l).gd, .int .i64 (dk0 l).hw, .int .i64 (dk0 l).wt] 65 (0, 0)) := by
  obtain ⟨e1, e2, e3, e4, e5⟩ := dk0_of l
  rw [e1, e2, e3, e4, e5]
  refine (ends_raw w xt 0 (P := 0) ((cell_of h).trans rfl) ((cell_of h).trans rfl) ((cell_of h).trans rfl) (frz_of h)).mono ?_
  rintro e w' ⟨rfl, n, rfl⟩
  have h' : (w.drewN n).heap[xt]? = some (.cells #[.slice ua l.length uc, .int .i64 0, .int .i64 0, .int .i64 (-1), .int .i64 0, .int .i64 0] 65 (0, 0)) := h
  have b : But (fun k => k = xt) w (w.drewN n) := But.of_below (Qt.below ⟨n, rfl⟩ _) _
  split
  · refine ⟨rfl, b.trans (But.set _ _ _ _ rfl), ?_⟩
    rw [heap_setCell_same _ _ _ _ _ _ h']
    rfl
  · exact ⟨rfl, b, h'⟩
theorem Bd.below {w wr wq : World} {us : List Value} {ts : List (List Ac)} {i room : Nat} {tv : Value} (h : Bd w us ts i room tv wr) (hb : Below wr.heap.size wr wq) : Bd w us ts i room tv wq :=
  ⟨(hb.block _ (heap_lt h.rn)).trans h.rn, row_below h.row hb, h.lw.trans (hb.mono h.lw.size)⟩
theorem slices_of {w : World} {u : Value} {l : List Ac} (h : ActsAt w u l) : ∃ ua uc, u = .slice ua l.length uc := by
  obtain ⟨ua, uc, e, -, -⟩ := h
  exact ⟨ua, uc, e⟩
set_option maxHeartbeats 4000000 in
theorem rbegin_any (w : World) (v : Value) (us : List Value) (ts : List (List Ac)) (h : TksAt w v us ts) (hn : ts.length ≤ 16) (room : Nat) :
    Calls Tryd.prog 21 #[v, .int .i64 (room : Int)] w fun e w' => e = .returned (.pointer (some ⟨w.heap.size, 0, none⟩)) ∧ ∃ X, DA w us w' w.heap.size X (initD ts room) := by
  obtain ⟨hr, hul', hact⟩ := h
  have hul := hide hul'
  have HR := hide hr
  obtain ⟨ao, cap, e, -, -, -, -⟩ := hr
  subst e
  obtain ⟨n, hnn⟩ : ∃ n, Hid (us.length = n) := ⟨_, rfl⟩
  rw [hnn.out] at HR ⊢
  have hn' : n ≤ 16 := by rw [← hnn.out]; omega
  have FIN : Hid (∀ tv wr, Bd w us ts n room tv wr → DA w us wr w.heap.size (XV tv) (initD ts room)) := fun tv wr hb => Bd.at (by rw [← hul', hnn.out]; exact hb) hul' hact
  have USL : Hid (∀ (i : Nat) (u : Value) (l : List Ac), us[i]? = some u → ts[i]? = some l → ∃ ua uc, u = .slice ua l.length uc) := fun i u l hu hl => slices_of (hact i u l hu hl)
  have HTN : Hid (∀ i, i < n → ∃ l, ts[i]? = some l) := fun i hi => ⟨_, List.getElem?_eq_getElem (by rw [← hul', hnn.out]; exact hi)⟩
  have B1 := box_below w (.cells (sc (.slice none 0 0) room) 63)
  have N1 := heap_alloc_new w (.cells (sc (.slice none 0 0) room) 63)
  have BG0 : Hid (Bd w us ts 0 room (.slice none 0 0) (w.alloc (.cells (sc (.slice none 0 0) room) 63))) := ⟨N1, World.ownsRow_nil _ _ _ _, B1⟩
  obtain ⟨w1, hw1⟩ : ∃ w1, Hid (w.alloc (.cells (sc (.slice none 0 0) room) 63) = w1) := ⟨_, rfl⟩
  rw [hw1.out] at BG0
  unfold sc at hw1
  clear hact hul' B1 N1 hn
  go_enter Tryd.func21, Tryd.ntmps21
  go_upto_region 2 with fail
  rw [hw1.out]
  go_wp2_with fail
  go_loopw [6] (fun s wr => ∃ (i : Nat) (tv : Value), s = .int .i64 (i : Int) ∧ i ≤ n ∧ Hid (Bd w us ts i room tv wr)) (fun s wr => n - (intOf s).toNat)
  case atStart => exact ⟨0, _, rfl, Nat.zero_le _, BG0⟩
  case round =>
    obtain ⟨i, tv, rfl, hin, hst⟩ := hrel
    by_cases hlt : i < n
    · have i1 : (i : Int) < (n : Int) := by omega
      obtain ⟨u, hu⟩ : ∃ u, us[i]? = some u := ⟨_, List.getElem?_eq_getElem (by rw [hnn.out]; exact hlt)⟩
      obtain ⟨l, hl⟩ := HTN.out i hlt
      obtain ⟨hcp, hrow⟩ := row_at (Below.row hst.out.lw HR.out) hnn.out
      obtain ⟨b, off, rfl, c0⟩ := hrow i u hu
      have hcp' : (i : Int) < (cap : Int) := by omega
      obtain ⟨ua, uc, e⟩ := USL.out i u l hu hl
      subst e
      obtain ⟨ul, hul2⟩ : ∃ ul, Hid (l.length = ul) := ⟨_, rfl⟩
      obtain ⟨ta, tc, e⟩ := slice_ofR hst.out.row
      subst e
      have hi1000 : Hid (i ≤ 1000) := by show _ ≤ _; omega
      have B2 := box_below wr (.cells #[.slice ua l.length uc, .int .i64 0, .int .i64 0, .int .i64 (-1), .int .i64 0, .int .i64 0] 65)
      have N2 := heap_alloc_new wr (.cells #[.slice ua l.length uc, .int .i64 0, .int .i64 0, .int .i64 (-1), .int .i64 0, .int .i64 0] 65)
      obtain ⟨w3, hw3⟩ : ∃ w3, Hid (wr.alloc (.cells #[.slice ua l.length uc, .int .i64 0, .int .i64 0, .int .i64 (-1), .int .i64 0, .int .i64 0] 65) = w3) := ⟨_, rfl⟩
      rw [hw3.out] at B2 N2
      have EB := hide (ends_box w3 wr.heap.size l ua uc N2)
      have B2H := hide B2
      have LT := hide (World.ownsRow.lt hst.out.row)
      replace hu := hide hu
      replace hl := hide hl
      rw [hul2.out] at c0 hw3
      clear hrow B2 N2 hcp
      go_upto_region 6 with fail
      rw [hw3.out]
      rw [hul2.out] at EB
      go_upto_region 7 with (go_at_call 33; refine EB.out.mono ?_; rintro e w4 ⟨rfl, b4, n4⟩; replace b4 := hide b4; replace n4 := hide n4)
      have b5 : Below wr.heap.size wr w4 := B2H.out.trans (b4.out.below B2H.out.size fun k e => by omega)
      have B4 := hide (hst.out.below b5)
      clear EB hw3 hst
      obtain ⟨xt, hxt⟩ : ∃ xt, Hid (wr.heap.size = xt) := ⟨_, rfl⟩
      rw [hxt.out] at n4 ⊢
      have tv0 : w4.cell? ⟨w.heap.size, 0, none⟩ = some (.slice ta i tc) := by rw [cell_of B4.out.rn]; rfl
      have X4 : Hid (w4.heap[xt]? = some (.cells #[.slice ua ul uc, .int .i64 ((dk0 l).pc : Int), .int .i64 ((dk0 l).wa : Int), .int .i64 (dk0 l).gd, .int .i64 (dk0 l).hw, .int .i64 (dk0 l).wt] 65) ∧ ∀ k, (Value.slice ta i tc).ownBlock = some k → k ≠ xt) := ⟨n4.out, fun k hk e => by
        have h1 := (LT.out k (hk)).2
        have := hxt.out
        omega⟩
      obtain ⟨h0, h1, h2, h3, h4, h5⟩ : w4.cell? ⟨xt, 0, none⟩ = some (.slice ua ul uc) ∧ w4.cell? ⟨xt, 1, none⟩ = some (.int .i64 ((dk0 l).pc : Int)) ∧ w4.cell? ⟨xt, 2, none⟩ = some (.int .i64 ((dk0 l).wa : Int)) ∧ w4.cell? ⟨xt, 3, none⟩ = some (.int .i64 (dk0 l).gd) ∧ w4.cell? ⟨xt, 4, none⟩ = some (.int .i64 (dk0 l).hw) ∧ w4.cell? ⟨xt, 5, none⟩ = some (.int .i64 (dk0 l).wt) := by
        refine ⟨?_, ?_, ?_, ?_, ?_, ?_⟩ <;> rw [cell_of n4.out] <;> rfl
      rw [hul2.out] at hu
      clear n4 b4 b5 LT B2H c0
      refine wp_region_T (fun q => q.cell? ⟨w.heap.size, 0, none⟩ = some (.slice ta i tc) ∧ q.cell? ⟨xt, 0, none⟩ = some (.slice ua ul uc) ∧ q.cell? ⟨xt, 1, none⟩ = some (.int .i64 ((dk0 l).pc : Int)) ∧ q.cell? ⟨xt, 2, none⟩ = some (.int .i64 ((dk0 l).wa : Int)) ∧ q.cell? ⟨xt, 3, none⟩ = some (.int .i64 (dk0 l).gd) ∧ q.cell? ⟨xt, 4, none⟩ = some (.int .i64 (dk0 l).hw) ∧ q.cell? ⟨xt, 5, none⟩ = some (.int .i64 (dk0 l).wt)) 10 (by kernel_rfl) ?_
      have KP : Hid (w4.drew.cell? ⟨w.heap.size, 0, none⟩ = some (.slice ta i tc) ∧ w4.drew.cell? ⟨xt, 0, none⟩ = some (.slice ua ul uc) ∧ w4.drew.cell? ⟨xt, 1, none⟩ = some (.int .i64 ((dk0 l).pc : Int)) ∧ w4.drew.cell? ⟨xt, 2, none⟩ = some (.int .i64 ((dk0 l).wa : Int)) ∧ w4.drew.cell? ⟨xt, 3, none⟩ = some (.int .i64 (dk0 l).gd) ∧ w4.drew.cell? ⟨xt, 4, none⟩ = some (.int .i64 (dk0 l).hw) ∧ w4.drew.cell? ⟨xt, 5, none⟩ = some (.int .i64 (dk0 l).wt)) := ⟨tv0, h0, h1, h2, h3, h4, h5⟩
      have BV : Hid (Bd w us ts i room (.slice ta i tc) w4.drew) := ⟨B4.out.rn, B4.out.row, B4.out.lw.drew⟩
      have XH : Hid (w4.drew.heap[xt]? = some (.cells #[.slice ua ul uc, .int .i64 ((dk0 l).pc : Int), .int .i64 ((dk0 l).wa : Int), .int .i64 (dk0 l).gd, .int .i64 (dk0 l).hw, .int .i64 (dk0 l).wt] 65) ∧ ∀ k, (Value.slice ta i tc).ownBlock = some k → k ≠ xt) := X4
      clear X4 B4 tv0 h0 h1 h2 h3 h4 h5
      generalize w4.drew = u1 at *
      refine wpAnyT_take (i := 0) (oi := { dst := some 23, op := Op.move (Operand.tmp 5), type := 53, pos := "ref.go:252", after := #[], guard := none }) (v := .pointer (some ⟨w.heap.size, 0, none⟩)) [8, 9, 10] rfl (by kernel_rfl) (by kernel_rfl) (by kernel_rfl) (by kernel_rfl) (fun _ _ _ h => h) (Or.inl ⟨by rfl, ?_⟩) KP.out ?_
      · intro wq hSw
        obtain ⟨y0, y1, y2, y3, y4, y5, y6⟩ := hSw
        go_simp
      (try simp only [Act.put, List.setIfInBounds_toArray, List.set_cons_zero, List.set_cons_succ])
      refine wpAnyT_take (i := 1) (oi := { dst := some 24, op := Op.move (Operand.tmp 5), type := 53, pos := "ref.go:252", after := #[], guard := none }) (v := .pointer (some ⟨w.heap.size, 0, none⟩)) [2, 3, 4, 7, 10] rfl (by kernel_rfl) (by kernel_rfl) (by kernel_rfl) (by kernel_rfl) (fun _ _ _ h => h) (Or.inl ⟨by rfl, ?_⟩) KP.out ?_
      · intro wq hSw
        obtain ⟨y0, y1, y2, y3, y4, y5, y6⟩ := hSw
        go_simp
      (try simp only [Act.put, List.setIfInBounds_toArray, List.set_cons_zero, List.set_cons_succ])
      refine wpAnyT_take (i := 2) (oi := { dst := some 25, op := Op.nilCheck (Operand.tmp 24), type := 0, pos := "ref.go:252", after := #[{ on := 1, ground := Ground.data }], guard := none }) (v := .pointer (some ⟨w.heap.size, 0, none⟩)) [3, 4, 7, 10] rfl (by kernel_rfl) (by kernel_rfl) (by kernel_rfl) (by kernel_rfl) (fun _ _ _ h => h) (Or.inl ⟨by rfl, ?_⟩) KP.out ?_
      · intro wq hSw
        obtain ⟨y0, y1, y2, y3, y4, y5, y6⟩ := hSw
        go_simp
      (try simp only [Act.put, List.setIfInBounds_toArray, List.set_cons_zero, List.set_cons_succ])
      refine wpAnyT_take (i := 3) (oi := { dst := some 26, op := Op.fieldAddr 63 (Operand.tmp 25) 0, type := 0, pos := "ref.go:252", after := #[{ on := 2, ground := Ground.data }], guard := none }) (v := .pointer (some ⟨w.heap.size, 0, none⟩)) [4, 7, 10] rfl (by kernel_rfl) (by kernel_rfl) (by kernel_rfl) (by kernel_rfl) (fun _ _ _ h => h) (Or.inl ⟨by rfl, ?_⟩) KP.out ?_
      · intro wq hSw
        obtain ⟨y0, y1, y2, y3, y4, y5, y6⟩ := hSw
        go_simp
      (try simp only [Act.put, List.setIfInBounds_toArray, List.set_cons_zero, List.set_cons_succ])
      refine wpAnyT_take (i := 4) (oi := { dst := some 27, op := Op.load 57 (Operand.tmp 26), type := 57, pos := "ref.go:252", after := #[{ on := 3, ground := Ground.data }], guard := none }) (v := .slice ta i tc) [7, 10] rfl (by kernel_rfl) (by kernel_rfl) (by kernel_rfl) (by kernel_rfl) (fun _ _ _ h => h) (Or.inl ⟨by rfl, ?_⟩) KP.out ?_
      · intro wq hSw
        obtain ⟨y0, y1, y2, y3, y4, y5, y6⟩ := hSw
        go_simp
      (try simp only [Act.put, List.setIfInBounds_toArray, List.set_cons_zero, List.set_cons_succ])
      refine wpAnyT_take (i := 5) (oi := { dst := some 28, op := Op.load 65 (Operand.tmp 7), type := 65, pos := "ref.go:252", after := #[], guard := none }) (v := .agg #[.slice ua ul uc, .int .i64 ((dk0 l).pc : Int), .int .i64 ((dk0 l).wa : Int), .int .i64 (dk0 l).gd, .int .i64 (dk0 l).hw, .int .i64 (dk0 l).wt]) [6, 7, 10] rfl (by kernel_rfl) (by kernel_rfl) (by kernel_rfl) (by kernel_rfl) (fun _ _ _ h => h) (Or.inl ⟨by rfl, ?_⟩) KP.out ?_
      · intro wq hSw
        obtain ⟨y0, y1, y2, y3, y4, y5, y6⟩ := hSw
        go_simp
      (try simp only [Act.put, List.setIfInBounds_toArray, List.set_cons_zero, List.set_cons_succ])
      obtain ⟨a7, n7, c7, w7, r7, F7⟩ := Bd.push BV.out hul.out hl.out hu.out rfl hi1000.out 57
      have AL : Hid ((u1.alloc (.cells #[.slice ua ul uc, .int .i64 ((dk0 l).pc : Int), .int .i64 ((dk0 l).wa : Int), .int .i64 (dk0 l).gd, .int .i64 (dk0 l).hw, .int .i64 (dk0 l).wt] 65)).cell? ⟨w.heap.size, 0, none⟩ = some (.slice ta i tc) ∧ (u1.alloc (.cells #[.slice ua ul uc, .int .i64 ((dk0 l).pc : Int), .int .i64 ((dk0 l).wa : Int), .int .i64 (dk0 l).gd, .int .i64 (dk0 l).hw, .int .i64 (dk0 l).wt] 65)).cell? ⟨xt, 0, none⟩ = some (.slice ua ul uc) ∧ (u1.alloc (.cells #[.slice ua ul uc, .int .i64 ((dk0 l).pc : Int), .int .i64 ((dk0 l).wa : Int), .int .i64 (dk0 l).gd, .int .i64 (dk0 l).hw, .int .i64 (dk0 l).wt] 65)).cell? ⟨xt, 1, none⟩ = some (.int .i64 ((dk0 l).pc : Int)) ∧ (u1.alloc (.cells #[.slice ua ul uc, .int .i64 ((dk0 l).pc : Int), .int .i64 ((dk0 l).wa : Int), .int .i64 (dk0 l).gd, .int .i64 (dk0 l).hw, .int .i64 (dk0 l).wt] 65)).cell? ⟨xt, 2, none⟩ = some (.int .i64 ((dk0 l).wa : Int)) ∧ (u1.alloc (.cells #[.slice ua ul uc, .int .i64 ((dk0 l).pc : Int), .int .i64 ((dk0 l).wa : Int), .int .i64 (dk0 l).gd, .int .i64 (dk0 l).hw, .int .i64 (dk0 l).wt] 65)).cell? ⟨xt, 3, none⟩ = some (.int .i64 (dk0 l).gd) ∧ (u1.alloc (.cells #[.slice ua ul uc, .int .i64 ((dk0 l).pc : Int), .int .i64 ((dk0 l).wa : Int), .int .i64 (dk0 l).gd, .int .i64 (dk0 l).hw, .int .i64 (dk0 l).wt] 65)).cell? ⟨xt, 4, none⟩ = some (.int .i64 (dk0 l).hw) ∧ (u1.alloc (.cells #[.slice ua ul uc, .int .i64 ((dk0 l).pc : Int), .int .i64 ((dk0 l).wa : Int), .int .i64 (dk0 l).gd, .int .i64 (dk0 l).hw, .int .i64 (dk0 l).wt] 65)).cell? ⟨xt, 5, none⟩ = some (.int .i64 (dk0 l).wt)) := ⟨alloc_cell _ KP.out.1, alloc_cell _ KP.out.2.1, alloc_cell _ KP.out.2.2.1, alloc_cell _ KP.out.2.2.2.1, alloc_cell _ KP.out.2.2.2.2.1, alloc_cell _ KP.out.2.2.2.2.2.1, alloc_cell _ KP.out.2.2.2.2.2.2⟩
      have e7 : w7.heap[xt]? = some (.cells #[.slice ua ul uc, .int .i64 ((dk0 l).pc : Int), .int .i64 ((dk0 l).wa : Int), .int .i64 (dk0 l).gd, .int .i64 (dk0 l).hw, .int .i64 (dk0 l).wt] 65) := (F7.out.2.2.2 xt (heap_lt XH.out.1) (fun e => XH.out.2 _ e rfl)).trans XH.out.1
      have K7 : Hid (w7.cell? ⟨w.heap.size, 0, none⟩ = some (.slice ta i tc) ∧ w7.cell? ⟨xt, 0, none⟩ = some (.slice ua ul uc) ∧ w7.cell? ⟨xt, 1, none⟩ = some (.int .i64 ((dk0 l).pc : Int)) ∧ w7.cell? ⟨xt, 2, none⟩ = some (.int .i64 ((dk0 l).wa : Int)) ∧ w7.cell? ⟨xt, 3, none⟩ = some (.int .i64 (dk0 l).gd) ∧ w7.cell? ⟨xt, 4, none⟩ = some (.int .i64 (dk0 l).hw) ∧ w7.cell? ⟨xt, 5, none⟩ = some (.int .i64 (dk0 l).wt)) := ⟨F7.out.1, (cell_of e7).trans rfl, (cell_of e7).trans rfl, (cell_of e7).trans rfl, (cell_of e7).trans rfl, (cell_of e7).trans rfl, (cell_of e7).trans rfl⟩
      clear e7
      refine wpAnyT_one (i := 6) (o := { dst := some 29, op := Op.buildSlice 57 1 #[(0, Operand.tmp 28)], type := 57, pos := "ref.go:252", after := #[{ on := 5, ground := Ground.data }], guard := none }) (by kernel_rfl) rfl (fun K hK => ?_)
      go_simp
      refine hK.out _ _ (fun _ => AL.out) ?_
      clear hK K
      (try simp only [Act.put, List.setIfInBounds_toArray, List.set_cons_zero, List.set_cons_succ])
      refine wpAnyT_one (i := 7) (o := { dst := some 30, op := Op.call { callee := Callee.builtin Builtin.append, args := #[Operand.tmp 27, Operand.tmp 29], argTypes := #[57, 57] }, type := 57, pos := "ref.go:252", after := #[{ on := 4, ground := Ground.data }, { on := 6, ground := Ground.data }], guard := none }) (by kernel_rfl) rfl (fun K hK => ?_)
      rw [if_pos (by simp [Region.wanted])]
      refine Lib.wp_append_run _ (.tmp 27) (.tmp 29) 57 57 rfl (.slice ta i tc) (.slice (some ⟨u1.heap.size, 0, none⟩) 1 1) (by simp [Act.eval]) (by simp [Act.eval]) _ w7 r7.out ?_
      refine hK.out _ _ (fun _ => K7.out) ?_
      clear hK K
      (try simp only [Act.put, List.setIfInBounds_toArray, List.set_cons_zero, List.set_cons_succ])
      refine wpAnyT_one (i := 8) (o := { dst := some 31, op := Op.nilCheck (Operand.tmp 23), type := 0, pos := "ref.go:252", after := #[{ on := 0, ground := Ground.data }, { on := 0, ground := Ground.phase }, { on := 1, ground := Ground.phase }, { on := 2, ground := Ground.phase }, { on := 3, ground := Ground.phase }, { on := 4, ground := Ground.phase }, { on := 5, ground := Ground.phase }, { on := 6, ground := Ground.phase }, { on := 7, ground := Ground.phase }], guard := none }) (by kernel_rfl) rfl (fun K hK => ?_)
      go_simp
      refine hK.out _ _ (fun _ => K7.out) ?_
      clear hK K
      (try simp only [Act.put, List.setIfInBounds_toArray, List.set_cons_zero, List.set_cons_succ])
      refine wpAnyT_one (i := 9) (o := { dst := some 32, op := Op.fieldAddr 63 (Operand.tmp 31) 0, type := 0, pos := "ref.go:252", after := #[{ on := 8, ground := Ground.data }, { on := 0, ground := Ground.phase }, { on := 1, ground := Ground.phase }, { on := 2, ground := Ground.phase }, { on := 3, ground := Ground.phase }, { on := 4, ground := Ground.phase }, { on := 5, ground := Ground.phase }, { on := 6, ground := Ground.phase }, { on := 7, ground := Ground.phase }], guard := none }) (by kernel_rfl) rfl (fun K hK => ?_)
      go_simp
      refine hK.out _ _ (fun _ => K7.out) ?_
      clear hK K
      (try simp only [Act.put, List.setIfInBounds_toArray, List.set_cons_zero, List.set_cons_succ])
      obtain ⟨k7, z7, -, -⟩ := F7.out
      clear AL K7
      refine wpAnyT_one (i := 10) (o := { dst := none, op := Op.store 57 (Operand.tmp 32) (Operand.tmp 30), type := 0, pos := "ref.go:252", after := #[{ on := 9, ground := Ground.data }, { on := 7, ground := Ground.data }, { on := 7, ground := Ground.chain }, { on := 0, ground := Ground.phase }, { on := 1, ground := Ground.phase }, { on := 2, ground := Ground.phase }, { on := 3, ground := Ground.phase }, { on := 4, ground := Ground.phase }, { on := 5, ground := Ground.phase }, { on := 6, ground := Ground.phase }, { on := 7, ground := Ground.phase }], guard := none }) (by kernel_rfl) rfl (fun K hK => ?_)
      go_simp
      refine hK.out _ _ (vac (by kernel_rfl)) ?_
      clear hK K
      (try simp only [Act.put, List.setIfInBounds_toArray, List.set_cons_zero, List.set_cons_succ])
      refine wpAnyT_done (by kernel_rfl) ?_ _
      go_wp2_with fail
      go_roundw
      case rel => exact ⟨i + 1, _, by go_num, hlt, F7.out.2.2.1⟩
      case measure => simp only [intOf]; omega
    · obtain rfl : i = n := by omega
      have i1 : ¬ (i : Int) < (i : Int) := by omega
      go_wp2_with fail
      go_ret
      exact ⟨rfl, _, FIN.out _ _ hst.out⟩
end Go.Proofs.YtiiinpmkidobgaaDoor.Sd

/-
  A run that goes to its end, by data; puts and takes.
-/
namespace Go.Proofs.YtiiinpmkidobgaaDoor.Sd
open Go.RowKit
set_option linter.unusedVariables false
set_option linter.unusedSimpArgs false
set_option maxRecDepth 100000
theorem turnS_eq {S : St} {i : Nat} {t : Tk} {a : Ac} (h : S.tk[i]? = some t) (ha : t.ac[t.pc]? = some a) : turnS S i = stepS { S with tr := S.tr ++ [(i, t.pc)] } i t a := by
  unfold turnS
  rw [h]
  simp only
  rw [ha]
end Go.Proofs.YtiiinpmkidobgaaDoor.Sd

/-
  Runs of more steps, and of more picks, by data.
-/
namespace Go.Proofs.YtiiinpmkidobgaaDoor.Sd
open Go.RowKit
set_option linter.unusedVariables false
set_option linter.unusedSimpArgs false
set_option maxRecDepth 100000
theorem adv_tr (S : St) (i : Nat) : (adv S i).tr = S.tr := by unfold adv; split <;> rfl
theorem do_tr (S : St) (i : Nat) (t : Tk) (a : Ac) {S' : St} (hd : doS S i t a = .ok S') : S'.tr = S.tr := by
  unfold doS at hd
  by_cases e1 : a.k = 1
  · rw [if_pos e1] at hd; cases hd; exact adv_tr _ _
  rw [if_neg e1] at hd
  by_cases e2 : a.k = 2
  · rw [if_pos e2] at hd
    by_cases hl : S.lk a.a.toNat = some i
    · rw [if_pos hl] at hd; cases hd; exact adv_tr _ _
    · rw [if_neg hl] at hd; cases hd
  rw [if_neg e2] at hd
  by_cases e3 : a.k = 3
  · rw [if_pos e3] at hd
    by_cases hsl : t.sl = 0
    · rw [if_pos hsl] at hd
      by_cases hl : S.lk a.b.toNat = some i
      · rw [if_pos hl] at hd; cases hd; rfl
      · rw [if_neg hl] at hd; cases hd
    · rw [if_neg hsl] at hd; cases hd; exact adv_tr _ _
  rw [if_neg e3] at hd
  by_cases e4 : a.k = 4
  · rw [if_pos e4] at hd; cases hd; exact adv_tr _ _
  rw [if_neg e4] at hd
  by_cases e5 : a.k = 5
  · rw [if_pos e5] at hd; cases hd; exact adv_tr _ _
  rw [if_neg e5] at hd
  by_cases e6 : a.k = 6
  · rw [if_pos e6] at hd; cases hd; exact adv_tr _ _
  rw [if_neg e6] at hd
  by_cases e7 : a.k = 7
  · rw [if_pos e7] at hd
    cases hx : S.qu a.a.toNat with
    | nil => rw [hx] at hd; cases hd; rfl
    | cons x r => rw [hx] at hd; cases hd; exact adv_tr _ _
  rw [if_neg e7] at hd
  by_cases e8 : a.k = 8
  · rw [if_pos e8] at hd; cases hd; exact adv_tr _ _
  rw [if_neg e8] at hd
  by_cases e9 : a.k = 9
  · rw [if_pos e9] at hd; cases hd; exact adv_tr _ _
  rw [if_neg e9] at hd
  by_cases e10 : a.k = 10
  · rw [if_pos e10] at hd; cases hd; rw [adv_tr]; split <;> rfl
  rw [if_neg e10] at hd
  by_cases e12 : a.k = 12
  · rw [if_pos e12] at hd; cases hd
  rw [if_neg e12] at hd
  by_cases e13 : a.k = 13
  · rw [if_pos e13] at hd; cases hd; exact adv_tr _ _
  · rw [if_neg e13] at hd; cases hd; exact adv_tr _ _
theorem step_tr (S : St) (i : Nat) (t : Tk) (a : Ac) : (stepS S i t a).tr = S.tr := by
  unfold stepS
  cases h : doS S i t a with
  | ok S' => exact do_tr S i t a h
  | error n => simp only; unfold landS; split <;> rfl
def nx (picks : List Int) (S : St) : Nat := pickN (rdy S) S.tr.length picks (lastS S)
theorem play_succ (picks : List Int) (f : Nat) (S : St) : playS picks (f + 1) S = if rdy S = [] then S else playS picks f (turnS S (nx picks S)) := rfl
theorem play_nil {picks : List Int} {S : St} (h : rdy S = []) : ∀ f, playS picks f S = S
  | 0 => rfl
  | f + 1 => by rw [play_succ, if_pos h]
theorem nx_rdy {picks : List Int} {S : St} (h : rdy S ≠ []) : isR S (nx picks S) = true := rdy_mem (pick_mem h _ _ _)
end Go.Proofs.YtiiinpmkidobgaaDoor.Sd

/-
  The document's state and the program's run, by data: they go alike.
-/
namespace Go.Proofs.YtiiinpmkidobgaaDoor.Sd
open Go.RowKit
set_option linter.unusedVariables false
set_option linter.unusedSimpArgs false
set_option maxRecDepth 100000
def dk (t : Tk) : Dk := ⟨t.ac, t.pc, t.sl, if t.gd = true then (t.ld : Int) else -1, if t.dd = true then 2 else if t.ac.length ≤ t.pc then 1 else 0, t.wt⟩
def dOf (S : St) (la : Int) : Ds := ⟨S.tk.map dk, S.room, S.lk, S.sl, S.qu, S.rg, la⟩
/-- How those stand that wait. -/
structure Wt (S : St) : Prop where
  t3 : ∀ (i : Nat) (t : Tk), S.tk[i]? = some t → t.sl ≤ 2 ∧ (t.sl ≠ 0 → t.dd = false ∧ ∃ a, t.ac[t.pc]? = some a ∧ a.k = 3)
  asl : ∀ c j, j ∈ S.sl c → ∃ t, S.tk[j]? = some t ∧ t.sl = 1
  nd : ∀ c, (S.sl c).Nodup
  dj : ∀ c d j, j ∈ S.sl c → j ∈ S.sl d → c = d
theorem dOf_init (ts : List (List Ac)) (room : Nat) : dOf (init ts room) (-1) = initD ts room := by
  unfold dOf init initD
  simp only [List.map_map, Ds.mk.injEq, and_true, true_and]
  apply List.map_congr_left
  intro l _
  show dk (tk0 l) = dk0 l
  unfold dk tk0 dk0 endsK tk00
  by_cases h : l.length ≤ 0
  · simp only [h, if_true]; rfl
  · simp only [h, if_false]; rfl
theorem Wt.init (ts : List (List Ac)) (room : Nat) : Wt (init ts room) := by
  refine ⟨fun i t hi => ?_, (fun c j h => by cases h), (fun c => List.nodup_nil), (fun c d j h => by cases h)⟩
  have : (ts.map tk0)[i]? = some t := hi
  rw [List.getElem?_map] at this
  cases e : ts[i]? with
  | none => rw [e] at this; cases this
  | some l => rw [e] at this; cases this; exact ⟨Nat.zero_le _, fun h => absurd rfl h⟩
theorem dOf_get {S : St} {la : Int} {i : Nat} {t : Tk} (h : S.tk[i]? = some t) : (dOf S la).tk[i]? = some (dk t) := by
  show (S.tk.map dk)[i]? = _
  rw [List.getElem?_map, h]; rfl
theorem dOf_inv {S : St} {la : Int} {i : Nat} {d : Dk} (h : (dOf S la).tk[i]? = some d) : ∃ t, S.tk[i]? = some t ∧ d = dk t := by
  have : (S.tk.map dk)[i]? = some d := h
  rw [List.getElem?_map] at this
  cases e : S.tk[i]? with
  | none => rw [e] at this; cases this
  | some t => rw [e] at this; cases this; exact ⟨t, rfl, rfl⟩
theorem dk_hw0 {t : Tk} : (dk t).hw = 0 ↔ t.dd = false ∧ t.pc < t.ac.length := by
  unfold dk
  simp only
  cases t.dd <;> simp <;> split <;> simp <;> omega
theorem howS_why {S : St} {la : Int} {t : Tk} {a : Ac} (hd : t.dd = false) (ha : t.ac[t.pc]? = some a) (h3 : t.sl ≠ 0 → a.k = 3) : howS S t = if whyD (dOf S la) (dk t) a = 0 then 3 else whyD (dOf S la) (dk t) a := by
  unfold howS
  rw [if_neg (by simp [hd]), ha]
  simp only
  show _ = if whyD (dOf S la) (dk t) a = 0 then 3 else _
  have e : whyD (dOf S la) (dk t) a = if t.sl = 1 then 5 else if t.sl = 2 ∧ S.lk a.b.toNat ≠ none then 4 else if a.k = 1 ∧ S.lk a.a.toNat ≠ none then 4 else if a.k = 6 ∧ S.room ≤ (S.qu a.a.toNat).length then 6 else if a.k = 7 ∧ (S.qu a.a.toNat).length = 0 then 7 else 0 := rfl
  rw [e]
  by_cases h1 : t.sl = 1
  · simp [h1]
  · rw [if_neg h1, if_neg h1]
    by_cases h2 : t.sl = 2
    · have hk := h3 (by omega)
      simp only [h2, hk, true_and, Int.reduceEq, false_and, if_false]
      by_cases h4 : S.lk a.b.toNat ≠ none
      · simp [h4]
      · simp [h4]
    · have hn3 : ¬ (a.k = 3 ∧ t.sl = 2 ∧ S.lk a.b.toNat ≠ none) := fun c => h2 c.2.1
      have hn2 : ¬ (t.sl = 2 ∧ S.lk a.b.toNat ≠ none) := fun c => h2 c.1
      rw [if_neg hn3, if_neg hn2]
      by_cases c1 : a.k = 1 ∧ S.lk a.a.toNat ≠ none
      · simp [c1]
      · rw [if_neg c1, if_neg c1]
        by_cases c2 : a.k = 6 ∧ S.room ≤ (S.qu a.a.toNat).length
        · simp [c2]
        · rw [if_neg c2, if_neg c2]
          by_cases c3 : a.k = 7 ∧ (S.qu a.a.toNat).length = 0
          · simp [c3]
          · rw [if_neg c3, if_neg c3]; rfl
theorem isRD_of {S : St} (W : Wt S) (la : Int) (i : Nat) : isRD (dOf S la) i = isR S i := by
  unfold isRD isR
  cases h : S.tk[i]? with
  | none =>
    have : (dOf S la).tk[i]? = none := by show (S.tk.map dk)[i]? = _; rw [List.getElem?_map, h]; rfl
    rw [this]
  | some t =>
    rw [dOf_get h]
    simp only
    have e1 : (dk t).ac = t.ac := rfl
    have e2 : (dk t).pc = t.pc := rfl
    rw [e1, e2]
    cases ha : t.ac[t.pc]? with
    | none =>
      simp only
      have : howS S t ≠ 3 := by
        unfold howS
        rw [ha]
        split <;> simp
      simp [this]
    | some a =>
      simp only
      have hl := (List.getElem?_eq_some_iff.1 ha).1
      by_cases hd : t.dd = false
      · have hw : (dk t).hw = 0 := dk_hw0.2 ⟨hd, hl⟩
        have h3 : t.sl ≠ 0 → a.k = 3 := fun c => by
          obtain ⟨-, b, hb, hk⟩ := (W.t3 i t h).2 c
          rw [ha] at hb
          cases hb
          exact hk
        rw [howS_why (la := la) hd ha h3, hw]
        by_cases c : whyD (dOf S la) (dk t) a = 0
        · simp [c]
        · have hn : ∀ x : Int, x = whyD (dOf S la) (dk t) a → x ≠ 3 := by
            intro x hx
            unfold whyD at hx
            rw [hx]
            split <;> (try split) <;> (try split) <;> (try split) <;> (try split) <;> omega
          simp [c, hn _ rfl]
      · have hd' : t.dd = true := by simpa using hd
        have h1 : howS S t = 2 := by unfold howS; rw [if_pos hd']
        have h2 : ¬ (dk t).hw = 0 := fun c => by rw [(dk_hw0.1 c).1] at hd'; cases hd'
        simp [h1, h2]
theorem rdyD_of {S : St} (W : Wt S) (la : Int) : rdyD (dOf S la) = rdy S := by
  unfold rdyD rdy rdyID rdyI
  have : (dOf S la).tk.length = S.tk.length := by show (S.tk.map dk).length = _; simp
  rw [this]
  apply List.filter_congr
  intro i _
  exact isRD_of W la i
theorem lv_of {S : St} (W : Wt S) (ok : Ok S) (la : Int) : Lv (dOf S la) := by
  intro i d hi
  obtain ⟨t, ht, rfl⟩ := dOf_inv hi
  refine ⟨(W.t3 i t ht).1, fun h0 => ?_⟩
  obtain ⟨hd, hl⟩ := dk_hw0.1 h0
  have okt := ok.tk t (List.mem_of_getElem? ht)
  refine ⟨t.ac.length, t.ac[t.pc], List.getElem?_eq_getElem hl, okt.ac _ (List.getElem_mem hl), fun hs => ?_⟩
  obtain ⟨-, a, ha, hk⟩ := (W.t3 i t ht).2 hs
  have : t.ac[t.pc]? = some t.ac[t.pc] := List.getElem?_eq_getElem hl
  rw [ha] at this
  cases this
  exact hk
theorem dk_pc {t : Tk} (hd : t.dd = false) (hl : t.pc < t.ac.length) (p : Nat) : endsK { dk t with pc := p } = dk { t with pc := p } := by
  have hw : (dk t).hw = 0 := dk_hw0.2 ⟨hd, hl⟩
  unfold endsK
  show (if t.ac.length ≤ p then _ else _) = _
  by_cases h : t.ac.length ≤ p
  · rw [if_pos h]
    unfold dk
    simp [hd, h]
  · rw [if_neg h]
    have : dk { t with pc := p } = ⟨t.ac, p, t.sl, (dk t).gd, 0, t.wt⟩ := by unfold dk; simp [hd, h]
    rw [this, ← hw]
    rfl
theorem dOf_set (S : St) (la : Int) (i : Nat) (t : Tk) : (dOf { S with tk := S.tk.set i t } la) = { dOf S la with tk := (dOf S la).tk.set i (dk t) } := by
  unfold dOf
  simp only [List.map_set]
theorem fin_to {S : St} {la : Int} {i : Nat} {t : Tk} (h : S.tk[i]? = some t) (hd : t.dd = false) (hl : t.pc < t.ac.length) (p : Nat) : finD (dOf S la) i p = dOf { S with tk := S.tk.set i { t with pc := p } } la := by
  rw [finD_some (dOf_get h), dOf_set, dk_pc hd hl]
theorem fin_adv {S : St} {la : Int} {i : Nat} {t : Tk} (h : S.tk[i]? = some t) (hd : t.dd = false) (hl : t.pc < t.ac.length) : finD (dOf S la) i (t.pc + 1) = dOf (adv S i) la := by
  rw [fin_to h hd hl, adv_some h]
theorem up_up {α : Type} (f : Nat → α) (i : Nat) (x y : α) : up (up f i x) i y = up f i y := by
  funext j
  unfold up
  split <;> rfl
theorem up_self {α : Type} (f : Nat → α) (i : Nat) : up f i (f i) = f := by
  funext j
  unfold up
  split
  · next h => rw [h]
  · rfl
theorem wakeS_zero (S : St) (c : Nat) : wakeS S c 0 = S := by
  unfold wakeS
  simp only [List.take_zero, List.drop_zero, up_self]
  rfl
theorem wakeS_cons {S : St} {c j m : Nat} {r : List Nat} (h : S.sl c = j :: r) : wakeS S c (m + 1) = wakeS { S with tk := wk1 S.tk j, sl := up S.sl c r } c m := by
  unfold wakeS
  simp only [h, List.take_succ_cons, List.drop_succ_cons, up_same, up_up]
  rfl
theorem wk2_of (tk : List Tk) (j : Nat) : wk2 (tk.map dk) j = (wk1 tk j).map dk := by
  unfold wk2 wk1
  rw [List.getElem?_map]
  cases h : tk[j]? with
  | none => rfl
  | some t => simp only [Option.map_some, List.map_set]; rfl
theorem wakeD_of (c : Nat) (la : Int) : ∀ (n : Nat) (S : St), wakeD (dOf S la) c n = dOf (wakeS S c (min n (S.sl c).length)) la
  | 0, S => by rw [Nat.zero_min, wakeS_zero]; rfl
  | n + 1, S => by
    cases h : S.sl c with
    | nil =>
      rw [wakeD_nil (show (dOf S la).sl c = [] from h)]
      simp only [List.length_nil, Nat.min_zero, wakeS_zero]
    | cons j r =>
      rw [wakeD_cons (show (dOf S la).sl c = j :: r from h)]
      have e : ({ dOf S la with tk := wk2 (dOf S la).tk j, sl := up (dOf S la).sl c r } : Ds) = dOf { S with tk := wk1 S.tk j, sl := up S.sl c r } la := by
        show (⟨wk2 (S.tk.map dk) j, _, _, _, _, _, _⟩ : Ds) = ⟨(wk1 S.tk j).map dk, _, _, _, _, _, _⟩
        rw [wk2_of]
        rfl
      rw [e, wakeD_of c la n]
      have e2 : min (n + 1) (j :: r).length = min n r.length + 1 := by simp
      rw [e2, wakeS_cons h]
      simp only [up_same]
theorem wk1_other {tk : List Tk} {i j : Nat} (h : i ≠ j) : (wk1 tk j)[i]? = tk[i]? := by
  unfold wk1
  split
  · rw [List.getElem?_set_ne (fun e => h e.symm)]
  · rfl
theorem wk_other (i : Nat) : ∀ (l : List Nat) (tk : List Tk), i ∉ l → (wk tk l)[i]? = tk[i]?
  | [], tk, _ => rfl
  | j :: r, tk, h => by
    show (wk (wk1 tk j) r)[i]? = _
    rw [wk_other i r _ (fun c => h (List.mem_cons_of_mem _ c)), wk1_other (fun e => h (by rw [e]; exact List.mem_cons_self ..))]
theorem wakeS_other {S : St} {c n i : Nat} (h : i ∉ S.sl c) : (wakeS S c n).tk[i]? = S.tk[i]? := wk_other i _ _ fun c' => h (List.mem_of_mem_take c')
theorem Wt.not_in {S : St} (W : Wt S) {i : Nat} {t : Tk} (hi : S.tk[i]? = some t) (h : t.sl ≠ 1) (c : Nat) : i ∉ S.sl c := by
  intro hc
  obtain ⟨t', ht', h1⟩ := W.asl c i hc
  rw [hi] at ht'
  cases ht'
  exact h h1
theorem panic_of {S : St} {la : Int} {i : Nat} {t : Tk} (hi : S.tk[i]? = some t) (hd : t.dd = false) (hl : t.pc < t.ac.length) (n : Int) : panicD (dOf S la) i (dk t) n = dOf (landS S i t n) la := by
  unfold panicD landS
  by_cases hg : t.gd = false
  · have e : (dk t).gd < 0 := by unfold dk; simp [hg]
    rw [if_pos e, if_pos hg, dOf_set]
    rfl
  · have hg' : t.gd = true := by simpa using hg
    have e : ¬ (dk t).gd < 0 := by unfold dk; simp [hg']
    rw [if_neg e, if_neg hg]
    have e2 : (dk t).gd.toNat = t.ld := by unfold dk; simp [hg']
    have e3 : ({ dk t with pc := t.ld, gd := -1 } : Dk) = { dk { t with gd := false } with pc := t.ld } := by unfold dk; simp
    rw [e2, e3, dk_pc (t := { t with gd := false }) hd hl]
    show (⟨_, _, _, _, _, _, _⟩ : Ds) = ⟨(S.tk.set i { t with gd := false, pc := t.ld }).map dk, _, _, _, _, _, _⟩
    rw [List.map_set]
    rfl
theorem nodup_le : ∀ (n : Nat) (l : List Nat), l.Nodup → (∀ j ∈ l, j < n) → l.length ≤ n
  | 0, l, _, h => by
    cases l with
    | nil => exact Nat.le_refl _
    | cons x r => exact absurd (h x (List.mem_cons_self ..)) (Nat.not_lt_zero _)
  | n + 1, l, hn, h => by
    by_cases hm : n ∈ l
    · have h1 := nodup_le n (l.erase n) (hn.erase n) (fun j hj => by
        have h2 := (hn.mem_erase_iff).1 hj
        have h3 := h j h2.2
        omega)
      rw [List.length_erase_of_mem hm] at h1
      omega
    · exact Nat.le_succ_of_le (nodup_le n l hn fun j hj => by
        have := h j hj
        have : j ≠ n := fun e => hm (by rw [← e]; exact hj)
        omega)
/-- A step of the document's is the program's. -/
theorem step_ofX {S : St} (okn : S.tk.length ≤ 16) (oksl : ∀ c, ∀ j ∈ S.sl c, j < S.tk.length) {i : Nat} {t : Tk} {a : Ac} (oka : OkA t.ac.length a) (W : Wt S) {la : Int} (hi : S.tk[i]? = some t) (ha : t.ac[t.pc]? = some a) (hh : howS S t = 3) : stepD (dOf S la) i (dk t) a = dOf (stepS S i t a) (i : Int) := by
  obtain ⟨hd, a', ha', hs1, -, -, -, h7⟩ := how3 hh
  rw [ha] at ha'
  cases ha'
  have hl := (List.getElem?_eq_some_iff.1 ha).1
  have hs0 : a.k ≠ 3 → t.sl = 0 := fun h => Classical.byContradiction fun c => by
    obtain ⟨-, b, hb, hk⟩ := (W.t3 i t hi).2 c
    rw [ha] at hb; cases hb
    exact h hk
  have hs2 := (W.t3 i t hi).1
  have eD : stepD (dOf S la) i (dk t) a = stepE (dOf S (i : Int)) i (dk t) a := rfl
  rw [eD]
  have epc : (dk t).pc = t.pc := rfl
  have ewa : (dk t).wa = t.sl := rfl
  have PN : ∀ n, panicD (dOf S (i : Int)) i (dk t) n = dOf (landS S i t n) (i : Int) := fun n => panic_of hi hd hl n
  unfold stepE stepS doS
  rw [epc, ewa]
  by_cases k1 : a.k = 1
  · rw [if_pos k1, if_pos k1]
    exact fin_adv (S := { S with lk := up S.lk a.a.toNat (some i) }) hi hd hl
  rw [if_neg k1, if_neg k1]
  by_cases k2 : a.k = 2
  · rw [if_pos k2, if_pos k2]
    show (if S.lk a.a.toNat = some i then _ else _) = _
    by_cases hk : S.lk a.a.toNat = some i
    · rw [if_pos hk, if_pos hk]
      exact fin_adv (S := { S with lk := up S.lk a.a.toNat none }) hi hd hl
    · rw [if_neg hk, if_neg hk]
      exact PN _
  rw [if_neg k2, if_neg k2]
  by_cases k3 : a.k = 3
  · rw [if_pos k3, if_pos k3]
    by_cases hs : t.sl = 2
    · have h00 : ¬ t.sl = 0 := by omega
      rw [if_pos hs, if_neg h00]
      have := fin_adv (S := { S with lk := up S.lk a.b.toNat (some i), tk := S.tk.set i { t with sl := 0 } }) (la := (i : Int)) (i := i) (t := { t with sl := 0 }) (set_same hi) hd hl
      rw [← this]
      show finD (⟨_, _, _, _, _, _, _⟩ : Ds) i _ = finD ⟨(S.tk.set i { t with sl := 0 }).map dk, _, _, _, _, _, _⟩ i _
      rw [List.map_set]
      rfl
    · have h00 : t.sl = 0 := by omega
      rw [if_neg hs, if_pos h00]
      show (if S.lk a.b.toNat = some i then _ else _) = _
      by_cases hk : S.lk a.b.toNat = some i
      · rw [if_pos hk, if_pos hk]
        show (⟨_, _, _, _, _, _, _⟩ : Ds) = ⟨(S.tk.set i { t with sl := 1 }).map dk, _, _, _, _, _, _⟩
        rw [List.map_set]
        rfl
      · rw [if_neg hk, if_neg hk]
        exact PN _
  rw [if_neg k3, if_neg k3]
  have h0 := hs0 k3
  have hni : ∀ c, i ∉ S.sl c := fun c => W.not_in hi hs1 c
  by_cases k4 : a.k = 4
  · rw [if_pos k4, if_pos k4]
    have e := wakeD_of a.a.toNat (i : Int) 1 S
    have e2 : (dOf S (i : Int)).tk = (dOf S (i : Int)).tk := rfl
    rw [e]
    exact fin_adv (i := i) (t := t) ((wakeS_other (hni _)).trans hi) hd hl
  rw [if_neg k4, if_neg k4]
  by_cases k5 : a.k = 5
  · rw [if_pos k5, if_pos k5]
    have e := wakeD_of a.a.toNat (i : Int) 16 S
    have hlen : (S.sl a.a.toNat).length ≤ 16 := by
      have h1 : ∀ j ∈ S.sl a.a.toNat, j < S.tk.length := oksl _
      have h2 := (W.nd a.a.toNat)
      have h4 := nodup_le _ _ h2 h1
      omega
    rw [e, Nat.min_eq_right hlen]
    exact fin_adv (i := i) (t := t) ((wakeS_other (hni _)).trans hi) hd hl
  rw [if_neg k5, if_neg k5]
  by_cases k6 : a.k = 6
  · rw [if_pos k6, if_pos k6]
    exact fin_adv (S := { S with qu := up S.qu a.a.toNat (S.qu a.a.toNat ++ [a.n]) }) hi hd hl
  rw [if_neg k6, if_neg k6]
  by_cases k7 : a.k = 7
  · rw [if_pos k7, if_pos k7]
    have hq := h7 k7
    cases hc : S.qu a.a.toNat with
    | nil => exact absurd hc hq
    | cons x r =>
      have e : (dOf S (i : Int)).qu a.a.toNat = x :: r := hc
      rw [e]
      exact fin_adv (S := { S with rg := up S.rg a.b.toNat x, qu := up S.qu a.a.toNat r }) hi hd hl
  rw [if_neg k7, if_neg k7]
  by_cases k8 : a.k = 8
  · rw [if_pos k8, if_pos k8]
    exact fin_adv (S := { S with rg := up S.rg a.a.toNat (wrap64 (S.rg a.a.toNat + a.n)) }) hi hd hl
  rw [if_neg k8, if_neg k8]
  by_cases k9 : a.k = 9
  · rw [if_pos k9, if_pos k9]
    exact fin_adv (S := { S with rg := up S.rg a.b.toNat (S.rg a.a.toNat) }) hi hd hl
  rw [if_neg k9, if_neg k9]
  by_cases k10 : a.k = 10
  · rw [if_pos k10, if_pos k10]
    show finD (dOf S (i : Int)) i (if S.rg a.a.toNat = 0 then _ else _) = _
    by_cases hz : S.rg a.a.toNat = 0
    · rw [if_pos hz]
      simp only [hz, if_true]
      rw [fin_to hi hd hl, adv_some (set_same hi)]
      simp only [List.set_set]
      rw [show t.pc + 1 + a.n.toNat = t.pc + a.n.toNat + 1 by omega]
    · rw [if_neg hz]
      simp only [hz, if_false]
      exact fin_adv hi hd hl
  rw [if_neg k10, if_neg k10]
  by_cases k12 : a.k = 12
  · rw [if_pos k12, if_pos k12]
    exact PN _
  rw [if_neg k12, if_neg k12]
  by_cases k13 : a.k = 13
  · rw [if_pos k13, if_pos k13]
    have hn : 0 ≤ a.n := by
      have := oka.n
      simp [nOk, k13] at this
      exact this.1
    have := fin_adv (S := { S with tk := S.tk.set i { t with gd := true, ld := a.n.toNat } }) (la := (i : Int)) (i := i) (t := { t with gd := true, ld := a.n.toNat }) (set_same hi) hd hl
    simp only
    rw [← this]
    show finD (⟨_, _, _, _, _, _, _⟩ : Ds) i _ = finD ⟨(S.tk.set i { t with gd := true, ld := a.n.toNat }).map dk, _, _, _, _, _, _⟩ i _
    rw [List.map_set]
    have e : dk { t with gd := true, ld := a.n.toNat } = { dk t with gd := a.n } := by unfold dk; simp; omega
    rw [e]
    rfl
  rw [if_neg k13, if_neg k13]
  exact fin_adv hi hd hl
theorem step_of {S : St} (ok : Ok S) (W : Wt S) {la : Int} {i : Nat} {t : Tk} (hi : S.tk[i]? = some t) {a : Ac} (ha : t.ac[t.pc]? = some a) (hh : howS S t = 3) : stepD (dOf S la) i (dk t) a = dOf (stepS S i t a) (i : Int) :=
  step_ofX ok.n ok.sl ((ok.tk t (List.mem_of_getElem? hi)).ac a (List.mem_of_getElem? ha)) W hi ha hh
end Go.Proofs.YtiiinpmkidobgaaDoor.Sd

/-
  How those stand that wait: kept by every turn; a run of the document's is the program's.
-/
namespace Go.Proofs.YtiiinpmkidobgaaDoor.Sd
open Go.RowKit
set_option linter.unusedVariables false
set_option linter.unusedSimpArgs false
set_option maxRecDepth 100000
theorem Wt.set {S S' : St} (W : Wt S) {i : Nat} {t t' : Tk} (hi : S.tk[i]? = some t) (hn : ∀ c, i ∉ S.sl c) (h1 : S'.tk = S.tk.set i t') (h2 : S'.sl = S.sl) (h0 : t'.sl = 0) : Wt S' := by
  refine ⟨fun j u hj => ?_, fun c j hj => ?_, fun c => by rw [h2]; exact W.nd c, fun c d j => by rw [h2]; exact W.dj c d j⟩
  · rw [h1] at hj
    by_cases e : j = i
    · subst e
      rw [List.getElem?_set_self (List.getElem?_eq_some_iff.1 hi).1] at hj
      cases hj
      exact ⟨by omega, fun c => absurd h0 c⟩
    · rw [List.getElem?_set_ne (fun c => e c.symm)] at hj
      exact W.t3 j u hj
  · rw [h2] at hj
    obtain ⟨u, hu, h3⟩ := W.asl c j hj
    refine ⟨u, ?_, h3⟩
    rw [h1, List.getElem?_set_ne (fun e => hn c (by rw [e]; exact hj))]
    exact hu
theorem Wt.wk1 {S : St} (W : Wt S) {c j : Nat} {r : List Nat} (h : S.sl c = j :: r) : Wt { S with tk := Sd.wk1 S.tk j, sl := up S.sl c r } := by
  have hjc : j ∈ S.sl c := by rw [h]; exact List.mem_cons_self ..
  obtain ⟨t, ht, h1⟩ := W.asl c j hjc
  have e : Sd.wk1 S.tk j = S.tk.set j { t with sl := 2 } := by unfold Sd.wk1; rw [ht]
  have nd := W.nd c
  rw [h] at nd
  have hjr : j ∉ r := (List.nodup_cons.1 nd).1
  have old : ∀ d k, k ∈ up S.sl c r d → k ∈ S.sl d ∧ k ≠ j := by
    intro d k hk
    by_cases hd : d = c
    · subst hd
      rw [up_same] at hk
      exact ⟨by rw [h]; exact List.mem_cons_of_mem _ hk, fun e => hjr (by rw [← e]; exact hk)⟩
    · rw [up_other _ _ hd] at hk
      exact ⟨hk, fun e => hd (W.dj d c j (by rw [← e]; exact hk) hjc)⟩
  refine ⟨fun i u hi => ?_, fun d k hk => ?_, fun d => ?_, fun d d' k h1 h2 => W.dj d d' k (old d k h1).1 (old d' k h2).1⟩
  · have hi' : (Sd.wk1 S.tk j)[i]? = some u := hi
    rw [e] at hi'
    by_cases hij : i = j
    · subst hij
      rw [List.getElem?_set_self (List.getElem?_eq_some_iff.1 ht).1] at hi'
      cases hi'
      exact ⟨Nat.le_refl _, fun _ => (W.t3 i t ht).2 (by omega)⟩
    · rw [List.getElem?_set_ne (fun c => hij c.symm)] at hi'
      exact W.t3 i u hi'
  · obtain ⟨k1, k2⟩ := old d k hk
    obtain ⟨u, hu, h3⟩ := W.asl d k k1
    refine ⟨u, ?_, h3⟩
    show (Sd.wk1 S.tk j)[k]? = _
    rw [wk1_other k2]
    exact hu
  · show (up S.sl c r d).Nodup
    by_cases hd : d = c
    · subst hd
      rw [up_same]
      exact (List.nodup_cons.1 nd).2
    · rw [up_other _ _ hd]
      exact W.nd d
theorem Wt.wake (c : Nat) : ∀ (n : Nat) (S : St), Wt S → n ≤ (S.sl c).length → Wt (wakeS S c n)
  | 0, S, W, _ => by rw [wakeS_zero]; exact W
  | n + 1, S, W, hn => by
    cases h : S.sl c with
    | nil => rw [h] at hn; exact absurd hn (by simp)
    | cons j r =>
      rw [wakeS_cons h]
      refine Wt.wake c n _ (W.wk1 h) ?_
      show n ≤ (up S.sl c r c).length
      rw [up_same]
      rw [h] at hn
      simpa using hn
theorem wakeS_sub {S : St} {c n d j : Nat} (h : j ∈ (wakeS S c n).sl d) : j ∈ S.sl d := by
  have h' : j ∈ up S.sl c ((S.sl c).drop n) d := h
  by_cases hd : d = c
  · subst hd
    rw [up_same] at h'
    exact List.mem_of_mem_drop h'
  · rw [up_other _ _ hd] at h'
    exact h'
theorem Wt.step {S : St} (W : Wt S) {i : Nat} {t : Tk} (hi : S.tk[i]? = some t) {a : Ac} (ha : t.ac[t.pc]? = some a) (hh : howS S t = 3) : Wt (stepS S i t a) := by
  obtain ⟨hd, a', ha', hs1, -, -, -, h7⟩ := how3 hh
  rw [ha] at ha'
  cases ha'
  have hs0 : a.k ≠ 3 → t.sl = 0 := fun h => Classical.byContradiction fun c => by
    obtain ⟨-, b, hb, hk⟩ := (W.t3 i t hi).2 c
    rw [ha] at hb; cases hb
    exact h hk
  have hs2 := (W.t3 i t hi).1
  have hn : ∀ c, i ∉ S.sl c := fun c => W.not_in hi hs1 c
  have LN : ∀ n, t.sl = 0 → Wt (landS S i t n) := fun n h0 => by
    unfold landS
    split
    · exact W.set hi hn (t' := { t with dd := true, wt := n }) rfl rfl h0
    · exact W.set hi hn (t' := { t with gd := false, pc := t.ld }) rfl rfl h0
  have AD : ∀ S' : St, t.sl = 0 → S'.tk = S.tk → S'.sl = S.sl → Wt (adv S' i) := fun S' h0 e1 e2 => by
    rw [adv_some (by rw [e1]; exact hi)]
    exact W.set hi hn (t' := { t with pc := t.pc + 1 }) (by show S'.tk.set _ _ = _; rw [e1]) e2 h0
  unfold stepS doS
  by_cases k1 : a.k = 1
  · rw [if_pos k1]
    exact AD _ (hs0 (by omega)) rfl rfl
  rw [if_neg k1]
  by_cases k2 : a.k = 2
  · rw [if_pos k2]
    by_cases hk : S.lk a.a.toNat = some i
    · rw [if_pos hk]; exact AD _ (hs0 (by omega)) rfl rfl
    · rw [if_neg hk]; exact LN _ (hs0 (by omega))
  rw [if_neg k2]
  by_cases k3 : a.k = 3
  · rw [if_pos k3]
    by_cases h0 : t.sl = 0
    · rw [if_pos h0]
      by_cases hk : S.lk a.b.toNat = some i
      · rw [if_pos hk]
        show Wt { S with lk := up S.lk a.b.toNat none, tk := S.tk.set i { t with sl := 1 }, sl := up S.sl a.a.toNat (S.sl a.a.toNat ++ [i]) }
        have old : ∀ d k, k ∈ up S.sl a.a.toNat (S.sl a.a.toNat ++ [i]) d → k ∈ S.sl d ∨ (k = i ∧ d = a.a.toNat) := by
          intro d k hk
          by_cases hd : d = a.a.toNat
          · rw [hd, up_same] at hk
            rcases List.mem_append.1 hk with c | c
            · exact .inl (by rw [hd]; exact c)
            · exact .inr ⟨by simpa using c, hd⟩
          · rw [up_other _ _ hd] at hk
            exact .inl hk
        refine ⟨fun j u hj => ?_, fun d k hk => ?_, fun d => ?_, fun d d' k h1 h2 => ?_⟩
        · have hj' : (S.tk.set i { t with sl := 1 })[j]? = some u := hj
          by_cases e : j = i
          · subst e
            rw [List.getElem?_set_self (List.getElem?_eq_some_iff.1 hi).1] at hj'
            cases hj'
            exact ⟨(by show 1 ≤ 2; omega), fun _ => ⟨hd, a, ha, k3⟩⟩
          · rw [List.getElem?_set_ne (fun c => e c.symm)] at hj'
            exact W.t3 j u hj'
        · show ∃ u, (S.tk.set i { t with sl := 1 })[k]? = some u ∧ u.sl = 1
          by_cases e : k = i
          · subst e
            exact ⟨_, List.getElem?_set_self (List.getElem?_eq_some_iff.1 hi).1, rfl⟩
          · rw [List.getElem?_set_ne (fun c => e c.symm)]
            rcases old d k hk with c | c
            · exact W.asl d k c
            · exact absurd c.1 e
        · show (up S.sl a.a.toNat (S.sl a.a.toNat ++ [i]) d).Nodup
          by_cases hd : d = a.a.toNat
          · rw [hd, up_same]
            refine List.nodup_append.2 ⟨W.nd _, List.nodup_cons.2 ⟨by simp, List.nodup_nil⟩, fun x hx y hy e => ?_⟩
            simp at hy
            subst hy
            exact hn _ (by rw [← e]; exact hx)
          · rw [up_other _ _ hd]
            exact W.nd d
        · rcases old d k h1 with c1 | ⟨e1, e2⟩ <;> rcases old d' k h2 with c2 | ⟨e3, e4⟩
          · exact W.dj d d' k c1 c2
          · exact absurd (by rw [← e3]; exact c1) (hn d)
          · exact absurd (by rw [← e1]; exact c2) (hn d')
          · rw [e2, e4]
      · rw [if_neg hk]; exact LN _ h0
    · rw [if_neg h0]
      show Wt (adv _ i)
      rw [adv_some (set_same hi)]
      exact W.set hi hn (t' := { t with sl := 0, pc := t.pc + 1 }) (by simp) rfl rfl
  rw [if_neg k3]
  have h0 := hs0 k3
  have WK : ∀ m, m ≤ (S.sl a.a.toNat).length → Wt (adv (wakeS S a.a.toNat m) i) := fun m hm => by
    have hi' : (wakeS S a.a.toNat m).tk[i]? = some t := (wakeS_other (hn _)).trans hi
    rw [adv_some hi']
    exact (Wt.wake _ m S W hm).set hi' (fun c hc => hn c (wakeS_sub hc)) (t' := { t with pc := t.pc + 1 }) rfl rfl h0
  by_cases k4 : a.k = 4
  · rw [if_pos k4]
    exact WK _ (Nat.min_le_right _ _)
  rw [if_neg k4]
  by_cases k5 : a.k = 5
  · rw [if_pos k5]
    exact WK _ (Nat.le_refl _)
  rw [if_neg k5]
  by_cases k6 : a.k = 6
  · rw [if_pos k6]; exact AD _ h0 rfl rfl
  rw [if_neg k6]
  by_cases k7 : a.k = 7
  · rw [if_pos k7]
    cases S.qu a.a.toNat with
    | nil => exact W
    | cons x r => exact AD _ h0 rfl rfl
  rw [if_neg k7]
  by_cases k8 : a.k = 8
  · rw [if_pos k8]; exact AD _ h0 rfl rfl
  rw [if_neg k8]
  by_cases k9 : a.k = 9
  · rw [if_pos k9]; exact AD _ h0 rfl rfl
  rw [if_neg k9]
  by_cases k10 : a.k = 10
  · rw [if_pos k10]
    by_cases hz : S.rg a.a.toNat = 0
    · simp only [hz, if_true]
      show Wt (adv _ i)
      rw [adv_some (set_same hi)]
      exact W.set hi hn (t' := { t with pc := t.pc + a.n.toNat + 1 }) (by simp) rfl h0
    · simp only [hz, if_false]
      exact AD _ h0 rfl rfl
  rw [if_neg k10]
  by_cases k12 : a.k = 12
  · rw [if_pos k12]; exact LN _ h0
  rw [if_neg k12]
  by_cases k13 : a.k = 13
  · rw [if_pos k13]
    show Wt (adv _ i)
    rw [adv_some (set_same hi)]
    exact W.set hi hn (t' := { t with gd := true, ld := a.n.toNat, pc := t.pc + 1 }) (by simp) rfl h0
  rw [if_neg k13]
  exact AD _ h0 rfl rfl
/-- A turn: both go alike. -/
theorem turn_of {S : St} (ok : Ok S) (W : Wt S) {i : Nat} (hr : isR S i = true) (la : Int) : ∃ (t : Tk) (a : Ac), S.tk[i]? = some t ∧ t.ac[t.pc]? = some a ∧ t.pc ≤ 511 ∧ OkA t.ac.length a ∧ (a.k = 7 → S.qu a.a.toNat ≠ []) ∧ stepD (dOf S la) i (dk t) a = dOf (turnS S i) (i : Int) ∧ Wt (turnS S i) ∧ (turnS S i).tr = S.tr ++ [(i, t.pc)] := by
  obtain ⟨t, ht, h3⟩ := isR_some hr
  obtain ⟨hd, a, ha, h1, h2, h4, h6, h7⟩ := how3 h3
  have okt := ok.tk t (List.mem_of_getElem? ht)
  have hl := (List.getElem?_eq_some_iff.1 ha).1
  have e := turnS_eq ht ha
  have W' : Wt { S with tr := S.tr ++ [(i, t.pc)] } := ⟨W.t3, W.asl, W.nd, W.dj⟩
  refine ⟨t, a, ht, ha, by have := okt.len; omega, okt.ac a (List.mem_of_getElem? ha), h7, ?_, ?_, ?_⟩
  · rw [e]
    have h3' : howS { S with tr := S.tr ++ [(i, t.pc)] } t = 3 := h3
    have := step_of (S := S) ok W (la := la) ht ha h3
    rw [this]
    have e2 : dOf (stepS { S with tr := S.tr ++ [(i, t.pc)] } i t a) (i : Int) = dOf (stepS S i t a) (i : Int) := by
      have k := step_of (S := S) ok W (la := la) ht ha h3
      have okx : ∀ tr', Wt { S with tr := tr' } := fun tr' => ⟨W.t3, W.asl, W.nd, W.dj⟩
      have k2 : stepD (dOf { S with tr := S.tr ++ [(i, t.pc)] } la) i (dk t) a = dOf (stepS { S with tr := S.tr ++ [(i, t.pc)] } i t a) (i : Int) :=
        step_ofX (S := { S with tr := S.tr ++ [(i, t.pc)] }) ok.n (fun c j hj => ok.sl c j hj) (okt.ac a (List.mem_of_getElem? ha)) W' ht ha h3'
      rw [← k2, ← k]
      rfl
    rw [e2]
  · rw [e]
    exact W'.step (t := t) ht ha h3
  · rw [e, step_tr]
end Go.Proofs.YtiiinpmkidobgaaDoor.Sd

/-
  The document's fields: may an act's fields be? (gen_TfA.py)
-/
namespace Go.Proofs.YtiiinpmkidobgaaDoor.Sd
open Go.RowKit
set_option linter.unusedVariables false
set_option linter.unusedSimpArgs false
set_option maxRecDepth 100000
def nw (m : Nat) (k : Nat) : Int := if k = 6 ∨ k = 8 ∨ k = 12 then 1 else if k = 10 then -256 else if k = 13 then -(m : Int) - 1 else 0
theorem put3 {w0 w : World} {b : Nat} {T : TypeId} {p q r x y z : Value} (h : w.heap[b]? = some (.cells #[p, q, r] T (0, 0))) (hb : Below w0.heap.size w0 w) (hl : w0.heap.size ≤ b) {a : Nat} {o : Obj} (ha : w.heap[a]? = some o) (hab : a ≠ b) :
    let w3 := ((w.setCell ⟨b, 0, none⟩ x).setCell ⟨b, 1, none⟩ y).setCell ⟨b, 2, none⟩ z
    Below w0.heap.size w0 w3 ∧ w3.heap[a]? = some o ∧ w3.heap[b]? = some (.cells #[x, y, z] T (0, 0)) := by
  intro w3
  have h1 := heap_setCell_same w b 0 _ _ x h
  have h2 := heap_setCell_same _ b 1 _ _ y h1
  have h3 := heap_setCell_same _ b 2 _ _ z h2
  refine ⟨((hb.setCell hl _).setCell hl _).setCell hl _, ?_, ?_⟩
  · show (World.heap _)[a]? = _
    rw [Below.heap_setCell _ _ _ _ hab, Below.heap_setCell _ _ _ _ hab, Below.heap_setCell _ _ _ _ hab, ha]
  · rw [h3]; simp
theorem three_of {x : World} {b : Nat} {a c d : Value} {T : TypeId} (h : x.heap[b]? = some (.cells #[a, c, d] T)) : x.cell? ⟨b, 0, none⟩ = some a ∧ x.cell? ⟨b, 1, none⟩ = some c ∧ x.cell? ⟨b, 2, none⟩ = some d := by
  refine ⟨?_, ?_, ?_⟩ <;> rw [cell_of h] <;> rfl
theorem unfrozen {x : World} {b : Nat} {cs : Array Value} {T : TypeId} (h : x.heap[b]? = some (.cells cs T)) (o : Nat) : x.frozen? ⟨b, o, none⟩ = false := by
  simp [World.frozen?, h]
set_option maxHeartbeats 8000000 in
theorem rfields_any (w : World) (a : Ac) (hk : 1 ≤ a.k ∧ a.k ≤ 13) (m : Nat) (hm : m ≤ 1000000) : Calls Tryd.prog 19 #[acV a, .int .i64 (m : Int)] w fun e w' => e = .returned (.bool (useB m a)) ∧ Below w.heap.size w w' := by
  obtain ⟨k, aa, ab, an⟩ := a
  obtain ⟨kn, rfl⟩ := nat_of (show (0 : Int) ≤ k by have := hk.1; simp only at this; omega)
  simp only at hk
  have hk' : kn < 14 := by omega
  have hk1 : 1 ≤ kn := by omega
  clear hk
  obtain ⟨z, hz⟩ : ∃ z, Hid (useB m ⟨kn, aa, ab, an⟩ = z) := ⟨_, rfl⟩
  rw [hz.out]
  have B1 := box_below w (.cells #[.int .i64 kn, .int .i64 aa, .int .i64 ab, .int .i64 an] 45)
  have N1 := heap_alloc_new w (.cells #[.int .i64 kn, .int .i64 aa, .int .i64 ab, .int .i64 an] 45)
  obtain ⟨x0, x1, x2, x3⟩ := four_ofN N1
  have BH := hide B1
  have NH := hide N1
  have N2 := heap_alloc_new (w.alloc (.cells #[.int .i64 kn, .int .i64 aa, .int .i64 ab, .int .i64 an] 45)) (.cells #[.int .i64 1, .int .i64 1, .int .i64 0] 77)
  have B2 := box_below (w.alloc (.cells #[.int .i64 kn, .int .i64 aa, .int .i64 ab, .int .i64 an] 45)) (.cells #[.int .i64 1, .int .i64 1, .int .i64 0] 77)
  have e : (w.alloc (.cells #[.int .i64 kn, .int .i64 aa, .int .i64 ab, .int .i64 an] 45)).heap.size = w.heap.size + 1 := by unfold World.alloc; exact Array.size_push _
  rw [e] at N2
  have N1 := (B2.block _ (heap_lt NH.out)).trans NH.out
  have BW := hide (keepF BH.out B2)
  replace N1 := hide N1
  replace N2 := hide N2
  clear e B1 B2
  unfold acV
  simp only
  go_enter Tryd.func19, Tryd.ntmps19
  go_upto_block 0 with fail
  clear BH NH x0 x1 x2 x3
  generalize (w.alloc (.cells #[.int .i64 kn, .int .i64 aa, .int .i64 ab, .int .i64 an] 45)).alloc (.cells #[.int .i64 1, .int .i64 1, .int .i64 0] 77) = w2 at *
  obtain ⟨xb, hxb⟩ : ∃ xb, Hid (w.heap.size = xb) := ⟨_, rfl⟩
  rw [hxb.out] at N1 N2 ⊢
  have XL : Hid (w.heap.size ≤ xb) := Nat.le_of_eq hxb.out
  have HM := hide hm
  obtain ⟨x0, x1, x2, x3⟩ := four_ofN N1.out
  obtain ⟨y0, y1, y2⟩ := three_of N2.out
  have fz : ∀ o, w2.frozen? ⟨xb + 1, o, none⟩ = false := unfrozen N2.out
  have f0 := fz 0
  have f1 := fz 1
  have f2 := fz 2
  clear fz
  go_cut [5] from 10 to 42 (fun y wx => y = .pointer (some ⟨xb + 1, 0, none⟩) ∧ Hid (Below w.heap.size w wx ∧ wx.heap[xb]? = some (.cells #[.int .i64 kn, .int .i64 aa, .int .i64 ab, .int .i64 an] 45) ∧ wx.heap[xb + 1]? = some (.cells #[.int .i64 (ra kn), .int .i64 (rb' kn), .int .i64 (nw m kn)] 77)))
  case first =>
    by_cases k1 : kn = 1
    · subst k1
      clear hk' hk1
      go_wp2_with fail
      go_meet
      case rel => exact ⟨rfl, put3 N2.out BW.out (Nat.le_succ_of_le XL.out) N1.out (by omega)⟩
    by_cases k2 : kn = 2
    · subst k2
      clear hk' hk1 k1
      go_wp2_with fail
      go_meet
      case rel => exact ⟨rfl, put3 N2.out BW.out (Nat.le_succ_of_le XL.out) N1.out (by omega)⟩
    by_cases k3 : kn = 3
    · subst k3
      clear hk' hk1 k1 k2
      go_wp2_with fail
      go_meet
      case rel => exact ⟨rfl, put3 N2.out BW.out (Nat.le_succ_of_le XL.out) N1.out (by omega)⟩
    by_cases k4 : kn = 4
    · subst k4
      clear hk' hk1 k1 k2 k3
      go_wp2_with fail
      go_meet
      case rel => exact ⟨rfl, put3 N2.out BW.out (Nat.le_succ_of_le XL.out) N1.out (by omega)⟩
    by_cases k5 : kn = 5
    · subst k5
      clear hk' hk1 k1 k2 k3 k4
      go_wp2_with fail
      go_meet
      case rel => exact ⟨rfl, put3 N2.out BW.out (Nat.le_succ_of_le XL.out) N1.out (by omega)⟩
    by_cases k6 : kn = 6
    · subst k6
      clear hk' hk1 k1 k2 k3 k4 k5
      go_wp2_with fail
      go_meet
      case rel => exact ⟨rfl, put3 N2.out BW.out (Nat.le_succ_of_le XL.out) N1.out (by omega)⟩
    by_cases k7 : kn = 7
    · subst k7
      clear hk' hk1 k1 k2 k3 k4 k5 k6
      go_wp2_with fail
      go_meet
      case rel => exact ⟨rfl, put3 N2.out BW.out (Nat.le_succ_of_le XL.out) N1.out (by omega)⟩
    by_cases k8 : kn = 8
    · subst k8
      clear hk' hk1 k1 k2 k3 k4 k5 k6 k7
      go_wp2_with fail
      go_meet
      case rel => exact ⟨rfl, put3 N2.out BW.out (Nat.le_succ_of_le XL.out) N1.out (by omega)⟩
    by_cases k9 : kn = 9
    · subst k9
      clear hk' hk1 k1 k2 k3 k4 k5 k6 k7 k8
      go_wp2_with fail
      go_meet
      case rel => exact ⟨rfl, put3 N2.out BW.out (Nat.le_succ_of_le XL.out) N1.out (by omega)⟩
    by_cases k10 : kn = 10
    · subst k10
      clear hk' hk1 k1 k2 k3 k4 k5 k6 k7 k8 k9
      go_wp2_with fail
      go_meet
      case rel => exact ⟨rfl, put3 N2.out BW.out (Nat.le_succ_of_le XL.out) N1.out (by omega)⟩
    by_cases k11 : kn = 11
    · subst k11
      clear hk' hk1 k1 k2 k3 k4 k5 k6 k7 k8 k9 k10
      go_wp2_with fail
      go_meet
      case rel => exact ⟨rfl, ⟨BW.out, N1.out, N2.out⟩⟩
    by_cases k12 : kn = 12
    · subst k12
      clear hk' hk1 k1 k2 k3 k4 k5 k6 k7 k8 k9 k10 k11
      go_wp2_with fail
      go_meet
      case rel => exact ⟨rfl, put3 N2.out BW.out (Nat.le_succ_of_le XL.out) N1.out (by omega)⟩
    by_cases k13 : kn = 13
    · subst k13
      clear hk' hk1 k1 k2 k3 k4 k5 k6 k7 k8 k9 k10 k11 k12
      have hw1 : wrap64 (-(m : Int)) = -(m : Int) := by have := HM.out; unfold wrap64; omega
      have hw2 : wrap64 (-(m : Int) - 1) = -(m : Int) - 1 := by have := HM.out; unfold wrap64; omega
      go_wp2_with fail
      go_meet
      case rel => exact ⟨rfl, put3 N2.out BW.out (Nat.le_succ_of_le XL.out) N1.out (by omega)⟩
    omega
  case rest =>
    obtain ⟨rfl, hw⟩ := hcut
    obtain ⟨Bc, C1, C2⟩ := hw.out
    replace Bc := hide Bc
    clear x0 x1 x2 x3 y0 y1 y2 f0 f1 f2 BW N1 N2 hw
    obtain ⟨R1, hR1⟩ : ∃ R1, Hid (ra kn = R1) := ⟨_, rfl⟩
    obtain ⟨R2, hR2⟩ : ∃ R2, Hid (rb' kn = R2) := ⟨_, rfl⟩
    obtain ⟨NW, hNW⟩ : ∃ NW, Hid (nw m kn = NW) := ⟨_, rfl⟩
    obtain ⟨zn, hzn⟩ : ∃ zn, Hid (decide (nOk m ⟨kn, aa, ab, an⟩) = zn) := ⟨_, rfl⟩
    have NB : Hid (-1000001 ≤ NW ∧ NW ≤ 1) := by
      show _ ∧ _
      rw [← hNW.out]; unfold nw
      have := HM.out
      split
      · omega
      · split
        · omega
        · split <;> omega
    have NZ : Hid (zn = true ↔ (an = 0 ∨ NW = 1 ∨ (NW < 0 ∧ 0 ≤ an ∧ an < -NW))) := by
      show _ ↔ _
      rw [← hzn.out, decide_eq_true_iff, ← hNW.out]
      unfold nOk nw
      simp only
      have := HM.out
      by_cases c1 : kn = 6 ∨ kn = 8 ∨ kn = 12
      · rw [if_pos (by omega), if_pos c1]; simp
      · rw [if_neg (by omega), if_neg c1]
        by_cases c2 : kn = 10
        · subst c2; simp; omega
        · rw [if_neg (by omega), if_neg c2]
          by_cases c3 : kn = 13
          · subst c3; simp; omega
          · rw [if_neg (by omega), if_neg c3]; simp
    have HZ : Hid (z = (decide (0 ≤ aa) && (decide (aa < R1) && (decide (0 ≤ ab) && (decide (ab < R2) && zn))))) := by
      show _ = _
      rw [← hz.out, ← hR1.out, ← hR2.out, ← hzn.out]
      unfold useB
      simp only [Bool.decide_and]
    rw [hR1.out, hR2.out, hNW.out] at C2
    obtain ⟨x0, x1, x2, x3⟩ := four_ofN C1
    obtain ⟨y0, y1, y2⟩ := three_of C2
    clear hz hR1 hR2 hNW hzn C1 C2 hk' hk1
    obtain ⟨wd, hwd⟩ : ∃ wd, wd = wc := ⟨_, rfl⟩
    subst hwd
    go_upto_region 24 with fail
    go_cut [6] from 43 to 68 (fun y wx => y = .bool zn ∧ Hid (wx = wd))
    case first =>
      by_cases c1 : an = 0
      · obtain rfl : zn = true := NZ.out.2 (.inl c1)
        subst c1
        go_wp2_with fail
        go_meet
        case rel => exact ⟨rfl, rfl⟩
      by_cases c2 : NW = 1
      · obtain rfl : zn = true := NZ.out.2 (.inr (.inl c2))
        subst c2
        go_wp2_with fail
        go_meet
        case rel => exact ⟨rfl, rfl⟩
      by_cases c3 : NW < 0
      · have hw1 : wrap64 (-NW) = -NW := by have := NB.out; unfold wrap64; omega
        by_cases c4 : 0 ≤ an
        · by_cases c5 : an < -NW
          · obtain rfl : zn = true := NZ.out.2 (.inr (.inr ⟨c3, c4, c5⟩))
            go_wp2_with fail
            go_meet
            case rel => exact ⟨rfl, rfl⟩
          · obtain rfl : zn = false := by
              rw [Bool.eq_false_iff]; intro e; have := NZ.out.1 e; omega
            go_wp2_with fail
            go_meet
            case rel => exact ⟨by simp [c1, c2], rfl⟩
        · obtain rfl : zn = false := by
            rw [Bool.eq_false_iff]; intro e; have := NZ.out.1 e; omega
          go_wp2_with fail
          go_meet
          case rel => exact ⟨by simp [c1, c2], rfl⟩
      · obtain rfl : zn = false := by
          rw [Bool.eq_false_iff]; intro e; have := NZ.out.1 e; omega
        go_wp2_with fail
        go_meet
        case rel => exact ⟨by simp [c1, c2], rfl⟩
    case rest =>
      obtain ⟨rfl, hw⟩ := hcut
      have e : wc = wd := hw.out
      subst e
      by_cases h1 : 0 ≤ aa
      · by_cases h2 : aa < R1
        · by_cases h3 : 0 ≤ ab
          · by_cases h4 : ab < R2
            · obtain rfl : z = zn := by rw [HZ.out]; simp [h1, h2, h3, h4]
              go_wp2_with fail
              all_goals (go_ret; exact ⟨by simp, Bc.out⟩)
            · obtain rfl : z = false := by rw [HZ.out]; simp [h4]
              go_wp2_with fail
              go_ret
              exact ⟨rfl, Bc.out⟩
          · obtain rfl : z = false := by rw [HZ.out]; simp [h3]
            go_wp2_with fail
            go_ret
            exact ⟨rfl, Bc.out⟩
        · obtain rfl : z = false := by rw [HZ.out]; simp [h2]
          go_wp2_with fail
          go_ret
          exact ⟨rfl, Bc.out⟩
      · obtain rfl : z = false := by rw [HZ.out]; simp [h1]
        go_wp2_with fail
        go_ret
        exact ⟨rfl, Bc.out⟩
end Go.Proofs.YtiiinpmkidobgaaDoor.Sd

/-
  The document's May: may there be such tasks? It says what the program's says.
-/
namespace Go.Proofs.YtiiinpmkidobgaaDoor.Sd
open Go.RowKit
open Ix (wp_region_T wpAnyT wpAnyT_take wpAnyT_one wpAnyT_done vac)
set_option linter.unusedVariables false
set_option linter.unusedSimpArgs false
set_option maxRecDepth 100000
theorem all_upto {ts : List (List Ac)} {n : Nat} (hn : ts.length = n) (p : List Ac → Bool) (h : ∀ j l, j < n → ts[j]? = some l → p l = true) : ts.all p = true :=
  all_take _ _ fun j l hjl => h j l (by have := (List.getElem?_eq_some_iff.1 hjl).1; omega) hjl
theorem mayE_many {ts : List (List Ac)} (h : manyB ts = true) : mayE ts = 9 := by unfold mayE; rw [if_pos h]
theorem mayE_kind {ts : List (List Ac)} (h : ¬ manyB ts = true) (h2 : (ts.all fun l => l.all (kindB l.length)) = false) : mayE ts = 62 := by unfold mayE; rw [if_neg h, if_pos h2]
theorem mayE_use {ts : List (List Ac)} (h : ¬ manyB ts = true) (h2 : (ts.all fun l => l.all (kindB l.length)) = true) (h3 : (ts.all fun l => l.all (useB l.length)) = false) : mayE ts = 1 := by unfold mayE; rw [if_neg h, if_neg (by simp [h2]), if_pos h3]
theorem mayE_yes {ts : List (List Ac)} (h : ¬ manyB ts = true) (h2 : (ts.all fun l => l.all (kindB l.length)) = true) (h3 : (ts.all fun l => l.all (useB l.length)) = true) : mayE ts = 0 := by unfold mayE; rw [if_neg h, if_neg (by simp [h2]), if_neg (by simp [h3])]
theorem kindB_iff {m : Nat} {a : Ac} : kindB m a = true ↔ 1 ≤ a.k ∧ a.k ≤ 13 := by unfold kindB; exact decide_eq_true_iff
set_option maxHeartbeats 8000000 in
theorem rmay_any (w : World) (v : Value) (us : List Value) (ts : List (List Ac)) (h : TksAt w v us ts) :
    Calls Tryd.prog 7 #[v] w fun e w' => e = .returned (.int .i64 (mayE ts)) ∧ Below w.heap.size w w' := by
  obtain ⟨hr, hul, hact⟩ := h
  have HR := hide hr
  obtain ⟨ao, cap, e, -, -, -, -⟩ := hr
  subst e
  obtain ⟨n, hnn⟩ : ∃ n, Hid (us.length = n) := ⟨_, rfl⟩
  rw [hnn.out] at HR hul ⊢
  have HA := hide hact
  have hulH := hide hul
  obtain ⟨Z, hZ⟩ : ∃ Z, Hid (mayE ts = Z) := ⟨_, rfl⟩
  rw [hZ.out]
  clear hact hul
  by_cases h16 : 16 < n
  · have hz : Z = 9 := by rw [← hZ.out]; refine mayE_many ?_; unfold manyB; rw [← hulH.out]; simp [h16]
    subst hz
    have h16' : (n : Int) > 16 := by omega
    go_enter Tryd.func7, Tryd.ntmps7
    go_wp2_with fail
    go_ret
    exact ⟨rfl, Below.refl _ _⟩
  have h16' : ¬ (n : Int) > 16 := by omega
  go_enter Tryd.func7, Tryd.ntmps7
  go_wp2_with fail
  go_loopw [3] (fun s wr => ∃ i : Nat, s = .int .i64 (i : Int) ∧ i ≤ n ∧ Hid ((∀ j l, j < i → ts[j]? = some l → l.length ≤ 256) ∧ wr = w)) (fun s wr => n - (intOf s).toNat)
  case atStart => exact ⟨0, rfl, Nat.zero_le _, fun j l hj => by omega, rfl⟩
  case round =>
  obtain ⟨i, rfl, hin, hst⟩ := hrel
  have hw : w = wr := hst.out.2.symm
  subst hw
  by_cases hlt : i < n
  · have i1 : (i : Int) < (n : Int) := by omega
    obtain ⟨u, hu⟩ : ∃ u, us[i]? = some u := ⟨_, List.getElem?_eq_getElem (by rw [hnn.out]; exact hlt)⟩
    obtain ⟨l, hl⟩ : ∃ l, ts[i]? = some l := ⟨_, List.getElem?_eq_getElem (by rw [← hulH.out]; exact hlt)⟩
    obtain ⟨hcp, hrow⟩ := row_at HR.out hnn.out
    obtain ⟨b, off, rfl, c0⟩ := hrow i u hu
    obtain ⟨aa, ac, rfl, hac, hacts⟩ := HA.out i u l hu hl
    have hcp' : (i : Int) < (cap : Int) := by omega
    obtain ⟨N, hN⟩ : ∃ N, Hid (l.length = N) := ⟨_, rfl⟩
    rw [hN.out] at c0 hac
    have hlH := hide hl
    clear hrow hacts hu hl
    by_cases h2 : 256 < N
    · have h2' : (N : Int) > 256 := by omega
      have hz : Z = 9 := by
        rw [← hZ.out]
        refine mayE_many ?_
        unfold manyB
        rw [Bool.or_eq_true, List.any_eq_true]
        exact .inr ⟨l, List.mem_of_getElem? hlH.out, by rw [hN.out]; simp [h2]⟩
      subst hz
      go_wp2_with fail
      go_ret
      exact ⟨rfl, Below.refl _ _⟩
    · have h2' : ¬ (N : Int) > 256 := by omega
      go_wp2_with fail
      go_roundw
      case rel =>
        refine ⟨i + 1, by go_num, hlt, fun j l2 hj hjl => ?_, trivial⟩
        by_cases e : j = i
        · subst e
          rw [hlH.out] at hjl
          cases hjl
          rw [hN.out]
          omega
        · exact hst.out.1 j l2 (by omega) hjl
      case measure => simp only [intOf]; omega
  obtain rfl : n = i := by omega
  have i1 : ¬ (n : Int) < (n : Int) := by omega
  have HB : Hid (∀ l ∈ ts, l.length ≤ 256) := fun l hl => by
    obtain ⟨j, hj⟩ := List.getElem?_of_mem hl
    exact hst.out.1 j l (by have := (List.getElem?_eq_some_iff.1 hj).1; rw [← hulH.out] at this; exact this) hj
  have HM : Hid (¬ manyB ts = true) := by
    show ¬ _
    unfold manyB
    rw [Bool.or_eq_true, List.any_eq_true]
    rintro (e | ⟨l, hl, e⟩)
    · have := hulH.out; simp at e; omega
    · have := HB.out l hl; simp at e; omega
  clear hst hlt hin
  go_wp2_with fail
  go_loopw [4] (fun s wr => ∃ i : Nat, s = .int .i64 (i : Int) ∧ i ≤ n ∧ Hid ((∀ j l, j < i → ts[j]? = some l → l.all (kindB l.length) = true) ∧ Below w.heap.size w wr)) (fun s wr => n - (intOf s).toNat)
  case atStart => exact ⟨0, rfl, Nat.zero_le _, fun j l hj => by omega, Below.refl _ _⟩
  case round =>
  clear i1
  obtain ⟨i, rfl, hin, hst⟩ := hrel
  by_cases hlt : i < n
  · have i1 : (i : Int) < (n : Int) := by omega
    obtain ⟨u, hu⟩ : ∃ u, us[i]? = some u := ⟨_, List.getElem?_eq_getElem (by rw [hnn.out]; exact hlt)⟩
    obtain ⟨l, hl⟩ : ∃ l, ts[i]? = some l := ⟨_, List.getElem?_eq_getElem (by rw [← hulH.out]; exact hlt)⟩
    obtain ⟨hcp, hrow⟩ := row_at (Below.row hst.out.2 HR.out) hnn.out
    obtain ⟨b, off, rfl, c0⟩ := hrow i u hu
    obtain ⟨aa, ac, rfl, hac, hacts⟩ := (HA.out i u l hu hl).below hst.out.2
    have hlb := HB.out l (List.mem_of_getElem? hl)
    have hcp' : (i : Int) < (cap : Int) := by omega
    obtain ⟨N, hN⟩ : ∃ N, Hid (l.length = N) := ⟨_, rfl⟩
    rw [hN.out] at c0 hac hlb
    have HC := hide hacts
    have huH := hide hu
    have hlH := hide hl
    have C0 := hide c0
    clear hrow hacts hu hl c0
    have ewi : wrap64 ((i : Int) + 1) = (i : Int) + 1 := by unfold wrap64; omega
    obtain ⟨wo, hwo⟩ : ∃ wo, wo = wr := ⟨wr, rfl⟩
    subst hwo
    go_wp2_with fail
    go_loopw [5] (fun s wx => ∃ k : Nat, s = .int .i64 (k : Int) ∧ k ≤ N ∧ Hid ((∀ j a, j < k → l[j]? = some a → kindB l.length a = true) ∧ Below wo.heap.size wo wx)) (fun s wx => N - (intOf s).toNat)
    case atStart => exact ⟨0, rfl, Nat.zero_le _, fun j a hj => by omega, Below.refl _ _⟩
    case round =>
      obtain ⟨k, rfl, hkn, hsx⟩ := hrel
      have bx := hsx.out.2
      have c0 := (bx.cell (lt_of_cell C0.out)).trans C0.out
      by_cases hkl : k < N
      · have k1 : (k : Int) < (N : Int) := by omega
        obtain ⟨a, ha⟩ : ∃ a, l[k]? = some a := ⟨_, List.getElem?_eq_getElem (by rw [hN.out]; exact hkl)⟩
        obtain ⟨ab, aoff, rfl, a0, a1, a2, a3⟩ := HC.out k a ha
        have e0 := (bx.cell (lt_of_cell a0)).trans a0
        have e1 := (bx.cell (lt_of_cell a1)).trans a1
        have e2 := (bx.cell (lt_of_cell a2)).trans a2
        have e3 := (bx.cell (lt_of_cell a3)).trans a3
        have kc : (k : Int) < (ac : Int) := by omega
        obtain ⟨z, hz⟩ : ∃ z, Hid (kindB N a = z) := ⟨_, rfl⟩
        have haH := hide ha
        have hl2 := hlH.out
        obtain ⟨ak, aa', ab', an⟩ := a
        simp only at e0 e1 e2 e3
        clear a0 a1 a2 a3 ha hl2 bx
        have W1 : Hid (z = false → Z = 62) := fun e => by
          subst e
          rw [← hZ.out]
          exact mayE_kind HM.out (all_no _ _ hlH.out (all_no _ _ haH.out (by rw [hN.out]; exact hz.out)))
        have W2 : Hid (z = true ↔ 1 ≤ ak ∧ ak ≤ 13) := by show _ ↔ _; rw [← hz.out]; exact kindB_iff
        by_cases q1 : ak < 1
        · obtain rfl : Z = 62 := W1.out (by rw [Bool.eq_false_iff]; intro e; have := W2.out.1 e; omega)
          go_wp2_with fail
          go_ret
          exact ⟨rfl, keepF hst.out.2 hsx.out.2⟩
        by_cases q2 : ak > 13
        · obtain rfl : Z = 62 := W1.out (by rw [Bool.eq_false_iff]; intro e; have := W2.out.1 e; omega)
          go_wp2_with fail
          go_ret
          exact ⟨rfl, keepF hst.out.2 hsx.out.2⟩
        go_wp2_with fail
        go_roundw
        case rel =>
          refine ⟨k + 1, by go_num, hkl, fun j a hj hja => ?_, hsx.out.2⟩
          by_cases e : j = k
          · subst e
            rw [haH.out] at hja
            cases hja
            rw [hN.out, hz.out]
            exact W2.out.2 ⟨by omega, by omega⟩
          · exact hsx.out.1 j a (by omega) hja
        case measure => simp only [intOf]; omega
      · obtain rfl : k = N := by omega
        have k1 : ¬ (k : Int) < (k : Int) := by omega
        have AL : Hid (l.all (kindB l.length) = true) := all_take _ _ fun j a hja => hsx.out.1 j a (by rw [← hN.out]; exact (List.getElem?_eq_some_iff.1 hja).1) hja
        clear bx
        go_wp2_with fail
        go_roundw
        case rel =>
          refine ⟨i + 1, by first | go_num | (rw [ewi]; rfl), hlt, fun j l2 hj hjl => ?_, keepF hst.out.2 hsx.out.2⟩
          by_cases e : j = i
          · subst e
            rw [hlH.out] at hjl
            cases hjl
            exact AL.out
          · exact hst.out.1 j l2 (by omega) hjl
        case measure => first | (simp only [intOf]; omega) | (rw [ewi]; simp only [intOf]; omega)
  obtain rfl : n = i := by omega
  have i1 : ¬ (n : Int) < (n : Int) := by omega
  have HKB : Hid ((ts.all fun l => l.all (kindB l.length)) = true) := all_upto hulH.out.symm _ hst.out.1
  have HK : Hid (∀ l ∈ ts, ∀ a ∈ l, 1 ≤ a.k ∧ a.k ≤ 13) := kind_yes HKB.out
  have BW := hide hst.out.2
  clear hst hlt hin
  go_wp2_with fail
  go_loopw [6] (fun s wr => ∃ i : Nat, s = .int .i64 (i : Int) ∧ i ≤ n ∧ Hid ((∀ j l, j < i → ts[j]? = some l → l.all (useB l.length) = true) ∧ Below w.heap.size w wr)) (fun s wr => n - (intOf s).toNat)
  case atStart => exact ⟨0, rfl, Nat.zero_le _, fun j l hj => by omega, BW.out⟩
  case round =>
  clear i1
  obtain ⟨i, rfl, hin, hst⟩ := hrel
  by_cases hlt : i < n
  · have i1 : (i : Int) < (n : Int) := by omega
    obtain ⟨u, hu⟩ : ∃ u, us[i]? = some u := ⟨_, List.getElem?_eq_getElem (by rw [hnn.out]; exact hlt)⟩
    obtain ⟨l, hl⟩ : ∃ l, ts[i]? = some l := ⟨_, List.getElem?_eq_getElem (by rw [← hulH.out]; exact hlt)⟩
    obtain ⟨hcp, hrow⟩ := row_at (Below.row hst.out.2 HR.out) hnn.out
    obtain ⟨b, off, rfl, c0⟩ := hrow i u hu
    obtain ⟨aa, ac, rfl, hac, hacts⟩ := (HA.out i u l hu hl).below hst.out.2
    have hlb := HB.out l (List.mem_of_getElem? hl)
    have hcp' : (i : Int) < (cap : Int) := by omega
    obtain ⟨N, hN⟩ : ∃ N, Hid (l.length = N) := ⟨_, rfl⟩
    rw [hN.out] at c0 hac hlb
    have HC := hide hacts
    have huH := hide hu
    have hlH := hide hl
    have C0 := hide c0
    clear hrow hacts hu hl c0
    have ewi : wrap64 ((i : Int) + 1) = (i : Int) + 1 := by unfold wrap64; omega
    obtain ⟨wo, hwo⟩ : ∃ wo, wo = wr := ⟨wr, rfl⟩
    subst hwo
    go_wp2_with fail
    go_loopw [7] (fun s wx => ∃ k : Nat, s = .int .i64 (k : Int) ∧ k ≤ N ∧ Hid ((∀ j a, j < k → l[j]? = some a → useB l.length a = true) ∧ Below wo.heap.size wo wx)) (fun s wx => N - (intOf s).toNat)
    case atStart => exact ⟨0, rfl, Nat.zero_le _, fun j a hj => by omega, Below.refl _ _⟩
    case round =>
      obtain ⟨k, rfl, hkn, hsx⟩ := hrel
      have bx := hsx.out.2
      have c0 := (bx.cell (lt_of_cell C0.out)).trans C0.out
      by_cases hkl : k < N
      · have k1 : (k : Int) < (N : Int) := by omega
        obtain ⟨a, ha⟩ : ∃ a, l[k]? = some a := ⟨_, List.getElem?_eq_getElem (by rw [hN.out]; exact hkl)⟩
        obtain ⟨ab, aoff, rfl, a0, a1, a2, a3⟩ := HC.out k a ha
        have e0 := (bx.cell (lt_of_cell a0)).trans a0
        have e1 := (bx.cell (lt_of_cell a1)).trans a1
        have e2 := (bx.cell (lt_of_cell a2)).trans a2
        have e3 := (bx.cell (lt_of_cell a3)).trans a3
        have kc : (k : Int) < (ac : Int) := by omega
        obtain ⟨z, hz⟩ : ∃ z, Hid (useB N a = z) := ⟨_, rfl⟩
        have haH := hide ha
        have hl2 := hlH.out
        have OK2 := HK.out l (List.mem_of_getElem? hl2) a (List.mem_of_getElem? ha)
        have CP := hide (rfields_any wr.drew a OK2 N (by omega))
        rw [hz.out] at CP
        unfold acV at CP
        obtain ⟨ak, aa', ab', an⟩ := a
        simp only at e0 e1 e2 e3 CP
        clear a0 a1 a2 a3 ha hl2 bx OK2
        cases z with
        | true =>
          go_upto_region 22 with fail
          have KP : Hid (wr.drew.cell? ⟨b, off + i, none⟩ = some (.slice (some ⟨ab, aoff, none⟩) N ac) ∧ wr.drew.cell? ⟨ab, aoff + k * 4, none⟩ = some (.int .i64 ak) ∧ wr.drew.cell? ⟨ab, aoff + k * 4 + 1, none⟩ = some (.int .i64 aa') ∧ wr.drew.cell? ⟨ab, aoff + k * 4 + 2, none⟩ = some (.int .i64 ab') ∧ wr.drew.cell? ⟨ab, aoff + k * 4 + 3, none⟩ = some (.int .i64 an)) := ⟨c0, e0, e1, e2, e3⟩
          have DB : Hid (Below wr.heap.size wr wr.drew) := (Below.refl _ _).drew
          clear c0 e0 e1 e2 e3
          refine wp_region_T (fun q => q.cell? ⟨b, off + i, none⟩ = some (.slice (some ⟨ab, aoff, none⟩) N ac) ∧ q.cell? ⟨ab, aoff + k * 4, none⟩ = some (.int .i64 ak) ∧ q.cell? ⟨ab, aoff + k * 4 + 1, none⟩ = some (.int .i64 aa') ∧ q.cell? ⟨ab, aoff + k * 4 + 2, none⟩ = some (.int .i64 ab') ∧ q.cell? ⟨ab, aoff + k * 4 + 3, none⟩ = some (.int .i64 an)) 12 (by kernel_rfl) ?_
          generalize wr.drew = q at *
          refine wpAnyT_take (i := 0) (oi := { dst := some 73, op := Op.move (Operand.tmp 0), type := 22, pos := "ref.go:80", after := #[], guard := none }) (v := .slice (some ⟨b, off, none⟩) n cap) [2, 3, 5, 6, 12] rfl (by kernel_rfl) (by kernel_rfl) (by kernel_rfl) (by kernel_rfl) (fun _ _ _ h => h) (Or.inl ⟨by rfl, ?_⟩) KP.out ?_
          · intro wq hSw
            obtain ⟨y0, y1, y2, y3, y4⟩ := hSw
            go_simp
          (try simp only [Act.put, List.setIfInBounds_toArray, List.set_cons_zero, List.set_cons_succ])
          refine wpAnyT_take (i := 1) (oi := { dst := some 74, op := Op.move (Operand.tmp 6), type := 3, pos := "ref.go:80", after := #[], guard := none }) (v := .int .i64 (i : Int)) [2, 3, 5, 6, 12] rfl (by kernel_rfl) (by kernel_rfl) (by kernel_rfl) (by kernel_rfl) (fun _ _ _ h => h) (Or.inl ⟨by rfl, ?_⟩) KP.out ?_
          · intro wq hSw
            obtain ⟨y0, y1, y2, y3, y4⟩ := hSw
            go_simp
          (try simp only [Act.put, List.setIfInBounds_toArray, List.set_cons_zero, List.set_cons_succ])
          refine wpAnyT_take (i := 2) (oi := { dst := some 75, op := Op.indexAddr 22 (Operand.tmp 73) (Operand.tmp 74), type := 0, pos := "ref.go:80", after := #[{ on := 0, ground := Ground.data }, { on := 1, ground := Ground.data }], guard := none }) (v := .pointer (some ⟨b, off + i, none⟩)) [3, 5, 6, 12] rfl (by kernel_rfl) (by kernel_rfl) (by kernel_rfl) (by kernel_rfl) (fun _ _ _ h => h) (Or.inl ⟨by rfl, ?_⟩) KP.out ?_
          · intro wq hSw
            obtain ⟨y0, y1, y2, y3, y4⟩ := hSw
            go_simp
          (try simp only [Act.put, List.setIfInBounds_toArray, List.set_cons_zero, List.set_cons_succ])
          refine wpAnyT_take (i := 3) (oi := { dst := some 76, op := Op.load 46 (Operand.tmp 75), type := 46, pos := "ref.go:80", after := #[{ on := 2, ground := Ground.data }], guard := none }) (v := .slice (some ⟨ab, aoff, none⟩) N ac) [5, 6, 12] rfl (by kernel_rfl) (by kernel_rfl) (by kernel_rfl) (by kernel_rfl) (fun _ _ _ h => h) (Or.inl ⟨by rfl, ?_⟩) KP.out ?_
          · intro wq hSw
            obtain ⟨y0, y1, y2, y3, y4⟩ := hSw
            go_simp
          (try simp only [Act.put, List.setIfInBounds_toArray, List.set_cons_zero, List.set_cons_succ])
          refine wpAnyT_take (i := 4) (oi := { dst := some 77, op := Op.move (Operand.tmp 7), type := 3, pos := "ref.go:80", after := #[], guard := none }) (v := .int .i64 (k : Int)) [5, 6, 12] rfl (by kernel_rfl) (by kernel_rfl) (by kernel_rfl) (by kernel_rfl) (fun _ _ _ h => h) (Or.inl ⟨by rfl, ?_⟩) KP.out ?_
          · intro wq hSw
            obtain ⟨y0, y1, y2, y3, y4⟩ := hSw
            go_simp
          (try simp only [Act.put, List.setIfInBounds_toArray, List.set_cons_zero, List.set_cons_succ])
          refine wpAnyT_take (i := 5) (oi := { dst := some 78, op := Op.indexAddr 46 (Operand.tmp 76) (Operand.tmp 77), type := 0, pos := "ref.go:80", after := #[{ on := 3, ground := Ground.data }, { on := 4, ground := Ground.data }], guard := none }) (v := .pointer (some ⟨ab, aoff + k * 4, none⟩)) [6, 12] rfl (by kernel_rfl) (by kernel_rfl) (by kernel_rfl) (by kernel_rfl) (fun _ _ _ h => h) (Or.inl ⟨by rfl, ?_⟩) KP.out ?_
          · intro wq hSw
            obtain ⟨y0, y1, y2, y3, y4⟩ := hSw
            go_simp
          (try simp only [Act.put, List.setIfInBounds_toArray, List.set_cons_zero, List.set_cons_succ])
          refine wpAnyT_take (i := 6) (oi := { dst := some 79, op := Op.load 45 (Operand.tmp 78), type := 45, pos := "ref.go:80", after := #[{ on := 5, ground := Ground.data }], guard := none }) (v := .agg #[.int .i64 ak, .int .i64 aa', .int .i64 ab', .int .i64 an]) [12] rfl (by kernel_rfl) (by kernel_rfl) (by kernel_rfl) (by kernel_rfl) (fun _ _ _ h => h) (Or.inl ⟨by rfl, ?_⟩) KP.out ?_
          · intro wq hSw
            obtain ⟨y0, y1, y2, y3, y4⟩ := hSw
            go_simp
          (try simp only [Act.put, List.setIfInBounds_toArray, List.set_cons_zero, List.set_cons_succ])
          refine wpAnyT_take (i := 7) (oi := { dst := some 80, op := Op.move (Operand.tmp 0), type := 22, pos := "ref.go:80", after := #[], guard := none }) (v := .slice (some ⟨b, off, none⟩) n cap) [9, 10, 11, 12] rfl (by kernel_rfl) (by kernel_rfl) (by kernel_rfl) (by kernel_rfl) (fun _ _ _ h => h) (Or.inl ⟨by rfl, ?_⟩) KP.out ?_
          · intro wq hSw
            obtain ⟨y0, y1, y2, y3, y4⟩ := hSw
            go_simp
          (try simp only [Act.put, List.setIfInBounds_toArray, List.set_cons_zero, List.set_cons_succ])
          refine wpAnyT_take (i := 8) (oi := { dst := some 81, op := Op.move (Operand.tmp 6), type := 3, pos := "ref.go:80", after := #[], guard := none }) (v := .int .i64 (i : Int)) [9, 10, 11, 12] rfl (by kernel_rfl) (by kernel_rfl) (by kernel_rfl) (by kernel_rfl) (fun _ _ _ h => h) (Or.inl ⟨by rfl, ?_⟩) KP.out ?_
          · intro wq hSw
            obtain ⟨y0, y1, y2, y3, y4⟩ := hSw
            go_simp
          (try simp only [Act.put, List.setIfInBounds_toArray, List.set_cons_zero, List.set_cons_succ])
          refine wpAnyT_take (i := 9) (oi := { dst := some 82, op := Op.indexAddr 22 (Operand.tmp 80) (Operand.tmp 81), type := 0, pos := "ref.go:80", after := #[{ on := 7, ground := Ground.data }, { on := 8, ground := Ground.data }], guard := none }) (v := .pointer (some ⟨b, off + i, none⟩)) [10, 11, 12] rfl (by kernel_rfl) (by kernel_rfl) (by kernel_rfl) (by kernel_rfl) (fun _ _ _ h => h) (Or.inl ⟨by rfl, ?_⟩) KP.out ?_
          · intro wq hSw
            obtain ⟨y0, y1, y2, y3, y4⟩ := hSw
            go_simp
          (try simp only [Act.put, List.setIfInBounds_toArray, List.set_cons_zero, List.set_cons_succ])
          refine wpAnyT_take (i := 10) (oi := { dst := some 83, op := Op.load 46 (Operand.tmp 82), type := 46, pos := "ref.go:80", after := #[{ on := 9, ground := Ground.data }], guard := none }) (v := .slice (some ⟨ab, aoff, none⟩) N ac) [11, 12] rfl (by kernel_rfl) (by kernel_rfl) (by kernel_rfl) (by kernel_rfl) (fun _ _ _ h => h) (Or.inl ⟨by rfl, ?_⟩) KP.out ?_
          · intro wq hSw
            obtain ⟨y0, y1, y2, y3, y4⟩ := hSw
            go_simp
          (try simp only [Act.put, List.setIfInBounds_toArray, List.set_cons_zero, List.set_cons_succ])
          refine wpAnyT_take (i := 11) (oi := { dst := some 84, op := Op.call { callee := Callee.builtin Builtin.len, args := #[Operand.tmp 83], argTypes := #[46] }, type := 3, pos := "ref.go:80", after := #[{ on := 10, ground := Ground.data }], guard := none }) (v := .int .i64 (N : Int)) [12] rfl (by kernel_rfl) (by kernel_rfl) (by kernel_rfl) (by kernel_rfl) (fun _ _ _ h => h) (Or.inl ⟨by rfl, ?_⟩) KP.out ?_
          · intro wq hSw
            obtain ⟨y0, y1, y2, y3, y4⟩ := hSw
            go_simp
          (try simp only [Act.put, List.setIfInBounds_toArray, List.set_cons_zero, List.set_cons_succ])
          refine wpAnyT_one (i := 12) (o := { dst := some 85, op := Op.call { callee := Callee.value (Operand.func 19), args := #[Operand.tmp 79, Operand.tmp 84], argTypes := #[45, 3] }, type := 4, pos := "ref.go:80", after := #[{ on := 6, ground := Ground.data }, { on := 11, ground := Ground.data }], guard := none }) (by kernel_rfl) rfl (fun K hK => ?_)
          go_simp
          go_at_call 19
          refine CP.out.mono ?_
          rintro e w3 ⟨rfl, b3⟩
          replace b3 := hide (DB.out.trans (b3.mono DB.out.size))
          (try go_simp)
          refine hK.out _ _ (vac (by kernel_rfl)) ?_
          clear hK K
          (try simp only [Act.put, List.setIfInBounds_toArray, List.set_cons_zero, List.set_cons_succ])
          refine wpAnyT_one (i := 13) (o := { dst := some 86, op := Op.unOp UnOp.not 4 (Operand.tmp 85), type := 4, pos := "ref.go:80", after := #[{ on := 12, ground := Ground.data }], guard := none }) (by kernel_rfl) rfl (fun K hK => ?_)
          go_simp
          refine hK.out _ _ (vac (by kernel_rfl)) ?_
          clear hK K
          (try simp only [Act.put, List.setIfInBounds_toArray, List.set_cons_zero, List.set_cons_succ])
          refine wpAnyT_done (by kernel_rfl) ?_ _
          go_wp2_with fail
          go_roundw
          case rel =>
            refine ⟨k + 1, by go_num, hkl, fun j a hj hja => ?_, keepF hsx.out.2 b3.out⟩
            by_cases e : j = k
            · subst e
              rw [haH.out] at hja
              cases hja
              rw [hN.out]
              exact hz.out
            · exact hsx.out.1 j a (by omega) hja
          case measure => simp only [intOf]; omega
        | false =>
          have hZF : Z = 1 := by rw [← hZ.out]; exact mayE_use HM.out HKB.out (all_no _ _ hlH.out (all_no _ _ haH.out (by rw [hN.out]; exact hz.out)))
          subst hZF
          go_upto_region 22 with fail
          have KP : Hid (wr.drew.cell? ⟨b, off + i, none⟩ = some (.slice (some ⟨ab, aoff, none⟩) N ac) ∧ wr.drew.cell? ⟨ab, aoff + k * 4, none⟩ = some (.int .i64 ak) ∧ wr.drew.cell? ⟨ab, aoff + k * 4 + 1, none⟩ = some (.int .i64 aa') ∧ wr.drew.cell? ⟨ab, aoff + k * 4 + 2, none⟩ = some (.int .i64 ab') ∧ wr.drew.cell? ⟨ab, aoff + k * 4 + 3, none⟩ = some (.int .i64 an)) := ⟨c0, e0, e1, e2, e3⟩
          have DB : Hid (Below wr.heap.size wr wr.drew) := (Below.refl _ _).drew
          clear c0 e0 e1 e2 e3
          refine wp_region_T (fun q => q.cell? ⟨b, off + i, none⟩ = some (.slice (some ⟨ab, aoff, none⟩) N ac) ∧ q.cell? ⟨ab, aoff + k * 4, none⟩ = some (.int .i64 ak) ∧ q.cell? ⟨ab, aoff + k * 4 + 1, none⟩ = some (.int .i64 aa') ∧ q.cell? ⟨ab, aoff + k * 4 + 2, none⟩ = some (.int .i64 ab') ∧ q.cell? ⟨ab, aoff + k * 4 + 3, none⟩ = some (.int .i64 an)) 12 (by kernel_rfl) ?_
          generalize wr.drew = q at *
          refine wpAnyT_take (i := 0) (oi := { dst := some 73, op := Op.move (Operand.tmp 0), type := 22, pos := "ref.go:80", after := #[], guard := none }) (v := .slice (some ⟨b, off, none⟩) n cap) [2, 3, 5, 6, 12] rfl (by kernel_rfl) (by kernel_rfl) (by kernel_rfl) (by kernel_rfl) (fun _ _ _ h => h) (Or.inl ⟨by rfl, ?_⟩) KP.out ?_
          · intro wq hSw
            obtain ⟨y0, y1, y2, y3, y4⟩ := hSw
            go_simp
          (try simp only [Act.put, List.setIfInBounds_toArray, List.set_cons_zero, List.set_cons_succ])
          refine wpAnyT_take (i := 1) (oi := { dst := some 74, op := Op.move (Operand.tmp 6), type := 3, pos := "ref.go:80", after := #[], guard := none }) (v := .int .i64 (i : Int)) [2, 3, 5, 6, 12] rfl (by kernel_rfl) (by kernel_rfl) (by kernel_rfl) (by kernel_rfl) (fun _ _ _ h => h) (Or.inl ⟨by rfl, ?_⟩) KP.out ?_
          · intro wq hSw
            obtain ⟨y0, y1, y2, y3, y4⟩ := hSw
            go_simp
          (try simp only [Act.put, List.setIfInBounds_toArray, List.set_cons_zero, List.set_cons_succ])
          refine wpAnyT_take (i := 2) (oi := { dst := some 75, op := Op.indexAddr 22 (Operand.tmp 73) (Operand.tmp 74), type := 0, pos := "ref.go:80", after := #[{ on := 0, ground := Ground.data }, { on := 1, ground := Ground.data }], guard := none }) (v := .pointer (some ⟨b, off + i, none⟩)) [3, 5, 6, 12] rfl (by kernel_rfl) (by kernel_rfl) (by kernel_rfl) (by kernel_rfl) (fun _ _ _ h => h) (Or.inl ⟨by rfl, ?_⟩) KP.out ?_
          · intro wq hSw
            obtain ⟨y0, y1, y2, y3, y4⟩ := hSw
            go_simp
          (try simp only [Act.put, List.setIfInBounds_toArray, List.set_cons_zero, List.set_cons_succ])
          refine wpAnyT_take (i := 3) (oi := { dst := some 76, op := Op.load 46 (Operand.tmp 75), type := 46, pos := "ref.go:80", after := #[{ on := 2, ground := Ground.data }], guard := none }) (v := .slice (some ⟨ab, aoff, none⟩) N ac) [5, 6, 12] rfl (by kernel_rfl) (by kernel_rfl) (by kernel_rfl) (by kernel_rfl) (fun _ _ _ h => h) (Or.inl ⟨by rfl, ?_⟩) KP.out ?_
          · intro wq hSw
            obtain ⟨y0, y1, y2, y3, y4⟩ := hSw
            go_simp
          (try simp only [Act.put, List.setIfInBounds_toArray, List.set_cons_zero, List.set_cons_succ])
          refine wpAnyT_take (i := 4) (oi := { dst := some 77, op := Op.move (Operand.tmp 7), type := 3, pos := "ref.go:80", after := #[], guard := none }) (v := .int .i64 (k : Int)) [5, 6, 12] rfl (by kernel_rfl) (by kernel_rfl) (by kernel_rfl) (by kernel_rfl) (fun _ _ _ h => h) (Or.inl ⟨by rfl, ?_⟩) KP.out ?_
          · intro wq hSw
            obtain ⟨y0, y1, y2, y3, y4⟩ := hSw
            go_simp
          (try simp only [Act.put, List.setIfInBounds_toArray, List.set_cons_zero, List.set_cons_succ])
          refine wpAnyT_take (i := 5) (oi := { dst := some 78, op := Op.indexAddr 46 (Operand.tmp 76) (Operand.tmp 77), type := 0, pos := "ref.go:80", after := #[{ on := 3, ground := Ground.data }, { on := 4, ground := Ground.data }], guard := none }) (v := .pointer (some ⟨ab, aoff + k * 4, none⟩)) [6, 12] rfl (by kernel_rfl) (by kernel_rfl) (by kernel_rfl) (by kernel_rfl) (fun _ _ _ h => h) (Or.inl ⟨by rfl, ?_⟩) KP.out ?_
          · intro wq hSw
            obtain ⟨y0, y1, y2, y3, y4⟩ := hSw
            go_simp
          (try simp only [Act.put, List.setIfInBounds_toArray, List.set_cons_zero, List.set_cons_succ])
          refine wpAnyT_take (i := 6) (oi := { dst := some 79, op := Op.load 45 (Operand.tmp 78), type := 45, pos := "ref.go:80", after := #[{ on := 5, ground := Ground.data }], guard := none }) (v := .agg #[.int .i64 ak, .int .i64 aa', .int .i64 ab', .int .i64 an]) [12] rfl (by kernel_rfl) (by kernel_rfl) (by kernel_rfl) (by kernel_rfl) (fun _ _ _ h => h) (Or.inl ⟨by rfl, ?_⟩) KP.out ?_
          · intro wq hSw
            obtain ⟨y0, y1, y2, y3, y4⟩ := hSw
            go_simp
          (try simp only [Act.put, List.setIfInBounds_toArray, List.set_cons_zero, List.set_cons_succ])
          refine wpAnyT_take (i := 7) (oi := { dst := some 80, op := Op.move (Operand.tmp 0), type := 22, pos := "ref.go:80", after := #[], guard := none }) (v := .slice (some ⟨b, off, none⟩) n cap) [9, 10, 11, 12] rfl (by kernel_rfl) (by kernel_rfl) (by kernel_rfl) (by kernel_rfl) (fun _ _ _ h => h) (Or.inl ⟨by rfl, ?_⟩) KP.out ?_
          · intro wq hSw
            obtain ⟨y0, y1, y2, y3, y4⟩ := hSw
            go_simp
          (try simp only [Act.put, List.setIfInBounds_toArray, List.set_cons_zero, List.set_cons_succ])
          refine wpAnyT_take (i := 8) (oi := { dst := some 81, op := Op.move (Operand.tmp 6), type := 3, pos := "ref.go:80", after := #[], guard := none }) (v := .int .i64 (i : Int)) [9, 10, 11, 12] rfl (by kernel_rfl) (by kernel_rfl) (by kernel_rfl) (by kernel_rfl) (fun _ _ _ h => h) (Or.inl ⟨by rfl, ?_⟩) KP.out ?_
          · intro wq hSw
            obtain ⟨y0, y1, y2, y3, y4⟩ := hSw
            go_simp
          (try simp only [Act.put, List.setIfInBounds_toArray, List.set_cons_zero, List.set_cons_succ])
          refine wpAnyT_take (i := 9) (oi := { dst := some 82, op := Op.indexAddr 22 (Operand.tmp 80) (Operand.tmp 81), type := 0, pos := "ref.go:80", after := #[{ on := 7, ground := Ground.data }, { on := 8, ground := Ground.data }], guard := none }) (v := .pointer (some ⟨b, off + i, none⟩)) [10, 11, 12] rfl (by kernel_rfl) (by kernel_rfl) (by kernel_rfl) (by kernel_rfl) (fun _ _ _ h => h) (Or.inl ⟨by rfl, ?_⟩) KP.out ?_
          · intro wq hSw
            obtain ⟨y0, y1, y2, y3, y4⟩ := hSw
            go_simp
          (try simp only [Act.put, List.setIfInBounds_toArray, List.set_cons_zero, List.set_cons_succ])
          refine wpAnyT_take (i := 10) (oi := { dst := some 83, op := Op.load 46 (Operand.tmp 82), type := 46, pos := "ref.go:80", after := #[{ on := 9, ground := Ground.data }], guard := none }) (v := .slice (some ⟨ab, aoff, none⟩) N ac) [11, 12] rfl (by kernel_rfl) (by kernel_rfl) (by kernel_rfl) (by kernel_rfl) (fun _ _ _ h => h) (Or.inl ⟨by rfl, ?_⟩) KP.out ?_
          · intro wq hSw
            obtain ⟨y0, y1, y2, y3, y4⟩ := hSw
            go_simp
          (try simp only [Act.put, List.setIfInBounds_toArray, List.set_cons_zero, List.set_cons_succ])
          refine wpAnyT_take (i := 11) (oi := { dst := some 84, op := Op.call { callee := Callee.builtin Builtin.len, args := #[Operand.tmp 83], argTypes := #[46] }, type := 3, pos := "ref.go:80", after := #[{ on := 10, ground := Ground.data }], guard := none }) (v := .int .i64 (N : Int)) [12] rfl (by kernel_rfl) (by kernel_rfl) (by kernel_rfl) (by kernel_rfl) (fun _ _ _ h => h) (Or.inl ⟨by rfl, ?_⟩) KP.out ?_
          · intro wq hSw
            obtain ⟨y0, y1, y2, y3, y4⟩ := hSw
            go_simp
          (try simp only [Act.put, List.setIfInBounds_toArray, List.set_cons_zero, List.set_cons_succ])
          refine wpAnyT_one (i := 12) (o := { dst := some 85, op := Op.call { callee := Callee.value (Operand.func 19), args := #[Operand.tmp 79, Operand.tmp 84], argTypes := #[45, 3] }, type := 4, pos := "ref.go:80", after := #[{ on := 6, ground := Ground.data }, { on := 11, ground := Ground.data }], guard := none }) (by kernel_rfl) rfl (fun K hK => ?_)
          go_simp
          go_at_call 19
          refine CP.out.mono ?_
          rintro e w3 ⟨rfl, b3⟩
          replace b3 := hide (DB.out.trans (b3.mono DB.out.size))
          (try go_simp)
          refine hK.out _ _ (vac (by kernel_rfl)) ?_
          clear hK K
          (try simp only [Act.put, List.setIfInBounds_toArray, List.set_cons_zero, List.set_cons_succ])
          refine wpAnyT_one (i := 13) (o := { dst := some 86, op := Op.unOp UnOp.not 4 (Operand.tmp 85), type := 4, pos := "ref.go:80", after := #[{ on := 12, ground := Ground.data }], guard := none }) (by kernel_rfl) rfl (fun K hK => ?_)
          go_simp
          refine hK.out _ _ (vac (by kernel_rfl)) ?_
          clear hK K
          (try simp only [Act.put, List.setIfInBounds_toArray, List.set_cons_zero, List.set_cons_succ])
          refine wpAnyT_done (by kernel_rfl) ?_ _
          go_wp2_with fail
          go_ret
          exact ⟨rfl, keepF hst.out.2 (keepF hsx.out.2 b3.out)⟩
      · obtain rfl : k = N := by omega
        have k1 : ¬ (k : Int) < (k : Int) := by omega
        have AL : Hid (l.all (useB l.length) = true) := all_take _ _ fun j a hja => hsx.out.1 j a (by rw [← hN.out]; exact (List.getElem?_eq_some_iff.1 hja).1) hja
        clear bx
        go_wp2_with fail
        go_roundw
        case rel =>
          refine ⟨i + 1, by first | go_num | (rw [ewi]; rfl), hlt, fun j l2 hj hjl => ?_, keepF hst.out.2 hsx.out.2⟩
          by_cases e : j = i
          · subst e
            rw [hlH.out] at hjl
            cases hjl
            exact AL.out
          · exact hst.out.1 j l2 (by omega) hjl
        case measure => first | (simp only [intOf]; omega) | (rw [ewi]; simp only [intOf]; omega)
  obtain rfl : n = i := by omega
  have i1 : ¬ (n : Int) < (n : Int) := by omega
  have HU : (ts.all fun l => l.all (useB l.length)) = true := all_upto hulH.out.symm _ hst.out.1
  obtain rfl : Z = 0 := by rw [← hZ.out]; exact mayE_yes HM.out HKB.out HU
  go_wp2_with fail
  go_ret
  exact ⟨rfl, hst.out.2⟩
end Go.Proofs.YtiiinpmkidobgaaDoor.Sd

/-
  The document's asked: may a run be asked for? It says what the program's refuses says of no steps.
-/
namespace Go.Proofs.YtiiinpmkidobgaaDoor.Sd
open Go.RowKit
set_option linter.unusedVariables false
set_option linter.unusedSimpArgs false
set_option maxRecDepth 100000
theorem refE_may {ts : List (List Ac)} {room : Int} {picks : List Int} {most E : Int} (h : mayE ts = E) (hE : ¬ E = 0) : refE ts room picks most = E := by
  unfold refE; rw [if_pos (by rw [h]; exact hE), h]
theorem refE_arg {ts : List (List Ac)} {room : Int} {picks : List Int} {most : Int} (h : mayE ts = 0) (hA : argB room picks most = false) : refE ts room picks most = 1 := by
  unfold refE; rw [if_neg (by simp [h]), if_neg (by simp [hA])]
theorem refE_fine {ts : List (List Ac)} {room : Int} {picks : List Int} {most : Int} (h : mayE ts = 0) (hA : argB room picks most = true) : refE ts room picks most = 0 := by
  unfold refE; rw [if_neg (by simp [h]), if_pos hA]
set_option maxHeartbeats 4000000 in
theorem rasked_any (w : World) (vt vp : Value) (us : List Value) (ts : List (List Ac)) (h : TksAt w vt us ts) (picks : List Int) (hp : Row w vp (picks.map (Value.int .i64))) (room : Int) :
    Calls Tryd.prog 20 #[vt, .int .i64 room, vp] w fun e w' => e = .returned (.int .i64 (refE ts room picks 0)) ∧ Below w.heap.size w w' := by
  have HR := hide hp
  obtain ⟨ao, cap, e, -, -, -, -⟩ := hp
  obtain ⟨n, hnn⟩ : ∃ n, Hid ((picks.map (Value.int .i64)).length = n) := ⟨_, rfl⟩
  rw [hnn.out] at e
  subst e
  have hplH : Hid (picks.length = n) := by show _ = _; rw [← hnn.out, List.length_map]
  have RM := hide (rmay_any w vt us ts h)
  obtain ⟨E, hE⟩ : ∃ E, Hid (mayE ts = E) := ⟨_, rfl⟩
  rw [hE.out] at RM
  obtain ⟨Z, hZ⟩ : ∃ Z, Hid (refE ts room picks 0 = Z) := ⟨_, rfl⟩
  rw [hZ.out]
  clear h
  by_cases e0 : ¬ E = 0
  · obtain rfl : Z = E := by rw [← hZ.out]; exact refE_may hE.out e0
    go_enter Tryd.func20, Tryd.ntmps20
    go_wp2_with (go_at_call 7; refine RM.out.mono ?_; rintro e w1 ⟨rfl, b1⟩; replace b1 := hide b1)
    go_ret
    exact ⟨rfl, b1.out⟩
  obtain rfl : E = 0 := by omega
  have ZN : Hid (argB room picks 0 = false → Z = 1) := fun e => by rw [← hZ.out]; exact refE_arg hE.out e
  by_cases r1 : room < 1
  · obtain rfl : Z = 1 := ZN.out (by unfold argB; simp; intro; omega)
    go_enter Tryd.func20, Tryd.ntmps20
    go_wp2_with (go_at_call 7; refine RM.out.mono ?_; rintro e w1 ⟨rfl, b1⟩; replace b1 := hide b1)
    go_ret
    exact ⟨rfl, b1.out⟩
  by_cases r2 : room > 16
  · obtain rfl : Z = 1 := ZN.out (by unfold argB; simp; intro; omega)
    go_enter Tryd.func20, Tryd.ntmps20
    go_wp2_with (go_at_call 7; refine RM.out.mono ?_; rintro e w1 ⟨rfl, b1⟩; replace b1 := hide b1)
    go_ret
    exact ⟨rfl, b1.out⟩
  by_cases r3 : (n : Int) > 65536
  · obtain rfl : Z = 1 := ZN.out (by unfold argB pickB; have := hplH.out; simp; intros; omega)
    go_enter Tryd.func20, Tryd.ntmps20
    go_wp2_with (go_at_call 7; refine RM.out.mono ?_; rintro e w1 ⟨rfl, b1⟩; replace b1 := hide b1)
    go_ret
    exact ⟨rfl, b1.out⟩
  go_enter Tryd.func20, Tryd.ntmps20
  go_wp2_with (go_at_call 7; refine RM.out.mono ?_; rintro e w1 ⟨rfl, b1⟩; replace b1 := hide b1)
  go_loopw [8] (fun s wr => ∃ i : Nat, s = .int .i64 (i : Int) ∧ i ≤ n ∧ Hid ((∀ j k, j < i → picks[j]? = some k → (0 : Int) ≤ k) ∧ wr = w1)) (fun s wr => n - (intOf s).toNat)
  case atStart => exact ⟨0, rfl, Nat.zero_le _, fun j l hj => by omega, rfl⟩
  case round =>
  obtain ⟨i, rfl, hin, hst⟩ := hrel
  have hw : w1 = wr := hst.out.2.symm
  subst hw
  by_cases hlt : i < n
  · have i1 : (i : Int) < (n : Int) := by omega
    obtain ⟨k, hk⟩ : ∃ k, picks[i]? = some k := ⟨_, List.getElem?_eq_getElem (by rw [hplH.out]; exact hlt)⟩
    obtain ⟨hcp, hrow⟩ := row_at (Below.row b1.out HR.out) hnn.out
    obtain ⟨b, off, rfl, c0⟩ := hrow i (.int .i64 k) (by rw [List.getElem?_map, hk]; rfl)
    have hcp' : (i : Int) < (cap : Int) := by omega
    have hkH := hide hk
    clear hrow hk
    by_cases h2 : k < 0
    · obtain rfl : Z = 1 := ZN.out (by
        unfold argB pickB
        have : (picks.all fun k => decide (0 ≤ k)) = false := all_no _ _ hkH.out (by simp; omega)
        rw [this]; simp)
      go_wp2_with fail
      go_ret
      exact ⟨rfl, b1.out⟩
    · go_wp2_with fail
      go_roundw
      case rel =>
        refine ⟨i + 1, by go_num, hlt, fun j k2 hj hjl => ?_, trivial⟩
        by_cases e : j = i
        · subst e
          rw [hkH.out] at hjl
          cases hjl
          omega
        · exact hst.out.1 j k2 (by omega) hjl
      case measure => simp only [intOf]; omega
  obtain rfl : n = i := by omega
  have i1 : ¬ (n : Int) < (n : Int) := by omega
  have hz : Z = 0 := by
    rw [← hZ.out]
    refine refE_fine hE.out ?_
    have h1 : (picks.all fun k => decide (0 ≤ k)) = true := all_take _ _ fun j k hj => by have := hst.out.1 j k (by have := (List.getElem?_eq_some_iff.1 hj).1; rw [hplH.out] at this; exact this) hj; simpa using this
    unfold argB pickB
    rw [h1, hplH.out]
    simp
    omega
  subst hz
  go_wp2_with fail
  go_ret
  exact ⟨rfl, b1.out⟩
end Go.Proofs.YtiiinpmkidobgaaDoor.Sd

/-
  The document's Pick: whose turn it is.
-/
namespace Go.Proofs.YtiiinpmkidobgaaDoor.Sd
open Go.RowKit
set_option linter.unusedVariables false
set_option linter.unusedSimpArgs false
set_option maxRecDepth 100000
def pickK (L : List Nat) (k last : Int) : Nat := if 0 ≤ k then L.getD (k.toNat % L.length) 0 else L.getD (if ixA (ns L) last < L.length then ixA (ns L) last else 0) 0
theorem pickK_some {L : List Nat} {made : Nat} {picks : List Int} {last k : Int} (hk : picks[made]? = some k) (h0 : 0 ≤ k) : pickN L made picks last = pickK L k last := by
  unfold pickN pickK; rw [hk, if_pos h0]
theorem pickK_none {L : List Nat} {made : Nat} {picks : List Int} {last : Int} (hk : picks[made]? = none) : pickN L made picks last = pickK L (-1) last := by
  unfold pickN pickK; rw [hk, if_neg (show ¬ (0 : Int) ≤ -1 by omega)]
set_option maxHeartbeats 4000000 in
theorem rpick_any (w : World) (B : Nat) (v : Value) (L : List Nat) (k last : Int) (hv : Nms B w v (ns L)) (hL : 0 < L.length) (hL2 : L.length ≤ 16) (hk : k ≤ 9223372036854775807) :
    Calls Tryd.prog 23 #[v, .int .i64 k, .int .i64 last] w fun e w' => e = .returned (.int .i64 ((pickK L k last : Nat) : Int)) ∧ w' = w := by
  obtain ⟨ao, ca, e, k1, k2⟩ := hv.form
  rw [ns_len] at e k1
  obtain ⟨N, hN⟩ : ∃ N, Hid (L.length = N) := ⟨_, rfl⟩
  rw [hN.out] at e hL hL2 k1
  have hNp : (0 : Int) < (N : Int) := by omega
  have hn0 : ((N : Int) == 0) = false := by simp; omega
  have hn1 : ¬ (N : Int) = 0 := by omega
  have hNc : (N : Int) ≤ (ca : Int) := by omega
  have gt : ∀ j, j < N → ∃ g, ao = some ⟨g, 0, none⟩ ∧ w.cell? ⟨g, j, none⟩ = some (.int .i64 ((L.getD j 0 : Nat) : Int)) := fun j hj => k2 j _ (ns_get L (by rw [hN.out]; exact hj))
  have GT := hide gt
  subst e
  clear hv k2 gt
  by_cases h0 : 0 ≤ k
  · obtain ⟨kn, rfl⟩ := nat_of h0
    have EP : Hid (pickK L (kn : Int) last = L.getD (kn % N) 0) := by show _ = _; unfold pickK; rw [if_pos h0, hN.out]; rfl
    obtain ⟨g, rfl, gc⟩ := GT.out (kn % N) (Nat.mod_lt _ hL)
    rw [EP.out]
    have hmod : Int.tmod (kn : Int) (N : Int) = ((kn % N : Nat) : Int) := by rw [Int.tmod_eq_emod_of_nonneg (by omega)]; rfl
    have hmk : ((kn % N : Nat) : Int) ≤ (kn : Int) := Int.ofNat_le.2 (Nat.mod_le _ _)
    obtain ⟨md, hmd⟩ : ∃ md, Hid (kn % N = md) := ⟨_, rfl⟩
    have hml : (md : Int) < (N : Int) := by rw [← hmd.out]; exact_mod_cast Nat.mod_lt _ hL
    rw [hmd.out] at hmod gc hmk ⊢
    have em : wrap64 (Int.tmod (kn : Int) (N : Int)) = (md : Int) := by rw [hmod]; unfold wrap64; omega
    clear EP hmk
    go_enter Tryd.func23, Tryd.ntmps23
    go_wp2_with fail
    go_ret
    exact ⟨rfl, rfl⟩
  obtain ⟨IX, hIX⟩ : ∃ IX, Hid (ixA (ns L) last = IX) := ⟨_, rfl⟩
  have hle := ixA_le (ns L) last
  rw [ns_len, hN.out, hIX.out] at hle
  have EP : Hid (pickK L k last = L.getD (if IX < N then IX else 0) 0) := by show _ = _; unfold pickK; rw [if_neg h0, hN.out, hIX.out]
  rw [EP.out]
  obtain ⟨R, hR⟩ : ∃ R, Hid (L.getD (if IX < N then IX else 0) 0 = R) := ⟨_, rfl⟩
  rw [hR.out]
  clear EP
  go_enter Tryd.func23, Tryd.ntmps23
  go_wp2_with fail
  go_loopw [7] (fun s wr => ∃ i : Nat, s = .int .i64 (i : Int) ∧ i ≤ IX ∧ Hid (wr = w)) (fun s wr => N - (intOf s).toNat)
  case atStart => exact ⟨0, rfl, Nat.zero_le _, rfl⟩
  case round =>
  obtain ⟨i, rfl, hin, hst⟩ := hrel
  have hw : w = wr := hst.out.symm
  subst hw
  by_cases hlt : i < N
  · have i1 : (i : Int) < (N : Int) := by omega
    have i2 : (i : Int) < (ca : Int) := by omega
    obtain ⟨g, rfl, gc⟩ := GT.out i hlt
    have gl := ns_get L (j := i) (by rw [hN.out]; exact hlt)
    obtain ⟨x, hx⟩ : ∃ x, Hid (L.getD i 0 = x) := ⟨_, rfl⟩
    rw [hx.out] at gc gl
    by_cases hg : (x : Int) > last
    · have hi : IX = i := by
        rcases Nat.lt_or_ge i IX with c | c
        · exact absurd hg (ixA_low (ns L) last i _ (by rw [hIX.out]; exact c) gl)
        · omega
      have hRx : R = x := by rw [← hR.out, hi, if_pos hlt, hx.out]
      subst hRx
      clear gl
      go_wp2_with fail
      go_ret
      exact ⟨rfl, rfl⟩
    · have hi : i < IX := by
        rcases Nat.lt_or_ge i IX with c | c
        · exact c
        · have e : IX = i := by omega
          exact absurd (ixA_at (ns L) last _ (by rw [hIX.out, e]; exact gl)) hg
      clear gl
      go_wp2_with fail
      go_roundw
      case rel => exact ⟨i + 1, by go_num, hi, trivial⟩
      case measure => simp only [intOf]; omega
  have i1 : ¬ (i : Int) < (N : Int) := by omega
  obtain ⟨g, rfl, gc⟩ := GT.out 0 hL
  have hRx : R = L.getD 0 0 := by rw [← hR.out, if_neg (by omega)]
  rw [← hRx] at gc
  have i0 : (0 : Int) < (ca : Int) := by omega
  go_wp2_with fail
  go_ret
  exact ⟨rfl, rfl⟩
end Go.Proofs.YtiiinpmkidobgaaDoor.Sd

