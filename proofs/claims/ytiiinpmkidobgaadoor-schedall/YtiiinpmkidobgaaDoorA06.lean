/-
  The document's Step. (gen_TfJ.py)
-/
import Derived.Test.YtiiinpmkidobgaaDoorA05
namespace Go.Proofs.YtiiinpmkidobgaaDoor.Sd
open Go.RowKit
open Ix (wp_region_T wpAnyT wpAnyT_take wpAnyT_one wpAnyT_done vac)
set_option linter.unusedVariables false
set_option linter.unusedSimpArgs false
set_option maxRecDepth 100000
def finD (D : Ds) (i p : Nat) : Ds := match D.tk[i]? with
  | some t => { D with tk := D.tk.set i (endsK { t with pc := p }) }
  | none => D
theorem finD_some {D : Ds} {i p : Nat} {t : Dk} (h : D.tk[i]? = some t) : finD D i p = { D with tk := D.tk.set i (endsK { t with pc := p }) } := by unfold finD; rw [h]
def stepE (D : Ds) (i : Nat) (t : Dk) (a : Ac) : Ds :=
  if a.k = 1 then finD { D with lk := up D.lk a.a.toNat (some i) } i (t.pc + 1)
  else if a.k = 2 then (if D.lk a.a.toNat = some i then finD { D with lk := up D.lk a.a.toNat none } i (t.pc + 1) else panicD D i t (-1))
  else if a.k = 3 then (if t.wa = 2 then finD { D with lk := up D.lk a.b.toNat (some i), tk := D.tk.set i { t with wa := 0 } } i (t.pc + 1) else if D.lk a.b.toNat = some i then { D with lk := up D.lk a.b.toNat none, tk := D.tk.set i { t with wa := 1 }, sl := up D.sl a.a.toNat (D.sl a.a.toNat ++ [i]) } else panicD D i t (-1))
  else if a.k = 4 then finD (wakeD D a.a.toNat 1) i (t.pc + 1)
  else if a.k = 5 then finD (wakeD D a.a.toNat 16) i (t.pc + 1)
  else if a.k = 6 then finD { D with qu := up D.qu a.a.toNat (D.qu a.a.toNat ++ [a.n]) } i (t.pc + 1)
  else if a.k = 7 then finD { D with rg := up D.rg a.b.toNat ((D.qu a.a.toNat).headD 0), qu := up D.qu a.a.toNat (D.qu a.a.toNat).tail } i (t.pc + 1)
  else if a.k = 8 then finD { D with rg := up D.rg a.a.toNat (wrap64 (D.rg a.a.toNat + a.n)) } i (t.pc + 1)
  else if a.k = 9 then finD { D with rg := up D.rg a.b.toNat (D.rg a.a.toNat) } i (t.pc + 1)
  else if a.k = 10 then finD D i (if D.rg a.a.toNat = 0 then t.pc + 1 + a.n.toNat else t.pc + 1)
  else if a.k = 12 then panicD D i t a.n
  else if a.k = 13 then finD { D with tk := D.tk.set i { t with gd := a.n } } i (t.pc + 1)
  else finD D i (t.pc + 1)
def stepD (D : Ds) (i : Nat) (t : Dk) (a : Ac) : Ds := stepE { D with la := (i : Int) } i t a
theorem DA.tcellX {w0 w : World} {us : List Value} {rb : Nat} {X : Nat → Value} {D : Ds} (h : DA w0 us w rb X D) {i : Nat} {t : Dk} (hi : D.tk[i]? = some t) {g n cap : Nat} (hX : X 0 = .slice (some ⟨g, 0, none⟩) n cap) : (∀ j, w.frozen? ⟨g, j, none⟩ = false) ∧ w.cell? ⟨g, i * 6 + 1, none⟩ = some (.int .i64 (t.pc : Int)) ∧ w.cell? ⟨g, i * 6 + 2, none⟩ = some (.int .i64 (t.wa : Int)) ∧ w.cell? ⟨g, i * 6 + 3, none⟩ = some (.int .i64 t.gd) := by
  obtain ⟨g2, cap2, hX2, -, -, fz2, ⟨-, -, -, -⟩, q1, q2, q3, -, -⟩ := h.tcell hi
  rw [hX] at hX2
  simp only [Value.slice.injEq, Option.some.injEq, Addr.mk.injEq, and_true] at hX2
  obtain ⟨rfl, -, -⟩ := hX2
  exact ⟨fz2, q1, q2, q3⟩
/-- What a Step's end leaves. -/
theorem fin_any {w0 w w3 : World} {us : List Value} {rb : Nat} {X X' : Nat → Value} {D' : Ds} (A : DA w0 us w3 rb X' D') (S : StD rb X X' w w3) {i : Nat} {t' : Dk} (hi : D'.tk[i]? = some t') {g n cap : Nat} (hX : X' 0 = .slice (some ⟨g, 0, none⟩) n cap) (p : Nat) :
    ∃ w5, Hid (w3.setCell ⟨g, i * 6 + 1, none⟩ (.int .i64 (p : Int)) = w5) ∧ w3.cell? ⟨g, i * 6 + 1, none⟩ = some (.int .i64 (t'.pc : Int)) ∧ w3.frozen? ⟨g, i * 6 + 1, none⟩ = false ∧ Hid (Calls Tryd.prog 33 #[.pointer (some ⟨g, i * 6, none⟩)] w5 fun e w' => e = .returned (.tuple #[]) ∧ DA w0 us w' rb X' (finD D' i p) ∧ StD rb X X' w w') := by
  obtain ⟨g2, cap2, hX2, -, -, fz2, ⟨-, -, -, -⟩, q1, -, -, -, -⟩ := A.tcell hi
  rw [hX] at hX2
  simp only [Value.slice.injEq, Option.some.injEq, Addr.mk.injEq, and_true] at hX2
  obtain ⟨rfl, -, -⟩ := hX2
  obtain ⟨A5, s5⟩ := A.setT hi hX 0 (by omega) (.int .i64 (p : Int)) (t' := { t' with pc := p }) rfl rfl
  refine ⟨_, rfl, q1, fz2 _, ?_⟩
  refine (ends_any A5 (i := i) (t := { t' with pc := p }) (set_at hi) hX).mono ?_
  rintro e w' ⟨rfl, k1, k2⟩
  refine ⟨rfl, ?_, (S.trans s5).trans k2⟩
  rw [finD_some hi]
  simp only [set_set] at k1
  exact k1
theorem wk2_get (tk : List Dk) (j i : Nat) (t : Dk) (h : tk[i]? = some t) : ∃ t', (wk2 tk j)[i]? = some t' := by
  have hl := (List.getElem?_eq_some_iff.1 h).1
  exact ⟨_, List.getElem?_eq_getElem (by rw [wk2_len]; exact hl)⟩
theorem wakeD_get (c i : Nat) : ∀ (n : Nat) (D : Ds) (t : Dk), D.tk[i]? = some t → ∃ t', (wakeD D c n).tk[i]? = some t'
  | 0, D, t, h => ⟨t, h⟩
  | n + 1, D, t, h => by
    cases hs : D.sl c with
    | nil => rw [wakeD_nil hs]; exact ⟨t, h⟩
    | cons j r =>
      rw [wakeD_cons hs]
      obtain ⟨t', h'⟩ := wk2_get D.tk j i t h
      exact wakeD_get c i n _ t' h'
theorem a8' {m : Nat} {a : Ac} (h : OkA m a) (hk : a.k = 8 ∨ a.k = 9 ∨ a.k = 10) : ∃ x : Nat, a.a = (x : Int) ∧ x < 8 := by
  obtain ⟨k, aa, b, n⟩ := a
  exact a8 h hk
theorem b8' {m : Nat} {a : Ac} (h : OkA m a) (hk : a.k = 7 ∨ a.k = 9) : ∃ x : Nat, a.b = (x : Int) ∧ x < 8 := by
  obtain ⟨k, aa, b, n⟩ := a
  exact b8 h hk
set_option maxHeartbeats 16000000 in
theorem rstep_any (w0 w : World) (us : List Value) (rb : Nat) (X : Nat → Value) (D : Ds) (h : DA w0 us w rb X D) (hn : D.tk.length ≤ 16) {i : Nat} {t : Dk} (hi : D.tk[i]? = some t) {m : Nat} {a : Ac} (ha : t.ac[t.pc]? = some a) (oka : OkA m a) (hpc : t.pc ≤ 511)
    (hs : ∀ c, ∀ j ∈ D.sl c, j < D.tk.length) (hsl : ∀ c, (D.sl c).length ≤ 1000) (hqu : ∀ c, (D.qu c).length ≤ 1000) (hq : a.k = 7 → D.qu a.a.toNat ≠ []) :
    Calls Tryd.prog 24 #[.pointer (some ⟨rb, 0, none⟩), .int .i64 (i : Int)] w fun e w' => e = .returned (.tuple #[]) ∧ ∃ X', X' 0 = X 0 ∧ DA w0 us w' rb X' (stepD D i t a) ∧ StD rb X X' w w' := by
  obtain ⟨ak, aa, bb, an⟩ := a
  simp only at hq
  obtain ⟨A0, s0⟩ := h.setA (i : Int)
  have f22 := h.frz 22
  obtain ⟨-, -, c22⟩ := h.cells
  obtain ⟨w1, hw1⟩ : ∃ w1, Hid (w.setCell ⟨rb, 22, none⟩ (.int .i64 (i : Int)) = w1) := ⟨_, rfl⟩
  rw [hw1.out] at A0 s0
  obtain ⟨STP, hSTP⟩ : ∃ STP, Hid (stepE { D with la := (i : Int) } i t ⟨ak, aa, bb, an⟩ = STP) := ⟨_, rfl⟩
  have eS : stepD D i t ⟨ak, aa, bb, an⟩ = STP := hSTP.out
  have HI0 : ({ D with la := (i : Int) } : Ds).tk[i]? = some t := hi
  have HN : Hid (({ D with la := (i : Int) } : Ds).tk.length ≤ 16) := hn
  have HSJ : Hid (∀ c, ∀ j ∈ ({ D with la := (i : Int) } : Ds).sl c, j < ({ D with la := (i : Int) } : Ds).tk.length) := hs
  have HSL : Hid (∀ c, (({ D with la := (i : Int) } : Ds).sl c).length ≤ 1000) := hsl
  have HQU : Hid (∀ c, (({ D with la := (i : Int) } : Ds).qu c).length ≤ 1000) := hqu
  have HQ : Hid (ak = 7 → ({ D with la := (i : Int) } : Ds).qu aa.toNat ≠ []) := hq
  rw [eS]
  clear h hn hi hs hsl hqu hq eS
  generalize ({ D with la := (i : Int) } : Ds) = E at *
  obtain ⟨g, cap, hX, hN1, hN2, fz, ⟨u, u1, u2, p0⟩, p1, -, -, -, -⟩ := A0.tcell HI0
  obtain ⟨r0, -, -⟩ := A0.cells
  rw [hX] at r0
  have hil := (List.getElem?_eq_some_iff.1 HI0).1
  have hn16 := HN.out
  obtain ⟨N, hN⟩ : ∃ N, Hid (E.tk.length = N) := ⟨_, rfl⟩
  rw [hN.out] at r0 hN1 hil hn16
  have i1 : (i : Int) < (N : Int) := by omega
  have i2 : (N : Int) ≤ (cap : Int) := by omega
  have i3 : (N : Int) ≤ 16 := by omega
  obtain ⟨ao, ca, rfl, hcap, hacts⟩ := u2
  have hlt : t.pc < t.ac.length := (List.getElem?_eq_some_iff.1 ha).1
  have g2 : (t.pc : Int) < (t.ac.length : Int) := by omega
  have g3 : (t.ac.length : Int) ≤ (ca : Int) := by omega
  have g4 : (t.pc : Int) ≤ 511 := by omega
  obtain ⟨ab, aoff, rfl, a0, a1, a2, a3⟩ := hacts t.pc _ ha
  simp only at a0 a1 a2 a3
  have HX := hide hX
  have HT := hide HI0
  have DD := hide A0
  have SD := hide s0
  have OKA := hide oka
  clear hX HI0 hN1 hN2 fz hil hn16 hacts ha hlt hcap A0 s0 u1 oka hpc
  go_enter Tryd.func24, Tryd.ntmps24
  go_upto_region 1 with fail
  rw [hw1.out]
  clear c22 f22
  go_upto_region 2 with fail
  have Yp0 := alloc_cell (w := w1) (.cells #[.int .i64 0, .int .i64 0, .int .i64 0, .int .i64 0] 45) p0
  have Zp0 : ((w1.alloc (.cells #[.int .i64 0, .int .i64 0, .int .i64 0, .int .i64 0] 45)).drew).cell? ⟨g, i * 6, none⟩ = some (.slice (some ⟨ab, aoff, none⟩) t.ac.length ca) := Yp0
  have Yp1 := alloc_cell (w := w1) (.cells #[.int .i64 0, .int .i64 0, .int .i64 0, .int .i64 0] 45) p1
  have Zp1 : ((w1.alloc (.cells #[.int .i64 0, .int .i64 0, .int .i64 0, .int .i64 0] 45)).drew).cell? ⟨g, i * 6 + 1, none⟩ = some (.int .i64 (t.pc : Int)) := Yp1
  have Ya0 := alloc_cell (w := w1) (.cells #[.int .i64 0, .int .i64 0, .int .i64 0, .int .i64 0] 45) a0
  have Za0 : ((w1.alloc (.cells #[.int .i64 0, .int .i64 0, .int .i64 0, .int .i64 0] 45)).drew).cell? ⟨ab, aoff + t.pc * 4, none⟩ = some (.int .i64 ak) := Ya0
  have Ya1 := alloc_cell (w := w1) (.cells #[.int .i64 0, .int .i64 0, .int .i64 0, .int .i64 0] 45) a1
  have Za1 : ((w1.alloc (.cells #[.int .i64 0, .int .i64 0, .int .i64 0, .int .i64 0] 45)).drew).cell? ⟨ab, aoff + t.pc * 4 + 1, none⟩ = some (.int .i64 aa) := Ya1
  have Ya2 := alloc_cell (w := w1) (.cells #[.int .i64 0, .int .i64 0, .int .i64 0, .int .i64 0] 45) a2
  have Za2 : ((w1.alloc (.cells #[.int .i64 0, .int .i64 0, .int .i64 0, .int .i64 0] 45)).drew).cell? ⟨ab, aoff + t.pc * 4 + 2, none⟩ = some (.int .i64 bb) := Ya2
  have Ya3 := alloc_cell (w := w1) (.cells #[.int .i64 0, .int .i64 0, .int .i64 0, .int .i64 0] 45) a3
  have Za3 : ((w1.alloc (.cells #[.int .i64 0, .int .i64 0, .int .i64 0, .int .i64 0] 45)).drew).cell? ⟨ab, aoff + t.pc * 4 + 3, none⟩ = some (.int .i64 an) := Ya3
  go_region
  have BB : Hid (Below w1.heap.size w1 (w1.alloc (.cells #[.int .i64 ak, .int .i64 aa, .int .i64 bb, .int .i64 an] 45)).drew) := (box_below w1 (.cells #[.int .i64 ak, .int .i64 aa, .int .i64 bb, .int .i64 an] 45)).drew
  have NB : Hid ((w1.alloc (.cells #[.int .i64 ak, .int .i64 aa, .int .i64 bb, .int .i64 an] 45)).drew.heap[w1.heap.size]? = some (.cells #[.int .i64 ak, .int .i64 aa, .int .i64 bb, .int .i64 an] 45)) := heap_alloc_new w1 (.cells #[.int .i64 ak, .int .i64 aa, .int .i64 bb, .int .i64 an] 45)
  clear p0 Yp0 Zp0 p1 Yp1 Zp1 a0 Ya0 Za0 a1 Ya1 Za1 a2 Ya2 Za2 a3 Ya3 Za3 r0
  have DW := hide (DD.out.below BB.out)
  have SW : Hid (StD rb X X w (w1.alloc (.cells #[.int .i64 ak, .int .i64 aa, .int .i64 bb, .int .i64 an] 45)).drew) := SD.out.trans (StD.of_below rb X BB.out)
  have hxo : Hid (¬ OwnD rb X w1.heap.size) := fun c => by have := DD.out.lt _ c; omega
  clear DD SD BB
  generalize (w1.alloc (.cells #[.int .i64 ak, .int .i64 aa, .int .i64 bb, .int .i64 an] 45)).drew = w2 at *
  generalize w1.heap.size = xb at *
  obtain ⟨x0, x1, x2, x3⟩ := four_of NB.out
  obtain ⟨-, p1, -, p3⟩ := DW.out.tcellX HT.out HX.out
  replace hw1 := hide trivial
  go_upto_block 0 with fail
  by_cases k1 : ak = 1
  · subst k1
    obtain ⟨ia, rfl, hia⟩ := OKA.out.a4 (by simp)
    have hia' : (ia : Int) < 4 := by omega
    have SE : Hid (STP = finD { E with lk := up E.lk ia (some i) } i (t.pc + 1)) := by show _ = _; rw [← hSTP.out]; simp [stepE]
    go_upto_region 6 with fail
    refine wp_region_T (fun q => q.cell? ⟨xb, 1, none⟩ = some (.int .i64 (ia : Int))) 8 (by kernel_rfl) ?_
    have KP : Hid (w2.drew.cell? ⟨xb, 1, none⟩ = some (.int .i64 (ia : Int))) := x1
    have DV := hide (DW.out.below (Below.refl _ _).drew)
    have SV : Hid (StD rb X X w w2.drew) := SW.out.trans (StD.of_below rb X (Below.refl _ _).drew)
    have NV : Hid (w2.drew.heap[xb]? = some (.cells #[.int .i64 1, .int .i64 (ia : Int), .int .i64 bb, .int .i64 an] 45)) := NB.out
    clear DW SW NB
    generalize w2.drew = u1 at *
    refine wpAnyT_take (i := 0) (oi := { dst := some 38, op := Op.move (Operand.tmp 0), type := 53, pos := "ref.go:173", after := #[], guard := none }) (v := .pointer (some ⟨rb, 0, none⟩)) [5, 6, 7, 8] rfl (by kernel_rfl) (by kernel_rfl) (by kernel_rfl) (by kernel_rfl) (fun _ _ _ h => h) (Or.inl ⟨by rfl, ?_⟩) KP.out ?_
    · intro wq hSw
      have y0 := hSw
      go_simp
    (try simp only [Act.put, List.setIfInBounds_toArray, List.set_cons_zero, List.set_cons_succ])
    refine wpAnyT_take (i := 1) (oi := { dst := some 39, op := Op.fieldAddr 45 (Operand.tmp 5) 1, type := 0, pos := "ref.go:173", after := #[], guard := none }) (v := .pointer (some ⟨xb, 1, none⟩)) [2, 7, 8] rfl (by kernel_rfl) (by kernel_rfl) (by kernel_rfl) (by kernel_rfl) (fun _ _ _ h => h) (Or.inl ⟨by rfl, ?_⟩) KP.out ?_
    · intro wq hSw
      have y0 := hSw
      go_simp
    (try simp only [Act.put, List.setIfInBounds_toArray, List.set_cons_zero, List.set_cons_succ])
    refine wpAnyT_take (i := 2) (oi := { dst := some 40, op := Op.load 3 (Operand.tmp 39), type := 3, pos := "ref.go:173", after := #[{ on := 1, ground := Ground.data }], guard := none }) (v := .int .i64 (ia : Int)) [7, 8] rfl (by kernel_rfl) (by kernel_rfl) (by kernel_rfl) (by kernel_rfl) (fun _ _ _ h => h) (Or.inl ⟨by rfl, ?_⟩) KP.out ?_
    · intro wq hSw
      have y0 := hSw
      go_simp
    (try simp only [Act.put, List.setIfInBounds_toArray, List.set_cons_zero, List.set_cons_succ])
    refine wpAnyT_take (i := 3) (oi := { dst := some 41, op := Op.move (Operand.tmp 1), type := 3, pos := "ref.go:173", after := #[], guard := none }) (v := .int .i64 (i : Int)) [4, 8] rfl (by kernel_rfl) (by kernel_rfl) (by kernel_rfl) (by kernel_rfl) (fun _ _ _ h => h) (Or.inl ⟨by rfl, ?_⟩) KP.out ?_
    · intro wq hSw
      have y0 := hSw
      go_simp
    (try simp only [Act.put, List.setIfInBounds_toArray, List.set_cons_zero, List.set_cons_succ])
    refine wpAnyT_take (i := 4) (oi := { dst := some 42, op := Op.binOp BinOp.add 3 (Operand.tmp 41) (Operand.const (Value.int IntKind.i64 1)) 3, type := 3, pos := "ref.go:173", after := #[{ on := 3, ground := Ground.data }], guard := none }) (v := .int .i64 ((i : Int) + 1)) [8] rfl (by kernel_rfl) (by kernel_rfl) (by kernel_rfl) (by kernel_rfl) (fun _ _ _ h => h) (Or.inl ⟨by rfl, ?_⟩) KP.out ?_
    · intro wq hSw
      have y0 := hSw
      go_simp
      rw [IntKind.wrap_i64]; omega
    (try simp only [Act.put, List.setIfInBounds_toArray, List.set_cons_zero, List.set_cons_succ])
    refine wpAnyT_take (i := 5) (oi := { dst := some 43, op := Op.nilCheck (Operand.tmp 38), type := 0, pos := "ref.go:173", after := #[{ on := 0, ground := Ground.data }], guard := none }) (v := .pointer (some ⟨rb, 0, none⟩)) [6, 7, 8] rfl (by kernel_rfl) (by kernel_rfl) (by kernel_rfl) (by kernel_rfl) (fun _ _ _ h => h) (Or.inl ⟨by rfl, ?_⟩) KP.out ?_
    · intro wq hSw
      have y0 := hSw
      go_simp
    (try simp only [Act.put, List.setIfInBounds_toArray, List.set_cons_zero, List.set_cons_succ])
    refine wpAnyT_take (i := 6) (oi := { dst := some 44, op := Op.fieldAddr 63 (Operand.tmp 43) 1, type := 0, pos := "ref.go:173", after := #[{ on := 5, ground := Ground.data }], guard := none }) (v := .pointer (some ⟨rb, 1, none⟩)) [7, 8] rfl (by kernel_rfl) (by kernel_rfl) (by kernel_rfl) (by kernel_rfl) (fun _ _ _ h => h) (Or.inl ⟨by rfl, ?_⟩) KP.out ?_
    · intro wq hSw
      have y0 := hSw
      go_simp
    (try simp only [Act.put, List.setIfInBounds_toArray, List.set_cons_zero, List.set_cons_succ])
    refine wpAnyT_take (i := 7) (oi := { dst := some 45, op := Op.indexAddr 58 (Operand.tmp 44) (Operand.tmp 40), type := 0, pos := "ref.go:173", after := #[{ on := 6, ground := Ground.data }, { on := 2, ground := Ground.data }, { on := 0, ground := Ground.phase }, { on := 1, ground := Ground.phase }, { on := 2, ground := Ground.phase }, { on := 3, ground := Ground.phase }, { on := 4, ground := Ground.phase }], guard := none }) (v := .pointer (some ⟨rb, 1 + ia, none⟩)) [8] rfl (by kernel_rfl) (by kernel_rfl) (by kernel_rfl) (by kernel_rfl) (fun _ _ _ h => h) (Or.inl ⟨by rfl, ?_⟩) KP.out ?_
    · intro wq hSw
      have y0 := hSw
      go_simp
    (try simp only [Act.put, List.setIfInBounds_toArray, List.set_cons_zero, List.set_cons_succ])
    have cw1 := DV.out.lcell hia
    have cw2 := DV.out.frz (1 + ia)
    refine wpAnyT_one (i := 8) (o := { dst := none, op := Op.store 3 (Operand.tmp 45) (Operand.tmp 42), type := 0, pos := "ref.go:173", after := #[{ on := 7, ground := Ground.data }, { on := 4, ground := Ground.data }, { on := 0, ground := Ground.phase }, { on := 1, ground := Ground.phase }, { on := 2, ground := Ground.phase }, { on := 3, ground := Ground.phase }, { on := 4, ground := Ground.phase }], guard := none }) (by kernel_rfl) rfl (fun K hK => ?_)
    go_simp
    refine hK.out _ _ (vac (by kernel_rfl)) ?_
    clear hK K
    (try simp only [Act.put, List.setIfInBounds_toArray, List.set_cons_zero, List.set_cons_succ])
    refine wpAnyT_done (by kernel_rfl) ?_ _
    obtain ⟨A4', s4⟩ := DV.out.setL hia (some i)
    have A4 : Hid (DA w0 us (u1.setCell ⟨rb, 1 + ia, none⟩ (.int .i64 ((i : Int) + 1))) rb X { E with lk := up E.lk ia (some i) }) := A4'
    have S4 : Hid (StD rb X X w (u1.setCell ⟨rb, 1 + ia, none⟩ (.int .i64 ((i : Int) + 1)))) := SV.out.trans s4
    clear s4 A4'
    clear KP DV SV NV cw1 cw2 x0 x1 x2 x3 p1 p3
    generalize u1.setCell ⟨rb, 1 + ia, none⟩ (.int .i64 ((i : Int) + 1)) = w4 at *
    have TE : ({ E with lk := up E.lk ia (some i) } : Ds).tk[i]? = some t := HT.out
    obtain ⟨w5, hw5, t1c, t1f, EN⟩ := fin_any A4.out S4.out TE HX.out (t.pc + 1)
    have e5 : Hid (w4.setCell ⟨g, i * 6 + 1, none⟩ (.int .i64 ((t.pc : Int) + 1)) = w5) := hw5
    clear hw5
    go_upto_region 37 with fail
    rw [e5.out]
    go_wp2_with (go_at_call 33; refine EN.out.mono ?_; rintro e w6 ⟨rfl, A6, S6⟩; replace A6 := hide A6; replace S6 := hide S6)
    all_goals (go_end0; exact ⟨rfl, X, rfl, by rw [SE.out]; exact A6.out, S6.out⟩)
  by_cases k2 : ak = 2
  · subst k2
    obtain ⟨ia, rfl, hia⟩ := OKA.out.a4 (by simp)
    have hia' : (ia : Int) < 4 := by omega
    by_cases hk : E.lk ia = some i
    · have SE : Hid (STP = finD { E with lk := up E.lk ia none } i (t.pc + 1)) := by show _ = _; rw [← hSTP.out]; simp [stepE, hk]
      have lc := DW.out.lcell hia
      rw [hk] at lc
      simp only [hv] at lc
      have hxi : (((i : Int) + 1) != ((i : Int) + 1)) = false := by simp
      go_upto_region 8 with fail
      go_quiet (fail)
      have DQ : Hid (DA w0 us (w2.drewN nq) rb X E) := DW.out.below (Qt.below ⟨_, rfl⟩ _)
      have SQ : Hid (StD rb X X w (w2.drewN nq)) := SW.out.trans (StD.of_below rb X (Qt.below ⟨_, rfl⟩ _))
      have NQ : Hid ((w2.drewN nq).heap[xb]? = some (.cells #[.int .i64 2, .int .i64 (ia : Int), .int .i64 bb, .int .i64 an] 45)) := NB.out
      have x1' : (w2.drewN nq).cell? ⟨xb, 1, none⟩ = some (.int .i64 (ia : Int)) := x1
      replace DW := DQ
      replace SW := SQ
      replace NB := NQ
      clear DQ SQ NQ lc x0 x1 x2 x3 p1 p3
      go_upto_region 10 with fail
      generalize w2.drewN nq = w3 at *
      refine wp_region_T (fun q => q.cell? ⟨xb, 1, none⟩ = some (.int .i64 (ia : Int))) 6 (by kernel_rfl) ?_
      have KP : Hid (w3.drew.cell? ⟨xb, 1, none⟩ = some (.int .i64 (ia : Int))) := x1'
      have DV := hide (DW.out.below (Below.refl _ _).drew)
      have SV : Hid (StD rb X X w w3.drew) := SW.out.trans (StD.of_below rb X (Below.refl _ _).drew)
      have NV : Hid (w3.drew.heap[xb]? = some (.cells #[.int .i64 2, .int .i64 (ia : Int), .int .i64 bb, .int .i64 an] 45)) := NB.out
      clear DW SW NB
      generalize w3.drew = u1 at *
      refine wpAnyT_take (i := 0) (oi := { dst := some 61, op := Op.move (Operand.tmp 0), type := 53, pos := "ref.go:179", after := #[], guard := none }) (v := .pointer (some ⟨rb, 0, none⟩)) [3, 4, 5, 6] rfl (by kernel_rfl) (by kernel_rfl) (by kernel_rfl) (by kernel_rfl) (fun _ _ _ h => h) (Or.inl ⟨by rfl, ?_⟩) KP.out ?_
      · intro wq hSw
        have y0 := hSw
        go_simp
      (try simp only [Act.put, List.setIfInBounds_toArray, List.set_cons_zero, List.set_cons_succ])
      refine wpAnyT_take (i := 1) (oi := { dst := some 62, op := Op.fieldAddr 45 (Operand.tmp 5) 1, type := 0, pos := "ref.go:179", after := #[], guard := none }) (v := .pointer (some ⟨xb, 1, none⟩)) [2, 5, 6] rfl (by kernel_rfl) (by kernel_rfl) (by kernel_rfl) (by kernel_rfl) (fun _ _ _ h => h) (Or.inl ⟨by rfl, ?_⟩) KP.out ?_
      · intro wq hSw
        have y0 := hSw
        go_simp
      (try simp only [Act.put, List.setIfInBounds_toArray, List.set_cons_zero, List.set_cons_succ])
      refine wpAnyT_take (i := 2) (oi := { dst := some 63, op := Op.load 3 (Operand.tmp 62), type := 3, pos := "ref.go:179", after := #[{ on := 1, ground := Ground.data }], guard := none }) (v := .int .i64 (ia : Int)) [5, 6] rfl (by kernel_rfl) (by kernel_rfl) (by kernel_rfl) (by kernel_rfl) (fun _ _ _ h => h) (Or.inl ⟨by rfl, ?_⟩) KP.out ?_
      · intro wq hSw
        have y0 := hSw
        go_simp
      (try simp only [Act.put, List.setIfInBounds_toArray, List.set_cons_zero, List.set_cons_succ])
      refine wpAnyT_take (i := 3) (oi := { dst := some 64, op := Op.nilCheck (Operand.tmp 61), type := 0, pos := "ref.go:179", after := #[{ on := 0, ground := Ground.data }], guard := none }) (v := .pointer (some ⟨rb, 0, none⟩)) [4, 5, 6] rfl (by kernel_rfl) (by kernel_rfl) (by kernel_rfl) (by kernel_rfl) (fun _ _ _ h => h) (Or.inl ⟨by rfl, ?_⟩) KP.out ?_
      · intro wq hSw
        have y0 := hSw
        go_simp
      (try simp only [Act.put, List.setIfInBounds_toArray, List.set_cons_zero, List.set_cons_succ])
      refine wpAnyT_take (i := 4) (oi := { dst := some 65, op := Op.fieldAddr 63 (Operand.tmp 64) 1, type := 0, pos := "ref.go:179", after := #[{ on := 3, ground := Ground.data }], guard := none }) (v := .pointer (some ⟨rb, 1, none⟩)) [5, 6] rfl (by kernel_rfl) (by kernel_rfl) (by kernel_rfl) (by kernel_rfl) (fun _ _ _ h => h) (Or.inl ⟨by rfl, ?_⟩) KP.out ?_
      · intro wq hSw
        have y0 := hSw
        go_simp
      (try simp only [Act.put, List.setIfInBounds_toArray, List.set_cons_zero, List.set_cons_succ])
      refine wpAnyT_take (i := 5) (oi := { dst := some 66, op := Op.indexAddr 58 (Operand.tmp 65) (Operand.tmp 63), type := 0, pos := "ref.go:179", after := #[{ on := 4, ground := Ground.data }, { on := 2, ground := Ground.data }, { on := 0, ground := Ground.phase }, { on := 1, ground := Ground.phase }, { on := 2, ground := Ground.phase }], guard := none }) (v := .pointer (some ⟨rb, 1 + ia, none⟩)) [6] rfl (by kernel_rfl) (by kernel_rfl) (by kernel_rfl) (by kernel_rfl) (fun _ _ _ h => h) (Or.inl ⟨by rfl, ?_⟩) KP.out ?_
      · intro wq hSw
        have y0 := hSw
        go_simp
      (try simp only [Act.put, List.setIfInBounds_toArray, List.set_cons_zero, List.set_cons_succ])
      have cw1 := DV.out.lcell hia
      have cw2 := DV.out.frz (1 + ia)
      refine wpAnyT_one (i := 6) (o := { dst := none, op := Op.store 3 (Operand.tmp 66) (Operand.const (Value.int IntKind.i64 0)), type := 0, pos := "ref.go:179", after := #[{ on := 5, ground := Ground.data }, { on := 0, ground := Ground.phase }, { on := 1, ground := Ground.phase }, { on := 2, ground := Ground.phase }], guard := none }) (by kernel_rfl) rfl (fun K hK => ?_)
      go_simp
      refine hK.out _ _ (vac (by kernel_rfl)) ?_
      clear hK K
      (try simp only [Act.put, List.setIfInBounds_toArray, List.set_cons_zero, List.set_cons_succ])
      refine wpAnyT_done (by kernel_rfl) ?_ _
      obtain ⟨A4', s4⟩ := DV.out.setL hia none
      have A4 : Hid (DA w0 us (u1.setCell ⟨rb, 1 + ia, none⟩ (.int .i64 0)) rb X { E with lk := up E.lk ia none }) := A4'
      have S4 : Hid (StD rb X X w (u1.setCell ⟨rb, 1 + ia, none⟩ (.int .i64 0))) := SV.out.trans s4
      clear s4 A4'
      clear KP DV SV NV cw1 cw2 x1'
      generalize u1.setCell ⟨rb, 1 + ia, none⟩ (.int .i64 0) = w4 at *
      have TE : ({ E with lk := up E.lk ia none } : Ds).tk[i]? = some t := HT.out
      obtain ⟨w5, hw5, t1c, t1f, EN⟩ := fin_any A4.out S4.out TE HX.out (t.pc + 1)
      have e5 : Hid (w4.setCell ⟨g, i * 6 + 1, none⟩ (.int .i64 ((t.pc : Int) + 1)) = w5) := hw5
      clear hw5
      go_upto_region 37 with fail
      rw [e5.out]
      go_wp2_with (go_at_call 33; refine EN.out.mono ?_; rintro e w6 ⟨rfl, A6, S6⟩; replace A6 := hide A6; replace S6 := hide S6)
      all_goals (go_end0; exact ⟨rfl, X, rfl, by rw [SE.out]; exact A6.out, S6.out⟩)
    · have SE : Hid (STP = panicD E i t (-1)) := by show _ = _; rw [← hSTP.out]; simp [stepE, hk]
      have lc := DW.out.lcell hia
      obtain ⟨x, hx, hxi⟩ := held_ne hk
      rw [hx] at lc
      go_upto_region 8 with fail
      go_quiet (fail)
      have DQ : Hid (DA w0 us (w2.drewN nq) rb X E) := DW.out.below (Qt.below ⟨_, rfl⟩ _)
      have SQ : Hid (StD rb X X w (w2.drewN nq)) := SW.out.trans (StD.of_below rb X (Qt.below ⟨_, rfl⟩ _))
      have NQ : Hid ((w2.drewN nq).heap[xb]? = some (.cells #[.int .i64 2, .int .i64 (ia : Int), .int .i64 bb, .int .i64 an] 45)) := NB.out
      have PN := hide (panics_any w0 (w2.drewN nq) us rb X E DQ.out HT.out (-1))
      go_wp2_with (go_at_call 34; refine PN.out.mono ?_; rintro e w6 ⟨rfl, A6, S6⟩; replace A6 := hide A6; replace S6 := hide S6)
      refine bodyPost_ret (results_none rfl _ _ _) rfl ?_
      exact ⟨rfl, X, rfl, by rw [SE.out]; exact A6.out, SQ.out.trans S6.out⟩
  by_cases k3 : ak = 3
  · subst k3
    obtain ⟨ia, rfl, hia⟩ := OKA.out.a4 (by simp)
    have hia' : (ia : Int) < 4 := by omega
    obtain ⟨ib, rfl, hib⟩ := OKA.out.b4 rfl
    have hib' : (ib : Int) < 4 := by omega
    by_cases hw : t.wa = 2
    · have SE : Hid (STP = finD { E with lk := up E.lk ib (some i), tk := E.tk.set i { t with wa := 0 } } i (t.pc + 1)) := by show _ = _; rw [← hSTP.out]; simp [stepE, hw]
      have WC := hide (wait_2 w0 w2 us rb X E DW.out HN.out HT.out 3 (ia : Int) an hib hw)
      go_upto_region 13 with (go_at_call 35; refine WC.out.mono ?_; rintro e w4 ⟨rfl, A4, S4⟩; replace A4 := hide A4; replace S4 := hide S4)
      replace S4 : Hid (StD rb X X w w4) := SW.out.trans S4.out
      have TE : ({ E with lk := up E.lk ib (some i), tk := E.tk.set i { t with wa := 0 } } : Ds).tk[i]? = some { t with wa := 0 } := set_at HT.out
      clear WC DW SW NB x0 x1 x2 x3 p1 p3
      obtain ⟨w5, hw5, t1c, t1f, EN⟩ := fin_any A4.out S4.out TE HX.out (t.pc + 1)
      have e5 : Hid (w4.setCell ⟨g, i * 6 + 1, none⟩ (.int .i64 ((t.pc : Int) + 1)) = w5) := hw5
      clear hw5
      go_upto_region 37 with fail
      rw [e5.out]
      go_wp2_with (go_at_call 33; refine EN.out.mono ?_; rintro e w6 ⟨rfl, A6, S6⟩; replace A6 := hide A6; replace S6 := hide S6)
      all_goals (go_end0; exact ⟨rfl, X, rfl, by rw [SE.out]; exact A6.out, S6.out⟩)
    · by_cases hk : E.lk ib = some i
      · have SE : Hid (STP = { E with lk := up E.lk ib none, tk := E.tk.set i { t with wa := 1 }, sl := up E.sl ia (E.sl ia ++ [i]) }) := by show _ = _; rw [← hSTP.out]; simp [stepE, hw, hk]
        have WC := hide (wait_ok w0 w2 us rb X E DW.out HN.out HT.out 3 an hia hib hw hk (HSL.out ia))
        go_wp2_with (go_at_call 35; refine WC.out.mono ?_; rintro e w4 ⟨rfl, X', x0', A4, S4⟩; replace A4 := hide A4; replace S4 := hide S4)
        refine bodyPost_ret (results_none rfl _ _ _) rfl ?_
        exact ⟨rfl, X', x0', by rw [SE.out]; exact A4.out, SW.out.trans S4.out⟩
      · have SE : Hid (STP = panicD E i t (-1)) := by show _ = _; rw [← hSTP.out]; simp [stepE, hw, hk]
        have WC := hide (wait_no w0 w2 us rb X E DW.out HN.out HT.out 3 (ia : Int) an hib hw hk)
        go_upto_region 13 with (go_at_call 35; refine WC.out.mono ?_; rintro e w4 ⟨rfl, A4, S4⟩; replace A4 := hide A4; replace S4 := hide S4)
        replace S4 : Hid (StD rb X X w w4) := SW.out.trans S4.out
        have DQ := A4
        have SQ := S4
        have PN := hide (panics_any w0 w4 us rb X E DQ.out HT.out (-1))
        go_wp2_with (go_at_call 34; refine PN.out.mono ?_; rintro e w6 ⟨rfl, A6, S6⟩; replace A6 := hide A6; replace S6 := hide S6)
        refine bodyPost_ret (results_none rfl _ _ _) rfl ?_
        exact ⟨rfl, X, rfl, by rw [SE.out]; exact A6.out, SQ.out.trans S6.out⟩
  by_cases k4 : ak = 4
  · subst k4
    obtain ⟨ia, rfl, hia⟩ := OKA.out.a4 (by simp)
    have hia' : (ia : Int) < 4 := by omega
    have SE : Hid (STP = finD (wakeD E ia 1) i (t.pc + 1)) := by show _ = _; rw [← hSTP.out]; simp [stepE]
    have WC := rwake_any w0 w2 us rb X E DW.out hia 1 (HSJ.out ia) (HSL.out ia) (by decide)
    rw [show ((1 : Nat) : Int) = 1 from rfl] at WC
    replace WC := hide WC
    obtain ⟨t4, TE⟩ := wakeD_get ia i 1 E t HT.out
    go_upto_region 36 with (go_at_call 36; refine WC.out.mono ?_; rintro e w4 ⟨rfl, X', x0', A4, S4⟩; replace A4 := hide A4; replace S4 := hide S4)
    replace S4 : Hid (StD rb X X' w w4) := SW.out.trans S4.out
    clear WC DW SW NB x0 x1 x2 x3 p1 p3
    obtain ⟨w5, hw5, t1c, t1f, EN⟩ := fin_any A4.out S4.out TE (x0'.trans HX.out) (t.pc + 1)
    have e5 : Hid (w4.setCell ⟨g, i * 6 + 1, none⟩ (.int .i64 ((t.pc : Int) + 1)) = w5) := hw5
    clear hw5
    go_upto_region 37 with fail
    rw [e5.out]
    go_wp2_with (go_at_call 33; refine EN.out.mono ?_; rintro e w6 ⟨rfl, A6, S6⟩; replace A6 := hide A6; replace S6 := hide S6)
    all_goals (go_end0; exact ⟨rfl, X', x0', by rw [SE.out]; exact A6.out, S6.out⟩)
  by_cases k5 : ak = 5
  · subst k5
    obtain ⟨ia, rfl, hia⟩ := OKA.out.a4 (by simp)
    have hia' : (ia : Int) < 4 := by omega
    have SE : Hid (STP = finD (wakeD E ia 16) i (t.pc + 1)) := by show _ = _; rw [← hSTP.out]; simp [stepE]
    have WC := rwake_any w0 w2 us rb X E DW.out hia 16 (HSJ.out ia) (HSL.out ia) (by decide)
    rw [show ((16 : Nat) : Int) = 16 from rfl] at WC
    replace WC := hide WC
    obtain ⟨t4, TE⟩ := wakeD_get ia i 16 E t HT.out
    go_upto_region 36 with (go_at_call 36; refine WC.out.mono ?_; rintro e w4 ⟨rfl, X', x0', A4, S4⟩; replace A4 := hide A4; replace S4 := hide S4)
    replace S4 : Hid (StD rb X X' w w4) := SW.out.trans S4.out
    clear WC DW SW NB x0 x1 x2 x3 p1 p3
    obtain ⟨w5, hw5, t1c, t1f, EN⟩ := fin_any A4.out S4.out TE (x0'.trans HX.out) (t.pc + 1)
    have e5 : Hid (w4.setCell ⟨g, i * 6 + 1, none⟩ (.int .i64 ((t.pc : Int) + 1)) = w5) := hw5
    clear hw5
    go_upto_region 37 with fail
    rw [e5.out]
    go_wp2_with (go_at_call 33; refine EN.out.mono ?_; rintro e w6 ⟨rfl, A6, S6⟩; replace A6 := hide A6; replace S6 := hide S6)
    all_goals (go_end0; exact ⟨rfl, X', x0', by rw [SE.out]; exact A6.out, S6.out⟩)
  by_cases k6 : ak = 6
  · subst k6
    obtain ⟨ia, rfl, hia⟩ := OKA.out.a4 (by simp)
    have hia' : (ia : Int) < 4 := by omega
    have SE : Hid (STP = finD { E with qu := up E.qu ia (E.qu ia ++ [an]) } i (t.pc + 1)) := by show _ = _; rw [← hSTP.out]; simp [stepE]
    have l1 := DW.out.qcell hia
    go_upto_region 21 with fail
    refine wp_region_T (fun q => q.cell? ⟨xb, 1, none⟩ = some (.int .i64 (ia : Int)) ∧ q.cell? ⟨rb, 9 + ia, none⟩ = some (X (5 + ia)) ∧ q.cell? ⟨xb, 3, none⟩ = some (.int .i64 an)) 17 (by kernel_rfl) ?_
    have KP : Hid (w2.drew.cell? ⟨xb, 1, none⟩ = some (.int .i64 (ia : Int)) ∧ w2.drew.cell? ⟨rb, 9 + ia, none⟩ = some (X (5 + ia)) ∧ w2.drew.cell? ⟨xb, 3, none⟩ = some (.int .i64 an)) := ⟨x1, l1, x3⟩
    have DV := hide (DW.out.below (Below.refl _ _).drew)
    have SV : Hid (StD rb X X w w2.drew) := SW.out.trans (StD.of_below rb X (Below.refl _ _).drew)
    have NV : Hid (w2.drew.heap[xb]? = some (.cells #[.int .i64 6, .int .i64 (ia : Int), .int .i64 bb, .int .i64 an] 45)) := NB.out
    clear DW SW NB
    generalize w2.drew = u1 at *
    refine wpAnyT_take (i := 0) (oi := { dst := some 97, op := Op.move (Operand.tmp 0), type := 53, pos := "ref.go:194", after := #[], guard := none }) (v := .pointer (some ⟨rb, 0, none⟩)) [14, 15, 16, 17] rfl (by kernel_rfl) (by kernel_rfl) (by kernel_rfl) (by kernel_rfl) (fun _ _ _ h => h) (Or.inl ⟨by rfl, ?_⟩) KP.out ?_
    · intro wq hSw
      obtain ⟨y0, y1, y2⟩ := hSw
      go_simp
    (try simp only [Act.put, List.setIfInBounds_toArray, List.set_cons_zero, List.set_cons_succ])
    refine wpAnyT_take (i := 1) (oi := { dst := some 98, op := Op.fieldAddr 45 (Operand.tmp 5) 1, type := 0, pos := "ref.go:194", after := #[], guard := none }) (v := .pointer (some ⟨xb, 1, none⟩)) [2, 16, 17] rfl (by kernel_rfl) (by kernel_rfl) (by kernel_rfl) (by kernel_rfl) (fun _ _ _ h => h) (Or.inl ⟨by rfl, ?_⟩) KP.out ?_
    · intro wq hSw
      obtain ⟨y0, y1, y2⟩ := hSw
      go_simp
    (try simp only [Act.put, List.setIfInBounds_toArray, List.set_cons_zero, List.set_cons_succ])
    refine wpAnyT_take (i := 2) (oi := { dst := some 99, op := Op.load 3 (Operand.tmp 98), type := 3, pos := "ref.go:194", after := #[{ on := 1, ground := Ground.data }], guard := none }) (v := .int .i64 (ia : Int)) [16, 17] rfl (by kernel_rfl) (by kernel_rfl) (by kernel_rfl) (by kernel_rfl) (fun _ _ _ h => h) (Or.inl ⟨by rfl, ?_⟩) KP.out ?_
    · intro wq hSw
      obtain ⟨y0, y1, y2⟩ := hSw
      go_simp
    (try simp only [Act.put, List.setIfInBounds_toArray, List.set_cons_zero, List.set_cons_succ])
    refine wpAnyT_take (i := 3) (oi := { dst := some 100, op := Op.move (Operand.tmp 0), type := 53, pos := "ref.go:194", after := #[], guard := none }) (v := .pointer (some ⟨rb, 0, none⟩)) [6, 7, 8, 9, 13, 17] rfl (by kernel_rfl) (by kernel_rfl) (by kernel_rfl) (by kernel_rfl) (fun _ _ _ h => h) (Or.inl ⟨by rfl, ?_⟩) KP.out ?_
    · intro wq hSw
      obtain ⟨y0, y1, y2⟩ := hSw
      go_simp
    (try simp only [Act.put, List.setIfInBounds_toArray, List.set_cons_zero, List.set_cons_succ])
    refine wpAnyT_take (i := 4) (oi := { dst := some 101, op := Op.fieldAddr 45 (Operand.tmp 5) 1, type := 0, pos := "ref.go:194", after := #[], guard := none }) (v := .pointer (some ⟨xb, 1, none⟩)) [5, 8, 9, 13, 17] rfl (by kernel_rfl) (by kernel_rfl) (by kernel_rfl) (by kernel_rfl) (fun _ _ _ h => h) (Or.inl ⟨by rfl, ?_⟩) KP.out ?_
    · intro wq hSw
      obtain ⟨y0, y1, y2⟩ := hSw
      go_simp
    (try simp only [Act.put, List.setIfInBounds_toArray, List.set_cons_zero, List.set_cons_succ])
    refine wpAnyT_take (i := 5) (oi := { dst := some 102, op := Op.load 3 (Operand.tmp 101), type := 3, pos := "ref.go:194", after := #[{ on := 4, ground := Ground.data }], guard := none }) (v := .int .i64 (ia : Int)) [8, 9, 13, 17] rfl (by kernel_rfl) (by kernel_rfl) (by kernel_rfl) (by kernel_rfl) (fun _ _ _ h => h) (Or.inl ⟨by rfl, ?_⟩) KP.out ?_
    · intro wq hSw
      obtain ⟨y0, y1, y2⟩ := hSw
      go_simp
    (try simp only [Act.put, List.setIfInBounds_toArray, List.set_cons_zero, List.set_cons_succ])
    refine wpAnyT_take (i := 6) (oi := { dst := some 103, op := Op.nilCheck (Operand.tmp 100), type := 0, pos := "ref.go:194", after := #[{ on := 3, ground := Ground.data }], guard := none }) (v := .pointer (some ⟨rb, 0, none⟩)) [7, 8, 9, 13, 17] rfl (by kernel_rfl) (by kernel_rfl) (by kernel_rfl) (by kernel_rfl) (fun _ _ _ h => h) (Or.inl ⟨by rfl, ?_⟩) KP.out ?_
    · intro wq hSw
      obtain ⟨y0, y1, y2⟩ := hSw
      go_simp
    (try simp only [Act.put, List.setIfInBounds_toArray, List.set_cons_zero, List.set_cons_succ])
    refine wpAnyT_take (i := 7) (oi := { dst := some 104, op := Op.fieldAddr 63 (Operand.tmp 103) 3, type := 0, pos := "ref.go:194", after := #[{ on := 6, ground := Ground.data }], guard := none }) (v := .pointer (some ⟨rb, 9, none⟩)) [8, 9, 13, 17] rfl (by kernel_rfl) (by kernel_rfl) (by kernel_rfl) (by kernel_rfl) (fun _ _ _ h => h) (Or.inl ⟨by rfl, ?_⟩) KP.out ?_
    · intro wq hSw
      obtain ⟨y0, y1, y2⟩ := hSw
      go_simp
    (try simp only [Act.put, List.setIfInBounds_toArray, List.set_cons_zero, List.set_cons_succ])
    refine wpAnyT_take (i := 8) (oi := { dst := some 105, op := Op.indexAddr 60 (Operand.tmp 104) (Operand.tmp 102), type := 0, pos := "ref.go:194", after := #[{ on := 7, ground := Ground.data }, { on := 5, ground := Ground.data }], guard := none }) (v := .pointer (some ⟨rb, 9 + ia, none⟩)) [9, 13, 17] rfl (by kernel_rfl) (by kernel_rfl) (by kernel_rfl) (by kernel_rfl) (fun _ _ _ h => h) (Or.inl ⟨by rfl, ?_⟩) KP.out ?_
    · intro wq hSw
      obtain ⟨y0, y1, y2⟩ := hSw
      go_simp
    (try simp only [Act.put, List.setIfInBounds_toArray, List.set_cons_zero, List.set_cons_succ])
    refine wpAnyT_take (i := 9) (oi := { dst := some 106, op := Op.load 29 (Operand.tmp 105), type := 29, pos := "ref.go:194", after := #[{ on := 8, ground := Ground.data }], guard := none }) (v := X (5 + ia)) [13, 17] rfl (by kernel_rfl) (by kernel_rfl) (by kernel_rfl) (by kernel_rfl) (fun _ _ _ h => h) (Or.inl ⟨by rfl, ?_⟩) KP.out ?_
    · intro wq hSw
      obtain ⟨y0, y1, y2⟩ := hSw
      go_simp
    (try simp only [Act.put, List.setIfInBounds_toArray, List.set_cons_zero, List.set_cons_succ])
    refine wpAnyT_take (i := 10) (oi := { dst := some 107, op := Op.fieldAddr 45 (Operand.tmp 5) 3, type := 0, pos := "ref.go:194", after := #[], guard := none }) (v := .pointer (some ⟨xb, 3, none⟩)) [11, 12, 13, 17] rfl (by kernel_rfl) (by kernel_rfl) (by kernel_rfl) (by kernel_rfl) (fun _ _ _ h => h) (Or.inl ⟨by rfl, ?_⟩) KP.out ?_
    · intro wq hSw
      obtain ⟨y0, y1, y2⟩ := hSw
      go_simp
    (try simp only [Act.put, List.setIfInBounds_toArray, List.set_cons_zero, List.set_cons_succ])
    refine wpAnyT_take (i := 11) (oi := { dst := some 108, op := Op.load 2 (Operand.tmp 107), type := 2, pos := "ref.go:194", after := #[{ on := 10, ground := Ground.data }], guard := none }) (v := .int .i64 an) [12, 13, 17] rfl (by kernel_rfl) (by kernel_rfl) (by kernel_rfl) (by kernel_rfl) (fun _ _ _ h => h) (Or.inl ⟨by rfl, ?_⟩) KP.out ?_
    · intro wq hSw
      obtain ⟨y0, y1, y2⟩ := hSw
      go_simp
    (try simp only [Act.put, List.setIfInBounds_toArray, List.set_cons_zero, List.set_cons_succ])
    refine wpAnyT_take (i := 14) (oi := { dst := some 111, op := Op.nilCheck (Operand.tmp 97), type := 0, pos := "ref.go:194", after := #[{ on := 0, ground := Ground.data }], guard := none }) (v := .pointer (some ⟨rb, 0, none⟩)) [15, 16, 17] rfl (by kernel_rfl) (by kernel_rfl) (by kernel_rfl) (by kernel_rfl) (fun _ _ _ h => h) (Or.inl ⟨by rfl, ?_⟩) KP.out ?_
    · intro wq hSw
      obtain ⟨y0, y1, y2⟩ := hSw
      go_simp
    (try simp only [Act.put, List.setIfInBounds_toArray, List.set_cons_zero, List.set_cons_succ])
    refine wpAnyT_take (i := 15) (oi := { dst := some 112, op := Op.fieldAddr 63 (Operand.tmp 111) 3, type := 0, pos := "ref.go:194", after := #[{ on := 14, ground := Ground.data }], guard := none }) (v := .pointer (some ⟨rb, 9, none⟩)) [16, 17] rfl (by kernel_rfl) (by kernel_rfl) (by kernel_rfl) (by kernel_rfl) (fun _ _ _ h => h) (Or.inl ⟨by rfl, ?_⟩) KP.out ?_
    · intro wq hSw
      obtain ⟨y0, y1, y2⟩ := hSw
      go_simp
    (try simp only [Act.put, List.setIfInBounds_toArray, List.set_cons_zero, List.set_cons_succ])
    obtain ⟨a7, n7, c7, w7, r7, F7⟩ := pushQ DV.out hia an (HQU.out ia)
    have AL : Hid ((u1.alloc (.cells #[.int .i64 an] 2)).cell? ⟨xb, 1, none⟩ = some (.int .i64 (ia : Int)) ∧ (u1.alloc (.cells #[.int .i64 an] 2)).cell? ⟨rb, 9 + ia, none⟩ = some (X (5 + ia)) ∧ (u1.alloc (.cells #[.int .i64 an] 2)).cell? ⟨xb, 3, none⟩ = some (.int .i64 an)) := ⟨alloc_cell _ KP.out.1, alloc_cell _ KP.out.2.1, alloc_cell _ KP.out.2.2⟩
    have K7 : Hid (w7.cell? ⟨xb, 1, none⟩ = some (.int .i64 (ia : Int)) ∧ w7.cell? ⟨rb, 9 + ia, none⟩ = some (X (5 + ia)) ∧ w7.cell? ⟨xb, 3, none⟩ = some (.int .i64 an)) := ⟨(World.cell?_of_block (F7.out.2.2.2.2 xb (heap_lt NV.out) hxo.out)).trans KP.out.1, F7.out.2.2.1, (World.cell?_of_block (F7.out.2.2.2.2 xb (heap_lt NV.out) hxo.out)).trans KP.out.2.2⟩
    refine wpAnyT_one (i := 12) (o := { dst := some 109, op := Op.buildSlice 29 1 #[(0, Operand.tmp 108)], type := 29, pos := "ref.go:194", after := #[{ on := 11, ground := Ground.data }], guard := none }) (by kernel_rfl) rfl (fun K hK => ?_)
    go_simp
    refine hK.out _ _ (fun _ => AL.out) ?_
    clear hK K
    (try simp only [Act.put, List.setIfInBounds_toArray, List.set_cons_zero, List.set_cons_succ])
    refine wpAnyT_one (i := 13) (o := { dst := some 110, op := Op.call { callee := Callee.builtin Builtin.append, args := #[Operand.tmp 106, Operand.tmp 109], argTypes := #[29, 29] }, type := 29, pos := "ref.go:194", after := #[{ on := 9, ground := Ground.data }, { on := 12, ground := Ground.data }], guard := none }) (by kernel_rfl) rfl (fun K hK => ?_)
    rw [if_pos (by simp [Region.wanted])]
    refine Lib.wp_append_run _ (.tmp 106) (.tmp 109) 29 29 rfl (X (5 + ia)) (.slice (some ⟨u1.heap.size, 0, none⟩) 1 1) (by simp [Act.eval]) (by simp [Act.eval]) _ w7 r7.out ?_
    refine hK.out _ _ (fun _ => K7.out) ?_
    clear hK K
    (try simp only [Act.put, List.setIfInBounds_toArray, List.set_cons_zero, List.set_cons_succ])
    refine wpAnyT_one (i := 16) (o := { dst := some 113, op := Op.indexAddr 60 (Operand.tmp 112) (Operand.tmp 99), type := 0, pos := "ref.go:194", after := #[{ on := 15, ground := Ground.data }, { on := 2, ground := Ground.data }, { on := 0, ground := Ground.phase }, { on := 1, ground := Ground.phase }, { on := 2, ground := Ground.phase }, { on := 3, ground := Ground.phase }, { on := 4, ground := Ground.phase }, { on := 5, ground := Ground.phase }, { on := 6, ground := Ground.phase }, { on := 7, ground := Ground.phase }, { on := 8, ground := Ground.phase }, { on := 9, ground := Ground.phase }, { on := 10, ground := Ground.phase }, { on := 11, ground := Ground.phase }, { on := 12, ground := Ground.phase }, { on := 13, ground := Ground.phase }], guard := none }) (by kernel_rfl) rfl (fun K hK => ?_)
    go_simp
    refine hK.out _ _ (fun _ => K7.out) ?_
    clear hK K
    (try simp only [Act.put, List.setIfInBounds_toArray, List.set_cons_zero, List.set_cons_succ])
    obtain ⟨-, -, k7, z7, -⟩ := F7.out
    clear AL K7
    refine wpAnyT_one (i := 17) (o := { dst := none, op := Op.store 29 (Operand.tmp 113) (Operand.tmp 110), type := 0, pos := "ref.go:194", after := #[{ on := 16, ground := Ground.data }, { on := 13, ground := Ground.data }, { on := 13, ground := Ground.chain }, { on := 0, ground := Ground.phase }, { on := 1, ground := Ground.phase }, { on := 2, ground := Ground.phase }, { on := 3, ground := Ground.phase }, { on := 4, ground := Ground.phase }, { on := 5, ground := Ground.phase }, { on := 6, ground := Ground.phase }, { on := 7, ground := Ground.phase }, { on := 8, ground := Ground.phase }, { on := 9, ground := Ground.phase }, { on := 10, ground := Ground.phase }, { on := 11, ground := Ground.phase }, { on := 12, ground := Ground.phase }, { on := 13, ground := Ground.phase }], guard := none }) (by kernel_rfl) rfl (fun K hK => ?_)
    go_simp
    refine hK.out _ _ (vac (by kernel_rfl)) ?_
    clear hK K
    (try simp only [Act.put, List.setIfInBounds_toArray, List.set_cons_zero, List.set_cons_succ])
    refine wpAnyT_done (by kernel_rfl) ?_ _
    have A4 : Hid (DA w0 us (w7.setCell ⟨rb, 9 + ia, none⟩ (.slice a7 n7 c7)) rb (up X (5 + ia) (.slice a7 n7 c7)) { E with qu := up E.qu ia (E.qu ia ++ [an]) }) := F7.out.1
    have S4 : Hid (StD rb X (up X (5 + ia) (.slice a7 n7 c7)) w (w7.setCell ⟨rb, 9 + ia, none⟩ (.slice a7 n7 c7))) := SV.out.trans F7.out.2.1
    have x0' : up X (5 + ia) (.slice a7 n7 c7) 0 = X 0 := up_other _ _ (by omega)
    clear KP DV SV NV k7 z7 x0 x1 x2 x3 p1 p3 l1 F7 r7
    generalize w7.setCell ⟨rb, 9 + ia, none⟩ (.slice a7 n7 c7) = w4 at *
    generalize up X (5 + ia) (.slice a7 n7 c7) = X' at *
    have TE : ({ E with qu := up E.qu ia (E.qu ia ++ [an]) } : Ds).tk[i]? = some t := HT.out
    obtain ⟨w5, hw5, t1c, t1f, EN⟩ := fin_any A4.out S4.out TE (x0'.trans HX.out) (t.pc + 1)
    have e5 : Hid (w4.setCell ⟨g, i * 6 + 1, none⟩ (.int .i64 ((t.pc : Int) + 1)) = w5) := hw5
    clear hw5
    go_upto_region 37 with fail
    rw [e5.out]
    go_wp2_with (go_at_call 33; refine EN.out.mono ?_; rintro e w6 ⟨rfl, A6, S6⟩; replace A6 := hide A6; replace S6 := hide S6)
    all_goals (go_end0; exact ⟨rfl, X', x0', by rw [SE.out]; exact A6.out, S6.out⟩)
  by_cases k7 : ak = 7
  · subst k7
    obtain ⟨ia, rfl, hia⟩ := OKA.out.a4 (by simp)
    have hia' : (ia : Int) < 4 := by omega
    obtain ⟨ib, hib0, hib⟩ := b8' OKA.out (Or.inl rfl)
    simp only at hib0
    subst hib0
    have hib' : (ib : Int) < 8 := by omega
    obtain ⟨x, r, hqx⟩ : ∃ x r, E.qu ia = x :: r := by
      have := HQ.out rfl
      cases h : E.qu ia with
      | nil => exact absurd h this
      | cons x r => exact ⟨x, r, rfl⟩
    have SE : Hid (STP = finD { E with rg := up E.rg ib x, qu := up E.qu ia r } i (t.pc + 1)) := by show _ = _; rw [← hSTP.out]; simp [stepE, hqx]
    obtain ⟨ao7, lc, e7, hcap7, -, hr7⟩ := nums_form (DW.out.qu ia hia)
    obtain ⟨lg, hlg, q0⟩ := hr7 0 x (by rw [hqx]; rfl)
    subst hlg
    obtain ⟨ln, hln⟩ : ∃ ln, Hid ((E.qu ia).length = ln) := ⟨_, rfl⟩
    rw [hln.out] at e7 hcap7
    have hln1 : ln = r.length + 1 := by rw [← hln.out, hqx]; rfl
    have b3 : (0 : Int) < (ln : Int) := by omega
    have b6 : ln ≠ 0 := by omega
    have b7 : 0 < ln := by omega
    have b4 : (1 : Int) ≤ (ln : Int) := by omega
    have b5 : (ln : Int) ≤ (lc : Int) := by omega
    have HRL : Hid (r.length ≤ 1000) := by have := HQU.out ia; rw [hqx] at this; simp at this; show _ ≤ _; omega
    have l1 := DW.out.qcell hia
    rw [e7] at l1
    have HE7 := hide e7
    have HQX := hide hqx
    clear e7 hqx hr7 hln1 hcap7
    go_upto_region 23 with fail
    refine wp_region_T (fun q => q.cell? ⟨xb, 2, none⟩ = some (.int .i64 (ib : Int)) ∧ q.cell? ⟨xb, 1, none⟩ = some (.int .i64 (ia : Int)) ∧ q.cell? ⟨rb, 9 + ia, none⟩ = some (.slice (some ⟨lg, 0, none⟩) ln lc) ∧ q.cell? ⟨lg, 0, none⟩ = some (.int .i64 x)) 15 (by kernel_rfl) ?_
    have KP : Hid (w2.drew.cell? ⟨xb, 2, none⟩ = some (.int .i64 (ib : Int)) ∧ w2.drew.cell? ⟨xb, 1, none⟩ = some (.int .i64 (ia : Int)) ∧ w2.drew.cell? ⟨rb, 9 + ia, none⟩ = some (.slice (some ⟨lg, 0, none⟩) ln lc) ∧ w2.drew.cell? ⟨lg, 0, none⟩ = some (.int .i64 x)) := ⟨x2, x1, l1, q0⟩
    have DV := hide (DW.out.below (Below.refl _ _).drew)
    have SV : Hid (StD rb X X w w2.drew) := SW.out.trans (StD.of_below rb X (Below.refl _ _).drew)
    have NV : Hid (w2.drew.heap[xb]? = some (.cells #[.int .i64 7, .int .i64 (ia : Int), .int .i64 (ib : Int), .int .i64 an] 45)) := NB.out
    clear DW SW NB
    generalize w2.drew = u1 at *
    refine wpAnyT_take (i := 0) (oi := { dst := some 116, op := Op.move (Operand.tmp 0), type := 53, pos := "ref.go:196", after := #[], guard := none }) (v := .pointer (some ⟨rb, 0, none⟩)) [12, 13, 14, 15] rfl (by kernel_rfl) (by kernel_rfl) (by kernel_rfl) (by kernel_rfl) (fun _ _ _ h => h) (Or.inl ⟨by rfl, ?_⟩) KP.out ?_
    · intro wq hSw
      obtain ⟨y0, y1, y2, y3⟩ := hSw
      go_simp
    (try simp only [Act.put, List.setIfInBounds_toArray, List.set_cons_zero, List.set_cons_succ])
    refine wpAnyT_take (i := 1) (oi := { dst := some 117, op := Op.fieldAddr 45 (Operand.tmp 5) 2, type := 0, pos := "ref.go:196", after := #[], guard := none }) (v := .pointer (some ⟨xb, 2, none⟩)) [2, 14, 15] rfl (by kernel_rfl) (by kernel_rfl) (by kernel_rfl) (by kernel_rfl) (fun _ _ _ h => h) (Or.inl ⟨by rfl, ?_⟩) KP.out ?_
    · intro wq hSw
      obtain ⟨y0, y1, y2, y3⟩ := hSw
      go_simp
    (try simp only [Act.put, List.setIfInBounds_toArray, List.set_cons_zero, List.set_cons_succ])
    refine wpAnyT_take (i := 2) (oi := { dst := some 118, op := Op.load 3 (Operand.tmp 117), type := 3, pos := "ref.go:196", after := #[{ on := 1, ground := Ground.data }], guard := none }) (v := .int .i64 (ib : Int)) [14, 15] rfl (by kernel_rfl) (by kernel_rfl) (by kernel_rfl) (by kernel_rfl) (fun _ _ _ h => h) (Or.inl ⟨by rfl, ?_⟩) KP.out ?_
    · intro wq hSw
      obtain ⟨y0, y1, y2, y3⟩ := hSw
      go_simp
    (try simp only [Act.put, List.setIfInBounds_toArray, List.set_cons_zero, List.set_cons_succ])
    refine wpAnyT_take (i := 3) (oi := { dst := some 119, op := Op.move (Operand.tmp 0), type := 53, pos := "ref.go:196", after := #[], guard := none }) (v := .pointer (some ⟨rb, 0, none⟩)) [6, 7, 8, 9, 10, 11, 15] rfl (by kernel_rfl) (by kernel_rfl) (by kernel_rfl) (by kernel_rfl) (fun _ _ _ h => h) (Or.inl ⟨by rfl, ?_⟩) KP.out ?_
    · intro wq hSw
      obtain ⟨y0, y1, y2, y3⟩ := hSw
      go_simp
    (try simp only [Act.put, List.setIfInBounds_toArray, List.set_cons_zero, List.set_cons_succ])
    refine wpAnyT_take (i := 4) (oi := { dst := some 120, op := Op.fieldAddr 45 (Operand.tmp 5) 1, type := 0, pos := "ref.go:196", after := #[], guard := none }) (v := .pointer (some ⟨xb, 1, none⟩)) [5, 8, 9, 10, 11, 15] rfl (by kernel_rfl) (by kernel_rfl) (by kernel_rfl) (by kernel_rfl) (fun _ _ _ h => h) (Or.inl ⟨by rfl, ?_⟩) KP.out ?_
    · intro wq hSw
      obtain ⟨y0, y1, y2, y3⟩ := hSw
      go_simp
    (try simp only [Act.put, List.setIfInBounds_toArray, List.set_cons_zero, List.set_cons_succ])
    refine wpAnyT_take (i := 5) (oi := { dst := some 121, op := Op.load 3 (Operand.tmp 120), type := 3, pos := "ref.go:196", after := #[{ on := 4, ground := Ground.data }], guard := none }) (v := .int .i64 (ia : Int)) [8, 9, 10, 11, 15] rfl (by kernel_rfl) (by kernel_rfl) (by kernel_rfl) (by kernel_rfl) (fun _ _ _ h => h) (Or.inl ⟨by rfl, ?_⟩) KP.out ?_
    · intro wq hSw
      obtain ⟨y0, y1, y2, y3⟩ := hSw
      go_simp
    (try simp only [Act.put, List.setIfInBounds_toArray, List.set_cons_zero, List.set_cons_succ])
    refine wpAnyT_take (i := 6) (oi := { dst := some 122, op := Op.nilCheck (Operand.tmp 119), type := 0, pos := "ref.go:196", after := #[{ on := 3, ground := Ground.data }], guard := none }) (v := .pointer (some ⟨rb, 0, none⟩)) [7, 8, 9, 10, 11, 15] rfl (by kernel_rfl) (by kernel_rfl) (by kernel_rfl) (by kernel_rfl) (fun _ _ _ h => h) (Or.inl ⟨by rfl, ?_⟩) KP.out ?_
    · intro wq hSw
      obtain ⟨y0, y1, y2, y3⟩ := hSw
      go_simp
    (try simp only [Act.put, List.setIfInBounds_toArray, List.set_cons_zero, List.set_cons_succ])
    refine wpAnyT_take (i := 7) (oi := { dst := some 123, op := Op.fieldAddr 63 (Operand.tmp 122) 3, type := 0, pos := "ref.go:196", after := #[{ on := 6, ground := Ground.data }], guard := none }) (v := .pointer (some ⟨rb, 9, none⟩)) [8, 9, 10, 11, 15] rfl (by kernel_rfl) (by kernel_rfl) (by kernel_rfl) (by kernel_rfl) (fun _ _ _ h => h) (Or.inl ⟨by rfl, ?_⟩) KP.out ?_
    · intro wq hSw
      obtain ⟨y0, y1, y2, y3⟩ := hSw
      go_simp
    (try simp only [Act.put, List.setIfInBounds_toArray, List.set_cons_zero, List.set_cons_succ])
    refine wpAnyT_take (i := 8) (oi := { dst := some 124, op := Op.indexAddr 60 (Operand.tmp 123) (Operand.tmp 121), type := 0, pos := "ref.go:196", after := #[{ on := 7, ground := Ground.data }, { on := 5, ground := Ground.data }], guard := none }) (v := .pointer (some ⟨rb, 9 + ia, none⟩)) [9, 10, 11, 15] rfl (by kernel_rfl) (by kernel_rfl) (by kernel_rfl) (by kernel_rfl) (fun _ _ _ h => h) (Or.inl ⟨by rfl, ?_⟩) KP.out ?_
    · intro wq hSw
      obtain ⟨y0, y1, y2, y3⟩ := hSw
      go_simp
    (try simp only [Act.put, List.setIfInBounds_toArray, List.set_cons_zero, List.set_cons_succ])
    refine wpAnyT_take (i := 9) (oi := { dst := some 125, op := Op.load 29 (Operand.tmp 124), type := 29, pos := "ref.go:196", after := #[{ on := 8, ground := Ground.data }], guard := none }) (v := .slice (some ⟨lg, 0, none⟩) ln lc) [10, 11, 15] rfl (by kernel_rfl) (by kernel_rfl) (by kernel_rfl) (by kernel_rfl) (fun _ _ _ h => h) (Or.inl ⟨by rfl, ?_⟩) KP.out ?_
    · intro wq hSw
      obtain ⟨y0, y1, y2, y3⟩ := hSw
      go_simp
    (try simp only [Act.put, List.setIfInBounds_toArray, List.set_cons_zero, List.set_cons_succ])
    refine wpAnyT_take (i := 10) (oi := { dst := some 126, op := Op.indexAddr 29 (Operand.tmp 125) (Operand.const (Value.int IntKind.i64 0)), type := 0, pos := "ref.go:196", after := #[{ on := 9, ground := Ground.data }], guard := none }) (v := .pointer (some ⟨lg, 0, none⟩)) [11, 15] rfl (by kernel_rfl) (by kernel_rfl) (by kernel_rfl) (by kernel_rfl) (fun _ _ _ h => h) (Or.inl ⟨by rfl, ?_⟩) KP.out ?_
    · intro wq hSw
      obtain ⟨y0, y1, y2, y3⟩ := hSw
      go_simp
    (try simp only [Act.put, List.setIfInBounds_toArray, List.set_cons_zero, List.set_cons_succ])
    refine wpAnyT_take (i := 11) (oi := { dst := some 127, op := Op.load 2 (Operand.tmp 126), type := 2, pos := "ref.go:196", after := #[{ on := 10, ground := Ground.data }], guard := none }) (v := .int .i64 x) [15] rfl (by kernel_rfl) (by kernel_rfl) (by kernel_rfl) (by kernel_rfl) (fun _ _ _ h => h) (Or.inl ⟨by rfl, ?_⟩) KP.out ?_
    · intro wq hSw
      obtain ⟨y0, y1, y2, y3⟩ := hSw
      go_simp
    (try simp only [Act.put, List.setIfInBounds_toArray, List.set_cons_zero, List.set_cons_succ])
    refine wpAnyT_take (i := 12) (oi := { dst := some 128, op := Op.nilCheck (Operand.tmp 116), type := 0, pos := "ref.go:196", after := #[{ on := 0, ground := Ground.data }], guard := none }) (v := .pointer (some ⟨rb, 0, none⟩)) [13, 14, 15] rfl (by kernel_rfl) (by kernel_rfl) (by kernel_rfl) (by kernel_rfl) (fun _ _ _ h => h) (Or.inl ⟨by rfl, ?_⟩) KP.out ?_
    · intro wq hSw
      obtain ⟨y0, y1, y2, y3⟩ := hSw
      go_simp
    (try simp only [Act.put, List.setIfInBounds_toArray, List.set_cons_zero, List.set_cons_succ])
    refine wpAnyT_take (i := 13) (oi := { dst := some 129, op := Op.fieldAddr 63 (Operand.tmp 128) 4, type := 0, pos := "ref.go:196", after := #[{ on := 12, ground := Ground.data }], guard := none }) (v := .pointer (some ⟨rb, 13, none⟩)) [14, 15] rfl (by kernel_rfl) (by kernel_rfl) (by kernel_rfl) (by kernel_rfl) (fun _ _ _ h => h) (Or.inl ⟨by rfl, ?_⟩) KP.out ?_
    · intro wq hSw
      obtain ⟨y0, y1, y2, y3⟩ := hSw
      go_simp
    (try simp only [Act.put, List.setIfInBounds_toArray, List.set_cons_zero, List.set_cons_succ])
    refine wpAnyT_take (i := 14) (oi := { dst := some 130, op := Op.indexAddr 61 (Operand.tmp 129) (Operand.tmp 118), type := 0, pos := "ref.go:196", after := #[{ on := 13, ground := Ground.data }, { on := 2, ground := Ground.data }, { on := 0, ground := Ground.phase }, { on := 1, ground := Ground.phase }, { on := 2, ground := Ground.phase }, { on := 3, ground := Ground.phase }, { on := 4, ground := Ground.phase }, { on := 5, ground := Ground.phase }, { on := 6, ground := Ground.phase }, { on := 7, ground := Ground.phase }, { on := 8, ground := Ground.phase }, { on := 9, ground := Ground.phase }, { on := 10, ground := Ground.phase }, { on := 11, ground := Ground.phase }], guard := none }) (v := .pointer (some ⟨rb, 13 + ib, none⟩)) [15] rfl (by kernel_rfl) (by kernel_rfl) (by kernel_rfl) (by kernel_rfl) (fun _ _ _ h => h) (Or.inl ⟨by rfl, ?_⟩) KP.out ?_
    · intro wq hSw
      obtain ⟨y0, y1, y2, y3⟩ := hSw
      go_simp
    (try simp only [Act.put, List.setIfInBounds_toArray, List.set_cons_zero, List.set_cons_succ])
    have cw1 := DV.out.gcell hib
    have cw2 := DV.out.frz (13 + ib)
    refine wpAnyT_one (i := 15) (o := { dst := none, op := Op.store 2 (Operand.tmp 130) (Operand.tmp 127), type := 0, pos := "ref.go:196", after := #[{ on := 14, ground := Ground.data }, { on := 11, ground := Ground.data }, { on := 0, ground := Ground.phase }, { on := 1, ground := Ground.phase }, { on := 2, ground := Ground.phase }, { on := 3, ground := Ground.phase }, { on := 4, ground := Ground.phase }, { on := 5, ground := Ground.phase }, { on := 6, ground := Ground.phase }, { on := 7, ground := Ground.phase }, { on := 8, ground := Ground.phase }, { on := 9, ground := Ground.phase }, { on := 10, ground := Ground.phase }, { on := 11, ground := Ground.phase }], guard := none }) (by kernel_rfl) rfl (fun K hK => ?_)
    go_simp
    refine hK.out _ _ (vac (by kernel_rfl)) ?_
    clear hK K
    (try simp only [Act.put, List.setIfInBounds_toArray, List.set_cons_zero, List.set_cons_succ])
    refine wpAnyT_done (by kernel_rfl) ?_ _
    obtain ⟨A4', s4⟩ := DV.out.setG hib x
    have DW : Hid (DA w0 us (u1.setCell ⟨rb, 13 + ib, none⟩ (.int .i64 x)) rb X { E with rg := up E.rg ib x }) := A4'
    have SW : Hid (StD rb X X w (u1.setCell ⟨rb, 13 + ib, none⟩ (.int .i64 x))) := SV.out.trans s4
    have NB : Hid ((u1.setCell ⟨rb, 13 + ib, none⟩ (.int .i64 x)).heap[xb]? = some (.cells #[.int .i64 7, .int .i64 (ia : Int), .int .i64 (ib : Int), .int .i64 an] 45)) := s4.1.at NV.out hxo.out
    clear s4 A4' KP DV SV NV cw1 cw2 x0 x1 x2 x3 p1 p3 l1 q0
    go_upto_region 24 with fail
    generalize u1.setCell ⟨rb, 13 + ib, none⟩ (.int .i64 x) = w3 at *
    have l1 := DW.out.qcell hia
    rw [HE7.out] at l1
    obtain ⟨-, x1, -, -⟩ := four_of NB.out
    refine wp_region_T (fun q => q.cell? ⟨xb, 1, none⟩ = some (.int .i64 (ia : Int)) ∧ q.cell? ⟨rb, 9 + ia, none⟩ = some (.slice (some ⟨lg, 0, none⟩) ln lc)) 15 (by kernel_rfl) ?_
    have KP : Hid (w3.drew.cell? ⟨xb, 1, none⟩ = some (.int .i64 (ia : Int)) ∧ w3.drew.cell? ⟨rb, 9 + ia, none⟩ = some (.slice (some ⟨lg, 0, none⟩) ln lc)) := ⟨x1, l1⟩
    have DV := hide (DW.out.below (Below.refl _ _).drew)
    have SV : Hid (StD rb X X w w3.drew) := SW.out.trans (StD.of_below rb X (Below.refl _ _).drew)
    have NV : Hid (w3.drew.heap[xb]? = some (.cells #[.int .i64 7, .int .i64 (ia : Int), .int .i64 (ib : Int), .int .i64 an] 45)) := NB.out
    clear DW SW NB
    generalize w3.drew = u1 at *
    refine wpAnyT_take (i := 0) (oi := { dst := some 131, op := Op.move (Operand.tmp 0), type := 53, pos := "ref.go:197", after := #[], guard := none }) (v := .pointer (some ⟨rb, 0, none⟩)) [12, 13, 14, 15] rfl (by kernel_rfl) (by kernel_rfl) (by kernel_rfl) (by kernel_rfl) (fun _ _ _ h => h) (Or.inl ⟨by rfl, ?_⟩) KP.out ?_
    · intro wq hSw
      obtain ⟨y0, y1⟩ := hSw
      go_simp
    (try simp only [Act.put, List.setIfInBounds_toArray, List.set_cons_zero, List.set_cons_succ])
    refine wpAnyT_take (i := 1) (oi := { dst := some 132, op := Op.fieldAddr 45 (Operand.tmp 5) 1, type := 0, pos := "ref.go:197", after := #[], guard := none }) (v := .pointer (some ⟨xb, 1, none⟩)) [2, 14, 15] rfl (by kernel_rfl) (by kernel_rfl) (by kernel_rfl) (by kernel_rfl) (fun _ _ _ h => h) (Or.inl ⟨by rfl, ?_⟩) KP.out ?_
    · intro wq hSw
      obtain ⟨y0, y1⟩ := hSw
      go_simp
    (try simp only [Act.put, List.setIfInBounds_toArray, List.set_cons_zero, List.set_cons_succ])
    refine wpAnyT_take (i := 2) (oi := { dst := some 133, op := Op.load 3 (Operand.tmp 132), type := 3, pos := "ref.go:197", after := #[{ on := 1, ground := Ground.data }], guard := none }) (v := .int .i64 (ia : Int)) [14, 15] rfl (by kernel_rfl) (by kernel_rfl) (by kernel_rfl) (by kernel_rfl) (fun _ _ _ h => h) (Or.inl ⟨by rfl, ?_⟩) KP.out ?_
    · intro wq hSw
      obtain ⟨y0, y1⟩ := hSw
      go_simp
    (try simp only [Act.put, List.setIfInBounds_toArray, List.set_cons_zero, List.set_cons_succ])
    refine wpAnyT_take (i := 3) (oi := { dst := some 134, op := Op.move (Operand.tmp 0), type := 53, pos := "ref.go:197", after := #[], guard := none }) (v := .pointer (some ⟨rb, 0, none⟩)) [6, 7, 8, 9, 10, 11, 15] rfl (by kernel_rfl) (by kernel_rfl) (by kernel_rfl) (by kernel_rfl) (fun _ _ _ h => h) (Or.inl ⟨by rfl, ?_⟩) KP.out ?_
    · intro wq hSw
      obtain ⟨y0, y1⟩ := hSw
      go_simp
    (try simp only [Act.put, List.setIfInBounds_toArray, List.set_cons_zero, List.set_cons_succ])
    refine wpAnyT_take (i := 4) (oi := { dst := some 135, op := Op.fieldAddr 45 (Operand.tmp 5) 1, type := 0, pos := "ref.go:197", after := #[], guard := none }) (v := .pointer (some ⟨xb, 1, none⟩)) [5, 8, 9, 10, 11, 15] rfl (by kernel_rfl) (by kernel_rfl) (by kernel_rfl) (by kernel_rfl) (fun _ _ _ h => h) (Or.inl ⟨by rfl, ?_⟩) KP.out ?_
    · intro wq hSw
      obtain ⟨y0, y1⟩ := hSw
      go_simp
    (try simp only [Act.put, List.setIfInBounds_toArray, List.set_cons_zero, List.set_cons_succ])
    refine wpAnyT_take (i := 5) (oi := { dst := some 136, op := Op.load 3 (Operand.tmp 135), type := 3, pos := "ref.go:197", after := #[{ on := 4, ground := Ground.data }], guard := none }) (v := .int .i64 (ia : Int)) [8, 9, 10, 11, 15] rfl (by kernel_rfl) (by kernel_rfl) (by kernel_rfl) (by kernel_rfl) (fun _ _ _ h => h) (Or.inl ⟨by rfl, ?_⟩) KP.out ?_
    · intro wq hSw
      obtain ⟨y0, y1⟩ := hSw
      go_simp
    (try simp only [Act.put, List.setIfInBounds_toArray, List.set_cons_zero, List.set_cons_succ])
    refine wpAnyT_take (i := 6) (oi := { dst := some 137, op := Op.nilCheck (Operand.tmp 134), type := 0, pos := "ref.go:197", after := #[{ on := 3, ground := Ground.data }], guard := none }) (v := .pointer (some ⟨rb, 0, none⟩)) [7, 8, 9, 10, 11, 15] rfl (by kernel_rfl) (by kernel_rfl) (by kernel_rfl) (by kernel_rfl) (fun _ _ _ h => h) (Or.inl ⟨by rfl, ?_⟩) KP.out ?_
    · intro wq hSw
      obtain ⟨y0, y1⟩ := hSw
      go_simp
    (try simp only [Act.put, List.setIfInBounds_toArray, List.set_cons_zero, List.set_cons_succ])
    refine wpAnyT_take (i := 7) (oi := { dst := some 138, op := Op.fieldAddr 63 (Operand.tmp 137) 3, type := 0, pos := "ref.go:197", after := #[{ on := 6, ground := Ground.data }], guard := none }) (v := .pointer (some ⟨rb, 9, none⟩)) [8, 9, 10, 11, 15] rfl (by kernel_rfl) (by kernel_rfl) (by kernel_rfl) (by kernel_rfl) (fun _ _ _ h => h) (Or.inl ⟨by rfl, ?_⟩) KP.out ?_
    · intro wq hSw
      obtain ⟨y0, y1⟩ := hSw
      go_simp
    (try simp only [Act.put, List.setIfInBounds_toArray, List.set_cons_zero, List.set_cons_succ])
    refine wpAnyT_take (i := 8) (oi := { dst := some 139, op := Op.indexAddr 60 (Operand.tmp 138) (Operand.tmp 136), type := 0, pos := "ref.go:197", after := #[{ on := 7, ground := Ground.data }, { on := 5, ground := Ground.data }], guard := none }) (v := .pointer (some ⟨rb, 9 + ia, none⟩)) [9, 10, 11, 15] rfl (by kernel_rfl) (by kernel_rfl) (by kernel_rfl) (by kernel_rfl) (fun _ _ _ h => h) (Or.inl ⟨by rfl, ?_⟩) KP.out ?_
    · intro wq hSw
      obtain ⟨y0, y1⟩ := hSw
      go_simp
    (try simp only [Act.put, List.setIfInBounds_toArray, List.set_cons_zero, List.set_cons_succ])
    refine wpAnyT_take (i := 9) (oi := { dst := some 140, op := Op.load 29 (Operand.tmp 139), type := 29, pos := "ref.go:197", after := #[{ on := 8, ground := Ground.data }], guard := none }) (v := .slice (some ⟨lg, 0, none⟩) ln lc) [10, 11, 15] rfl (by kernel_rfl) (by kernel_rfl) (by kernel_rfl) (by kernel_rfl) (fun _ _ _ h => h) (Or.inl ⟨by rfl, ?_⟩) KP.out ?_
    · intro wq hSw
      obtain ⟨y0, y1⟩ := hSw
      go_simp
    (try simp only [Act.put, List.setIfInBounds_toArray, List.set_cons_zero, List.set_cons_succ])
    refine wpAnyT_take (i := 10) (oi := { dst := some 141, op := Op.slice 29 (Operand.tmp 140) (some (Operand.const (Value.int IntKind.i64 1))) none none, type := 29, pos := "ref.go:197", after := #[{ on := 9, ground := Ground.data }], guard := none }) (v := .slice (if lc = 1 then some ⟨lg, 0, none⟩ else some ⟨lg, 1, none⟩) (ln - 1) (lc - 1)) [11, 15] rfl (by kernel_rfl) (by kernel_rfl) (by kernel_rfl) (by kernel_rfl) (fun _ _ _ h => h) (Or.inl ⟨by rfl, ?_⟩) KP.out ?_
    · intro wq hSw
      obtain ⟨y0, y1⟩ := hSw
      go_simp
    (try simp only [Act.put, List.setIfInBounds_toArray, List.set_cons_zero, List.set_cons_succ])
    refine wpAnyT_take (i := 12) (oi := { dst := some 143, op := Op.nilCheck (Operand.tmp 131), type := 0, pos := "ref.go:197", after := #[{ on := 0, ground := Ground.data }], guard := none }) (v := .pointer (some ⟨rb, 0, none⟩)) [13, 14, 15] rfl (by kernel_rfl) (by kernel_rfl) (by kernel_rfl) (by kernel_rfl) (fun _ _ _ h => h) (Or.inl ⟨by rfl, ?_⟩) KP.out ?_
    · intro wq hSw
      obtain ⟨y0, y1⟩ := hSw
      go_simp
    (try simp only [Act.put, List.setIfInBounds_toArray, List.set_cons_zero, List.set_cons_succ])
    refine wpAnyT_take (i := 13) (oi := { dst := some 144, op := Op.fieldAddr 63 (Operand.tmp 143) 3, type := 0, pos := "ref.go:197", after := #[{ on := 12, ground := Ground.data }], guard := none }) (v := .pointer (some ⟨rb, 9, none⟩)) [14, 15] rfl (by kernel_rfl) (by kernel_rfl) (by kernel_rfl) (by kernel_rfl) (fun _ _ _ h => h) (Or.inl ⟨by rfl, ?_⟩) KP.out ?_
    · intro wq hSw
      obtain ⟨y0, y1⟩ := hSw
      go_simp
    (try simp only [Act.put, List.setIfInBounds_toArray, List.set_cons_zero, List.set_cons_succ])
    obtain ⟨a7, n7, c7, w7, r7, F7⟩ := popQ DV.out hia HQX.out HRL.out HE7.out
    have K7 : Hid (w7.cell? ⟨xb, 1, none⟩ = some (.int .i64 (ia : Int)) ∧ w7.cell? ⟨rb, 9 + ia, none⟩ = some (.slice (some ⟨lg, 0, none⟩) ln lc)) := ⟨(World.cell?_of_block (F7.out.2.2.2.2 xb (heap_lt NV.out))).trans KP.out.1, F7.out.2.2.1⟩
    refine wpAnyT_one (i := 11) (o := { dst := some 142, op := Op.call { callee := Callee.builtin Builtin.append, args := #[Operand.const (Value.slice none 0 0), Operand.tmp 141], argTypes := #[29, 29] }, type := 29, pos := "ref.go:197", after := #[{ on := 10, ground := Ground.data }], guard := none }) (by kernel_rfl) rfl (fun K hK => ?_)
    rw [if_pos (by simp [Region.wanted])]
    refine Lib.wp_append_run _ (.const (.slice none 0 0)) (.tmp 141) 29 29 rfl (.slice none 0 0) (.slice (if lc = 1 then some ⟨lg, 0, none⟩ else some ⟨lg, 1, none⟩) (ln - 1) (lc - 1)) (by simp [Act.eval]) (by simp [Act.eval]) _ w7 r7.out ?_
    refine hK.out _ _ (fun _ => K7.out) ?_
    clear hK K
    (try simp only [Act.put, List.setIfInBounds_toArray, List.set_cons_zero, List.set_cons_succ])
    refine wpAnyT_one (i := 14) (o := { dst := some 145, op := Op.indexAddr 60 (Operand.tmp 144) (Operand.tmp 133), type := 0, pos := "ref.go:197", after := #[{ on := 13, ground := Ground.data }, { on := 2, ground := Ground.data }, { on := 0, ground := Ground.phase }, { on := 1, ground := Ground.phase }, { on := 2, ground := Ground.phase }, { on := 3, ground := Ground.phase }, { on := 4, ground := Ground.phase }, { on := 5, ground := Ground.phase }, { on := 6, ground := Ground.phase }, { on := 7, ground := Ground.phase }, { on := 8, ground := Ground.phase }, { on := 9, ground := Ground.phase }, { on := 10, ground := Ground.phase }, { on := 11, ground := Ground.phase }], guard := none }) (by kernel_rfl) rfl (fun K hK => ?_)
    go_simp
    refine hK.out _ _ (fun _ => K7.out) ?_
    clear hK K
    (try simp only [Act.put, List.setIfInBounds_toArray, List.set_cons_zero, List.set_cons_succ])
    obtain ⟨-, -, k7, z7, -⟩ := F7.out
    clear K7
    refine wpAnyT_one (i := 15) (o := { dst := none, op := Op.store 29 (Operand.tmp 145) (Operand.tmp 142), type := 0, pos := "ref.go:197", after := #[{ on := 14, ground := Ground.data }, { on := 11, ground := Ground.data }, { on := 11, ground := Ground.chain }, { on := 0, ground := Ground.phase }, { on := 1, ground := Ground.phase }, { on := 2, ground := Ground.phase }, { on := 3, ground := Ground.phase }, { on := 4, ground := Ground.phase }, { on := 5, ground := Ground.phase }, { on := 6, ground := Ground.phase }, { on := 7, ground := Ground.phase }, { on := 8, ground := Ground.phase }, { on := 9, ground := Ground.phase }, { on := 10, ground := Ground.phase }, { on := 11, ground := Ground.phase }], guard := none }) (by kernel_rfl) rfl (fun K hK => ?_)
    go_simp
    refine hK.out _ _ (vac (by kernel_rfl)) ?_
    clear hK K
    (try simp only [Act.put, List.setIfInBounds_toArray, List.set_cons_zero, List.set_cons_succ])
    refine wpAnyT_done (by kernel_rfl) ?_ _
    have A4 : Hid (DA w0 us (w7.setCell ⟨rb, 9 + ia, none⟩ (.slice a7 n7 c7)) rb (up X (5 + ia) (.slice a7 n7 c7)) { E with rg := up E.rg ib x, qu := up E.qu ia r }) := F7.out.1
    have S4 : Hid (StD rb X (up X (5 + ia) (.slice a7 n7 c7)) w (w7.setCell ⟨rb, 9 + ia, none⟩ (.slice a7 n7 c7))) := SV.out.trans F7.out.2.1
    have x0' : up X (5 + ia) (.slice a7 n7 c7) 0 = X 0 := up_other _ _ (by omega)
    clear KP DV SV NV k7 z7 x1 l1 F7 r7
    generalize w7.setCell ⟨rb, 9 + ia, none⟩ (.slice a7 n7 c7) = w4 at *
    generalize up X (5 + ia) (.slice a7 n7 c7) = X' at *
    have TE : ({ E with rg := up E.rg ib x, qu := up E.qu ia r } : Ds).tk[i]? = some t := HT.out
    obtain ⟨w5, hw5, t1c, t1f, EN⟩ := fin_any A4.out S4.out TE (x0'.trans HX.out) (t.pc + 1)
    have e5 : Hid (w4.setCell ⟨g, i * 6 + 1, none⟩ (.int .i64 ((t.pc : Int) + 1)) = w5) := hw5
    clear hw5
    go_upto_region 37 with fail
    rw [e5.out]
    go_wp2_with (go_at_call 33; refine EN.out.mono ?_; rintro e w6 ⟨rfl, A6, S6⟩; replace A6 := hide A6; replace S6 := hide S6)
    all_goals (go_end0; exact ⟨rfl, X', x0', by rw [SE.out]; exact A6.out, S6.out⟩)
  by_cases k8 : ak = 8
  · subst k8
    obtain ⟨ia, hia0, hia⟩ := a8' OKA.out (by simp)
    simp only at hia0
    subst hia0
    have hia' : (ia : Int) < 8 := by omega
    have SE : Hid (STP = finD { E with rg := up E.rg ia (wrap64 (E.rg ia + an)) } i (t.pc + 1)) := by show _ = _; rw [← hSTP.out]; simp [stepE]
    have l1 := DW.out.gcell hia
    go_upto_region 26 with fail
    refine wp_region_T (fun q => q.cell? ⟨xb, 1, none⟩ = some (.int .i64 (ia : Int)) ∧ q.cell? ⟨rb, 13 + ia, none⟩ = some (.int .i64 (E.rg ia)) ∧ q.cell? ⟨xb, 3, none⟩ = some (.int .i64 an)) 16 (by kernel_rfl) ?_
    have KP : Hid (w2.drew.cell? ⟨xb, 1, none⟩ = some (.int .i64 (ia : Int)) ∧ w2.drew.cell? ⟨rb, 13 + ia, none⟩ = some (.int .i64 (E.rg ia)) ∧ w2.drew.cell? ⟨xb, 3, none⟩ = some (.int .i64 an)) := ⟨x1, l1, x3⟩
    have DV := hide (DW.out.below (Below.refl _ _).drew)
    have SV : Hid (StD rb X X w w2.drew) := SW.out.trans (StD.of_below rb X (Below.refl _ _).drew)
    have NV : Hid (w2.drew.heap[xb]? = some (.cells #[.int .i64 8, .int .i64 (ia : Int), .int .i64 bb, .int .i64 an] 45)) := NB.out
    clear DW SW NB
    generalize w2.drew = u1 at *
    refine wpAnyT_take (i := 0) (oi := { dst := some 148, op := Op.move (Operand.tmp 0), type := 53, pos := "ref.go:199", after := #[], guard := none }) (v := .pointer (some ⟨rb, 0, none⟩)) [13, 14, 15, 16] rfl (by kernel_rfl) (by kernel_rfl) (by kernel_rfl) (by kernel_rfl) (fun _ _ _ h => h) (Or.inl ⟨by rfl, ?_⟩) KP.out ?_
    · intro wq hSw
      obtain ⟨y0, y1, y2⟩ := hSw
      go_simp
    (try simp only [Act.put, List.setIfInBounds_toArray, List.set_cons_zero, List.set_cons_succ])
    refine wpAnyT_take (i := 1) (oi := { dst := some 149, op := Op.fieldAddr 45 (Operand.tmp 5) 1, type := 0, pos := "ref.go:199", after := #[], guard := none }) (v := .pointer (some ⟨xb, 1, none⟩)) [2, 15, 16] rfl (by kernel_rfl) (by kernel_rfl) (by kernel_rfl) (by kernel_rfl) (fun _ _ _ h => h) (Or.inl ⟨by rfl, ?_⟩) KP.out ?_
    · intro wq hSw
      obtain ⟨y0, y1, y2⟩ := hSw
      go_simp
    (try simp only [Act.put, List.setIfInBounds_toArray, List.set_cons_zero, List.set_cons_succ])
    refine wpAnyT_take (i := 2) (oi := { dst := some 150, op := Op.load 3 (Operand.tmp 149), type := 3, pos := "ref.go:199", after := #[{ on := 1, ground := Ground.data }], guard := none }) (v := .int .i64 (ia : Int)) [15, 16] rfl (by kernel_rfl) (by kernel_rfl) (by kernel_rfl) (by kernel_rfl) (fun _ _ _ h => h) (Or.inl ⟨by rfl, ?_⟩) KP.out ?_
    · intro wq hSw
      obtain ⟨y0, y1, y2⟩ := hSw
      go_simp
    (try simp only [Act.put, List.setIfInBounds_toArray, List.set_cons_zero, List.set_cons_succ])
    refine wpAnyT_take (i := 3) (oi := { dst := some 151, op := Op.move (Operand.tmp 0), type := 53, pos := "ref.go:199", after := #[], guard := none }) (v := .pointer (some ⟨rb, 0, none⟩)) [6, 7, 8, 9, 12, 16] rfl (by kernel_rfl) (by kernel_rfl) (by kernel_rfl) (by kernel_rfl) (fun _ _ _ h => h) (Or.inl ⟨by rfl, ?_⟩) KP.out ?_
    · intro wq hSw
      obtain ⟨y0, y1, y2⟩ := hSw
      go_simp
    (try simp only [Act.put, List.setIfInBounds_toArray, List.set_cons_zero, List.set_cons_succ])
    refine wpAnyT_take (i := 4) (oi := { dst := some 152, op := Op.fieldAddr 45 (Operand.tmp 5) 1, type := 0, pos := "ref.go:199", after := #[], guard := none }) (v := .pointer (some ⟨xb, 1, none⟩)) [5, 8, 9, 12, 16] rfl (by kernel_rfl) (by kernel_rfl) (by kernel_rfl) (by kernel_rfl) (fun _ _ _ h => h) (Or.inl ⟨by rfl, ?_⟩) KP.out ?_
    · intro wq hSw
      obtain ⟨y0, y1, y2⟩ := hSw
      go_simp
    (try simp only [Act.put, List.setIfInBounds_toArray, List.set_cons_zero, List.set_cons_succ])
    refine wpAnyT_take (i := 5) (oi := { dst := some 153, op := Op.load 3 (Operand.tmp 152), type := 3, pos := "ref.go:199", after := #[{ on := 4, ground := Ground.data }], guard := none }) (v := .int .i64 (ia : Int)) [8, 9, 12, 16] rfl (by kernel_rfl) (by kernel_rfl) (by kernel_rfl) (by kernel_rfl) (fun _ _ _ h => h) (Or.inl ⟨by rfl, ?_⟩) KP.out ?_
    · intro wq hSw
      obtain ⟨y0, y1, y2⟩ := hSw
      go_simp
    (try simp only [Act.put, List.setIfInBounds_toArray, List.set_cons_zero, List.set_cons_succ])
    refine wpAnyT_take (i := 6) (oi := { dst := some 154, op := Op.nilCheck (Operand.tmp 151), type := 0, pos := "ref.go:199", after := #[{ on := 3, ground := Ground.data }], guard := none }) (v := .pointer (some ⟨rb, 0, none⟩)) [7, 8, 9, 12, 16] rfl (by kernel_rfl) (by kernel_rfl) (by kernel_rfl) (by kernel_rfl) (fun _ _ _ h => h) (Or.inl ⟨by rfl, ?_⟩) KP.out ?_
    · intro wq hSw
      obtain ⟨y0, y1, y2⟩ := hSw
      go_simp
    (try simp only [Act.put, List.setIfInBounds_toArray, List.set_cons_zero, List.set_cons_succ])
    refine wpAnyT_take (i := 7) (oi := { dst := some 155, op := Op.fieldAddr 63 (Operand.tmp 154) 4, type := 0, pos := "ref.go:199", after := #[{ on := 6, ground := Ground.data }], guard := none }) (v := .pointer (some ⟨rb, 13, none⟩)) [8, 9, 12, 16] rfl (by kernel_rfl) (by kernel_rfl) (by kernel_rfl) (by kernel_rfl) (fun _ _ _ h => h) (Or.inl ⟨by rfl, ?_⟩) KP.out ?_
    · intro wq hSw
      obtain ⟨y0, y1, y2⟩ := hSw
      go_simp
    (try simp only [Act.put, List.setIfInBounds_toArray, List.set_cons_zero, List.set_cons_succ])
    refine wpAnyT_take (i := 8) (oi := { dst := some 156, op := Op.indexAddr 61 (Operand.tmp 155) (Operand.tmp 153), type := 0, pos := "ref.go:199", after := #[{ on := 7, ground := Ground.data }, { on := 5, ground := Ground.data }], guard := none }) (v := .pointer (some ⟨rb, 13 + ia, none⟩)) [9, 12, 16] rfl (by kernel_rfl) (by kernel_rfl) (by kernel_rfl) (by kernel_rfl) (fun _ _ _ h => h) (Or.inl ⟨by rfl, ?_⟩) KP.out ?_
    · intro wq hSw
      obtain ⟨y0, y1, y2⟩ := hSw
      go_simp
    (try simp only [Act.put, List.setIfInBounds_toArray, List.set_cons_zero, List.set_cons_succ])
    refine wpAnyT_take (i := 9) (oi := { dst := some 157, op := Op.load 2 (Operand.tmp 156), type := 2, pos := "ref.go:199", after := #[{ on := 8, ground := Ground.data }], guard := none }) (v := .int .i64 (E.rg ia)) [12, 16] rfl (by kernel_rfl) (by kernel_rfl) (by kernel_rfl) (by kernel_rfl) (fun _ _ _ h => h) (Or.inl ⟨by rfl, ?_⟩) KP.out ?_
    · intro wq hSw
      obtain ⟨y0, y1, y2⟩ := hSw
      go_simp
    (try simp only [Act.put, List.setIfInBounds_toArray, List.set_cons_zero, List.set_cons_succ])
    refine wpAnyT_take (i := 10) (oi := { dst := some 158, op := Op.fieldAddr 45 (Operand.tmp 5) 3, type := 0, pos := "ref.go:199", after := #[], guard := none }) (v := .pointer (some ⟨xb, 3, none⟩)) [11, 12, 16] rfl (by kernel_rfl) (by kernel_rfl) (by kernel_rfl) (by kernel_rfl) (fun _ _ _ h => h) (Or.inl ⟨by rfl, ?_⟩) KP.out ?_
    · intro wq hSw
      obtain ⟨y0, y1, y2⟩ := hSw
      go_simp
    (try simp only [Act.put, List.setIfInBounds_toArray, List.set_cons_zero, List.set_cons_succ])
    refine wpAnyT_take (i := 11) (oi := { dst := some 159, op := Op.load 2 (Operand.tmp 158), type := 2, pos := "ref.go:199", after := #[{ on := 10, ground := Ground.data }], guard := none }) (v := .int .i64 an) [12, 16] rfl (by kernel_rfl) (by kernel_rfl) (by kernel_rfl) (by kernel_rfl) (fun _ _ _ h => h) (Or.inl ⟨by rfl, ?_⟩) KP.out ?_
    · intro wq hSw
      obtain ⟨y0, y1, y2⟩ := hSw
      go_simp
    (try simp only [Act.put, List.setIfInBounds_toArray, List.set_cons_zero, List.set_cons_succ])
    refine wpAnyT_take (i := 12) (oi := { dst := some 160, op := Op.binOp BinOp.add 2 (Operand.tmp 157) (Operand.tmp 159) 2, type := 2, pos := "ref.go:199", after := #[{ on := 9, ground := Ground.data }, { on := 11, ground := Ground.data }], guard := none }) (v := .int .i64 (wrap64 (E.rg ia + an))) [16] rfl (by kernel_rfl) (by kernel_rfl) (by kernel_rfl) (by kernel_rfl) (fun _ _ _ h => h) (Or.inl ⟨by rfl, ?_⟩) KP.out ?_
    · intro wq hSw
      obtain ⟨y0, y1, y2⟩ := hSw
      go_simp
      first | exact Go.IntWalk.i64_left _ | (rw [IntKind.wrap_i64]; rfl) | (rw [IntKind.wrap_i64, wrap64])
    (try simp only [Act.put, List.setIfInBounds_toArray, List.set_cons_zero, List.set_cons_succ])
    refine wpAnyT_take (i := 13) (oi := { dst := some 161, op := Op.nilCheck (Operand.tmp 148), type := 0, pos := "ref.go:199", after := #[{ on := 0, ground := Ground.data }], guard := none }) (v := .pointer (some ⟨rb, 0, none⟩)) [14, 15, 16] rfl (by kernel_rfl) (by kernel_rfl) (by kernel_rfl) (by kernel_rfl) (fun _ _ _ h => h) (Or.inl ⟨by rfl, ?_⟩) KP.out ?_
    · intro wq hSw
      obtain ⟨y0, y1, y2⟩ := hSw
      go_simp
    (try simp only [Act.put, List.setIfInBounds_toArray, List.set_cons_zero, List.set_cons_succ])
    refine wpAnyT_take (i := 14) (oi := { dst := some 162, op := Op.fieldAddr 63 (Operand.tmp 161) 4, type := 0, pos := "ref.go:199", after := #[{ on := 13, ground := Ground.data }], guard := none }) (v := .pointer (some ⟨rb, 13, none⟩)) [15, 16] rfl (by kernel_rfl) (by kernel_rfl) (by kernel_rfl) (by kernel_rfl) (fun _ _ _ h => h) (Or.inl ⟨by rfl, ?_⟩) KP.out ?_
    · intro wq hSw
      obtain ⟨y0, y1, y2⟩ := hSw
      go_simp
    (try simp only [Act.put, List.setIfInBounds_toArray, List.set_cons_zero, List.set_cons_succ])
    refine wpAnyT_take (i := 15) (oi := { dst := some 163, op := Op.indexAddr 61 (Operand.tmp 162) (Operand.tmp 150), type := 0, pos := "ref.go:199", after := #[{ on := 14, ground := Ground.data }, { on := 2, ground := Ground.data }, { on := 0, ground := Ground.phase }, { on := 1, ground := Ground.phase }, { on := 2, ground := Ground.phase }, { on := 3, ground := Ground.phase }, { on := 4, ground := Ground.phase }, { on := 5, ground := Ground.phase }, { on := 6, ground := Ground.phase }, { on := 7, ground := Ground.phase }, { on := 8, ground := Ground.phase }, { on := 9, ground := Ground.phase }, { on := 10, ground := Ground.phase }, { on := 11, ground := Ground.phase }, { on := 12, ground := Ground.phase }], guard := none }) (v := .pointer (some ⟨rb, 13 + ia, none⟩)) [16] rfl (by kernel_rfl) (by kernel_rfl) (by kernel_rfl) (by kernel_rfl) (fun _ _ _ h => h) (Or.inl ⟨by rfl, ?_⟩) KP.out ?_
    · intro wq hSw
      obtain ⟨y0, y1, y2⟩ := hSw
      go_simp
    (try simp only [Act.put, List.setIfInBounds_toArray, List.set_cons_zero, List.set_cons_succ])
    have cw1 := DV.out.gcell hia
    have cw2 := DV.out.frz (13 + ia)
    refine wpAnyT_one (i := 16) (o := { dst := none, op := Op.store 2 (Operand.tmp 163) (Operand.tmp 160), type := 0, pos := "ref.go:199", after := #[{ on := 15, ground := Ground.data }, { on := 12, ground := Ground.data }, { on := 0, ground := Ground.phase }, { on := 1, ground := Ground.phase }, { on := 2, ground := Ground.phase }, { on := 3, ground := Ground.phase }, { on := 4, ground := Ground.phase }, { on := 5, ground := Ground.phase }, { on := 6, ground := Ground.phase }, { on := 7, ground := Ground.phase }, { on := 8, ground := Ground.phase }, { on := 9, ground := Ground.phase }, { on := 10, ground := Ground.phase }, { on := 11, ground := Ground.phase }, { on := 12, ground := Ground.phase }], guard := none }) (by kernel_rfl) rfl (fun K hK => ?_)
    go_simp
    refine hK.out _ _ (vac (by kernel_rfl)) ?_
    clear hK K
    (try simp only [Act.put, List.setIfInBounds_toArray, List.set_cons_zero, List.set_cons_succ])
    refine wpAnyT_done (by kernel_rfl) ?_ _
    obtain ⟨A4', s4⟩ := DV.out.setG hia (wrap64 (E.rg ia + an))
    have A4 : Hid (DA w0 us (u1.setCell ⟨rb, 13 + ia, none⟩ (.int .i64 (wrap64 (E.rg ia + an)))) rb X { E with rg := up E.rg ia (wrap64 (E.rg ia + an)) }) := A4'
    have S4 : Hid (StD rb X X w (u1.setCell ⟨rb, 13 + ia, none⟩ (.int .i64 (wrap64 (E.rg ia + an))))) := SV.out.trans s4
    clear s4 A4'
    clear KP DV SV NV cw1 cw2 x0 x1 x2 x3 p1 p3 l1
    generalize u1.setCell ⟨rb, 13 + ia, none⟩ (.int .i64 (wrap64 (E.rg ia + an))) = w4 at *
    have TE : ({ E with rg := up E.rg ia (wrap64 (E.rg ia + an)) } : Ds).tk[i]? = some t := HT.out
    obtain ⟨w5, hw5, t1c, t1f, EN⟩ := fin_any A4.out S4.out TE HX.out (t.pc + 1)
    have e5 : Hid (w4.setCell ⟨g, i * 6 + 1, none⟩ (.int .i64 ((t.pc : Int) + 1)) = w5) := hw5
    clear hw5
    go_upto_region 37 with fail
    rw [e5.out]
    go_wp2_with (go_at_call 33; refine EN.out.mono ?_; rintro e w6 ⟨rfl, A6, S6⟩; replace A6 := hide A6; replace S6 := hide S6)
    all_goals (go_end0; exact ⟨rfl, X, rfl, by rw [SE.out]; exact A6.out, S6.out⟩)
  by_cases k9 : ak = 9
  · subst k9
    obtain ⟨ia, hia0, hia⟩ := a8' OKA.out (by simp)
    simp only at hia0
    subst hia0
    have hia' : (ia : Int) < 8 := by omega
    obtain ⟨ib, hib0, hib⟩ := b8' OKA.out (by simp)
    simp only at hib0
    subst hib0
    have hib' : (ib : Int) < 8 := by omega
    have SE : Hid (STP = finD { E with rg := up E.rg ib (E.rg ia) } i (t.pc + 1)) := by show _ = _; rw [← hSTP.out]; simp [stepE]
    have l1 := DW.out.gcell hia
    go_upto_region 28 with fail
    refine wp_region_T (fun q => q.cell? ⟨xb, 2, none⟩ = some (.int .i64 (ib : Int)) ∧ q.cell? ⟨xb, 1, none⟩ = some (.int .i64 (ia : Int)) ∧ q.cell? ⟨rb, 13 + ia, none⟩ = some (.int .i64 (E.rg ia))) 13 (by kernel_rfl) ?_
    have KP : Hid (w2.drew.cell? ⟨xb, 2, none⟩ = some (.int .i64 (ib : Int)) ∧ w2.drew.cell? ⟨xb, 1, none⟩ = some (.int .i64 (ia : Int)) ∧ w2.drew.cell? ⟨rb, 13 + ia, none⟩ = some (.int .i64 (E.rg ia))) := ⟨x2, x1, l1⟩
    have DV := hide (DW.out.below (Below.refl _ _).drew)
    have SV : Hid (StD rb X X w w2.drew) := SW.out.trans (StD.of_below rb X (Below.refl _ _).drew)
    have NV : Hid (w2.drew.heap[xb]? = some (.cells #[.int .i64 9, .int .i64 (ia : Int), .int .i64 (ib : Int), .int .i64 an] 45)) := NB.out
    clear DW SW NB
    generalize w2.drew = u1 at *
    refine wpAnyT_take (i := 0) (oi := { dst := some 166, op := Op.move (Operand.tmp 0), type := 53, pos := "ref.go:201", after := #[], guard := none }) (v := .pointer (some ⟨rb, 0, none⟩)) [10, 11, 12, 13] rfl (by kernel_rfl) (by kernel_rfl) (by kernel_rfl) (by kernel_rfl) (fun _ _ _ h => h) (Or.inl ⟨by rfl, ?_⟩) KP.out ?_
    · intro wq hSw
      obtain ⟨y0, y1, y2⟩ := hSw
      go_simp
    (try simp only [Act.put, List.setIfInBounds_toArray, List.set_cons_zero, List.set_cons_succ])
    refine wpAnyT_take (i := 1) (oi := { dst := some 167, op := Op.fieldAddr 45 (Operand.tmp 5) 2, type := 0, pos := "ref.go:201", after := #[], guard := none }) (v := .pointer (some ⟨xb, 2, none⟩)) [2, 12, 13] rfl (by kernel_rfl) (by kernel_rfl) (by kernel_rfl) (by kernel_rfl) (fun _ _ _ h => h) (Or.inl ⟨by rfl, ?_⟩) KP.out ?_
    · intro wq hSw
      obtain ⟨y0, y1, y2⟩ := hSw
      go_simp
    (try simp only [Act.put, List.setIfInBounds_toArray, List.set_cons_zero, List.set_cons_succ])
    refine wpAnyT_take (i := 2) (oi := { dst := some 168, op := Op.load 3 (Operand.tmp 167), type := 3, pos := "ref.go:201", after := #[{ on := 1, ground := Ground.data }], guard := none }) (v := .int .i64 (ib : Int)) [12, 13] rfl (by kernel_rfl) (by kernel_rfl) (by kernel_rfl) (by kernel_rfl) (fun _ _ _ h => h) (Or.inl ⟨by rfl, ?_⟩) KP.out ?_
    · intro wq hSw
      obtain ⟨y0, y1, y2⟩ := hSw
      go_simp
    (try simp only [Act.put, List.setIfInBounds_toArray, List.set_cons_zero, List.set_cons_succ])
    refine wpAnyT_take (i := 3) (oi := { dst := some 169, op := Op.move (Operand.tmp 0), type := 53, pos := "ref.go:201", after := #[], guard := none }) (v := .pointer (some ⟨rb, 0, none⟩)) [6, 7, 8, 9, 13] rfl (by kernel_rfl) (by kernel_rfl) (by kernel_rfl) (by kernel_rfl) (fun _ _ _ h => h) (Or.inl ⟨by rfl, ?_⟩) KP.out ?_
    · intro wq hSw
      obtain ⟨y0, y1, y2⟩ := hSw
      go_simp
    (try simp only [Act.put, List.setIfInBounds_toArray, List.set_cons_zero, List.set_cons_succ])
    refine wpAnyT_take (i := 4) (oi := { dst := some 170, op := Op.fieldAddr 45 (Operand.tmp 5) 1, type := 0, pos := "ref.go:201", after := #[], guard := none }) (v := .pointer (some ⟨xb, 1, none⟩)) [5, 8, 9, 13] rfl (by kernel_rfl) (by kernel_rfl) (by kernel_rfl) (by kernel_rfl) (fun _ _ _ h => h) (Or.inl ⟨by rfl, ?_⟩) KP.out ?_
    · intro wq hSw
      obtain ⟨y0, y1, y2⟩ := hSw
      go_simp
    (try simp only [Act.put, List.setIfInBounds_toArray, List.set_cons_zero, List.set_cons_succ])
    refine wpAnyT_take (i := 5) (oi := { dst := some 171, op := Op.load 3 (Operand.tmp 170), type := 3, pos := "ref.go:201", after := #[{ on := 4, ground := Ground.data }], guard := none }) (v := .int .i64 (ia : Int)) [8, 9, 13] rfl (by kernel_rfl) (by kernel_rfl) (by kernel_rfl) (by kernel_rfl) (fun _ _ _ h => h) (Or.inl ⟨by rfl, ?_⟩) KP.out ?_
    · intro wq hSw
      obtain ⟨y0, y1, y2⟩ := hSw
      go_simp
    (try simp only [Act.put, List.setIfInBounds_toArray, List.set_cons_zero, List.set_cons_succ])
    refine wpAnyT_take (i := 6) (oi := { dst := some 172, op := Op.nilCheck (Operand.tmp 169), type := 0, pos := "ref.go:201", after := #[{ on := 3, ground := Ground.data }], guard := none }) (v := .pointer (some ⟨rb, 0, none⟩)) [7, 8, 9, 13] rfl (by kernel_rfl) (by kernel_rfl) (by kernel_rfl) (by kernel_rfl) (fun _ _ _ h => h) (Or.inl ⟨by rfl, ?_⟩) KP.out ?_
    · intro wq hSw
      obtain ⟨y0, y1, y2⟩ := hSw
      go_simp
    (try simp only [Act.put, List.setIfInBounds_toArray, List.set_cons_zero, List.set_cons_succ])
    refine wpAnyT_take (i := 7) (oi := { dst := some 173, op := Op.fieldAddr 63 (Operand.tmp 172) 4, type := 0, pos := "ref.go:201", after := #[{ on := 6, ground := Ground.data }], guard := none }) (v := .pointer (some ⟨rb, 13, none⟩)) [8, 9, 13] rfl (by kernel_rfl) (by kernel_rfl) (by kernel_rfl) (by kernel_rfl) (fun _ _ _ h => h) (Or.inl ⟨by rfl, ?_⟩) KP.out ?_
    · intro wq hSw
      obtain ⟨y0, y1, y2⟩ := hSw
      go_simp
    (try simp only [Act.put, List.setIfInBounds_toArray, List.set_cons_zero, List.set_cons_succ])
    refine wpAnyT_take (i := 8) (oi := { dst := some 174, op := Op.indexAddr 61 (Operand.tmp 173) (Operand.tmp 171), type := 0, pos := "ref.go:201", after := #[{ on := 7, ground := Ground.data }, { on := 5, ground := Ground.data }], guard := none }) (v := .pointer (some ⟨rb, 13 + ia, none⟩)) [9, 13] rfl (by kernel_rfl) (by kernel_rfl) (by kernel_rfl) (by kernel_rfl) (fun _ _ _ h => h) (Or.inl ⟨by rfl, ?_⟩) KP.out ?_
    · intro wq hSw
      obtain ⟨y0, y1, y2⟩ := hSw
      go_simp
    (try simp only [Act.put, List.setIfInBounds_toArray, List.set_cons_zero, List.set_cons_succ])
    refine wpAnyT_take (i := 9) (oi := { dst := some 175, op := Op.load 2 (Operand.tmp 174), type := 2, pos := "ref.go:201", after := #[{ on := 8, ground := Ground.data }], guard := none }) (v := .int .i64 (E.rg ia)) [13] rfl (by kernel_rfl) (by kernel_rfl) (by kernel_rfl) (by kernel_rfl) (fun _ _ _ h => h) (Or.inl ⟨by rfl, ?_⟩) KP.out ?_
    · intro wq hSw
      obtain ⟨y0, y1, y2⟩ := hSw
      go_simp
    (try simp only [Act.put, List.setIfInBounds_toArray, List.set_cons_zero, List.set_cons_succ])
    refine wpAnyT_take (i := 10) (oi := { dst := some 176, op := Op.nilCheck (Operand.tmp 166), type := 0, pos := "ref.go:201", after := #[{ on := 0, ground := Ground.data }], guard := none }) (v := .pointer (some ⟨rb, 0, none⟩)) [11, 12, 13] rfl (by kernel_rfl) (by kernel_rfl) (by kernel_rfl) (by kernel_rfl) (fun _ _ _ h => h) (Or.inl ⟨by rfl, ?_⟩) KP.out ?_
    · intro wq hSw
      obtain ⟨y0, y1, y2⟩ := hSw
      go_simp
    (try simp only [Act.put, List.setIfInBounds_toArray, List.set_cons_zero, List.set_cons_succ])
    refine wpAnyT_take (i := 11) (oi := { dst := some 177, op := Op.fieldAddr 63 (Operand.tmp 176) 4, type := 0, pos := "ref.go:201", after := #[{ on := 10, ground := Ground.data }], guard := none }) (v := .pointer (some ⟨rb, 13, none⟩)) [12, 13] rfl (by kernel_rfl) (by kernel_rfl) (by kernel_rfl) (by kernel_rfl) (fun _ _ _ h => h) (Or.inl ⟨by rfl, ?_⟩) KP.out ?_
    · intro wq hSw
      obtain ⟨y0, y1, y2⟩ := hSw
      go_simp
    (try simp only [Act.put, List.setIfInBounds_toArray, List.set_cons_zero, List.set_cons_succ])
    refine wpAnyT_take (i := 12) (oi := { dst := some 178, op := Op.indexAddr 61 (Operand.tmp 177) (Operand.tmp 168), type := 0, pos := "ref.go:201", after := #[{ on := 11, ground := Ground.data }, { on := 2, ground := Ground.data }, { on := 0, ground := Ground.phase }, { on := 1, ground := Ground.phase }, { on := 2, ground := Ground.phase }, { on := 3, ground := Ground.phase }, { on := 4, ground := Ground.phase }, { on := 5, ground := Ground.phase }, { on := 6, ground := Ground.phase }, { on := 7, ground := Ground.phase }, { on := 8, ground := Ground.phase }, { on := 9, ground := Ground.phase }], guard := none }) (v := .pointer (some ⟨rb, 13 + ib, none⟩)) [13] rfl (by kernel_rfl) (by kernel_rfl) (by kernel_rfl) (by kernel_rfl) (fun _ _ _ h => h) (Or.inl ⟨by rfl, ?_⟩) KP.out ?_
    · intro wq hSw
      obtain ⟨y0, y1, y2⟩ := hSw
      go_simp
    (try simp only [Act.put, List.setIfInBounds_toArray, List.set_cons_zero, List.set_cons_succ])
    have cw1 := DV.out.gcell hib
    have cw2 := DV.out.frz (13 + ib)
    refine wpAnyT_one (i := 13) (o := { dst := none, op := Op.store 2 (Operand.tmp 178) (Operand.tmp 175), type := 0, pos := "ref.go:201", after := #[{ on := 12, ground := Ground.data }, { on := 9, ground := Ground.data }, { on := 0, ground := Ground.phase }, { on := 1, ground := Ground.phase }, { on := 2, ground := Ground.phase }, { on := 3, ground := Ground.phase }, { on := 4, ground := Ground.phase }, { on := 5, ground := Ground.phase }, { on := 6, ground := Ground.phase }, { on := 7, ground := Ground.phase }, { on := 8, ground := Ground.phase }, { on := 9, ground := Ground.phase }], guard := none }) (by kernel_rfl) rfl (fun K hK => ?_)
    go_simp
    refine hK.out _ _ (vac (by kernel_rfl)) ?_
    clear hK K
    (try simp only [Act.put, List.setIfInBounds_toArray, List.set_cons_zero, List.set_cons_succ])
    refine wpAnyT_done (by kernel_rfl) ?_ _
    obtain ⟨A4', s4⟩ := DV.out.setG hib (E.rg ia)
    have A4 : Hid (DA w0 us (u1.setCell ⟨rb, 13 + ib, none⟩ (.int .i64 (E.rg ia))) rb X { E with rg := up E.rg ib (E.rg ia) }) := A4'
    have S4 : Hid (StD rb X X w (u1.setCell ⟨rb, 13 + ib, none⟩ (.int .i64 (E.rg ia)))) := SV.out.trans s4
    clear s4 A4'
    clear KP DV SV NV cw1 cw2 x0 x1 x2 x3 p1 p3 l1
    generalize u1.setCell ⟨rb, 13 + ib, none⟩ (.int .i64 (E.rg ia)) = w4 at *
    have TE : ({ E with rg := up E.rg ib (E.rg ia) } : Ds).tk[i]? = some t := HT.out
    obtain ⟨w5, hw5, t1c, t1f, EN⟩ := fin_any A4.out S4.out TE HX.out (t.pc + 1)
    have e5 : Hid (w4.setCell ⟨g, i * 6 + 1, none⟩ (.int .i64 ((t.pc : Int) + 1)) = w5) := hw5
    clear hw5
    go_upto_region 37 with fail
    rw [e5.out]
    go_wp2_with (go_at_call 33; refine EN.out.mono ?_; rintro e w6 ⟨rfl, A6, S6⟩; replace A6 := hide A6; replace S6 := hide S6)
    all_goals (go_end0; exact ⟨rfl, X, rfl, by rw [SE.out]; exact A6.out, S6.out⟩)
  by_cases k10 : ak = 10
  · subst k10
    obtain ⟨ia, hia0, hia⟩ := a8' OKA.out (by simp)
    simp only at hia0
    subst hia0
    have hia' : (ia : Int) < 8 := by omega
    obtain ⟨nn, hnn, hnb⟩ : ∃ nn : Nat, an = (nn : Int) ∧ nn ≤ 255 := by
      have := OKA.out.n
      simp [nOk] at this
      exact ⟨an.toNat, by omega, by omega⟩
    subst hnn
    have hnb' : (nn : Int) ≤ 255 := by omega
    have l1 := DW.out.gcell hia
    by_cases hz : E.rg ia = 0
    · have SE : Hid (STP = finD E i (t.pc + 1 + nn)) := by show _ = _; rw [← hSTP.out]; simp [stepE, hz]
      rw [hz] at l1
      go_upto_region 30 with fail
      go_quiet (fail)
      have A4 : Hid (DA w0 us (w2.drewN nq) rb X E) := DW.out.below (Qt.below ⟨_, rfl⟩ _)
      have S4 : Hid (StD rb X X w (w2.drewN nq)) := SW.out.trans (StD.of_below rb X (Qt.below ⟨_, rfl⟩ _))
      have TE := HT.out
      go_upto_region 36 with fail
      generalize w2.drewN nq = w4 at *
      clear DW SW NB x0 x1 x2 x3 l1 p1 p3
      obtain ⟨w5, hw5, t1c, t1f, EN⟩ := fin_any A4.out S4.out TE HX.out (t.pc + 1 + nn)
      have e5 : Hid (w4.setCell ⟨g, i * 6 + 1, none⟩ (.int .i64 ((t.pc : Int) + 1 + (nn : Int))) = w5) := hw5
      clear hw5
      go_upto_region 37 with fail
      rw [e5.out]
      go_wp2_with (go_at_call 33; refine EN.out.mono ?_; rintro e w6 ⟨rfl, A6, S6⟩; replace A6 := hide A6; replace S6 := hide S6)
      all_goals (go_end0; exact ⟨rfl, X, rfl, by rw [SE.out]; exact A6.out, S6.out⟩)
    · have SE : Hid (STP = finD E i (t.pc + 1)) := by show _ = _; rw [← hSTP.out]; simp [stepE, hz]
      have hz' : (E.rg ia == 0) = false := by simpa using hz
      go_upto_region 30 with fail
      go_quiet (fail)
      have A4 : Hid (DA w0 us (w2.drewN nq) rb X E) := DW.out.below (Qt.below ⟨_, rfl⟩ _)
      have S4 : Hid (StD rb X X w (w2.drewN nq)) := SW.out.trans (StD.of_below rb X (Qt.below ⟨_, rfl⟩ _))
      have TE := HT.out
      go_upto_region 36 with fail
      generalize w2.drewN nq = w4 at *
      clear DW SW NB x0 x1 x2 x3 l1 p1 p3
      obtain ⟨w5, hw5, t1c, t1f, EN⟩ := fin_any A4.out S4.out TE HX.out (t.pc + 1)
      have e5 : Hid (w4.setCell ⟨g, i * 6 + 1, none⟩ (.int .i64 ((t.pc : Int) + 1)) = w5) := hw5
      clear hw5
      go_upto_region 37 with fail
      rw [e5.out]
      go_wp2_with (go_at_call 33; refine EN.out.mono ?_; rintro e w6 ⟨rfl, A6, S6⟩; replace A6 := hide A6; replace S6 := hide S6)
      all_goals (go_end0; exact ⟨rfl, X, rfl, by rw [SE.out]; exact A6.out, S6.out⟩)
  by_cases k12 : ak = 12
  · subst k12
    have SE : Hid (STP = panicD E i t an) := by show _ = _; rw [← hSTP.out]; simp [stepE]
    have DQ := DW
    have SQ := SW
    have PN := hide (panics_any w0 w2 us rb X E DQ.out HT.out an)
    go_wp2_with (go_at_call 34; refine PN.out.mono ?_; rintro e w6 ⟨rfl, A6, S6⟩; replace A6 := hide A6; replace S6 := hide S6)
    refine bodyPost_ret (results_none rfl _ _ _) rfl ?_
    exact ⟨rfl, X, rfl, by rw [SE.out]; exact A6.out, SQ.out.trans S6.out⟩
  by_cases k13 : ak = 13
  · subst k13
    have SE : Hid (STP = finD { E with tk := E.tk.set i { t with gd := an } } i (t.pc + 1)) := by show _ = _; rw [← hSTP.out]; simp [stepE]
    obtain ⟨f3, -, c3, c4⟩ := DW.out.tcellX HT.out HX.out
    have f33 := f3 (i * 6 + 3)
    obtain ⟨A4', s4⟩ := DW.out.setT HT.out HX.out 2 (by omega) (.int .i64 an) (t' := { t with gd := an }) rfl rfl
    have A4 : Hid (DA w0 us (w2.setCell ⟨g, i * 6 + 3, none⟩ (.int .i64 an)) rb X { E with tk := E.tk.set i { t with gd := an } }) := A4'
    have S4 : Hid (StD rb X X w (w2.setCell ⟨g, i * 6 + 3, none⟩ (.int .i64 an))) := SW.out.trans s4
    have TE : ({ E with tk := E.tk.set i { t with gd := an } } : Ds).tk[i]? = some { t with gd := an } := set_at HT.out
    clear A4' s4 f3 DW SW NB
    go_upto_region 36 with fail
    generalize w2.setCell ⟨g, i * 6 + 3, none⟩ (.int .i64 an) = w4 at *
    clear x0 x1 x2 x3 p1 p3 c3 f33
    obtain ⟨w5, hw5, t1c, t1f, EN⟩ := fin_any A4.out S4.out TE HX.out (t.pc + 1)
    have e5 : Hid (w4.setCell ⟨g, i * 6 + 1, none⟩ (.int .i64 ((t.pc : Int) + 1)) = w5) := hw5
    clear hw5
    go_upto_region 37 with fail
    rw [e5.out]
    go_wp2_with (go_at_call 33; refine EN.out.mono ?_; rintro e w6 ⟨rfl, A6, S6⟩; replace A6 := hide A6; replace S6 := hide S6)
    all_goals (go_end0; exact ⟨rfl, X, rfl, by rw [SE.out]; exact A6.out, S6.out⟩)
  have SE : Hid (STP = finD E i (t.pc + 1)) := by show _ = _; rw [← hSTP.out]; simp [stepE, k1, k2, k3, k4, k5, k6, k7, k8, k9, k10, k12, k13]
  have d1 : (ak == 1) = false := by simpa using k1
  have d2 : (ak == 2) = false := by simpa using k2
  have d3 : (ak == 3) = false := by simpa using k3
  have d4 : (ak == 4) = false := by simpa using k4
  have d5 : (ak == 5) = false := by simpa using k5
  have d6 : (ak == 6) = false := by simpa using k6
  have d7 : (ak == 7) = false := by simpa using k7
  have d8 : (ak == 8) = false := by simpa using k8
  have d9 : (ak == 9) = false := by simpa using k9
  have d10 : (ak == 10) = false := by simpa using k10
  have d12 : (ak == 12) = false := by simpa using k12
  have d13 : (ak == 13) = false := by simpa using k13
  have A4 := DW
  have S4 := SW
  have TE := HT.out
  go_upto_region 36 with fail
  generalize w2 = w4 at *
  clear x0 x1 x2 x3 p1 p3 DW SW NB
  obtain ⟨w5, hw5, t1c, t1f, EN⟩ := fin_any A4.out S4.out TE HX.out (t.pc + 1)
  have e5 : Hid (w4.setCell ⟨g, i * 6 + 1, none⟩ (.int .i64 ((t.pc : Int) + 1)) = w5) := hw5
  clear hw5
  go_upto_region 37 with fail
  rw [e5.out]
  go_wp2_with (go_at_call 33; refine EN.out.mono ?_; rintro e w6 ⟨rfl, A6, S6⟩; replace A6 := hide A6; replace S6 := hide S6)
  all_goals (go_end0; exact ⟨rfl, X, rfl, by rw [SE.out]; exact A6.out, S6.out⟩)
end Go.Proofs.YtiiinpmkidobgaaDoor.Sd

/-
  The document's state at first, by data and in memory.
-/
namespace Go.Proofs.YtiiinpmkidobgaaDoor.Sd
open Go.RowKit
set_option linter.unusedVariables false
set_option linter.unusedSimpArgs false
set_option maxRecDepth 100000
def tk00 (l : List Ac) : Dk := ⟨l, 0, 0, -1, 0, 0⟩
def dk0 (l : List Ac) : Dk := endsK (tk00 l)
def initD (ts : List (List Ac)) (room : Nat) : Ds := ⟨ts.map dk0, room, fun _ => none, fun _ => [], fun _ => [], fun _ => 0, -1⟩
theorem infoTD : (Tryd.prog.info? 65).map (fun i => (i.zero, i.size, i.bytes)) = some (some (.agg #[.slice none 0 0, .int .i64 0, .int .i64 0, .int .i64 0, .int .i64 0, .int .i64 0]), 6, 64) := by kernel_rfl
/-- The tasks' cells. -/
def dcs : List Value → List Dk → List Value
  | u :: us, t :: tk => u :: dkc t ++ dcs us tk
  | _, _ => []
theorem dcs_snoc : ∀ (us : List Value) (tk : List Dk) (u : Value) (t : Dk), us.length = tk.length → dcs (us ++ [u]) (tk ++ [t]) = dcs us tk ++ (u :: dkc t)
  | [], [], u, t, _ => by simp [dcs]
  | u :: us, t :: tk, u', t', h => by
    simp only [dcs, List.cons_append]
    rw [dcs_snoc us tk u' t' (by simpa using h)]
    simp
  | [], t :: tk, _, _, h => by simp at h
  | u :: us, [], _, _, h => by simp at h
theorem dcs_get : ∀ (us : List Value) (tk : List Dk), us.length = tk.length → ∀ (i : Nat) (t : Dk), tk[i]? = some t → (dcs us tk)[i * 6]? = us[i]? ∧ ∀ j, j < 5 → (dcs us tk)[i * 6 + (j + 1)]? = (dkc t)[j]?
  | [], [], _, i, t, hi => by simp at hi
  | u :: us, t :: tk, h, 0, t', hi => by
    simp at hi
    subst hi
    refine ⟨rfl, fun j hj => ?_⟩
    rw [Nat.zero_mul, Nat.zero_add]
    show (dkc t ++ dcs us tk)[j]? = _
    rw [List.getElem?_append_left (by simp [dkc]; omega)]
  | u :: us, t :: tk, h, i + 1, t', hi => by
    obtain ⟨h1, h2⟩ := dcs_get us tk (by simpa using h) i t' (by simpa using hi)
    have e : ∀ m, (dcs (u :: us) (t :: tk))[m + 6]? = (dcs us tk)[m]? := fun m => by
      show (u :: dkc t ++ dcs us tk)[m + 6]? = _
      rw [List.getElem?_append_right (by simp [dkc]), show m + 6 - (u :: dkc t).length = m by simp [dkc]]
    refine ⟨?_, fun j hj => ?_⟩
    · rw [show (i + 1) * 6 = i * 6 + 6 by omega, e, h1]
      rfl
    · rw [show (i + 1) * 6 + (j + 1) = i * 6 + (j + 1) + 6 by omega, e, h2 j hj]
  | [], t :: tk, h, _, _, _ => by simp at h
  | u :: us, [], h, _, _, _ => by simp at h
def sc (tv : Value) (room : Nat) : Array Value := #[tv, .int .i64 0, .int .i64 0, .int .i64 0, .int .i64 0, .slice none 0 0, .slice none 0 0, .slice none 0 0, .slice none 0 0, .slice none 0 0, .slice none 0 0, .slice none 0 0, .slice none 0 0, .int .i64 0, .int .i64 0, .int .i64 0, .int .i64 0, .int .i64 0, .int .i64 0, .int .i64 0, .int .i64 0, .int .i64 (room : Int), .int .i64 (-1)]
/-- Between the rounds of begin. -/
structure Bd (w : World) (us : List Value) (ts : List (List Ac)) (i room : Nat) (tv : Value) (wr : World) : Prop where
  rn : wr.heap[w.heap.size]? = some (.cells (sc tv room) 63 (0, 0))
  row : wr.ownsRow (w.heap.size + 1) 65 6 tv i (dcs (us.take i) ((ts.take i).map dk0))
  lw : Below w.heap.size w wr
def XV (tv : Value) : Nat → Value := fun i => if i = 0 then tv else .slice none 0 0
theorem dkc_one (u : Value) (hu : u.oneCell' = true) (t : Dk) : ∀ x ∈ (u :: dkc t), x.oneCell' = true := by
  intro x hx
  simp only [dkc, List.mem_cons, List.mem_nil_iff, or_false] at hx
  rcases hx with rfl | rfl | rfl | rfl | rfl | rfl
  · exact hu
  all_goals rfl
/-- One task more. -/
theorem Bd.push {w wr : World} {us : List Value} {ts : List (List Ac)} {i room : Nat} {tv : Value} (h : Bd w us ts i room tv wr) (hlen : us.length = ts.length) {l : List Ac} (hl : ts[i]? = some l) {u : Value} (hu : us[i]? = some u) (h1 : u.oneCell' = true) (hi : i ≤ 1000) (ty : TypeId) :
    ∃ a7 n7 c7 w7, Hid ((Builtin.append_ #[57, 57] ty #[tv, .slice (some ⟨wr.heap.size, 0, none⟩) 1 1]).run Tryd.prog (wr.alloc (.cells #[u, .int .i64 ((dk0 l).pc : Int), .int .i64 ((dk0 l).wa : Int), .int .i64 (dk0 l).gd, .int .i64 (dk0 l).hw, .int .i64 (dk0 l).wt] 65)) = .ok (.slice a7 n7 c7) w7) ∧ Hid (w7.cell? ⟨w.heap.size, 0, none⟩ = some tv ∧ w7.frozen? ⟨w.heap.size, 0, none⟩ = false ∧ Bd w us ts (i + 1) room (.slice a7 n7 c7) (w7.setCell ⟨w.heap.size, 0, none⟩ (.slice a7 n7 c7)) ∧ ∀ k, k < wr.heap.size → tv.ownBlock ≠ some k → w7.heap[k]? = wr.heap[k]?) := by
  have bb := box_below wr (.cells #[u, .int .i64 ((dk0 l).pc : Int), .int .i64 ((dk0 l).wa : Int), .int .i64 (dk0 l).gd, .int .i64 (dk0 l).hw, .int .i64 (dk0 l).wt] 65)
  have N6 := heap_alloc_new wr (.cells #[u, .int .i64 ((dk0 l).pc : Int), .int .i64 ((dk0 l).wa : Int), .int .i64 (dk0 l).gd, .int .i64 (dk0 l).hw, .int .i64 (dk0 l).wt] 65)
  have hB : w.heap.size + 1 ≤ wr.heap.size := heap_lt h.rn
  obtain ⟨i0, hi0, hz0, hz1, hz2⟩ := info_parts infoTD
  have row := row_below h.row bb
  have rn := (bb.block _ (heap_lt h.rn)).trans h.rn
  have hcells : ∀ j x, (u :: dkc (dk0 l))[j]? = some x → (wr.alloc (.cells #[u, .int .i64 ((dk0 l).pc : Int), .int .i64 ((dk0 l).wa : Int), .int .i64 (dk0 l).gd, .int .i64 (dk0 l).hw, .int .i64 (dk0 l).wt] 65)).cell? ((⟨wr.heap.size, 0, none⟩ : Addr).add j) = some x := by
    intro j x hx
    rw [addr_add, cell_of N6, Nat.zero_add, ← Array.getElem?_toList]
    exact hx
  have hti : i < ts.length := (List.getElem?_eq_some_iff.1 hl).1
  obtain ⟨v7, w7, r7, g2, g3, _, g4⟩ := run_append_own_at (P := Tryd.prog) _ (w.heap.size + 1) 57 ty 65 i0 (.agg #[.slice none 0 0, .int .i64 0, .int .i64 0, .int .i64 0, .int .i64 0, .int .i64 0]) 6 64 Tryd.underlying57 hi0 hz0 hz1 hz2 rfl (by decide) tv i _ row ⟨wr.heap.size, 0, none⟩ 1 1 (u :: dkc (dk0 l)) rfl hcells (dkc_one u h1 _) (by unfold maxLen; omega) (by omega) (Nat.le_trans hB bb.size)
  obtain ⟨a7, c7, e7⟩ := slice_ofR g2
  obtain ⟨n7, hn7⟩ : ∃ n7, i + 1 = n7 := ⟨_, rfl⟩
  have hs := World.ownsRow.lt h.row
  have K : ∀ k, k < wr.heap.size → tv.ownBlock ≠ some k → w7.heap[k]? = wr.heap[k]? := fun k hk hn => by
    rw [g3.block k (Nat.lt_of_lt_of_le hk bb.size) (fun e => hn e.symm), bb.block k hk]
  have rn7 : w7.heap[w.heap.size]? = some (.cells (sc tv room) 63 (0, 0)) := (K _ (heap_lt h.rn) fun e => by have := (hs _ e).1; omega).trans h.rn
  have e8 : (ts.take (i + 1)).map dk0 = (ts.take i).map dk0 ++ [dk0 l] := by rw [List.take_add_one, hl]; simp
  have e9 : us.take (i + 1) = us.take i ++ [u] := by rw [List.take_add_one, hu]; simp
  have lw7 : Below w.heap.size w w7 := (h.lw.trans (bb.mono h.lw.size)).grown g3 (Nat.le_trans h.lw.size bb.size) fun k hk => by have := (hs k hk).1; omega
  have c0 : (sc tv room)[0]? = some tv := rfl
  have b8 : But (fun k => k = w.heap.size) w7 (w7.setCell ⟨w.heap.size, 0, none⟩ v7) := But.set _ _ _ _ rfl
  have lo7 : ∀ k, v7.ownBlock = some k → k ≠ w.heap.size := by
    intro k hk e
    have := (World.ownsRow.lt g2 k hk).1
    omega
  have BD : Bd w us ts (i + 1) room v7 (w7.setCell ⟨w.heap.size, 0, none⟩ v7) := by
    refine ⟨?_, ?_, lw7.trans (b8.below lw7.size fun k e => by omega)⟩
    · rw [heap_setCell_same _ _ _ _ _ _ rn7]
      rfl
    · rw [e8, e9, dcs_snoc _ _ _ _ (by simp [hlen])]
      exact ownsRow_but g2 b8 lo7
  rw [e7, hn7] at r7 BD
  rw [hn7]
  exact ⟨a7, n7, c7, w7, r7, (cell_of rn7).trans c0, frz_of rn7, by rw [hn7] at e7; exact BD, K⟩
theorem Bd.at {w wr : World} {us : List Value} {ts : List (List Ac)} {room : Nat} {tv : Value} (h : Bd w us ts ts.length room tv wr) (hu : us.length = ts.length) (ha : ∀ (i : Nat) (u : Value) (l : List Ac), us[i]? = some u → ts[i]? = some l → ActsAt w u l) : DA w us wr w.heap.size (XV tv) (initD ts room) := by
  have hr := h.row
  rw [List.take_length, ← hu, List.take_length] at hr
  have hlt := World.ownsRow.lt h.row
  have bdX : ∀ m k, bd w.heap.size (XV tv) m = some k → (m = 0 ∧ k = w.heap.size) ∨ (m = 1 ∧ w.heap.size + 1 ≤ k) := by
    intro m k hm
    match m with
    | 0 => cases hm; exact .inl ⟨rfl, rfl⟩
    | 1 => exact .inr ⟨rfl, (hlt k (by simpa [bd, XV] using hm)).1⟩
    | n + 2 =>
      exfalso
      simp only [bd] at hm
      split at hm
      · simp [XV, Value.ownBlock] at hm
      · cases hm
  have hac : ∀ (i : Nat) (t : Dk), (initD ts room).tk[i]? = some t → ∃ l, ts[i]? = some l ∧ t = dk0 l := by
    intro i t hi
    have : (ts.map dk0)[i]? = some t := hi
    rw [List.getElem?_map] at this
    cases e : ts[i]? with
    | none => rw [e] at this; cases this
    | some l => rw [e] at this; cases this; exact ⟨l, rfl, rfl⟩
  refine ⟨⟨_, h.rn, ⟨rfl, rfl, fun i hi => ?_, fun i hi => ?_, fun i hi => ?_, rfl, rfl⟩⟩, ?_, fun i hi => ?_, fun i hi => ?_, ?_, ?_, h.lw, fun i t hi => ?_⟩
  · match i, hi with
    | 0, _ => rfl
    | 1, _ => rfl
    | 2, _ => rfl
    | 3, _ => rfl
  · have e : XV tv (1 + i) = .slice none 0 0 := by unfold XV; rw [if_neg (by omega)]
    rw [e]
    match i, hi with
    | 0, _ => rfl
    | 1, _ => rfl
    | 2, _ => rfl
    | 3, _ => rfl
    | 4, _ => rfl
    | 5, _ => rfl
    | 6, _ => rfl
    | 7, _ => rfl
  · match i, hi with
    | 0, _ => rfl
    | 1, _ => rfl
    | 2, _ => rfl
    | 3, _ => rfl
    | 4, _ => rfl
    | 5, _ => rfl
    | 6, _ => rfl
    | 7, _ => rfl
  · show TkV wr us tv (ts.map dk0)
    rcases hr.2 with ⟨e, hz⟩ | ⟨g, cap, cur, e, hg, k1, k2, k3, k4, k5⟩
    · exact .inl ⟨by rw [List.length_eq_zero_iff.1 (hu.symm.trans hz)]; rfl, e⟩
    · refine .inr ⟨g, cap, cur, by rw [e]; simp [hu], k1, by simp; omega, by unfold maxLen at k3; exact k3, ?_⟩
      have hl : us.length = (ts.map dk0).length := by simp [hu]
      have gt : ∀ j, j < us.length * 6 → cur[j]? = (dcs us (ts.map dk0))[j]? := fun j hj => by
        rw [← k5, List.getElem?_take_of_lt hj, Array.getElem?_toList]
      refine ⟨by simp; omega, hl, fun i t hi => ?_, fun i t hi j hj => ?_⟩
      · have hil := (List.getElem?_eq_some_iff.1 hi).1
        rw [gt _ (by omega)]
        exact (dcs_get us _ hl i t hi).1
      · have hil := (List.getElem?_eq_some_iff.1 hi).1
        rw [gt _ (by omega)]
        exact (dcs_get us _ hl i t hi).2 j hj
  · have e : XV tv (1 + i) = .slice none 0 0 := by unfold XV; rw [if_neg (by omega)]
    rw [e]; exact Nms.nil _ _
  · have e : XV tv (5 + i) = .slice none 0 0 := by unfold XV; rw [if_neg (by omega)]
    rw [e]; exact World.ownsRow_nil _ _ _ _
  · intro i j k h1 h2
    rcases bdX i k h1 with ⟨e1, e2⟩ | ⟨e1, e2⟩ <;> rcases bdX j k h2 with ⟨f1, f2⟩ | ⟨f1, f2⟩ <;> omega
  · intro i k h1
    rcases bdX i k h1 with ⟨e1, e2⟩ | ⟨e1, e2⟩ <;> omega
  · obtain ⟨l, hl, rfl⟩ := hac i t hi
    have hil : i < us.length := by rw [hu]; exact (List.getElem?_eq_some_iff.1 hl).1
    refine ⟨us[i]'hil, List.getElem?_eq_getElem hil, ?_⟩
    have e : (dk0 l).ac = l := by unfold dk0 endsK tk00; split <;> rfl
    rw [e]
    exact ha i _ l (List.getElem?_eq_getElem hil) hl
end Go.Proofs.YtiiinpmkidobgaaDoor.Sd

