/-
  The document's own reader of values: where it stands; fail, eight.
-/
import Derived.Test.YtpfnkkkfekhngaaGreatDoorYk
import Derived.Deep.QuietTactic
import Derived.BigQuiet
namespace Go.Proofs.YtpfnkkkfekhngaaGreatDoor.Va
open Go.RowKit Go.Proofs.YtpfnkkkfekhngaaGreatDoor.Rl
set_option maxRecDepth 100000
set_option linter.unusedVariables false

/-- Bytes lie from address ao on, in blocks below base. -/
def YRd (w : World) (base : Nat) (ao : Option Addr) (A : List UInt8) : Prop :=
  ∀ i (h : i < A.length), ∃ b off, ao = some ⟨b, off, none⟩ ∧ b < base ∧ w.cell? ⟨b, off + i, none⟩ = some (.int .u8 (A[i].toNat : Int))
theorem YRd.grown {w w' : World} {base q : Nat} {ao : Option Addr} {A : List UInt8} (h : YRd w base ao A) (hg : w.grownBy w' (some q)) (hb : base ≤ q) : YRd w' base ao A := fun i hi => by
  obtain ⟨b, off, e, h1, h2⟩ := h i hi
  exact ⟨b, off, e, h1, hg.cell h2 (by simp; omega)⟩
theorem ygrown_refl (w : World) (row : Option Nat) : w.grownBy w row := ⟨rfl, rfl, rfl, Nat.le_refl _, fun _ _ _ => rfl⟩
theorem ygrown_drew {w w' : World} {row : Option Nat} (h : w.grownBy w' row) : w.grownBy w'.drew row := ⟨h.os, h.tape, h.output, h.size, h.block⟩
theorem ygrown_set {w w' : World} {q : Nat} (h : w.grownBy w' (some q)) (o : Nat) (v : Value) : w.grownBy (w'.setCell ⟨q, o, none⟩ v) (some q) := grown_trans h (grown_setCell _ _ _ _)
theorem ygrown_new {w w' : World} {q g : Nat} (h : w.grownBy w' (some q)) (hg : w.heap.size ≤ g) (o : Nat) (v : Value) : w.grownBy (w'.setCell ⟨g, o, none⟩ v) (some q) :=
  ⟨h.os, h.tape, h.output, by simpa using h.size, fun k hk hne => by rw [heap_setCell_other w' ⟨g, o, none⟩ k v (by simp; omega)]; exact h.block k hk hne⟩
theorem ygrown_alloc {w w' : World} {row : Option Nat} (h : w.grownBy w' row) (o : Obj) : w.grownBy (w'.alloc o) row :=
  ⟨h.os, h.tape, h.output, by have := h.size; simp; omega, fun k hk hne => by rw [heap_alloc_old _ _ (by have := h.size; omega)]; exact h.block k hk hne⟩
/-- A reading lies at block q: bytes b, so far, so much left, the error's number. -/
def Rg (w : World) (base q : Nat) (b : List UInt8) (p left : Nat) (er : Int) : Prop :=
  ∃ (ao : Option Addr) (cap : Nat), w.heap[q]? = some (.cells #[.slice ao b.length cap, .int .i64 (p : Int), .int .i64 (left : Int), .int .i64 er] 72 (0, 0)) ∧ YRd w base ao b ∧ b.length ≤ cap ∧ cap ≤ maxLen ∧ b.length ≤ 140737488355328 ∧ p ≤ b.length ∧ left ≤ 65536 ∧ base ≤ q
theorem Rg.c {w : World} {base q : Nat} {b : List UInt8} {p left : Nat} {er : Int} (h : Rg w base q b p left er) : ∃ ao cap, w.cell? ⟨q, 0, none⟩ = some (.slice ao b.length cap) ∧ w.cell? ⟨q, 1, none⟩ = some (.int .i64 (p : Int)) ∧ w.cell? ⟨q, 2, none⟩ = some (.int .i64 (left : Int)) ∧ w.cell? ⟨q, 3, none⟩ = some (.int .i64 er) ∧ YRd w base ao b ∧ b.length ≤ 140737488355328 ∧ p ≤ b.length ∧ left ≤ 65536 ∧ base ≤ q := by
  obtain ⟨ao, cap, hq, h1, h2, h3, h4, h5, h6, h7⟩ := h
  exact ⟨ao, cap, by simp [World.cell?, hq], by simp [World.cell?, hq], by simp [World.cell?, hq], by simp [World.cell?, hq], h1, h4, h5, h6, h7⟩
theorem Rg.f {w : World} {base q : Nat} {b : List UInt8} {p left : Nat} {er : Int} (h : Rg w base q b p left er) (j : Nat) : w.frozen? ⟨q, j, none⟩ = false := by
  obtain ⟨ao, cap, hq, _⟩ := h
  simp [World.frozen?, hq]
theorem Rg.lt {w : World} {base q : Nat} {b : List UInt8} {p left : Nat} {er : Int} (h : Rg w base q b p left er) : q < w.heap.size := by
  obtain ⟨ao, cap, hq, _⟩ := h; exact heap_lt hq
theorem Rg.set1 {w : World} {base q : Nat} {b : List UInt8} {p left : Nat} {er : Int} (h : Rg w base q b p left er) (p' : Nat) (hp : p' ≤ b.length) : Rg (w.setCell ⟨q, 1, none⟩ (.int .i64 (p' : Int))) base q b p' left er := by
  obtain ⟨ao, cap, hq, h1, h2, h3, h4, h5, h6, h7⟩ := h
  exact ⟨ao, cap, by rw [heap_setCell_same w q 1 _ _ _ hq]; simp, h1.grown (grown_setCell _ _ _ _) h7, h2, h3, h4, hp, h6, h7⟩
theorem Rg.set2 {w : World} {base q : Nat} {b : List UInt8} {p left : Nat} {er : Int} (h : Rg w base q b p left er) (l' : Nat) (hp : l' ≤ 65536) : Rg (w.setCell ⟨q, 2, none⟩ (.int .i64 (l' : Int))) base q b p l' er := by
  obtain ⟨ao, cap, hq, h1, h2, h3, h4, h5, h6, h7⟩ := h
  exact ⟨ao, cap, by rw [heap_setCell_same w q 2 _ _ _ hq]; simp, h1.grown (grown_setCell _ _ _ _) h7, h2, h3, h4, h5, hp, h7⟩
theorem Rg.set3 {w : World} {base q : Nat} {b : List UInt8} {p left : Nat} {er : Int} (h : Rg w base q b p left er) (e' : Int) : Rg (w.setCell ⟨q, 3, none⟩ (.int .i64 e')) base q b p left e' := by
  obtain ⟨ao, cap, hq, h1, h2, h3, h4, h5, h6, h7⟩ := h
  exact ⟨ao, cap, by rw [heap_setCell_same w q 3 _ _ _ hq]; simp, h1.grown (grown_setCell _ _ _ _) h7, h2, h3, h4, h5, h6, h7⟩
theorem Rg.drew {w : World} {base q : Nat} {b : List UInt8} {p left : Nat} {er : Int} (h : Rg w base q b p left er) : Rg w.drew base q b p left er := h
theorem Rg.drewN {w : World} {base q : Nat} {b : List UInt8} {p left : Nat} {er : Int} (h : Rg w base q b p left er) (n : Nat) : Rg (w.drewN n) base q b p left er := h
theorem Rg.below {w w' : World} {base q : Nat} {b : List UInt8} {p left : Nat} {er : Int} (h : Rg w base q b p left er) (hb : Below w.heap.size w w') : Rg w' base q b p left er := by
  obtain ⟨ao, cap, hq, h1, r⟩ := h
  refine ⟨ao, cap, by rw [hb.block q (heap_lt hq)]; exact hq, fun i hi => ?_, r⟩
  obtain ⟨bb, off, e, g1, g2⟩ := h1 i hi
  exact ⟨bb, off, e, g1, by rw [hb.cell (p := ⟨bb, off + i, none⟩) (lt_of_cell g2)]; exact g2⟩
theorem Rg.other {w w' : World} {base q : Nat} {b : List UInt8} {p left : Nat} {er : Int} {row : Option Nat} (h : Rg w base q b p left er) (hg : w.grownBy w' row) (hne : row ≠ some q) (hr : ∀ k, row = some k → base ≤ k) : Rg w' base q b p left er := by
  obtain ⟨ao, cap, hq, h1, r⟩ := h
  refine ⟨ao, cap, by rw [hg.block q (heap_lt hq) (fun e => hne e.symm)]; exact hq, fun i hi => ?_, r⟩
  obtain ⟨bb, off, e, g1, g2⟩ := h1 i hi
  refine ⟨bb, off, e, g1, hg.cell g2 (fun e' => ?_)⟩
  have := hr bb e'.symm
  omega
/-- Five cells written. -/
def ypt (w : World) (b : Nat) (a0 a1 a2 a3 a4 : Value) : World := ((((w.setCell ⟨b, 0, none⟩ a0).setCell ⟨b, 1, none⟩ a1).setCell ⟨b, 2, none⟩ a2).setCell ⟨b, 3, none⟩ a3).setCell ⟨b, 4, none⟩ a4
theorem ypt_grown {w w' : World} {q b : Nat} (h : w.grownBy w' (some q)) (hb : w.heap.size ≤ b) (a0 a1 a2 a3 a4 : Value) : w.grownBy (ypt w' b a0 a1 a2 a3 a4) (some q) := by
  unfold ypt
  exact ygrown_new (ygrown_new (ygrown_new (ygrown_new (ygrown_new h hb _ _) hb _ _) hb _ _) hb _ _) hb _ _
theorem ypt_block (w : World) (b : Nat) (a0 a1 a2 a3 a4 : Value) : w.grownBy (ypt w b a0 a1 a2 a3 a4) (some b) := by
  unfold ypt
  exact ygrown_set (ygrown_set (ygrown_set (ygrown_set (grown_setCell _ _ _ _) _ _) _ _) _ _) _ _
/-- A result's cells, as yet zero. -/
def Z5 (w : World) (r : Nat) : Prop := w.heap[r]? = some (.cells #[.int .i64 0, .int .i64 0, .float .f64 0, .string ⟨#[]⟩, .slice none 0 0] 35 (0, 0))
theorem Z5.c {w : World} {r : Nat} (h : Z5 w r) : w.cell? ⟨r, 0, none⟩ = some (.int .i64 0) ∧ w.cell? ⟨r, 1, none⟩ = some (.int .i64 0) ∧ w.cell? ⟨r, 2, none⟩ = some (.float .f64 0) ∧ w.cell? ⟨r, 3, none⟩ = some (.string ⟨#[]⟩) ∧ w.cell? ⟨r, 4, none⟩ = some (.slice none 0 0) := by
  unfold Z5 at h
  refine ⟨?_, ?_, ?_, ?_, ?_⟩ <;> simp [World.cell?, h]
theorem Z5.f {w : World} {r : Nat} (h : Z5 w r) (j : Nat) : w.frozen? ⟨r, j, none⟩ = false := by
  unfold Z5 at h
  simp [World.frozen?, h]
theorem Z5.grown {w w' : World} {r : Nat} {row : Option Nat} (h : Z5 w r) (hg : w.grownBy w' row) (hne : row ≠ some r) : Z5 w' r := by
  show _ = _
  rw [hg.block r (heap_lt h) (fun e => hne e.symm)]; exact h
theorem ypt_reads {w : World} {b : Nat} (hz : Z5 w b) (a0 a1 a2 a3 a4 : Value) :
    (ypt w b a0 a1 a2 a3 a4).cell? ⟨b, 0, none⟩ = some a0 ∧ (ypt w b a0 a1 a2 a3 a4).cell? ⟨b, 1, none⟩ = some a1 ∧ (ypt w b a0 a1 a2 a3 a4).cell? ⟨b, 2, none⟩ = some a2 ∧ (ypt w b a0 a1 a2 a3 a4).cell? ⟨b, 3, none⟩ = some a3 ∧ (ypt w b a0 a1 a2 a3 a4).cell? ⟨b, 4, none⟩ = some a4 := by
  obtain ⟨h0, h1, h2, h3, h4⟩ := hz.c
  have ne : ∀ (u : World) (i j : Nat) (x : Value), i ≠ j → (u.setCell ⟨b, i, none⟩ x).cell? ⟨b, j, none⟩ = u.cell? ⟨b, j, none⟩ := fun u i j x hij => World.cell?_setCell_other _ _ _ _ (fun e => hij (by simpa using e.symm))
  unfold ypt
  refine ⟨?_, ?_, ?_, ?_, ?_⟩
  · rw [ne _ _ _ _ (by omega), ne _ _ _ _ (by omega), ne _ _ _ _ (by omega), ne _ _ _ _ (by omega)]
    exact World.cell?_setCell_same _ _ _ h0
  · rw [ne _ _ _ _ (by omega), ne _ _ _ _ (by omega), ne _ _ _ _ (by omega)]
    exact World.cell?_setCell_same _ _ _ ((ne _ _ _ _ (by omega)).trans h1)
  · rw [ne _ _ _ _ (by omega), ne _ _ _ _ (by omega)]
    exact World.cell?_setCell_same _ _ _ ((ne _ _ _ _ (by omega)).trans ((ne _ _ _ _ (by omega)).trans h2))
  · rw [ne _ _ _ _ (by omega)]
    exact World.cell?_setCell_same _ _ _ ((ne _ _ _ _ (by omega)).trans ((ne _ _ _ _ (by omega)).trans ((ne _ _ _ _ (by omega)).trans h3)))
  · exact World.cell?_setCell_same _ _ _ ((ne _ _ _ _ (by omega)).trans ((ne _ _ _ _ (by omega)).trans ((ne _ _ _ _ (by omega)).trans ((ne _ _ _ _ (by omega)).trans h4))))
def zeroA : Value := .agg #[.int .i64 0, .int .i64 0, .float .f64 0, .string ⟨#[]⟩, .slice none 0 0]
theorem isV_zero (w : World) : IsV w zeroA zeroV := by
  unfold zeroA zeroV
  rw [IsV]
  exact ⟨none, 0, rfl, fun _ => ⟨rfl, rfl⟩, by simp, by unfold maxLen; omega, by simp, by rw [IsL]; trivial⟩
set_option maxHeartbeats 2000000 in
theorem yfail_any (w : World) (base q : Nat) (b : List UInt8) (p left a : Nat) (er : Int) (hr : Rg w base q b p left 0) (ha : a ≤ b.length) :
    Calls Tryz.prog 60 #[.pointer (some ⟨q, 0, none⟩), .int .i64 (a : Int), .int .i64 er] w fun e w' => e = .returned zeroA ∧ Rg w' base q b a left er ∧ w.grownBy w' (some q) := by
  have ksf : ∀ (w : World) (a : Addr) (x : Nat) (m : Mode), (store a (.float .f64 x) m).run Tryz.prog w = stored Tryz.prog w a (.float .f64 x) m := fun w a x m => run_store Tryz.prog w a _ m rfl
  obtain ⟨ao, cap, d0, d1, d2, d3, _⟩ := hr.c
  have g1 := hr.f 1
  have g3 := hr.f 3
  have hql := hr.lt
  have hr3 : Hid (Rg ((w.setCell ⟨q, 1, none⟩ (.int .i64 (a : Int))).setCell ⟨q, 3, none⟩ (.int .i64 er)) base q b a left er) := (hr.set1 a ha).set3 er
  have hg3 : Hid (w.grownBy ((w.setCell ⟨q, 1, none⟩ (.int .i64 (a : Int))).setCell ⟨q, 3, none⟩ (.int .i64 er)) (some q)) := ygrown_set (ygrown_set (ygrown_refl _ _) _ _) _ _
  clear hr
  go_enter Tryz.func60, Tryz.ntmps60
  go_wp2_with fail
  go_returns
  exact ⟨rfl, hr3.out.below (box_below _ _), ygrown_alloc hg3.out _⟩
#print axioms yfail_any
theorem shl_add (n c : Nat) (hn : n < 72057594037927936) (hc : c < 256) : IntKind.u64.wrap (IntKind.u64.wrap ((n : Int) * 256) + IntKind.u64.wrap (c : Int)) = ((n * 256 + c : Nat) : Int) := by
  rw [IntKind.wrap_u64, IntKind.wrap_u64, IntKind.wrap_u64]; omega
set_option maxHeartbeats 4000000 in
theorem yeight_any (w : World) (base q : Nat) (b : List UInt8) (p left : Nat) (hr : Rg w base q b p left 0) :
    Calls Tryz.prog 62 #[.pointer (some ⟨q, 0, none⟩)] w fun e w' =>
      ((b.length - p < 8 ∧ e = .returned (.tuple #[.int .u64 0, .bool false]) ∧ Rg w' base q b b.length left 2) ∨ (8 ≤ b.length - p ∧ e = .returned (.tuple #[.int .u64 ((ofBig ((b.drop p).take 8) : Nat) : Int), .bool true]) ∧ Rg w' base q b (p + 8) left 0)) ∧ w.grownBy w' (some q) := by
  obtain ⟨ao, cap, d0, d1, d2, d3, hrd, hb1, hp, hl, hbq⟩ := hr.c
  replace hr : Hid (Rg w base q b p left 0) := hr
  replace hrd : Hid (YRd w base ao b) := hrd
  obtain ⟨N, hN⟩ : ∃ N, Hid (b.length = N) := ⟨_, rfl⟩
  rw [hN.out] at d0 hb1 hp ⊢
  by_cases hsh : N - p < 8
  · have s1 : (N : Int) - (p : Int) < 8 := by omega
    have hfl : Hid (∀ u : World, Rg u base q b p left 0 → Calls Tryz.prog 60 #[.pointer (some ⟨q, 0, none⟩), .int .i64 (N : Int), .int .i64 2] u fun e w' => e = .returned zeroA ∧ Rg w' base q b N left 2 ∧ u.grownBy w' (some q)) := fun u hu => yfail_any u base q b p left N 2 hu (by rw [hN.out]; exact Nat.le_refl _)
    go_enter Tryz.func62, Tryz.ntmps62
    go_wp2_with fail
    go_quiet (fail)
    have e0 : (w.drewN nq).cell? ⟨q, 0, none⟩ = some (.slice ao N cap) := d0
    go_wp2_with fail
    refine (hfl.out _ (hr.out.drewN nq)).mono ?_
    rintro e w2 ⟨rfl, hr2, hg2⟩
    have hg3 : Hid (w.grownBy w2 (some q)) := grown_trans (Qt.grown ⟨nq, rfl⟩ _) hg2
    replace hr2 : Hid (Rg w2 base q b N left 2) := hr2
    unfold zeroA
    clear hg2
    go_wp2
    go_ret2
    exact ⟨Or.inl ⟨hsh, rfl, hr2.out⟩, hg3.out⟩
  · have s1 : ¬ (N : Int) - (p : Int) < 8 := by omega
    have dec1 : decide ((N : Int) - (p : Int) < 8) = false := by simp; omega
    go_enter Tryz.func62, Tryz.ntmps62
    go_wp2_with fail
    go_quiet (fail)
    go_wp2_with fail
    (try simp only [dec1])
    go_loopw [4, 5] (fun vn vi wr => ∃ i n : Nat, i ≤ 8 ∧ vi = .int .i64 (i : Int) ∧ vn = .int .u64 (n : Int) ∧ Hid (ofBig ((b.drop p).take i) = n) ∧ Hid (Qt w wr)) (fun _ v _ => 8 - (intOf v).toNat)
    case atStart => exact ⟨0, 0, by omega, rfl, rfl, rfl, ⟨nq, rfl⟩⟩
    case round =>
      obtain ⟨i, n, hi, rfl, rfl, hn, hq⟩ := hrel
      have e0 : wr.cell? ⟨q, 0, none⟩ = some (.slice ao N cap) := (hq.out.cell _).trans d0
      have e1 : wr.cell? ⟨q, 1, none⟩ = some (.int .i64 (p : Int)) := (hq.out.cell _).trans d1
      by_cases hi8 : i = 8
      · subst hi8
        have hrq : Rg wr base q b p left 0 := hr.out.below (hq.out.below _)
        have g1 := hrq.f 1
        have hrq2 : Hid (Rg (wr.setCell ⟨q, 1, none⟩ (.int .i64 ((p : Int) + 8))) base q b (p + 8) left 0) := hrq.set1 (p + 8) (by rw [hN.out]; omega)
        have hgq : Hid (w.grownBy (wr.setCell ⟨q, 1, none⟩ (.int .i64 ((p : Int) + 8))) (some q)) := ygrown_set (hq.out.grown _) _ _
        clear hrq
        go_wp2
        go_ret2
        exact ⟨Or.inr ⟨by omega, by rw [hn.out]; rfl, hrq2.out⟩, hgq.out⟩
      · have hlt : p + i < b.length := by rw [hN.out]; omega
        obtain ⟨rb, off, rfl, _, hcell⟩ := hrd.out (p + i) hlt
        obtain ⟨c, hc⟩ : ∃ c, Hid (b[p + i].toNat = c) := ⟨b[p + i].toNat, rfl⟩
        rw [hc.out] at hcell
        have hcx : wr.cell? ⟨rb, off + (p + i), none⟩ = some (.int .u8 (c : Int)) := (hq.out.cell _).trans hcell
        have hc8 : c < 256 := by rw [← hc.out]; exact UInt8.toNat_lt _
        have hn8 : n < 72057594037927936 := by
          have h1 := ofBig_lt ((b.drop p).take i)
          rw [hn.out] at h1
          have h2 : ((b.drop p).take i).length ≤ 7 := by rw [List.length_take]; omega
          have h3 : 256 ^ ((b.drop p).take i).length ≤ 256 ^ 7 := Nat.pow_le_pow_right (by decide) h2
          omega
        have hsa := shl_add n c hn8 hc8
        have hn2 : Hid (ofBig ((b.drop p).take (i + 1)) = n * 256 + c) := by
          show _ = _
          have hlt2 : i < (b.drop p).length := by rw [List.length_drop]; omega
          rw [List.take_succ_eq_append_getElem hlt2, ofBig_snoc, hn.out, List.getElem_drop, hc.out]
        obtain ⟨M, hM⟩ : ∃ M, Hid (n * 256 + c = M) := ⟨_, rfl⟩
        rw [hM.out] at hsa hn2
        have i1 : (i : Int) < 8 := by omega
        have i2 : (0 : Int) ≤ (p : Int) + (i : Int) := by omega
        have i3 : (p : Int) + (i : Int) < (N : Int) := by omega
        clear hcell hn8 hc8
        go_wp2_with fail
        go_region
        go_wp2_with fail
        go_roundw
        case rel => exact ⟨i + 1, M, by omega, by go_num, rfl, hn2, hq.out.trans ⟨1, rfl⟩⟩
        case measure => simp [intOf]; omega
#print axioms yeight_any
end Go.Proofs.YtpfnkkkfekhngaaGreatDoor.Va
