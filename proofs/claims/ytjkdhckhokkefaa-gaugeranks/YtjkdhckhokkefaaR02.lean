/-
  Package real: the least and the greatest of a list.
-/
import Derived.Test.YtjkdhckhokkefaaR01
import Derived.Laws.ResultCell
import Derived.Deep.LoopGhost
import Derived.Laws.AppendOwnNone
namespace Go.Proofs.Ytjkdhckhokkefaa.Rl
open Go.RowKit
set_option maxRecDepth 100000
def minStep (f x : Nat) : Nat := if cmpB x f < 0 then x else f
def minB (xs : List Nat) : Nat := if xs.length = 0 then 0 else xs.foldl minStep 9221120237041090561
theorem min_lt {xs : List Nat} (h : Bs xs) (f : Nat) (hf : f < 18446744073709551616) : xs.foldl minStep f < 18446744073709551616 := by
  induction xs generalizing f with
  | nil => exact hf
  | cons x r ih =>
    rw [List.foldl_cons]
    refine ih (fun y hy => h y (by simp [hy])) _ ?_
    unfold minStep
    split
    · exact h x (by simp)
    · exact hf
theorem foldl_take (g : Nat → Nat → Nat) (xs : List Nat) (f i : Nat) (hi : i < xs.length) : (xs.take (i + 1)).foldl g f = g ((xs.take i).foldl g f) xs[i] := by
  rw [List.take_succ_eq_append_getElem hi, List.foldl_append]; rfl
theorem min_any (w : World) (v : Value) (xs : List Nat) (hx : Row w v (fvals xs)) (hb : Bs xs) :
    Calls Try.prog 58 #[v] w fun e w' => e = .returned (.tuple #[.float .f64 (minB xs), .bool (decide (xs.length ≠ 0))]) ∧ w' = w := by
  obtain ⟨ao, cap, rfl, h1, h2, h3, h4⟩ := hx
  have hlen : (fvals xs).length = xs.length := by simp [fvals]
  have h4' : Hid (At w ao (fvals xs)) := h4
  rw [hlen] at h2 ⊢
  have hn47 : xs.length ≤ 9223372036854775807 := by unfold maxLen at h3; omega
  clear h1 h4 hlen h2 h3
  obtain ⟨n, hn⟩ : ∃ n, Hid (xs.length = n) := ⟨_, rfl⟩
  obtain ⟨M, hM⟩ : ∃ M, Hid (minB xs = M) := ⟨_, rfl⟩
  rw [hn.out] at hn47 ⊢
  rw [hM.out]
  replace hb : Hid (Bs xs) := hb
  by_cases hn0 : n = 0
  · subst hn0
    have hM2 : M = 0 := by rw [← hM.out, minB, if_pos hn.out]
    subst hM2
    go_enter Try.func58, Try.ntmps58
    go_wp2
    go_ret2
    exact ⟨rfl, rfl⟩
  · have hbeq : ((n : Int) == 0) = false := by simp; omega
    have hM2 : Hid (M = xs.foldl minStep 9221120237041090561) := by show _ = _; rw [← hM.out, minB, if_neg (by rw [hn.out]; exact hn0)]
    have hdec : decide (n ≠ 0) = true := decide_eq_true hn0
    rw [hdec]
    go_enter Try.func58, Try.ntmps58
    go_wp2_with fail
    refine (nan_any _).mono ?_
    rintro e w1 ⟨rfl, rfl⟩
    go_wp2_with fail
    go_loopw [4, 13] (fun v4 v13 wr => ∃ (i f : Nat), i ≤ n ∧ v13 = .int .i64 (i : Int) ∧ v4 = .float .f64 f ∧ Hid (f = (xs.take i).foldl minStep 9221120237041090561) ∧ wr = w1) (fun _ v _ => n - (intOf v).toNat)
    case atStart => exact ⟨0, _, by omega, rfl, rfl, by show _ = _; simp, rfl⟩
    case round =>
      obtain ⟨i, f, hi, rfl, rfl, hf, rfl⟩ := hrel
      by_cases hin : i = n
      · have hf2 : f = M := by rw [hf.out, hM2.out, List.take_of_length_le (by have := hn.out; omega)]
        subst hin
        subst hf2
        go_wp2
        go_ret2
        exact ⟨rfl, rfl⟩
      · have hil : i < xs.length := by have := hn.out; omega
        obtain ⟨x, hx⟩ : ∃ x, Hid (xs[i] = x) := ⟨xs[i], rfl⟩
        obtain ⟨rb, off, rfl, hcell⟩ := h4'.out i (by simp [fvals]; omega)
        have hcx : wr.cell? ⟨rb, off + i, none⟩ = some (.float .f64 x) := by
          rw [hcell, ← hx.out]
          simp [fvals]
        clear hcell
        have hxl : Hid (x < 18446744073709551616) := hb.out x (by rw [← hx.out]; exact List.getElem_mem hil)
        have hfl : Hid (f < 18446744073709551616) := by rw [hf.out]; exact min_lt (fun b h => hb.out b (List.mem_of_mem_take h)) _ (by omega)
        have hnx : Hid (minStep f x = (xs.take (i + 1)).foldl minStep 9221120237041090561) := by show _ = _; rw [foldl_take _ _ _ _ hil, ← hf.out, hx.out]
        have i1 : (i : Int) < (n : Int) := by omega
        have i2 : (0 : Int) ≤ (i : Int) := by omega
        go_wp2_with fail
        refine (compare_any _ x f hxl.out hfl.out).mono ?_
        rintro e w2 ⟨rfl, rfl⟩
        obtain ⟨c, hc⟩ : ∃ c, Hid (cmpB x f = c) := ⟨_, rfl⟩
        rw [hc.out]
        by_cases h0 : c < 0
        · go_wp2_with fail
          go_roundw
          case rel => exact ⟨i + 1, x, by omega, by go_num, rfl, by show _ = _; rw [← hnx.out, minStep, if_pos (by rw [hc.out]; exact h0)], by trivial⟩
          case measure => simp [intOf]; omega
        · go_wp2_with fail
          go_roundw
          case rel => exact ⟨i + 1, f, by omega, by go_num, rfl, by show _ = _; rw [← hnx.out, minStep, if_neg (by rw [hc.out]; omega)], by trivial⟩
          case measure => simp [intOf]; omega
def maxStep (l x : Nat) : Nat := if !nanB x && (nanB l || decide (0 < cmpB x l)) then x else l
def maxB (xs : List Nat) : Nat := if xs.length = 0 then 0 else xs.foldl maxStep 9221120237041090561
theorem max_lt {xs : List Nat} (h : Bs xs) (f : Nat) (hf : f < 18446744073709551616) : xs.foldl maxStep f < 18446744073709551616 := by
  induction xs generalizing f with
  | nil => exact hf
  | cons x r ih =>
    rw [List.foldl_cons]
    refine ih (fun y hy => h y (by simp [hy])) _ ?_
    unfold maxStep
    split
    · exact h x (by simp)
    · exact hf
theorem max_any (w : World) (v : Value) (xs : List Nat) (hx : Row w v (fvals xs)) (hb : Bs xs) :
    Calls Try.prog 59 #[v] w fun e w' => e = .returned (.tuple #[.float .f64 (maxB xs), .bool (decide (xs.length ≠ 0))]) ∧ w' = w := by
  obtain ⟨ao, cap, rfl, h1, h2, h3, h4⟩ := hx
  have hlen : (fvals xs).length = xs.length := by simp [fvals]
  have h4' : Hid (At w ao (fvals xs)) := h4
  rw [hlen] at h2 ⊢
  have hn47 : xs.length ≤ 9223372036854775807 := by unfold maxLen at h3; omega
  clear h1 h4 hlen h2 h3
  obtain ⟨n, hn⟩ : ∃ n, Hid (xs.length = n) := ⟨_, rfl⟩
  obtain ⟨M, hM⟩ : ∃ M, Hid (maxB xs = M) := ⟨_, rfl⟩
  rw [hn.out] at hn47 ⊢
  rw [hM.out]
  replace hb : Hid (Bs xs) := hb
  by_cases hn0 : n = 0
  · subst hn0
    have hM2 : M = 0 := by rw [← hM.out, maxB, if_pos hn.out]
    subst hM2
    go_enter Try.func59, Try.ntmps59
    go_wp2
    go_ret2
    exact ⟨rfl, rfl⟩
  · have hbeq : ((n : Int) == 0) = false := by simp; omega
    have hM2 : Hid (M = xs.foldl maxStep 9221120237041090561) := by show _ = _; rw [← hM.out, maxB, if_neg (by rw [hn.out]; exact hn0)]
    have hdec : decide (n ≠ 0) = true := decide_eq_true hn0
    rw [hdec]
    go_enter Try.func59, Try.ntmps59
    go_wp2_with fail
    refine (nan_any _).mono ?_
    rintro e w1 ⟨rfl, rfl⟩
    go_wp2_with fail
    go_loopw [4, 13] (fun v4 v13 wr => ∃ (i f : Nat), i ≤ n ∧ v13 = .int .i64 (i : Int) ∧ v4 = .float .f64 f ∧ Hid (f = (xs.take i).foldl maxStep 9221120237041090561) ∧ wr = w1) (fun _ v _ => n - (intOf v).toNat)
    case atStart => exact ⟨0, _, by omega, rfl, rfl, by show _ = _; simp, rfl⟩
    case round =>
      obtain ⟨i, f, hi, rfl, rfl, hf, rfl⟩ := hrel
      by_cases hin : i = n
      · have hf2 : f = M := by rw [hf.out, hM2.out, List.take_of_length_le (by have := hn.out; omega)]
        subst hin
        subst hf2
        go_wp2
        go_ret2
        exact ⟨rfl, rfl⟩
      · have hil : i < xs.length := by have := hn.out; omega
        obtain ⟨x, hx⟩ : ∃ x, Hid (xs[i] = x) := ⟨xs[i], rfl⟩
        obtain ⟨rb, off, rfl, hcell⟩ := h4'.out i (by simp [fvals]; omega)
        have hcx : wr.cell? ⟨rb, off + i, none⟩ = some (.float .f64 x) := by
          rw [hcell, ← hx.out]
          simp [fvals]
        clear hcell
        have hxl : Hid (x < 18446744073709551616) := hb.out x (by rw [← hx.out]; exact List.getElem_mem hil)
        have hfl : Hid (f < 18446744073709551616) := by rw [hf.out]; exact max_lt (fun b h => hb.out b (List.mem_of_mem_take h)) _ (by omega)
        have hnx : Hid (maxStep f x = (xs.take (i + 1)).foldl maxStep 9221120237041090561) := by show _ = _; rw [foldl_take _ _ _ _ hil, ← hf.out, hx.out]
        have i1 : (i : Int) < (n : Int) := by omega
        have i2 : (0 : Int) ≤ (i : Int) := by omega
        go_wp2_with fail
        refine (isNaN_any _ x hxl.out).mono ?_
        rintro e w2 ⟨rfl, rfl⟩
        obtain ⟨a, ha⟩ : ∃ a, Hid (nanB x = a) := ⟨_, rfl⟩
        rw [ha.out]
        cases a
        · go_wp2_with fail
          refine (isNaN_any _ f hfl.out).mono ?_
          rintro e w2 ⟨rfl, rfl⟩
          obtain ⟨b, hbb⟩ : ∃ b, Hid (nanB f = b) := ⟨_, rfl⟩
          rw [hbb.out]
          cases b
          · go_wp2_with fail
            refine (compare_any _ x f hxl.out hfl.out).mono ?_
            rintro e w2 ⟨rfl, rfl⟩
            obtain ⟨c, hc⟩ : ∃ c, Hid (cmpB x f = c) := ⟨_, rfl⟩
            rw [hc.out]
            by_cases h0 : 0 < c
            · go_wp2_with fail
              go_roundw
              case rel => exact ⟨i + 1, x, by omega, by go_num, rfl, by show _ = _; rw [← hnx.out, maxStep, ha.out, hbb.out, hc.out, if_pos (by simpa using h0)], by trivial⟩
              case measure => simp [intOf]; omega
            · go_wp2_with fail
              go_roundw
              case rel => exact ⟨i + 1, f, by omega, by go_num, rfl, by show _ = _; rw [← hnx.out, maxStep, ha.out, hbb.out, hc.out, if_neg (by simpa using h0)], by trivial⟩
              case measure => simp [intOf]; omega
          · go_wp2_with fail
            go_roundw
            case rel => exact ⟨i + 1, x, by omega, by go_num, rfl, by show _ = _; rw [← hnx.out, maxStep, ha.out, hbb.out, if_pos (by simp)], by trivial⟩
            case measure => simp [intOf]; omega
        · go_wp2_with fail
          go_roundw
          case rel => exact ⟨i + 1, f, by omega, by go_num, rfl, by show _ = _; rw [← hnx.out, maxStep, ha.out, if_neg (by simp)], by trivial⟩
          case measure => simp [intOf]; omega
end Go.Proofs.Ytjkdhckhokkefaa.Rl

/-
  made, more, ends, counted.
-/
namespace Go.Proofs.Ytjkdhckhokkefaa.Gg
open Go.RowKit Rl
set_option linter.unusedVariables false
theorem made_any (w : World) (b : Nat) (g : G) (vb vc : Value) (h : At 64 w b g vb vc) (hc : 0 < g.cs.length) : Calls Try.prog 32 #[.pointer (some ⟨b, 0, none⟩)] w fun e w' => e = .returned (.bool true) ∧ w' = w := by
  obtain ⟨_, c1, _⟩ := h.cells
  obtain ⟨bb, ca, cur, rfl, _, _, _, _, _⟩ := h.rc.at hc
  clear h
  go_enter Try.func32, Try.ntmps32
  go_wp2_with fail
  go_ret
  exact ⟨rfl, rfl⟩
theorem more_any (w : World) (a b : Int) (ha : 0 ≤ a) (ha2 : a ≤ 4611686018427387903) (hb : 0 ≤ b) (hb2 : b ≤ 4611686018427387903) : Calls Try.prog 33 #[.int .i64 a, .int .i64 b] w fun e w' => e = .returned (.int .i64 (a + b)) ∧ w' = w := by
  have k1 : IntKind.i64.wrap (9223372036854775807 - b) = 9223372036854775807 - b := by simp [IntKind.wrap, IntKind.bits, IntKind.signed]; omega
  have k2 : IntKind.i64.wrap (a + b) = a + b := by simp [IntKind.wrap, IntKind.bits, IntKind.signed]; omega
  have k3 : ¬ (9223372036854775807 - b < a) := by omega
  go_enter Try.func33, Try.ntmps33
  go_wp2_with fail
  go_ret
  exact ⟨rfl, rfl⟩
/-- What a gauge tells, in memory. -/
def Lx (w : World) (p : Nat) (l : L) : Prop := w.heap[p]? = some (.cells #[.int .i64 l.n, .int .i64 l.na, .float .f64 l.lo, .float .f64 l.hi, .float .f64 l.me] 44 (0, 0))
theorem Lx.cells {w : World} {p : Nat} {l : L} (h : Lx w p l) : w.cell? ⟨p, 0, none⟩ = some (.int .i64 l.n) ∧ w.cell? ⟨p, 1, none⟩ = some (.int .i64 l.na) ∧ w.cell? ⟨p, 2, none⟩ = some (.float .f64 l.lo) ∧ w.cell? ⟨p, 3, none⟩ = some (.float .f64 l.hi) ∧ w.cell? ⟨p, 4, none⟩ = some (.float .f64 l.me) := by
  unfold Lx at h
  refine ⟨?_, ?_, ?_, ?_, ?_⟩ <;> (rw [cell_of h]; rfl)
theorem Lx.frozen {w : World} {p : Nat} {l : L} (h : Lx w p l) (j : Nat) : w.frozen? ⟨p, j, none⟩ = false := by unfold Lx at h; simp [World.frozen?, h]
theorem Lx.below {w w' : World} {p : Nat} {l : L} (h : Lx w p l) (hb : Below w.heap.size w w') : Lx w' p l := (hb.block p (heap_lt h)).trans h
theorem Lx.new (w : World) (l : L) : Lx (w.alloc (.cells #[.int .i64 l.n, .int .i64 l.na, .float .f64 l.lo, .float .f64 l.hi, .float .f64 l.me] 44)) w.heap.size l := heap_alloc_new w _
def endsF (a b : L) : Nat × Nat := if a.n = 0 then (b.lo, b.hi) else if b.n = 0 then (a.lo, a.hi) else (minB [a.lo, b.lo], maxB [a.hi, b.hi])
theorem row_two (w : World) (x y : Nat) (t : TypeId) : Row (w.alloc (.cells #[.float .f64 x, .float .f64 y] t)) (.slice (some ⟨w.heap.size, 0, none⟩) 2 2) (fvals [x, y]) := by
  refine ⟨some ⟨w.heap.size, 0, none⟩, 2, rfl, fun e => by simp at e, by simp [fvals], by unfold maxLen; omega, fun i hi => ⟨w.heap.size, 0, rfl, ?_⟩⟩
  have hn := heap_alloc_new w (.cells #[.float .f64 x, .float .f64 y] t)
  have hi' : i < 2 := by simpa [fvals] using hi
  rw [Nat.zero_add, cell_of hn]
  match i, hi' with
  | 0, _ => rfl
  | 1, _ => rfl
theorem bs_two {x y : Nat} (hx : x < 18446744073709551616) (hy : y < 18446744073709551616) : Bs [x, y] := fun b hb => by
  simp at hb
  rcases hb with rfl | rfl <;> assumption
theorem ends_any (w : World) (a b : L) (h1 : a.lo < 18446744073709551616) (h2 : a.hi < 18446744073709551616) (h3 : b.lo < 18446744073709551616) (h4 : b.hi < 18446744073709551616) : Calls Try.prog 52 #[a.val, b.val] w fun e w' => e = .returned (.tuple #[.float .f64 (endsF a b).1, .float .f64 (endsF a b).2]) ∧ Below w.heap.size w w' := by
  obtain ⟨an, ana, alo, ahi, ame⟩ := a
  obtain ⟨bn, bna, blo, bhi, bme⟩ := b
  simp only at h1 h2 h3 h4
  unfold L.val
  simp only
  have B1 := box_below w (.cells #[.int .i64 an, .int .i64 ana, .float .f64 alo, .float .f64 ahi, .float .f64 ame] 44)
  have X1 := Lx.new w ⟨an, ana, alo, ahi, ame⟩
  simp only at X1
  obtain ⟨w1, hw1⟩ : ∃ w1, Hid (w.alloc (.cells #[.int .i64 an, .int .i64 ana, .float .f64 alo, .float .f64 ahi, .float .f64 ame] 44) = w1) := ⟨_, rfl⟩
  have B2 := box_below w1 (.cells #[.int .i64 bn, .int .i64 bna, .float .f64 blo, .float .f64 bhi, .float .f64 bme] 44)
  have X2 := Lx.new w1 ⟨bn, bna, blo, bhi, bme⟩
  simp only at X2
  rw [hw1.out] at X1 B1
  have hz : w1.heap.size = w.heap.size + 1 := by rw [← hw1.out]; simp
  rw [hz] at X2
  have X1' := X1.below B2
  obtain ⟨w2, hw2⟩ : ∃ w2, Hid (w1.alloc (.cells #[.int .i64 bn, .int .i64 bna, .float .f64 blo, .float .f64 bhi, .float .f64 bme] 44) = w2) := ⟨_, rfl⟩
  rw [hw2.out] at X2 B2 X1'
  have B3 : Hid (Below w.heap.size w w2) := keepF B1 B2
  have HX1 := hide X1'
  have HX2 := hide X2
  clear B1 B2 X1
  obtain ⟨a0, a1, a2, a3, a4⟩ := X1'.cells
  obtain ⟨b0, b1, b2, b3, b4⟩ := X2.cells
  simp only at a0 a1 a2 a3 a4 b0 b1 b2 b3 b4
  clear X1' X2
  obtain ⟨E, hE⟩ : ∃ E, Hid (endsF ⟨an, ana, alo, ahi, ame⟩ ⟨bn, bna, blo, bhi, bme⟩ = E) := ⟨_, rfl⟩
  rw [hE.out]
  go_enter Try.func52, Try.ntmps52
  go_upto_region 1 with fail
  rw [hw1.out, hw2.out]
  by_cases ha : an = 0
  · have hr : E = (blo, bhi) := by rw [← hE.out]; unfold endsF; rw [if_pos ha]
    subst hr
    clear hE
    subst ha
    go_upto_region 2 with fail
    go_quiet (fail)
    go_wp2_with fail
    go_ret2
    exact ⟨rfl, below_drewN B3.out _⟩
  · have ha' : (an == 0) = false := by simp [ha]
    by_cases hb : bn = 0
    · have hr : E = (alo, ahi) := by rw [← hE.out]; unfold endsF; rw [if_neg ha, if_pos hb]
      subst hr
      clear hE
      subst hb
      go_upto_region 4 with fail
      go_quiet (fail)
      go_wp2_with fail
      go_ret2
      exact ⟨rfl, below_drewN B3.out _⟩
    · have hb' : (bn == 0) = false := by simp [hb]
      have hr : E = (minB [alo, blo], maxB [ahi, bhi]) := by rw [← hE.out]; unfold endsF; rw [if_neg ha, if_neg hb]
      obtain ⟨mn, hmn⟩ : ∃ m, Hid (minB [alo, blo] = m) := ⟨_, rfl⟩
      obtain ⟨mx, hmx⟩ : ∃ m, Hid (maxB [ahi, bhi] = m) := ⟨_, rfl⟩
      rw [hmn.out, hmx.out] at hr
      subst hr
      clear hE
      have R3 := hide (row_two w2 alo blo 26)
      have B4 := hide (box_below w2 (.cells #[.float .f64 alo, .float .f64 blo] 26))
      go_upto_region 6 with (go_at_call 58; refine (min_any _ _ _ R3.out (bs_two h1 h3)).mono ?_; rw [hmn.out]; rintro e w' ⟨rfl, hw⟩; rw [hw]; clear hw w')
      have C1 := HX1.out.below B4.out
      have C2 := HX2.out.below B4.out
      have B5 : Hid (Below w.heap.size w (w2.alloc (.cells #[.float .f64 alo, .float .f64 blo] 26))) := keepF B3.out B4.out
      clear a0 a1 a2 a3 a4 b0 b1 b2 b3 b4
      obtain ⟨a0, a1, a2, a3, a4⟩ := C1.cells
      obtain ⟨b0, b1, b2, b3, b4⟩ := C2.cells
      simp only at a0 a1 a2 a3 a4 b0 b1 b2 b3 b4
      clear R3 B4 C1 C2
      generalize w2.alloc (.cells #[.float .f64 alo, .float .f64 blo] 26) = w3 at *
      have R3 := hide (row_two w3 ahi bhi 26)
      have B4 := hide (box_below w3 (.cells #[.float .f64 ahi, .float .f64 bhi] 26))
      go_wp2_with (go_at_call 59; refine (max_any _ _ _ R3.out (bs_two h2 h4)).mono ?_; rw [hmx.out]; rintro e w' ⟨rfl, hw⟩; rw [hw]; clear hw w')
      go_ret2
      exact ⟨rfl, keepF B5.out B4.out⟩
end Go.Proofs.Ytjkdhckhokkefaa.Gg

/-
  counted: a look with one number more.
-/
namespace Go.Proofs.Ytjkdhckhokkefaa.Gg
open Go.RowKit Rl
set_option linter.unusedVariables false
/-- A whole number as a float. -/
def nfB (n : Int) : Nat := FloatKind.f64.nearest n
theorem nf_lt (n : Int) : nfB n < 18446744073709551616 := by unfold nfB FloatKind.nearest; exact write_lt _
theorem conv_f (n : Int) (w : World) : (convert 2 26 (.int .i64 n)).run Try.prog w = .ok (.float .f64 (nfB n)) w := by
  simp [convert, Conv.intToFloat, nfB]
theorem cn_lt {o : Option Nat} (h : ∀ r, o = some r → r < 18446744073709551616) : cn o < 18446744073709551616 := by
  cases o with
  | none => show 9221120237041090561 < _; omega
  | some r => exact canon_lt (h r rfl)
theorem add_lt (x y : Nat) : addB x y < 18446744073709551616 := cn_lt fun r h => Ieee.Format.add_lt _ h
def meF (m x : Nat) (n : Int) : Nat := addB m (divB (subB x m) (nfB n))
def cntF (l : L) (x : Nat) : L := ⟨l.n + 1, l.na, (endsF l ⟨1, 0, x, x, 0⟩).1, (endsF l ⟨1, 0, x, x, 0⟩).2, meF l.me x (l.n + 1)⟩
theorem Lx.set0 {w : World} {p : Nat} {l : L} (h : Lx w p l) (x : Int) : Lx (w.setCell ⟨p, 0, none⟩ (.int .i64 x)) p ⟨x, l.na, l.lo, l.hi, l.me⟩ := by unfold Lx at h ⊢; rw [heap_setCell_same w p 0 _ _ _ h]; rfl
theorem Lx.set2 {w : World} {p : Nat} {l : L} (h : Lx w p l) (x : Nat) : Lx (w.setCell ⟨p, 2, none⟩ (.float .f64 x)) p ⟨l.n, l.na, x, l.hi, l.me⟩ := by unfold Lx at h ⊢; rw [heap_setCell_same w p 2 _ _ _ h]; rfl
theorem Lx.set3 {w : World} {p : Nat} {l : L} (h : Lx w p l) (x : Nat) : Lx (w.setCell ⟨p, 3, none⟩ (.float .f64 x)) p ⟨l.n, l.na, l.lo, x, l.me⟩ := by unfold Lx at h ⊢; rw [heap_setCell_same w p 3 _ _ _ h]; rfl
theorem Lx.set4 {w : World} {p : Nat} {l : L} (h : Lx w p l) (x : Nat) : Lx (w.setCell ⟨p, 4, none⟩ (.float .f64 x)) p ⟨l.n, l.na, l.lo, l.hi, x⟩ := by unfold Lx at h ⊢; rw [heap_setCell_same w p 4 _ _ _ h]; rfl
theorem Lx.set1 {w : World} {p : Nat} {l : L} (h : Lx w p l) (x : Int) : Lx (w.setCell ⟨p, 1, none⟩ (.int .i64 x)) p ⟨l.n, x, l.lo, l.hi, l.me⟩ := by unfold Lx at h ⊢; rw [heap_setCell_same w p 1 _ _ _ h]; rfl
/-- A look written over whole. -/
theorem Lx.all {w : World} {p : Nat} {l : L} (h : Lx w p l) (n na : Int) (lo hi me : Nat) : Lx (((((w.setCell ⟨p, 0, none⟩ (.int .i64 n)).setCell ⟨p, 1, none⟩ (.int .i64 na)).setCell ⟨p, 2, none⟩ (.float .f64 lo)).setCell ⟨p, 3, none⟩ (.float .f64 hi)).setCell ⟨p, 4, none⟩ (.float .f64 me)) p ⟨n, na, lo, hi, me⟩ := ((((h.set0 n).set1 na).set2 lo).set3 hi).set4 me
theorem below_all {B : Nat} {a w : World} (h : Below B a w) (p : Nat) (hp : B ≤ p) (o : Nat) (x0 x1 x2 x3 x4 : Value) : Below B a (((((w.setCell ⟨p, o, none⟩ x0).setCell ⟨p, o + 1, none⟩ x1).setCell ⟨p, o + 2, none⟩ x2).setCell ⟨p, o + 3, none⟩ x3).setCell ⟨p, o + 4, none⟩ x4) := ((((h.setCell hp x0).setCell hp x1).setCell hp x2).setCell hp x3).setCell hp x4
theorem lookSize : (Try.prog.info? 44).map (·.size) = some 5 := by kernel_rfl
theorem set_block (w : World) (p j k : Nat) (v : Value) (h : k ≠ p) : (w.setCell ⟨p, j, none⟩ v).heap[k]? = w.heap[k]? := (grown_setCell w p j v).block k |> fun f => by
  by_cases hk : k < w.heap.size
  · exact f hk (fun e => h (by simpa using e))
  · have hs : (w.setCell ⟨p, j, none⟩ v).heap.size = w.heap.size := by simp
    rw [Array.getElem?_eq_none (by omega), Array.getElem?_eq_none (by omega)]
theorem Lx.away {w : World} {p q j : Nat} {l : L} (h : Lx w q l) (v : Value) (hne : q ≠ p) : Lx (w.setCell ⟨p, j, none⟩ v) q l := (set_block w p j q v hne).trans h
theorem below_set {B : Nat} {a w : World} (h : Below B a w) (p j : Nat) (v : Value) (hp : B ≤ p) : Below B a (w.setCell ⟨p, j, none⟩ v) := h.setCell hp v
theorem counted_any (w : World) (l : L) (x : Nat) (hx : x < 18446744073709551616) (hn : 0 ≤ l.n) (hn2 : l.n ≤ 1000000000000) (h1 : l.lo < 18446744073709551616) (h2 : l.hi < 18446744073709551616) : Calls Try.prog 36 #[l.val, .float .f64 x] w fun e w' => e = .returned (cntF l x).val ∧ Below w.heap.size w w' := by
  obtain ⟨n, na, lo, hi, me⟩ := l
  simp only at hn hn2 h1 h2
  have B1 := box_below w (.cells #[.int .i64 n, .int .i64 na, .float .f64 lo, .float .f64 hi, .float .f64 me] 44)
  have X1 := Lx.new w ⟨n, na, lo, hi, me⟩
  simp only at X1
  obtain ⟨w1, hw1⟩ : ∃ w1, Hid (w.alloc (.cells #[.int .i64 n, .int .i64 na, .float .f64 lo, .float .f64 hi, .float .f64 me] 44) = w1) := ⟨_, rfl⟩
  have B2 := box_below w1 (.cells #[.int .i64 0, .int .i64 0, .float .f64 0, .float .f64 0, .float .f64 0] 44)
  have X2 := Lx.new w1 L0
  rw [hw1.out] at X1 B1
  have hz : w1.heap.size = w.heap.size + 1 := by rw [← hw1.out]; simp
  rw [hz] at X2
  have X1' := X1.below B2
  obtain ⟨w2, hw2⟩ : ∃ w2, Hid (w1.alloc (.cells #[.int .i64 0, .int .i64 0, .float .f64 0, .float .f64 0, .float .f64 0] 44) = w2) := ⟨_, rfl⟩
  replace X2 : Lx w2 (w.heap.size + 1) L0 := by rw [← hw2.out]; exact X2
  rw [hw2.out] at B2 X1'
  have B3 : Hid (Below w.heap.size w w2) := keepF B1 B2
  have HX1 := hide X1'
  have HX2 := hide X2
  clear B1 B2 X1 hz
  obtain ⟨a0, a1, a2, a3, a4⟩ := X1'.cells
  simp only at a0 a1 a2 a3 a4
  clear X1' X2
  obtain ⟨E, hE⟩ : ∃ E, Hid (endsF ⟨n, na, lo, hi, me⟩ ⟨1, 0, x, x, 0⟩ = E) := ⟨_, rfl⟩
  obtain ⟨c1, c2⟩ := E
  have hR : Hid (cntF ⟨n, na, lo, hi, me⟩ x = ⟨n + 1, na, c1, c2, meF me x (n + 1)⟩) := hide (by unfold cntF; rw [hE.out])
  rw [hR.out]
  unfold L.val
  simp only
  have sf : ∀ (W : World) (a : Addr) (x : Nat), (store a (.float .f64 x)).run Try.prog W = stored Try.prog W a (.float .f64 x) .plain := fun W a x => run_store _ W a _ _ rfl
  go_enter Try.func36, Try.ntmps36
  go_upto_region 1 with fail
  rw [hw1.out, hw2.out]
  go_wp2_with fail
  go_at_call 52
  refine (ends_any _ ⟨n, na, lo, hi, me⟩ ⟨1, 0, x, x, 0⟩ h1 h2 hx hx).mono ?_
  rw [hE.out]
  rintro e w3 ⟨rfl, b3⟩
  have C1 := HX1.out.below b3
  have C2 := HX2.out.below b3
  have B4 := keepF B3.out b3
  obtain ⟨q0, q1, q2, q3, q4⟩ := C1.cells
  simp only at q0 q1 q2 q3 q4
  have z2 := C1.frozen 2
  have z3 := C1.frozen 3
  have D1 := hide ((C1.set2 c1).set3 c2)
  have D2 := hide ((C2.away (.float .f64 c1) (p := w.heap.size) (j := 2) (by omega)).away (.float .f64 c2) (p := w.heap.size) (j := 3) (by omega))
  have D3 := hide (below_set (below_set B4 w.heap.size 2 (.float .f64 c1) (Nat.le_refl _)) w.heap.size 3 (.float .f64 c2) (Nat.le_refl _))
  simp only at D1
  clear HX1 HX2 C1 C2 B4 b3 B3 hw1 hw2 a0 a1 a2 a3 a4 hE hR
  go_upto_region 2 with fail
  clear q0 q1 q2 q3 q4 z2 z3
  generalize (w3.setCell ⟨w.heap.size, 2, none⟩ (.float .f64 c1)).setCell ⟨w.heap.size, 3, none⟩ (.float .f64 c2) = w4 at *
  obtain ⟨q0, q1, q2, q3, q4⟩ := D1.out.cells
  simp only at q0 q1 q2 q3 q4
  have z0 := D1.out.frozen 0
  have E1 := hide (D1.out.set0 (n + 1))
  have E2 := hide (D2.out.away (.int .i64 (n + 1)) (p := w.heap.size) (j := 0) (by omega))
  have E3 := hide (below_set D3.out w.heap.size 0 (.int .i64 (n + 1)) (Nat.le_refl _))
  simp only at E1
  clear D1 D2 D3
  go_upto_region 3 with (go_at_call 33; refine (more_any _ n 1 hn (by omega) (by omega) (by omega)).mono ?_; rintro e w' ⟨rfl, hw⟩; rw [hw]; clear hw w')
  clear q0 q1 q2 q3 q4 z0
  generalize w4.setCell ⟨w.heap.size, 0, none⟩ (.int .i64 (n + 1)) = w5 at *
  obtain ⟨q0, q1, q2, q3, q4⟩ := E1.out.cells
  simp only at q0 q1 q2 q3 q4
  obtain ⟨d, n1, e1, i1⟩ := sub2 x me w5
  obtain ⟨m, n2, e2, i2⟩ := div2 d (nfB (n + 1)) (w5.drewN n1)
  rw [World.drewN_drewN] at e2
  obtain ⟨s, n3, e3, i3⟩ := add2 me m (w5.drewN (n1 + n2))
  rw [World.drewN_drewN] at e3
  have hcv := conv_f (n + 1)
  have hD := fun u => canon_any u s i3.lt
  have hs : Hid (canonB s = meF me x (n + 1)) := hide (i3.add (i2.div i1))
  clear i1 i2 i3
  go_upto_region 4 with fail
  have F1 := E1.out.below (below_drewN (Below.refl _ _) (n1 + n2 + n3))
  have F2 := E2.out.below (below_drewN (Below.refl _ _) (n1 + n2 + n3))
  have F3 := below_drewN E3.out (n1 + n2 + n3)
  have z4 := F1.frozen 4
  obtain ⟨r0, r1, r2, r3, r4⟩ := F1.cells
  simp only at r0 r1 r2 r3 r4
  rw [hs.out] at hD
  go_upto_region 5 with (go_at_call 48; refine (hD _).mono ?_; rintro e w' ⟨rfl, hw⟩; rw [hw]; clear hw w')
  have G1 := F1.set4 (meF me x (n + 1))
  have G2 := F2.away (.float .f64 (meF me x (n + 1))) (p := w.heap.size) (j := 4) (by omega)
  have G3 := below_set F3 w.heap.size 4 (.float .f64 (meF me x (n + 1))) (Nat.le_refl _)
  clear F1 F2 F3 r0 r1 r2 r3 r4 z4 q0 q1 q2 q3 q4 E1 E2 E3 e1 e2 e3 hD hs hcv
  generalize (w5.drewN (n1 + n2 + n3)).setCell ⟨w.heap.size, 4, none⟩ (.float .f64 (meF me x (n + 1))) = w6 at *
  obtain ⟨r0, r1, r2, r3, r4⟩ := G1.cells
  simp only at r0 r1 r2 r3 r4
  obtain ⟨s0, s1, s2, s3, s4⟩ := G2.cells
  have y0 := G2.frozen 0
  have y1 := G2.frozen 1
  have y2 := G2.frozen 2
  have y3 := G2.frozen 3
  have y4 := G2.frozen 4
  have HG2 := hide G2
  have HG3 := hide G3
  clear G1 G2 G3
  go_wp2_with fail
  try simp only [Exit.inBlock, Exit.then]
  refine bodyPost_ret (v := .agg _) (results_cell_row rfl _ _ (w.heap.size + 1) 44 _ (0, 0) _ rfl (HG2.out.all (n + 1) na c1 c2 (meF me x (n + 1))) Try.underlying44 rfl lookSize) rfl ?_
  exact ⟨rfl, below_all HG3.out (w.heap.size + 1) (by omega) 0 _ _ _ _ _⟩
end Go.Proofs.Ytjkdhckhokkefaa.Gg

/-
  The cell is found by a binary search.
-/
namespace Go.Proofs.Ytjkdhckhokkefaa.Gg
open Go.RowKit Rl
set_option linter.unusedVariables false
/-- How many bounds a number stands behind. -/
def ixB : List Nat → Nat → Nat
  | [], _ => 0
  | b :: r, x => if keyB b < keyB x then ixB r x + 1 else 0
theorem ix_le (l : List Nat) (x : Nat) : ixB l x ≤ l.length := by
  induction l with
  | nil => exact Nat.le_refl _
  | cons b r ih => unfold ixB; split <;> simp <;> omega
theorem ix_low (l : List Nat) (x : Nat) : ∀ j, j < ixB l x → keyB (l.getD j 0) < keyB x := by
  induction l with
  | nil => intro j hj; simp [ixB] at hj
  | cons b r ih =>
    intro j hj
    unfold ixB at hj
    split at hj
    · match j with
      | 0 => simpa using ‹keyB b < keyB x›
      | j + 1 => simpa using ih j (by omega)
    · omega
theorem ix_at (l : List Nat) (x : Nat) (h : ixB l x < l.length) : ¬ keyB (l.getD (ixB l x) 0) < keyB x := by
  induction l with
  | nil => simp [ixB] at h
  | cons b r ih =>
    unfold ixB at h ⊢
    split at h
    · rename_i hb
      rw [if_pos hb]
      simpa using ih (by simpa using h)
    · rename_i hb
      rw [if_neg hb]
      simpa using hb
theorem rises_step {l : List Nat} (h : Rises l) {i : Nat} (hi : i + 1 < l.length) : keyB (l.getD i 0) < keyB (l.getD (i + 1) 0) := by
  have := h (i + 1) hi
  unfold okAt at this
  simp only [Nat.add_sub_cancel, Bool.and_eq_true, Bool.or_eq_true, decide_eq_true_eq] at this
  rcases this.2 with c | c
  · omega
  · unfold cmpB cmpZ at c
    split at c
    · omega
    · split at c <;> omega
theorem rises_lt {l : List Nat} (h : Rises l) {i : Nat} : ∀ {j}, i < j → j < l.length → keyB (l.getD i 0) < keyB (l.getD j 0) := by
  intro j
  induction j with
  | zero => intro hij; omega
  | succ j ih =>
    intro hij hj
    have h1 := rises_step h hj
    rcases Nat.lt_or_eq_of_le (Nat.le_of_lt_succ hij) with q | rfl
    · exact Nat.lt_trans (ih q (by omega)) h1
    · exact h1
theorem ix_high {l : List Nat} (hr : Rises l) (x : Nat) : ∀ j, ixB l x ≤ j → j < l.length → ¬ keyB (l.getD j 0) < keyB x := fun j hj hl => by
  have h0 := ix_at l x (by omega)
  rcases Nat.lt_or_eq_of_le hj with q | q
  · have := rises_lt hr q hl
    omega
  · rw [← q]; exact h0
theorem cmpB_neg (a b : Nat) : cmpB a b < 0 ↔ keyB a < keyB b := by
  unfold cmpB cmpZ
  split
  · constructor <;> intro <;> omega
  · split <;> (constructor <;> intro <;> omega)
set_option maxHeartbeats 2000000 in
theorem bsf_any (w : World) (v : Value) (l : List Nat) (x : Nat) (hv : Fw 0 w v l) (hs : Rises l) (hb : Bs l) (hx : x < 18446744073709551616) (hlen : l.length ≤ 64) :
    Calls Try.prog 34 #[v, .float .f64 x, .func (.func 35) #[] #[]] w fun e w' => ∃ z, e = .returned (.tuple #[.int .i64 (ixB l x : Int), .bool z]) ∧ w' = w := by
  by_cases hl : l = []
  · subst hl
    obtain ⟨ao, n, ca, rfl⟩ := owns_form hv
    have hn : n = 0 := by
      rcases hv.2 with ⟨e, _⟩ | ⟨g, cap, cur, e, _⟩
      · simp at e; exact e.2.1
      · simp at e; exact e.2.1
    subst hn
    have hR : Hid ((ixB [] x : Int) = 0) := hide rfl
    clear hv
    go_enter Try.func34, Try.ntmps34
    go_wp2_with fail
    go_loopw [9, 10] (fun s9 s10 wr => s9 = .int .i64 0 ∧ s10 = .int .i64 0 ∧ wr = w) (fun _ _ _ => 0)
    case atStart => exact ⟨rfl, rfl, rfl⟩
    case round =>
      obtain ⟨rfl, rfl, rfl⟩ := hrel
      go_wp2_with fail
      go_ret2
      exact ⟨_, by rw [hR.out]; rfl, rfl⟩
  · have hl0 : 0 < l.length := List.length_pos_iff.2 hl
    obtain ⟨g, ca, rfl, q1, q2, _, hc⟩ := Fw.at hv hl0
    have HC := hide hc
    have HLo := hide (ix_low l x)
    have HHi := hide (ix_high hs x)
    have HBd := hide (fun j (hj : j < l.length) => hb _ (getD_mem hj))
    have hcl := ix_le l x
    obtain ⟨C, hC⟩ : ∃ C, Hid (ixB l x = C) := ⟨_, rfl⟩
    obtain ⟨N, hN⟩ : ∃ N, Hid (l.length = N) := ⟨_, rfl⟩
    rw [hC.out] at hcl HLo HHi
    rw [hN.out] at q2 hlen hcl HC HHi HBd
    rw [hC.out, hN.out]
    clear hc hv hs hl hl0 hb
    go_enter Try.func34, Try.ntmps34
    go_wp2_with fail
    go_loopg [9, 10] N (fun kx s9 s10 wr => ∃ lo hi : Nat, s9 = .int .i64 (lo : Int) ∧ s10 = .int .i64 (hi : Int) ∧ lo ≤ C ∧ C ≤ hi ∧ hi ≤ N ∧ hi - lo ≤ kx ∧ wr = w)
    case atStart => exact ⟨0, N, rfl, rfl, Nat.zero_le _, hcl, Nat.le_refl _, by omega, rfl⟩
    case round =>
      obtain ⟨lo, hi, rfl, rfl, h1, h2, h3, h4, hwr⟩ := hrel
      subst hwr
      by_cases hlt : lo < hi
      · obtain ⟨M, hM⟩ : ∃ M, M = (lo + hi) / 2 := ⟨_, rfl⟩
        have hm : M < N := by omega
        have gB := HC.out M hm
        have hL : Hid (M < C → keyB (l.getD M 0) < keyB x) := fun h => HLo.out M h
        have hG : Hid (C ≤ M → ¬ keyB (l.getD M 0) < keyB x) := fun h => HHi.out M h hm
        have hy := HBd.out M hm
        generalize l.getD M 0 = y at *
        have hMi : ((lo : Int) + (hi : Int)) / 2 = (M : Int) := by omega
        have hM1 : lo ≤ M ∧ M < hi := by omega
        replace hM := hide hM
        have hcn := hide (cmpB_neg y x)
        go_wp2_with fail
        refine (compare_any _ y x hy hx).mono ?_
        rintro e w2 ⟨rfl, hw⟩
        rw [hw]
        clear hw w2 gB
        generalize cmpB y x = z at *
        by_cases hz : z < 0
        · have hMC : M < C := by
            refine Classical.byContradiction fun c => ?_
            exact hG.out (by omega) (hcn.out.1 hz)
          go_wp2_with fail
          go_roundg (hi - (M + 1))
          case measure => omega
          case rel => exact ⟨M + 1, hi, rfl, rfl, by omega, h2, h3, Nat.le_refl _, by trivial⟩
        · have hMC : C ≤ M := by
            refine Classical.byContradiction fun c => ?_
            exact hz (hcn.out.2 (hL.out (by omega)))
          go_wp2_with fail
          go_roundg (M - lo)
          case measure => omega
          case rel => exact ⟨lo, M, rfl, rfl, h1, hMC, by omega, Nat.le_refl _, by trivial⟩
      · obtain rfl : lo = C := by omega
        obtain rfl : hi = lo := by omega
        clear HLo HHi
        by_cases hin : hi < N
        · have gB := HC.out hi hin
          have hy := HBd.out hi hin
          generalize l.getD hi 0 = y at *
          go_wp2_with fail
          refine (compare_any _ y x hy hx).mono ?_
          rintro e w2 ⟨rfl, hw⟩
          rw [hw]
          clear hw w2 gB
          generalize cmpB y x = z at *
          go_wp2_with fail
          go_ret2
          exact ⟨_, rfl, rfl⟩
        · go_wp2_with fail
          go_ret2
          exact ⟨_, rfl, rfl⟩
end Go.Proofs.Ytjkdhckhokkefaa.Gg

/-
  Put of the gauge. (gen_GgH.py)
-/
namespace Go.Proofs.Ytjkdhckhokkefaa.Gg
open Go.RowKit Rl
open Ix (wp_region_T wpAnyT wpAnyT_take wpAnyT_one wpAnyT_done vac)
set_option linter.unusedVariables false
set_option maxRecDepth 100000
theorem At.cell {T : TypeId} {w : World} {b cb n ca : Nat} {g : G} {vb : Value} (h : At T w b g vb (.slice (some ⟨cb, 0, none⟩) n ca)) (i : Nat) (hi : i < g.cs.length) : w.cell? ⟨cb, i, none⟩ = some (.int .i64 (g.cs.getD i 0)) := by
  obtain ⟨b', ca', cur, e, _, _, _, _, hc⟩ := Iw.at h.rc (by omega)
  simp at e
  obtain ⟨rfl, _, _⟩ := e
  exact hc i hi
theorem At.cfrozen {T : TypeId} {w : World} {b cb n ca : Nat} {g : G} {vb : Value} (h : At T w b g vb (.slice (some ⟨cb, 0, none⟩) n ca)) (i : Nat) : w.frozen? ⟨cb, i, none⟩ = false := by
  rcases h.rc.2 with ⟨e, _⟩ | ⟨g', cap, cur, e, hg, hh, _⟩
  · simp at e
  · simp at e
    obtain ⟨rfl, _, _⟩ := e
    simp [World.frozen?, hh]
theorem but_cell (w : World) (p j : Nat) (v : Value) {X : Nat → Prop} (hX : X p) : But X w (w.setCell ⟨p, j, none⟩ v) := But.of_grownBy (grown_setCell w p j v) fun k e => by cases e; exact hX
/-- A cell of the gauge written over. -/
theorem At.cset {T : TypeId} {w : World} {b cb n ca : Nat} {g : G} {vb : Value} (h : At T w b g vb (.slice (some ⟨cb, 0, none⟩) n ca)) (hT : T ≠ 2) (i : Nat) (x : Int) : At T (w.setCell ⟨cb, i, none⟩ (.int .i64 x)) b ⟨g.bs, g.cs.set i x, g.l⟩ vb (.slice (some ⟨cb, 0, none⟩) n ca) := by
  have hb := but_cell w cb i (.int .i64 x) (X := fun k => k = cb) rfl
  refine ⟨hb.at h.box (fun e => h.nc hT (by rw [e]; rfl)), owns_but h.rb hb (fun k hk e => ?_), h.rc.set i x⟩
  subst e
  exact h.bc k hk rfl
theorem At.setl {T : TypeId} {w : World} {b : Nat} {g : G} {vb vc : Value} (h : At T w b g vb vc) (hF : T ≠ 26) (hI : T ≠ 2) {w' : World} {l : L} (hb : But (fun k => k = b) w w') (hx : w'.heap[b]? = some (.cells (gcells ⟨g.bs, g.cs, l⟩ vb vc) T (0, 0))) : At T w' b ⟨g.bs, g.cs, l⟩ vb vc :=
  ⟨hx, owns_but h.rb hb (fun k hk e => h.nb hF (by rw [← e]; exact hk)), owns_but h.rc hb (fun k hk e => h.nc hI (by rw [← e]; exact hk))⟩
theorem At.set2 {T : TypeId} {w : World} {b : Nat} {g : G} {vb vc : Value} (h : At T w b g vb vc) (hF : T ≠ 26) (hI : T ≠ 2) (x : Int) : At T (w.setCell ⟨b, 2, none⟩ (.int .i64 x)) b ⟨g.bs, g.cs, ⟨x, g.l.na, g.l.lo, g.l.hi, g.l.me⟩⟩ vb vc :=
  h.setl hF hI (but_cell _ _ _ _ rfl) (by rw [heap_setCell_same w b 2 _ _ _ h.box]; rfl)
theorem At.set3 {T : TypeId} {w : World} {b : Nat} {g : G} {vb vc : Value} (h : At T w b g vb vc) (hF : T ≠ 26) (hI : T ≠ 2) (x : Int) : At T (w.setCell ⟨b, 3, none⟩ (.int .i64 x)) b ⟨g.bs, g.cs, ⟨g.l.n, x, g.l.lo, g.l.hi, g.l.me⟩⟩ vb vc :=
  h.setl hF hI (but_cell _ _ _ _ rfl) (by rw [heap_setCell_same w b 3 _ _ _ h.box]; rfl)
theorem At.set4 {T : TypeId} {w : World} {b : Nat} {g : G} {vb vc : Value} (h : At T w b g vb vc) (hF : T ≠ 26) (hI : T ≠ 2) (x : Nat) : At T (w.setCell ⟨b, 4, none⟩ (.float .f64 x)) b ⟨g.bs, g.cs, ⟨g.l.n, g.l.na, x, g.l.hi, g.l.me⟩⟩ vb vc :=
  h.setl hF hI (but_cell _ _ _ _ rfl) (by rw [heap_setCell_same w b 4 _ _ _ h.box]; rfl)
theorem At.set5 {T : TypeId} {w : World} {b : Nat} {g : G} {vb vc : Value} (h : At T w b g vb vc) (hF : T ≠ 26) (hI : T ≠ 2) (x : Nat) : At T (w.setCell ⟨b, 5, none⟩ (.float .f64 x)) b ⟨g.bs, g.cs, ⟨g.l.n, g.l.na, g.l.lo, x, g.l.me⟩⟩ vb vc :=
  h.setl hF hI (but_cell _ _ _ _ rfl) (by rw [heap_setCell_same w b 5 _ _ _ h.box]; rfl)
theorem At.set6 {T : TypeId} {w : World} {b : Nat} {g : G} {vb vc : Value} (h : At T w b g vb vc) (hF : T ≠ 26) (hI : T ≠ 2) (x : Nat) : At T (w.setCell ⟨b, 6, none⟩ (.float .f64 x)) b ⟨g.bs, g.cs, ⟨g.l.n, g.l.na, g.l.lo, g.l.hi, x⟩⟩ vb vc :=
  h.setl hF hI (but_cell _ _ _ _ rfl) (by rw [heap_setCell_same w b 6 _ _ _ h.box]; rfl)
/-- What it tells, written over whole. -/
theorem At.look {T : TypeId} {w : World} {b : Nat} {g : G} {vb vc : Value} (h : At T w b g vb vc) (hF : T ≠ 26) (hI : T ≠ 2) (l : L) : At T (((((w.setCell ⟨b, 2, none⟩ (.int .i64 l.n)).setCell ⟨b, 3, none⟩ (.int .i64 l.na)).setCell ⟨b, 4, none⟩ (.float .f64 l.lo)).setCell ⟨b, 5, none⟩ (.float .f64 l.hi)).setCell ⟨b, 6, none⟩ (.float .f64 l.me)) b ⟨g.bs, g.cs, l⟩ vb vc :=
  ((((h.set2 hF hI l.n).set3 hF hI l.na).set4 hF hI l.lo).set5 hF hI l.hi).set6 hF hI l.me
theorem but_all (w : World) (p o : Nat) (x0 x1 x2 x3 x4 : Value) {X : Nat → Prop} (hX : X p) : But X w (((((w.setCell ⟨p, o, none⟩ x0).setCell ⟨p, o + 1, none⟩ x1).setCell ⟨p, o + 2, none⟩ x2).setCell ⟨p, o + 3, none⟩ x3).setCell ⟨p, o + 4, none⟩ x4) :=
  ((((but_cell _ _ _ _ hX).trans (but_cell _ _ _ _ hX)).trans (but_cell _ _ _ _ hX)).trans (but_cell _ _ _ _ hX)).trans (but_cell _ _ _ _ hX)
/-- What holds of a gauge always; none of its counts is above M. -/
structure Ok (M : Int) (g : G) : Prop where
  len : g.bs.length ≤ 64
  cl : g.cs.length = g.bs.length + 1
  bs : Bs g.bs
  rs : Rises g.bs
  cs : ∀ c ∈ g.cs, 0 ≤ c ∧ c ≤ M
  n : 0 ≤ g.l.n ∧ g.l.n ≤ M
  na : 0 ≤ g.l.na ∧ g.l.na ≤ M
  lo : g.l.lo < 18446744073709551616
  hi : g.l.hi < 18446744073709551616
  me : g.l.me < 18446744073709551616
def putF (g : G) (x : Nat) : G := if nanB x then ⟨g.bs, g.cs, ⟨g.l.n, g.l.na + 1, g.l.lo, g.l.hi, g.l.me⟩⟩ else ⟨g.bs, g.cs.set (ixB g.bs x) (g.cs.getD (ixB g.bs x) 0 + 1), cntF g.l x⟩
theorem getI_mem {l : List Int} {i : Nat} (h : i < l.length) : l.getD i 0 ∈ l := by
  rw [show l.getD i 0 = l[i] by simp [h]]
  exact List.getElem_mem h
theorem minStep_lt {B f x : Nat} (hf : f < B) (hx : x < B) : minStep f x < B := by unfold minStep; split <;> assumption
theorem maxStep_lt {B f x : Nat} (hf : f < B) (hx : x < B) : maxStep f x < B := by unfold maxStep; split <;> assumption
theorem nanc_lt : 9221120237041090561 < 18446744073709551616 := by omega
theorem min_pair (a b : Nat) : minB [a, b] = minStep (minStep 9221120237041090561 a) b := by unfold minB; rw [if_neg (by simp), List.foldl_cons, List.foldl_cons, List.foldl_nil]
theorem max_pair (a b : Nat) : maxB [a, b] = maxStep (maxStep 9221120237041090561 a) b := by unfold maxB; rw [if_neg (by simp), List.foldl_cons, List.foldl_cons, List.foldl_nil]
theorem min_two {a b : Nat} (ha : a < 18446744073709551616) (hb : b < 18446744073709551616) : minB [a, b] < 18446744073709551616 := by
  rw [min_pair]
  exact minStep_lt (minStep_lt nanc_lt ha) hb
theorem max_two {a b : Nat} (ha : a < 18446744073709551616) (hb : b < 18446744073709551616) : maxB [a, b] < 18446744073709551616 := by
  rw [max_pair]
  exact maxStep_lt (maxStep_lt nanc_lt ha) hb
theorem ends_lt {a b : L} (h1 : a.lo < 18446744073709551616) (h2 : a.hi < 18446744073709551616) (h3 : b.lo < 18446744073709551616) (h4 : b.hi < 18446744073709551616) : (endsF a b).1 < 18446744073709551616 ∧ (endsF a b).2 < 18446744073709551616 := by
  have m1 := min_two h1 h3
  have m2 := max_two h2 h4
  unfold endsF
  generalize minB [a.lo, b.lo] = m at *
  generalize maxB [a.hi, b.hi] = m' at *
  split
  · exact ⟨h3, h4⟩
  · split
    · exact ⟨h1, h2⟩
    · exact ⟨m1, m2⟩
theorem Ok.put {M : Int} {g : G} (h : Ok M g) (x : Nat) (hx : x < 18446744073709551616) : Ok (M + 1) (putF g x) := by
  have := h.n
  have := h.na
  unfold putF
  split
  · exact ⟨h.len, h.cl, h.bs, h.rs, fun c hc => by have := h.cs c hc; omega, by simp; omega, by simp; omega, h.lo, h.hi, h.me⟩
  · refine ⟨h.len, by simp [h.cl], h.bs, h.rs, fun c hc => ?_, ?_, ?_, (ends_lt h.lo h.hi hx hx).1, (ends_lt h.lo h.hi hx hx).2, add_lt _ _⟩
    · rcases List.mem_or_eq_of_mem_set hc with q | q
      · have := h.cs c q; omega
      · have hi := ix_le g.bs x
        have := h.cs _ (getI_mem (l := g.cs) (i := ixB g.bs x) (by rw [h.cl]; omega))
        omega
    · show 0 ≤ g.l.n + 1 ∧ g.l.n + 1 ≤ M + 1; omega
    · show 0 ≤ g.l.na ∧ g.l.na ≤ M + 1; omega
theorem Ok.new {l : List Nat} (hl : l.length ≤ 64) (hb : Bs l) (hr : Rises l) : Ok 0 (g0 l) := ⟨hl, by simp [g0], hb, hr, fun c hc => by simp [g0] at hc; omega, by simp [g0, L0], by simp [g0, L0], by simp [g0, L0], by simp [g0, L0], by simp [g0, L0]⟩
theorem Ok.mono {M M' : Int} {g : G} (h : Ok M g) (hm : M ≤ M') : Ok M' g := ⟨h.len, h.cl, h.bs, h.rs, fun c hc => by have := h.cs c hc; omega, by have := h.n; omega, by have := h.na; omega, h.lo, h.hi, h.me⟩
set_option maxHeartbeats 1000000 in
theorem put_any (w : World) (b : Nat) (g : G) (vb vc : Value) (M : Int) (x : Nat) (h : At 64 w b g vb vc) (ok : Ok M g) (hM : M ≤ 1000000000) (hx : x < 18446744073709551616) :
    Calls Try.prog 12 #[.pointer (some ⟨b, 0, none⟩), .float .f64 x] w fun e w' => e = .returned (.tuple #[]) ∧ At 64 w' b (putF g x) vb vc ∧ But (Tur b vc) w w' := by
  have hcl : 0 < g.cs.length := by rw [ok.cl]; omega
  have hm := made_any w b g vb vc h hcl
  have hn := mathIsNaN_any w x hx
  have HA := hide h
  obtain ⟨z1, z2⟩ := ok.n
  obtain ⟨z3, z4⟩ := ok.na
  have sf : ∀ (W : World) (a : Addr) (x : Nat), (store a (.float .f64 x)).run Try.prog W = stored Try.prog W a (.float .f64 x) .plain := fun W a x => run_store _ W a _ _ rfl
  cases hnx : nanB x
  · have hbs := hide (bsf_any w vb g.bs x h.rb ok.rs ok.bs hx ok.len)
    have hix := ix_le g.bs x
    have hil : ixB g.bs x < g.cs.length := by rw [ok.cl]; omega
    have hcv := ok.cs _ (getI_mem hil)
    have hp : Hid (putF g x = ⟨g.bs, g.cs.set (ixB g.bs x) (g.cs.getD (ixB g.bs x) 0 + 1), cntF g.l x⟩) := hide (by unfold putF; rw [if_neg (by simp [hnx])])
    obtain ⟨cb, ca, cur, rfl, p1, p2, p3, p4, _⟩ := Iw.at h.rc hcl
    have hct := hide (fun u => counted_any u g.l x hx z1 (by omega) ok.lo ok.hi)
    obtain ⟨c0, c1, c2, c3, c4, c5, c6⟩ := h.cells
    have HC := hide (fun q (hq : At 64 q b g vb (.slice (some ⟨cb, 0, none⟩) g.cs.length ca)) => hq.cell _ hil)
    rw [hnx] at hn
    rw [hp.out]
    obtain ⟨i, hi⟩ : ∃ i, Hid (ixB g.bs x = i) := ⟨_, rfl⟩
    obtain ⟨N, hN⟩ : ∃ N, Hid (g.cs.length = N) := ⟨_, rfl⟩
    obtain ⟨cv, hcvv⟩ : ∃ cv, Hid (g.cs.getD (ixB g.bs x) 0 = cv) := ⟨_, rfl⟩
    obtain ⟨y0, yb, yc, rfl⟩ := owns_form h.rb
    rw [hcvv.out] at hcv HC ⊢
    rw [hi.out] at hbs HC hil ⊢
    rw [hN.out] at hil HA h c1 HC p2 ⊢
    have i1 : (0 : Int) ≤ (i : Int) := by omega
    have i2 : (i : Int) < (N : Int) := by omega
    obtain ⟨l', hl'⟩ : ∃ l', Hid (cntF g.l x = l') := ⟨_, rfl⟩
    rw [hl'.out] at hct ⊢
    clear ok hp hi hcl h hcvv hN p4 p3
    go_enter Try.func12, Try.ntmps12
    go_upto_region 3 with (first | (go_at_call 32; refine hm.mono ?_; rintro e w' ⟨rfl, hw⟩; rw [hw]; clear hw w') | (go_at_call 26; refine hn.mono ?_; rintro e w' ⟨rfl, hw⟩; rw [hw]; clear hw w'))
    go_wp2_with fail
    go_at_call 34
    refine hbs.out.mono ?_
    rintro e w' ⟨zz, rfl, hw⟩
    rw [hw]
    clear hw w' hbs
    go_upto_region 4 with fail
    clear c0 c1 c2 c3 c4 c5 c6 hm hn
    have KP : Hid (At 64 w.drew b g (.slice y0 yb yc) (.slice (some ⟨cb, 0, none⟩) N ca)) := HA.out.below (Below.refl _ _).drew
    have KB : Hid (Below w.heap.size w w.drew) := (Below.refl _ _).drew
    refine wp_region_T (fun q => At 64 q b g (.slice y0 yb yc) (.slice (some ⟨cb, 0, none⟩) N ca)) 14 (by kernel_rfl) ?_
    generalize w.drew = q at *
    refine wpAnyT_take (i := 0) (oi := { dst := some 32, op := Op.move (Operand.tmp 0), type := 27, pos := "gauge.go:56", after := #[], guard := none }) (v := .pointer (some ⟨b, 0, none⟩)) [1, 2, 3, 13, 14] rfl (by kernel_rfl) (by kernel_rfl) (by kernel_rfl) (by kernel_rfl) (fun _ _ _ h => h) (Or.inl ⟨by rfl, ?_⟩) KP.out ?_
    · intro wq hSw
      obtain ⟨y0, y1, y2, y3, y4, y5, y6⟩ := hSw.cells
      have y7 := HC.out _ hSw
      go_simp
    (try simp only [Act.put, List.setIfInBounds_toArray, List.set_cons_zero, List.set_cons_succ])
    refine wpAnyT_take (i := 1) (oi := { dst := some 33, op := Op.nilCheck (Operand.tmp 32), type := 0, pos := "gauge.go:56", after := #[{ on := 0, ground := Ground.data }], guard := none }) (v := .pointer (some ⟨b, 0, none⟩)) [2, 3, 13, 14] rfl (by kernel_rfl) (by kernel_rfl) (by kernel_rfl) (by kernel_rfl) (fun _ _ _ h => h) (Or.inl ⟨by rfl, ?_⟩) KP.out ?_
    · intro wq hSw
      obtain ⟨y0, y1, y2, y3, y4, y5, y6⟩ := hSw.cells
      have y7 := HC.out _ hSw
      go_simp
    (try simp only [Act.put, List.setIfInBounds_toArray, List.set_cons_zero, List.set_cons_succ])
    refine wpAnyT_take (i := 2) (oi := { dst := some 34, op := Op.fieldAddr 64 (Operand.tmp 33) 1, type := 0, pos := "gauge.go:56", after := #[{ on := 1, ground := Ground.data }], guard := none }) (v := .pointer (some ⟨b, 1, none⟩)) [3, 13, 14] rfl (by kernel_rfl) (by kernel_rfl) (by kernel_rfl) (by kernel_rfl) (fun _ _ _ h => h) (Or.inl ⟨by rfl, ?_⟩) KP.out ?_
    · intro wq hSw
      obtain ⟨y0, y1, y2, y3, y4, y5, y6⟩ := hSw.cells
      have y7 := HC.out _ hSw
      go_simp
    (try simp only [Act.put, List.setIfInBounds_toArray, List.set_cons_zero, List.set_cons_succ])
    refine wpAnyT_take (i := 3) (oi := { dst := some 35, op := Op.load 41 (Operand.tmp 34), type := 41, pos := "gauge.go:56", after := #[{ on := 2, ground := Ground.data }], guard := none }) (v := .slice (some ⟨cb, 0, none⟩) N ca) [13, 14] rfl (by kernel_rfl) (by kernel_rfl) (by kernel_rfl) (by kernel_rfl) (fun _ _ _ h => h) (Or.inl ⟨by rfl, ?_⟩) KP.out ?_
    · intro wq hSw
      obtain ⟨y0, y1, y2, y3, y4, y5, y6⟩ := hSw.cells
      have y7 := HC.out _ hSw
      go_simp
    (try simp only [Act.put, List.setIfInBounds_toArray, List.set_cons_zero, List.set_cons_succ])
    refine wpAnyT_take (i := 4) (oi := { dst := some 36, op := Op.move (Operand.tmp 4), type := 3, pos := "gauge.go:56", after := #[], guard := none }) (v := .int .i64 (i : Int)) [13, 14] rfl (by kernel_rfl) (by kernel_rfl) (by kernel_rfl) (by kernel_rfl) (fun _ _ _ h => h) (Or.inl ⟨by rfl, ?_⟩) KP.out ?_
    · intro wq hSw
      obtain ⟨y0, y1, y2, y3, y4, y5, y6⟩ := hSw.cells
      have y7 := HC.out _ hSw
      go_simp
    (try simp only [Act.put, List.setIfInBounds_toArray, List.set_cons_zero, List.set_cons_succ])
    refine wpAnyT_take (i := 5) (oi := { dst := some 37, op := Op.move (Operand.tmp 0), type := 27, pos := "gauge.go:56", after := #[], guard := none }) (v := .pointer (some ⟨b, 0, none⟩)) [6, 7, 8, 10, 11, 12, 14] rfl (by kernel_rfl) (by kernel_rfl) (by kernel_rfl) (by kernel_rfl) (fun _ _ _ h => h) (Or.inl ⟨by rfl, ?_⟩) KP.out ?_
    · intro wq hSw
      obtain ⟨y0, y1, y2, y3, y4, y5, y6⟩ := hSw.cells
      have y7 := HC.out _ hSw
      go_simp
    (try simp only [Act.put, List.setIfInBounds_toArray, List.set_cons_zero, List.set_cons_succ])
    refine wpAnyT_take (i := 6) (oi := { dst := some 38, op := Op.nilCheck (Operand.tmp 37), type := 0, pos := "gauge.go:56", after := #[{ on := 5, ground := Ground.data }], guard := none }) (v := .pointer (some ⟨b, 0, none⟩)) [7, 8, 10, 11, 12, 14] rfl (by kernel_rfl) (by kernel_rfl) (by kernel_rfl) (by kernel_rfl) (fun _ _ _ h => h) (Or.inl ⟨by rfl, ?_⟩) KP.out ?_
    · intro wq hSw
      obtain ⟨y0, y1, y2, y3, y4, y5, y6⟩ := hSw.cells
      have y7 := HC.out _ hSw
      go_simp
    (try simp only [Act.put, List.setIfInBounds_toArray, List.set_cons_zero, List.set_cons_succ])
    refine wpAnyT_take (i := 7) (oi := { dst := some 39, op := Op.fieldAddr 64 (Operand.tmp 38) 1, type := 0, pos := "gauge.go:56", after := #[{ on := 6, ground := Ground.data }], guard := none }) (v := .pointer (some ⟨b, 1, none⟩)) [8, 10, 11, 12, 14] rfl (by kernel_rfl) (by kernel_rfl) (by kernel_rfl) (by kernel_rfl) (fun _ _ _ h => h) (Or.inl ⟨by rfl, ?_⟩) KP.out ?_
    · intro wq hSw
      obtain ⟨y0, y1, y2, y3, y4, y5, y6⟩ := hSw.cells
      have y7 := HC.out _ hSw
      go_simp
    (try simp only [Act.put, List.setIfInBounds_toArray, List.set_cons_zero, List.set_cons_succ])
    refine wpAnyT_take (i := 8) (oi := { dst := some 40, op := Op.load 41 (Operand.tmp 39), type := 41, pos := "gauge.go:56", after := #[{ on := 7, ground := Ground.data }], guard := none }) (v := .slice (some ⟨cb, 0, none⟩) N ca) [10, 11, 12, 14] rfl (by kernel_rfl) (by kernel_rfl) (by kernel_rfl) (by kernel_rfl) (fun _ _ _ h => h) (Or.inl ⟨by rfl, ?_⟩) KP.out ?_
    · intro wq hSw
      obtain ⟨y0, y1, y2, y3, y4, y5, y6⟩ := hSw.cells
      have y7 := HC.out _ hSw
      go_simp
    (try simp only [Act.put, List.setIfInBounds_toArray, List.set_cons_zero, List.set_cons_succ])
    refine wpAnyT_take (i := 9) (oi := { dst := some 41, op := Op.move (Operand.tmp 4), type := 3, pos := "gauge.go:56", after := #[], guard := none }) (v := .int .i64 (i : Int)) [10, 11, 12, 14] rfl (by kernel_rfl) (by kernel_rfl) (by kernel_rfl) (by kernel_rfl) (fun _ _ _ h => h) (Or.inl ⟨by rfl, ?_⟩) KP.out ?_
    · intro wq hSw
      obtain ⟨y0, y1, y2, y3, y4, y5, y6⟩ := hSw.cells
      have y7 := HC.out _ hSw
      go_simp
    (try simp only [Act.put, List.setIfInBounds_toArray, List.set_cons_zero, List.set_cons_succ])
    refine wpAnyT_take (i := 10) (oi := { dst := some 42, op := Op.indexAddr 41 (Operand.tmp 40) (Operand.tmp 41), type := 0, pos := "gauge.go:56", after := #[{ on := 8, ground := Ground.data }, { on := 9, ground := Ground.data }], guard := none }) (v := .pointer (some ⟨cb, i, none⟩)) [11, 12, 14] rfl (by kernel_rfl) (by kernel_rfl) (by kernel_rfl) (by kernel_rfl) (fun _ _ _ h => h) (Or.inl ⟨by rfl, ?_⟩) KP.out ?_
    · intro wq hSw
      obtain ⟨y0, y1, y2, y3, y4, y5, y6⟩ := hSw.cells
      have y7 := HC.out _ hSw
      go_simp
    (try simp only [Act.put, List.setIfInBounds_toArray, List.set_cons_zero, List.set_cons_succ])
    refine wpAnyT_take (i := 11) (oi := { dst := some 43, op := Op.load 2 (Operand.tmp 42), type := 2, pos := "gauge.go:56", after := #[{ on := 10, ground := Ground.data }], guard := none }) (v := .int .i64 cv) [12, 14] rfl (by kernel_rfl) (by kernel_rfl) (by kernel_rfl) (by kernel_rfl) (fun _ _ _ h => h) (Or.inl ⟨by rfl, ?_⟩) KP.out ?_
    · intro wq hSw
      obtain ⟨y0, y1, y2, y3, y4, y5, y6⟩ := hSw.cells
      have y7 := HC.out _ hSw
      go_simp
    (try simp only [Act.put, List.setIfInBounds_toArray, List.set_cons_zero, List.set_cons_succ])
    refine wpAnyT_one (i := 12) (o := { dst := some 44, op := Op.call { callee := Callee.value (Operand.func 33), args := #[Operand.tmp 43, Operand.const (Value.int IntKind.i64 1)], argTypes := #[2, 2] }, type := 2, pos := "gauge.go:56", after := #[{ on := 11, ground := Ground.data }], guard := none }) (by kernel_rfl) rfl (fun K hK => ?_)
    go_simp
    go_at_call 33
    refine (more_any _ cv 1 hcv.1 (by omega) (by omega) (by omega)).mono ?_
    rintro e w1 ⟨rfl, hw⟩
    rw [hw]
    clear hw w1
    (try go_simp)
    refine hK.out _ _ (fun _ => KP.out) ?_
    clear hK K
    (try simp only [Act.put, List.setIfInBounds_toArray, List.set_cons_zero, List.set_cons_succ])
    refine wpAnyT_one (i := 13) (o := { dst := some 45, op := Op.indexAddr 41 (Operand.tmp 35) (Operand.tmp 36), type := 0, pos := "gauge.go:56", after := #[{ on := 3, ground := Ground.data }, { on := 4, ground := Ground.data }, { on := 0, ground := Ground.phase }, { on := 1, ground := Ground.phase }, { on := 2, ground := Ground.phase }, { on := 3, ground := Ground.phase }, { on := 4, ground := Ground.phase }, { on := 5, ground := Ground.phase }, { on := 6, ground := Ground.phase }, { on := 7, ground := Ground.phase }, { on := 8, ground := Ground.phase }, { on := 9, ground := Ground.phase }, { on := 10, ground := Ground.phase }, { on := 11, ground := Ground.phase }, { on := 12, ground := Ground.phase }], guard := none }) (by kernel_rfl) rfl (fun K hK => ?_)
    go_simp
    refine hK.out _ _ (fun _ => KP.out) ?_
    clear hK K
    (try simp only [Act.put, List.setIfInBounds_toArray, List.set_cons_zero, List.set_cons_succ])
    have k1 := HC.out _ KP.out
    have k2 := KP.out.cfrozen i
    have A5 := hide (KP.out.cset (by decide) i (cv + 1))
    have B5 : Hid (But (Tur b (.slice (some ⟨cb, 0, none⟩) N ca)) w (q.setCell ⟨cb, i, none⟩ (.int .i64 (cv + 1)))) := (But.of_below KB.out _).trans (but_cell _ _ _ _ (.inr rfl))
    refine wpAnyT_one (i := 14) (o := { dst := none, op := Op.store 2 (Operand.tmp 45) (Operand.tmp 44), type := 0, pos := "gauge.go:56", after := #[{ on := 13, ground := Ground.data }, { on := 12, ground := Ground.data }, { on := 12, ground := Ground.chain }, { on := 0, ground := Ground.phase }, { on := 1, ground := Ground.phase }, { on := 2, ground := Ground.phase }, { on := 3, ground := Ground.phase }, { on := 4, ground := Ground.phase }, { on := 5, ground := Ground.phase }, { on := 6, ground := Ground.phase }, { on := 7, ground := Ground.phase }, { on := 8, ground := Ground.phase }, { on := 9, ground := Ground.phase }, { on := 10, ground := Ground.phase }, { on := 11, ground := Ground.phase }, { on := 12, ground := Ground.phase }], guard := none }) (by kernel_rfl) rfl (fun K hK => ?_)
    go_simp
    refine hK.out _ _ (vac (by kernel_rfl)) ?_
    clear hK K
    (try simp only [Act.put, List.setIfInBounds_toArray, List.set_cons_zero, List.set_cons_succ])
    refine wpAnyT_done (by kernel_rfl) ?_ _
    clear k1 k2 KP KB HA
    generalize q.setCell ⟨cb, i, none⟩ (.int .i64 (cv + 1)) = w5 at *
    obtain ⟨c0, c1, c2, c3, c4, c5, c6⟩ := A5.out.cells
    simp only at c2 c3 c4 c5 c6
    go_wp2_with fail
    go_at_call 36
    refine (hct.out _).mono ?_
    rintro e w6 ⟨rfl, b6⟩
    have A6 := A5.out.below b6
    have B6 : Hid (But (Tur b (.slice (some ⟨cb, 0, none⟩) N ca)) w w6) := B5.out.trans (But.of_below b6 _)
    clear c0 c1 c2 c3 c4 c5 c6 hct A5 B5 b6
    obtain ⟨c0, c1, c2, c3, c4, c5, c6⟩ := A6.cells
    have y2 := A6.frozen 2
    have y3 := A6.frozen 3
    have y4 := A6.frozen 4
    have y5 := A6.frozen 5
    have y6 := A6.frozen 6
    have FIN := hide (A6.look (by decide) (by decide) l')
    clear A6
    obtain ⟨ln, lna, llo, lhi, lme⟩ := l'
    unfold L.val
    simp only at FIN ⊢
    go_wp2_with fail
    go_end0
    exact ⟨rfl, FIN.out, B6.out.trans (but_all _ b 2 _ _ _ _ _ (.inl rfl))⟩
  · have hp : Hid (putF g x = ⟨g.bs, g.cs, ⟨g.l.n, g.l.na + 1, g.l.lo, g.l.hi, g.l.me⟩⟩) := hide (by unfold putF; rw [if_pos hnx])
    rw [hp.out]
    rw [hnx] at hn
    obtain ⟨c0, c1, c2, c3, c4, c5, c6⟩ := h.cells
    have y3 := h.frozen 3
    have FIN := hide (h.set3 (by decide) (by decide) (g.l.na + 1))
    clear h ok hp HA
    go_enter Try.func12, Try.ntmps12
    go_wp2_with (first | (go_at_call 32; refine hm.mono ?_; rintro e w' ⟨rfl, hw⟩; rw [hw]; clear hw w') | (go_at_call 26; refine hn.mono ?_; rintro e w' ⟨rfl, hw⟩; rw [hw]; clear hw w') | (go_at_call 33; refine (more_any _ _ 1 z3 (by omega) (by omega) (by omega)).mono ?_; rintro e w' ⟨rfl, hw⟩; rw [hw]; clear hw w'))
    go_returns
    exact ⟨rfl, FIN.out, but_cell _ _ _ _ (.inl rfl)⟩
end Go.Proofs.Ytjkdhckhokkefaa.Gg

/-
  Products with whole numbers, rounding up, whole numbers out of floats: by bits.
-/
namespace Go.Proofs.Ytjkdhckhokkefaa.Gg
open Go.RowKit Rl
set_option linter.unusedVariables false
theorem cut_scale (neg : Bool) (m t d : Nat) (hm : m ≠ 0) : Ieee.Toward.even.cut neg (m * 2 ^ t) (d + t) = Ieee.Toward.even.cut neg m d := by
  unfold Ieee.Toward.cut
  simp only [log2_mul_pow m t hm, Nat.one_shiftLeft]
  rw [show min (d + t) (m.log2 + t + 2) = min d (m.log2 + 2) + t by omega, Nat.pow_add]
  generalize 2 ^ min d (m.log2 + 2) = g
  obtain ⟨T, hT⟩ : ∃ T, 2 ^ t = T := ⟨_, rfl⟩
  have hT0 : 0 < T := by rw [← hT]; exact Nat.two_pow_pos _
  rw [hT, Nat.mul_div_mul_right _ _ hT0, Nat.mul_mod_mul_right]
  congr 2
  have e1 : (g * T < 2 * (m % g * T)) ↔ (g < 2 * (m % g)) := by
    rw [← Nat.mul_assoc]
    exact Nat.mul_lt_mul_right hT0
  have e2 : (g * T = 2 * (m % g * T)) ↔ (g = 2 * (m % g)) := by
    rw [← Nat.mul_assoc]
    exact Nat.mul_left_inj (Nat.pos_iff_ne_zero.1 hT0)
  rw [Bool.eq_iff_iff]
  simp only [Bool.or_eq_true, Bool.and_eq_true, decide_eq_true_eq, beq_iff_eq, e1, e2]
theorem cut_whole (neg : Bool) (n t e : Nat) (hn : n ≠ 0) (he : e ≤ t) : Ieee.Toward.even.cut neg (n * 2 ^ t) e = n * 2 ^ (t - e) := by
  rw [cut_some neg _ _ (by rw [log2_mul_pow n t hn]; omega)]
  have e1 : n * 2 ^ t = n * 2 ^ (t - e) * 2 ^ e := by rw [Nat.mul_assoc, ← Nat.pow_add, Nat.sub_add_cancel he]
  have hp := Nat.two_pow_pos e
  rw [e1, Nat.mul_div_cancel _ hp, Nat.mul_mod_left, decide_eq_false (by omega)]
  rfl
/-- A number may be said in finer units. -/
theorem nearest_scale (neg : Bool) (m t : Nat) (p : Int) : Ieee.double.nearest neg (m * 2 ^ t) p = Ieee.double.nearest neg m (p + (t : Int)) := by
  unfold Ieee.Format.nearest
  by_cases hm : m = 0
  · subst hm; simp
  · have h0 : m * 2 ^ t ≠ 0 := Nat.mul_ne_zero hm (Nat.pos_iff_ne_zero.1 (Nat.two_pow_pos t))
    rw [if_neg h0, if_neg hm, log2_mul_pow m t hm]
    simp only
    have e1 : p + ((m.log2 + t : Nat) : Int) - (Ieee.double.fractionBits : Int) = p + (t : Int) + (m.log2 : Int) - (Ieee.double.fractionBits : Int) := by omega
    rw [e1]
    generalize max (p + (t : Int) + (m.log2 : Int) - (Ieee.double.fractionBits : Int)) Ieee.double.leastPlace = last
    have e2 : Ieee.Toward.even.cut neg ((m * 2 ^ t) <<< (p - last).toNat) (last - p).toNat = Ieee.Toward.even.cut neg (m <<< (p + (t : Int) - last).toNat) (last - (p + (t : Int))).toNat := by
      rw [Nat.shiftLeft_eq, Nat.shiftLeft_eq]
      by_cases h1 : last ≤ p
      · rw [show (last - p).toNat = 0 by omega, show (last - (p + (t : Int))).toNat = 0 by omega, cut_zero, cut_zero, Nat.mul_assoc, ← Nat.pow_add]
        congr 2
        omega
      · rw [show (p - last).toNat = 0 by omega, Nat.pow_zero, Nat.mul_one]
        by_cases h2 : p + (t : Int) ≤ last
        · obtain ⟨d, hd⟩ : ∃ d : Nat, last = p + (t : Int) + (d : Int) := ⟨(last - (p + t)).toNat, by omega⟩
          rw [show (last - p).toNat = d + t by omega, show (p + (t : Int) - last).toNat = 0 by omega, show (last - (p + (t : Int))).toNat = d by omega, Nat.pow_zero, Nat.mul_one, cut_scale neg m t d hm]
        · rw [show (last - (p + (t : Int))).toNat = 0 by omega, cut_zero, cut_whole neg m t _ hm (by omega)]
          congr 2
          omega
    rw [e2]
theorem nf_eq (n : Nat) : FloatKind.f64.nearest (n : Int) = roundB (n * 2 ^ 1074) := by
  unfold FloatKind.nearest FloatKind.encode
  show Ieee.double.nearest (decide ((n : Int) < 0)) (n : Int).natAbs 0 = _
  rw [decide_eq_false (by omega), Int.natAbs_natCast]
  have := nearest_eq false n 1074
  rw [show (-1074 + ((1074 : Nat) : Int)) = 0 by omega] at this
  rw [this, word_eq, if_neg (by decide)]
theorem nf_mag {n : Nat} (hn : n < 9007199254740992) : magB (FloatKind.f64.nearest (n : Int)) = n * 2 ^ 1074 := by rw [nf_eq, round_exact n 1074 hn (by omega)]
theorem mag_le {s t : Nat} (h : s ≤ t) : magB s ≤ magB t := by
  rcases Nat.lt_or_eq_of_le h with q | q
  · exact Nat.le_of_lt (mag_mono q)
  · rw [q]; exact Nat.le_refl _
theorem mag_2_63 : magB 4890909195324358656 = 2 ^ 63 * 2 ^ 1074 := by decide +kernel
/-- Whole numbers as floats are below 2^63. -/
theorem whole_lt {c : Nat} (hc : c < 9007199254740992) : roundB (c * 2 ^ 1074) < 4890909195324358656 := by
  rcases Nat.lt_or_ge (roundB (c * 2 ^ 1074)) 4890909195324358656 with h | h
  · exact h
  · exfalso
    have h2 := mag_le h
    rw [round_exact c 1074 hc (by omega), mag_2_63] at h2
    have := Nat.le_of_mul_le_mul_right h2 (Nat.two_pow_pos 1074)
    omega
theorem round_lt_inf {n : Nat} (hn : n < 9007199254740992) : roundB (n * 2 ^ 1074) < 9218868437227405312 := by have := whole_lt hn; omega
/-- The product of a number and a whole one. -/
theorem mul_n {a n : Nat} (ha : a % 9223372036854775808 < 9218868437227405312) (hn : n < 9007199254740992) : Ieee.double.mul a (FloatKind.f64.nearest (n : Int)) = some (Ieee.double.word (sgnB a) (roundB (magB (a % 9223372036854775808) * n))) := by
  have hb := round_lt_inf hn
  have hm := nf_mag hn
  rw [nf_eq] at hm ⊢
  generalize roundB (n * 2 ^ 1074) = b at *
  have hb' : b % 9223372036854775808 = b := Nat.mod_eq_of_lt (by omega)
  obtain ⟨ma, ka, ea, va⟩ := read_fin ha
  obtain ⟨mb, kb, eb, vb⟩ := read_fin (b := b) (by rw [hb']; exact hb)
  have sb : sgnB b = false := by unfold sgnB; rw [Nat.div_eq_of_lt (by omega)]; rfl
  rw [hb', hm] at vb
  rw [sb] at eb
  unfold Ieee.Format.mul
  rw [ea, eb]
  show some (Ieee.double.write (.number (sgnB a ^^ false) (ma * mb) (-1074 + (ka : Int) + (-1074 + (kb : Int))))) = _
  rw [Bool.xor_false]
  congr 1
  show Ieee.double.nearest _ _ _ = _
  have e1 := nearest_scale (sgnB a) (ma * mb) (ka + kb) (-2148)
  have e2 := nearest_scale (sgnB a) (magB (a % 9223372036854775808) * n) 1074 (-2148)
  have e3 : ma * mb * 2 ^ (ka + kb) = magB (a % 9223372036854775808) * n * 2 ^ 1074 := by
    rw [← va, Nat.pow_add, Nat.mul_assoc, Nat.mul_assoc, Nat.mul_assoc, ← vb]
    rw [Nat.mul_left_comm mb, Nat.mul_left_comm (2 ^ ka)]
  rw [e3, e2] at e1
  rw [show (-1074 + (ka : Int) + (-1074 + (kb : Int))) = -2148 + ((ka + kb : Nat) : Int) by omega, ← e1]
  have e4 := nearest_eq (sgnB a) (magB (a % 9223372036854775808) * n) 0
  rw [Nat.pow_zero, Nat.mul_one] at e4
  rw [← e4]
  congr 1
/-- Rounded up, rounded down: in whole numbers. -/
theorem cut_any (way : Ieee.Toward) (hw : way = .up ∨ way = .zero) (s : Bool) (m d : Nat) : way.cut s m d = m / 2 ^ d + (match way with | .up => !s && m % 2 ^ d != 0 | _ => false).toNat := by
  unfold Ieee.Toward.cut
  simp only [Nat.one_shiftLeft]
  by_cases hd : d ≤ m.log2 + 2
  · rw [Nat.min_eq_left hd]
    rcases hw with rfl | rfl <;> rfl
  · rw [Nat.min_eq_right (by omega)]
    have h1 : m < 2 ^ (m.log2 + 2) := Nat.lt_of_lt_of_le Nat.lt_log2_self (Nat.pow_le_pow_right (by omega) (by omega))
    have h2 : m < 2 ^ d := Nat.lt_of_lt_of_le h1 (Nat.pow_le_pow_right (by omega) (by omega))
    rw [Nat.div_eq_of_lt h1, Nat.div_eq_of_lt h2, Nat.mod_eq_of_lt h1, Nat.mod_eq_of_lt h2]
    rcases hw with rfl | rfl <;> rfl
theorem cut_way (way : Ieee.Toward) (hw : way = .up ∨ way = .zero) (s : Bool) (m k : Nat) : way.cut s (m <<< (-1074 + (k : Int)).toNat) (-(-1074 + (k : Int))).toNat = m * 2 ^ k / 2 ^ 1074 + (match way with | .up => !s && m * 2 ^ k % 2 ^ 1074 != 0 | _ => false).toNat := by
  rw [cut_any way hw, Nat.shiftLeft_eq]
  by_cases hk : 1074 ≤ k
  · rw [show (-(-1074 + (k : Int))).toNat = 0 by omega, show (-1074 + (k : Int)).toNat = k - 1074 by omega, Nat.pow_zero, Nat.div_one, Nat.mod_one]
    have e0 := Nat.pow_add 2 (k - 1074) 1074
    rw [Nat.sub_add_cancel hk] at e0
    have e : m * 2 ^ k = m * 2 ^ (k - 1074) * 2 ^ 1074 := by rw [e0, Nat.mul_assoc]
    clear e0
    rw [e, Nat.mul_div_cancel _ (Nat.two_pow_pos 1074), Nat.mul_mod_left]
  · rw [show (-(-1074 + (k : Int))).toNat = 1074 - k by omega, show (-1074 + (k : Int)).toNat = 0 by omega, Nat.pow_zero, Nat.mul_one]
    have e : 2 ^ 1074 = 2 ^ (1074 - k) * 2 ^ k := by rw [← Nat.pow_add]; congr 1; omega
    rw [e]
    have hK : 0 < 2 ^ k := Nat.two_pow_pos k
    rw [Nat.mul_div_mul_right _ _ hK, Nat.mul_mod_mul_right]
    generalize 2 ^ (1074 - k) = D
    generalize 2 ^ k = K at *
    clear e
    have : (m % D * K != 0) = (m % D != 0) := by
      rw [Bool.eq_iff_iff]
      simp [bne_iff_ne, Nat.mul_eq_zero]
      omega
    rcases hw with rfl | rfl
    · simp only [this]
    · rfl
/-- How many whole ones, rounded up. -/
def upU (V : Nat) : Nat := V / 2 ^ 1074 + (V % 2 ^ 1074 != 0).toNat
theorem up_zero : upU 0 = 0 := by
  unfold upU
  generalize 2 ^ 1074 = U
  rw [Nat.zero_div, Nat.zero_mod]
  rfl
/-- A number that is not below 0, rounded up: as Go's Ceil leaves it. -/
theorem ceil_read {b : Nat} (hb : b < 9218868437227405312) : FloatKind.f64.encode ((FloatKind.f64.decode b).integral .up) = roundB (upU (magB b) * 2 ^ 1074) := by
  have hb' : b % 9223372036854775808 = b := Nat.mod_eq_of_lt (by omega)
  obtain ⟨m, k, e, v⟩ := read_fin (b := b) (by rw [hb']; exact hb)
  have sb : sgnB b = false := by unfold sgnB; rw [Nat.div_eq_of_lt (by omega)]; rfl
  rw [hb'] at v
  rw [sb] at e
  unfold FloatKind.encode FloatKind.decode
  show Ieee.double.write ((Ieee.double.read b).integral .up) = _
  rw [e]
  unfold Ieee.Datum.integral
  simp only
  rw [cut_way .up (.inl rfl), v]
  show Ieee.double.nearest false (upU (magB b)) 0 = _
  have := nearest_eq false (upU (magB b)) 1074
  rw [show (-1074 + ((1074 : Nat) : Int)) = 0 by omega] at this
  rw [this, word_eq, if_neg (by decide)]
theorem toInt_read {b : Nat} (hb : b < 9218868437227405312) : (FloatKind.f64.decode b).toInt .zero = some ((magB b / 2 ^ 1074 : Nat) : Int) := by
  have hb' : b % 9223372036854775808 = b := Nat.mod_eq_of_lt (by omega)
  obtain ⟨m, k, e, v⟩ := read_fin (b := b) (by rw [hb']; exact hb)
  have sb : sgnB b = false := by unfold sgnB; rw [Nat.div_eq_of_lt (by omega)]; rfl
  rw [hb'] at v
  rw [sb] at e
  unfold FloatKind.decode
  show (Ieee.double.read b).toInt .zero = _
  rw [e]
  unfold Ieee.Datum.toInt Ieee.Datum.integral
  simp only
  rw [cut_way .zero (.inr rfl), v]
  generalize magB b / 2 ^ 1074 = c
  simp [Ieee.signed]
end Go.Proofs.Ytjkdhckhokkefaa.Gg

/-
  rank: how many of n numbers a part of them is.
-/
namespace Go.Proofs.Ytjkdhckhokkefaa.Gg
open Go.RowKit Rl
set_option linter.unusedVariables false
/-- May it be a part? -/
def qB (q : Nat) : Bool := decide (q ≤ 4607182418800017408 ∨ q = 9223372036854775808)
/-- The product, rounded, as a size. -/
def prB (q n : Nat) : Nat := roundB (magB (q % 9223372036854775808) * n)
def rkF (q n : Nat) : Nat := max (upU (magB (prB q n))) 1
theorem mag_one : magB 4607182418800017408 = 2 ^ 1074 := by decide +kernel
theorem q_mod {q : Nat} (h : qB q = true) : q % 9223372036854775808 ≤ 4607182418800017408 := by
  unfold qB at h
  simp only [decide_eq_true_eq] at h
  rcases h with h | h
  · rw [Nat.mod_eq_of_lt (by omega)]; exact h
  · subst h; decide
theorem pr_le {q n : Nat} (h : qB q = true) (hn : n < 9007199254740992) : prB q n ≤ roundB (n * 2 ^ 1074) := by
  unfold prB
  refine round_mono ?_
  have := mag_le (q_mod h)
  rw [mag_one] at this
  rw [Nat.mul_comm n]
  generalize 2 ^ 1074 = U at *
  exact Nat.mul_le_mul_right n this
theorem pr_inf {q n : Nat} (h : qB q = true) (hn : n < 9007199254740992) : prB q n < 9218868437227405312 := Nat.lt_of_le_of_lt (pr_le h hn) (round_lt_inf hn)
theorem pr_mag {q n : Nat} (h : qB q = true) (hn : n < 9007199254740992) : magB (prB q n) ≤ n * 2 ^ 1074 := by
  have := mag_le (pr_le h hn)
  rwa [round_exact n 1074 hn (by omega)] at this
theorem up_le {V n : Nat} (h : V ≤ n * 2 ^ 1074) : upU V ≤ n := by
  unfold upU
  have hU := Nat.two_pow_pos 1074
  generalize 2 ^ 1074 = U at *
  by_cases h0 : V % U = 0
  · rw [h0]
    show V / U + 0 ≤ n
    have := Nat.div_le_of_le_mul (show V ≤ U * n by rw [Nat.mul_comm]; exact h)
    omega
  · have : V / U < n := by
      rw [Nat.div_lt_iff_lt_mul hU]
      rcases Nat.lt_or_eq_of_le h with q | q
      · exact q
      · rw [q, Nat.mul_mod_left] at h0; exact absurd rfl h0
    have h2 : (V % U != 0).toNat ≤ 1 := by cases (V % U != 0) <;> simp
    omega
theorem rk_le {q n : Nat} (h : qB q = true) (hn : n < 9007199254740992) : upU (magB (prB q n)) ≤ n := up_le (pr_mag h hn)
theorem mul_some_run {x y r : Nat} (h : Ieee.double.mul x y = some r) (w : World) : (binOp .mul 26 (.float .f64 x) (.float .f64 y)).run Try.prog w = .ok (.float .f64 r) w := by
  have h2 : FloatKind.f64.format.mul x y = some r := h
  simp [binOp, Op.floatArith, h2]
theorem ceil_run {b : Nat} (hb : b < 9218868437227405312) (w : World) : (callFunc 60 #[.float .f64 b]).run Try.prog w = .ok (.value (.float .f64 (roundB (upU (magB b) * 2 ^ 1074)))) w := by
  rw [run_callFunc_extern Try.func60 (by kernel_rfl) (by kernel_rfl) (by kernel_rfl) (e := Extern.MathFloor.toIntegral "math.archCeil" .up) (by kernel_rfl)]
  have hr := ceil_read hb
  have hb' : b % 9223372036854775808 = b := Nat.mod_eq_of_lt (by omega)
  obtain ⟨m, k, e, v⟩ := read_fin (b := b) (by rw [hb']; exact hb)
  have hd : FloatKind.f64.decode b = .number (sgnB b) m (-1074 + (k : Int)) := e
  rw [hd] at hr
  have key : Extern.MathFloor.toIntegral "math.archCeil" .up #[.float .f64 b] = pure (.float .f64 (roundB (upU (magB b) * 2 ^ 1074))) := by
    conv => lhs; whnf
    rw [hd]
    dsimp only
    rw [hr]
  rw [key]
  rfl
theorem ceil_run0 (w : World) : (callFunc 60 #[.float .f64 9223372036854775808]).run Try.prog w = .ok (.value (.float .f64 9223372036854775808)) w := by
  rw [run_callFunc_extern Try.func60 (by kernel_rfl) (by kernel_rfl) (by kernel_rfl) (e := Extern.MathFloor.toIntegral "math.archCeil" .up) (by kernel_rfl)]
  rfl
theorem ceil_any (w : World) {b : Nat} (hb : b < 9218868437227405312) : Calls Try.prog 54 #[.float .f64 b] w fun e w' => e = .returned (.float .f64 (roundB (upU (magB b) * 2 ^ 1074))) ∧ w' = w := by
  have k := fun u => ceil_run hb u
  generalize roundB (upU (magB b) * 2 ^ 1074) = r at *
  go_enter Try.func54, Try.ntmps54
  go_wp2_with fail
  go_ret
  exact ⟨rfl, rfl⟩
theorem ceil_any0 (w : World) : Calls Try.prog 54 #[.float .f64 9223372036854775808] w fun e w' => e = .returned (.float .f64 9223372036854775808) ∧ w' = w := by
  have k := ceil_run0
  go_enter Try.func54, Try.ntmps54
  go_wp2_with fail
  go_ret
  exact ⟨rfl, rfl⟩
theorem conv_i {b : Nat} {c : Nat} (h : (FloatKind.f64.decode b).toInt .zero = some (c : Int)) (hc : c ≤ 9223372036854775807) (w : World) : (convert 26 2 (.float .f64 b)).run Try.prog w = .ok (.int .i64 (c : Int)) w := by
  have h1 : IntKind.i64.min ≤ (c : Int) ∧ (c : Int) ≤ IntKind.i64.max := by
    refine ⟨?_, ?_⟩
    · show (-9223372036854775808 : Int) ≤ _; omega
    · show _ ≤ (9223372036854775807 : Int); omega
  simp [convert, Conv.floatToInt, h, h1]
  intro hh
  omega
theorem q_cases {q : Nat} (h : qB q = true) : (q ≤ 4607182418800017408 ∧ q % 9223372036854775808 = q ∧ sgnB q = false) ∨ q = 9223372036854775808 := by
  unfold qB at h
  simp only [decide_eq_true_eq] at h
  rcases h with h | h
  · exact .inl ⟨h, Nat.mod_eq_of_lt (by omega), by unfold sgnB; rw [Nat.div_eq_of_lt (by omega)]; rfl⟩
  · exact .inr h
theorem rank_any (w : World) (q n : Nat) (hq : qB q = true) (h1 : 1 ≤ n) (hn : n ≤ 1000000000) : Calls Try.prog 46 #[.float .f64 q, .int .i64 (n : Int)] w fun e w' => e = .returned (.int .i64 ((rkF q n : Nat) : Int)) ∧ w' = w := by
  have hcv := conv_f (n : Int)
  rcases q_cases hq with ⟨c1, c2, c3⟩ | rfl
  · have hmul := mul_n (a := q) (n := n) (by rw [c2]; omega) (by omega)
    rw [c3, word_eq, if_neg (by decide)] at hmul
    change _ = some (prB q n) at hmul
    have hm := fun u => mul_some_run hmul u
    have hinf := pr_inf hq (show n < 9007199254740992 by omega)
    have hce := fun u => ceil_any u hinf
    have hrk := rk_le hq (show n < 9007199254740992 by omega)
    have hlt := whole_lt (c := upU (magB (prB q n))) (by omega)
    have hR : Hid (rkF q n = max (upU (magB (prB q n))) 1) := hide rfl
    have hti : Hid (∀ u, (convert 26 2 (.float .f64 (roundB (upU (magB (prB q n)) * 2 ^ 1074)))).run Try.prog u = .ok (.int .i64 (upU (magB (prB q n)) : Int)) u) := hide fun u => by
      refine conv_i ?_ (by omega) u
      rw [toInt_read (by omega), round_exact _ 1074 (by omega) (by omega), Nat.mul_div_cancel _ (Nat.two_pow_pos 1074)]
    generalize upU (magB (prB q n)) = c at *
    generalize prB q n = P at *
    generalize roundB (c * 2 ^ 1074) = r at *
    have hti' := hti.out
    have ho : FloatKind.f64.format.order r 4890909195324358656 = some .lt := by rw [ord_pos (by omega) (by omega), Nat.compare_eq_lt.2 hlt]
    unfold nfB at hcv
    rw [hR.out]
    clear hmul hinf hlt hR hti c2 c3
    by_cases h0 : c = 0
    · subst h0
      rw [show max 0 1 = 1 by rfl]
      have k1 : ¬ ((n : Int) < 1) := by omega
      go_enter Try.func46, Try.ntmps46
      go_wp2_with (go_at_call 54; refine (hce _).mono ?_; rintro e w' ⟨rfl, hw⟩; rw [hw]; clear hw w')
      go_ret
      exact ⟨rfl, rfl⟩
    · rw [show max c 1 = c by omega]
      have k1 : ¬ ((n : Int) < (c : Int)) := by omega
      have k2 : (1 : Int) ≤ (c : Int) := by omega
      go_enter Try.func46, Try.ntmps46
      go_wp2_with (go_at_call 54; refine (hce _).mono ?_; rintro e w' ⟨rfl, hw⟩; rw [hw]; clear hw w')
      go_ret
      exact ⟨rfl, rfl⟩
  · have hmul := mul_n (a := 9223372036854775808) (n := n) (by decide) (by omega)
    have z0 : magB (9223372036854775808 % 9223372036854775808) = 0 := by decide
    rw [z0, Nat.zero_mul, round_zero, show sgnB 9223372036854775808 = true by decide, word_eq, if_pos rfl, Nat.add_zero] at hmul
    have hm := fun u => mul_some_run hmul u
    have hR : Hid (rkF 9223372036854775808 n = 1) := hide (by
      show _ = _
      unfold rkF prB
      rw [z0, Nat.zero_mul, round_zero, mag_zero]
      rw [up_zero]
      rfl)
    have hti : ∀ u, (convert 26 2 (.float .f64 9223372036854775808)).run Try.prog u = .ok (.int .i64 ((0 : Nat) : Int)) u := fun u => conv_i (by decide +kernel) (by omega) u
    have ho : FloatKind.f64.format.order 9223372036854775808 4890909195324358656 = some .lt := by rw [ord_mz (by omega)]; decide
    unfold nfB at hcv
    rw [hR.out]
    clear hmul hR z0
    have k1 : ¬ ((n : Int) < 1) := by omega
    go_enter Try.func46, Try.ntmps46
    go_wp2_with (go_at_call 54; refine (ceil_any0 _).mono ?_; rintro e w' ⟨rfl, hw⟩; rw [hw]; clear hw w')
    go_ret
    exact ⟨rfl, rfl⟩
end Go.Proofs.Ytjkdhckhokkefaa.Gg

/-
  Cells, Look, Quantile of the gauge.
-/
namespace Go.Proofs.Ytjkdhckhokkefaa.Gg
open Go.RowKit Rl
set_option linter.unusedVariables false
set_option maxRecDepth 100000
theorem cells_any (w : World) (b : Nat) (g : G) (vb vc : Value) (M : Int) (h : At 64 w b g vb vc) (ok : Ok M g) : Calls Try.prog 18 #[.pointer (some ⟨b, 0, none⟩)] w fun e w' => ∃ v, e = .returned v ∧ Iw w.heap.size w' v g.cs ∧ Below w.heap.size w w' := by
  have hcl : 0 < g.cs.length := by rw [ok.cl]; omega
  have hm := made_any w b g vb vc h hcl
  have hk := hide (clone_i w vc g.cs (Row.of_owns h.rc) (by rw [ok.cl]; have := ok.len; omega))
  obtain ⟨c0, c1, c2, c3, c4, c5, c6⟩ := h.cells
  clear h ok
  go_enter Try.func18, Try.ntmps18
  go_upto_region 3 with (go_at_call 32; refine hm.mono ?_; rintro e w' ⟨rfl, hw⟩; rw [hw]; clear hw w')
  go_wp2_with fail
  go_at_call 44
  refine hk.out.mono ?_
  rintro e w1 ⟨v, rfl, i1, b1⟩
  replace i1 := hide i1
  replace b1 := hide b1
  clear c0 c1 c2 c3 c4 c5 c6
  go_wp2_with fail
  go_ret
  exact ⟨v, rfl, i1.out, b1.out⟩
theorem look_any (w : World) (b : Nat) (g : G) (vb vc : Value) (M : Int) (h : At 64 w b g vb vc) (ok : Ok M g) : Calls Try.prog 19 #[.pointer (some ⟨b, 0, none⟩)] w fun e w' => e = .returned g.l.val ∧ Below w.heap.size w w' := by
  have hcl : 0 < g.cs.length := by rw [ok.cl]; omega
  have B1 := box_below w (.cells #[.int .i64 0, .int .i64 0, .float .f64 0, .float .f64 0, .float .f64 0] 44)
  have X1 : Lx (w.alloc (.cells #[.int .i64 0, .int .i64 0, .float .f64 0, .float .f64 0, .float .f64 0] 44)) w.heap.size L0 := Lx.new w L0
  have h1 := h.below B1
  have HM := hide (made_any _ b g vb vc h1 hcl)
  obtain ⟨c0, c1, c2, c3, c4, c5, c6⟩ := h1.cells
  obtain ⟨s0, s1, s2, s3, s4⟩ := X1.cells
  have y0 := X1.frozen 0
  have y1 := X1.frozen 1
  have y2 := X1.frozen 2
  have y3 := X1.frozen 3
  have y4 := X1.frozen 4
  have FIN := hide (X1.all g.l.n g.l.na g.l.lo g.l.hi g.l.me)
  have FB := hide (fun x0 x1 x2 x3 x4 => below_all B1 w.heap.size (Nat.le_refl _) 0 x0 x1 x2 x3 x4)
  obtain ⟨w1, hw1⟩ : ∃ w1, Hid (w.alloc (.cells #[.int .i64 0, .int .i64 0, .float .f64 0, .float .f64 0, .float .f64 0] 44) = w1) := ⟨_, rfl⟩
  rw [hw1.out] at HM c0 c1 c2 c3 c4 c5 c6 s0 s1 s2 s3 s4 y0 y1 y2 y3 y4 FIN FB
  have sf : ∀ (W : World) (a : Addr) (x : Nat), (store a (.float .f64 x)).run Try.prog W = stored Try.prog W a (.float .f64 x) .plain := fun W a x => run_store _ W a _ _ rfl
  clear h h1 ok B1 X1
  unfold L.val
  obtain ⟨gb, gc, ln, lna, llo, lhi, lme⟩ := g
  simp only at *
  go_enter Try.func19, Try.ntmps19
  go_upto_region 1 with fail
  rw [hw1.out]
  go_wp2_with (go_at_call 32; refine HM.out.mono ?_; rintro e w' ⟨rfl, hw⟩; rw [hw]; clear hw w')
  try simp only [Exit.inBlock, Exit.then]
  refine bodyPost_ret (v := .agg _) (results_cell_row rfl _ _ w.heap.size 44 _ (0, 0) _ rfl FIN.out Try.underlying44 rfl lookSize) rfl ?_
  exact ⟨rfl, FB.out _ _ _ _ _⟩
/-- The bound of the first cell up to whose end there are r or more. -/
def pick : List Nat → List Int → Int → Int → Nat → Nat
  | b :: bs, c :: cs, acc, r, hi => if r ≤ acc + c then b else pick bs cs (acc + c) r hi
  | _, _, _, _, hi => hi
def qtF (g : G) (q : Nat) : Nat × Int := if qB q = false then (0, 1) else if g.l.n = 0 then (0, 6) else (pick g.bs g.cs 0 (rkF q g.l.n.toNat : Nat) g.l.hi, 0)
theorem q_order {q : Nat} (hq : q < 18446744073709551616) : (qB q = true ∧ (ordZ q == some .gt || ordZ q == some .eq) = true ∧ (ordO q == some .lt || ordO q == some .eq) = true) ∨ (qB q = false ∧ ((ordZ q == some .gt || ordZ q == some .eq) = false ∨ (ordO q == some .lt || ordO q == some .eq) = false)) := by
  unfold ordZ ordO qB
  rcases fcase hq with h | h | h | h
  · right
    have := nan_big h
    refine ⟨by simp; omega, .inl ?_⟩
    rw [order_nan (.inl h)]; rfl
  · rw [ord_pos h (by omega), ord_pos h (by omega)]
    have hz : (some (compare q 0) == some .gt || some (compare q 0) == some Ordering.eq) = true := by
      by_cases h0 : q = 0
      · subst h0; decide
      · rw [cmp0 (by omega)]; rfl
    rcases Nat.lt_trichotomy q 4607182418800017408 with c | c | c
    · left; rw [Nat.compare_eq_lt.2 c]; exact ⟨by simp; omega, hz, by decide⟩
    · left; subst c; exact ⟨by decide, by decide, by decide⟩
    · right; rw [Nat.compare_eq_gt.2 c]; exact ⟨by simp; omega, .inr (by decide)⟩
  · left
    subst h
    rw [ord_mz (by omega), ord_mz (by omega)]
    exact ⟨by decide, by decide, by decide⟩
  · right
    refine ⟨by simp; omega, .inl ?_⟩
    rw [ord_neg h.1 h.2 (by omega)]; rfl
theorem pick_drop {bs : List Nat} {cs : List Int} {i : Nat} (h1 : i < bs.length) (h2 : i < cs.length) (acc r : Int) (hi : Nat) : pick (bs.drop i) (cs.drop i) acc r hi = if r ≤ acc + cs.getD i 0 then bs.getD i 0 else pick (bs.drop (i + 1)) (cs.drop (i + 1)) (acc + cs.getD i 0) r hi := by
  rw [List.drop_eq_getElem_cons h1, List.drop_eq_getElem_cons h2, pick]
  simp [h1, h2]
theorem pick_end {bs : List Nat} {cs : List Int} {i : Nat} (h1 : bs.length ≤ i) (acc r : Int) (hi : Nat) : pick (bs.drop i) (cs.drop i) acc r hi = hi := by
  rw [List.drop_eq_nil_of_le h1, pick]
  intro b bs' c cs' e
  cases e
set_option maxHeartbeats 1000000 in
theorem quantile_any (w : World) (b : Nat) (g : G) (vb vc : Value) (M : Int) (q : Nat) (h : At 64 w b g vb vc) (ok : Ok M g) (hM : M ≤ 1000000000) (hq : q < 18446744073709551616) :
    Calls Try.prog 22 #[.pointer (some ⟨b, 0, none⟩), .float .f64 q] w fun e w' => e = .returned (.tuple #[.float .f64 (qtF g q).1, .int .i64 (qtF g q).2]) ∧ w' = w := by
  have hcl : 0 < g.cs.length := by rw [ok.cl]; omega
  have hm := made_any w b g vb vc h hcl
  obtain ⟨c0, c1, c2, c3, c4, c5, c6⟩ := h.cells
  obtain ⟨z1, z2⟩ := ok.n
  rcases q_order hq with ⟨hqb, o1, o2⟩ | ⟨hqb, o1⟩
  · by_cases hn0 : g.l.n = 0
    · have hE : qtF g q = (0, 6) := by unfold qtF; rw [if_neg (by simp [hqb]), if_pos hn0]
      rw [hE]
      rw [hn0] at c2
      unfold ordZ ordO at *
      go_enter Try.func22, Try.ntmps22
      go_wp2_with (go_at_call 32; refine hm.mono ?_; rintro e w' ⟨rfl, hw⟩; rw [hw]; clear hw w')
      go_ret2
      exact ⟨rfl, rfl⟩
    · obtain ⟨n, hn⟩ : ∃ n : Nat, g.l.n = (n : Int) := ⟨g.l.n.toNat, by omega⟩
      have hn1 : 1 ≤ n := by omega
      have hE : Hid (qtF g q = (pick g.bs g.cs 0 ((rkF q n : Nat) : Int) g.l.hi, 0)) := hide (by unfold qtF; rw [if_neg (by simp [hqb]), if_neg hn0, hn]; rfl)
      have hrk := fun u => rank_any u q n hqb hn1 (by omega)
      have hne : ((n : Int) == 0) = false := by simp; omega
      obtain ⟨r, hr⟩ : ∃ r, Hid (((rkF q n : Nat) : Int) = r) := ⟨_, rfl⟩
      rw [hr.out] at hE hrk
      rw [hE.out]
      obtain ⟨PK, hPK⟩ : ∃ PK, Hid (pick g.bs g.cs 0 r g.l.hi = PK) := ⟨_, rfl⟩
      rw [hPK.out]
      rw [hn] at c2
      obtain ⟨cb, ca, cur, rfl, p1, p2, p3, p4, _⟩ := Iw.at h.rc hcl
      have HC := hide (fun i hi => h.cell i hi)
      have HCS := hide (fun i (hi : i < g.cs.length) => ok.cs _ (getI_mem hi))
      have hbl : g.bs.length < g.cs.length := by rw [ok.cl]; omega
      have hl64 := ok.len
      have hfw : 0 < g.bs.length → ∃ bb ca, vb = .slice (some ⟨bb, 0, none⟩) g.bs.length ca ∧ ca ≤ 9223372036854775807 ∧ g.bs.length ≤ ca ∧ bb < w.heap.size ∧ ∀ i, i < g.bs.length → w.cell? ⟨bb, i, none⟩ = some (.float .f64 (g.bs.getD i 0)) := fun hl => Fw.at h.rb hl
      have hfe : g.bs.length = 0 → ∃ ao ca, vb = .slice ao 0 ca := fun hl => by
        rcases h.rb.2 with ⟨e, _⟩ | ⟨g', cap, cur, e, _⟩
        · exact ⟨_, _, e⟩
        · rw [hl] at e; exact ⟨_, _, e⟩
      have hform : ∃ ao ca, vb = .slice ao g.bs.length ca ∧ Hid (∀ i, i < g.bs.length → ∃ bb, ao = some ⟨bb, 0, none⟩ ∧ w.cell? ⟨bb, i, none⟩ = some (.float .f64 (g.bs.getD i 0))) := by
        by_cases hl : g.bs.length = 0
        · obtain ⟨ao, ca, e⟩ := hfe hl
          exact ⟨ao, ca, by rw [hl]; exact e, fun i hi => by omega⟩
        · obtain ⟨bb, ca, e, _, _, _, hc⟩ := hfw (by omega)
          exact ⟨_, ca, e, fun i hi => ⟨bb, rfl, hc i hi⟩⟩
      obtain ⟨ao, cab, rfl, HB⟩ := hform
      have HP1 := hide (fun i (h1 : i < g.bs.length) acc => pick_drop (bs := g.bs) (cs := g.cs) h1 (by omega) acc r g.l.hi)
      have HP2 := hide (fun acc => pick_end (bs := g.bs) (cs := g.cs) (Nat.le_refl _) acc r g.l.hi)
      obtain ⟨N, hN⟩ : ∃ N, Hid (g.bs.length = N) := ⟨_, rfl⟩
      obtain ⟨K, hK⟩ : ∃ K, Hid (g.cs.length = K) := ⟨_, rfl⟩
      rw [hN.out, hK.out] at hbl
      rw [hN.out] at hl64 HB HP1 HP2 c0
      rw [hK.out] at HC HCS c1 p2
      unfold ordZ ordO at *
      clear h ok hE hcl hfw hfe p3 p4
      go_enter Try.func22, Try.ntmps22
      go_wp2_with (first | (go_at_call 32; refine hm.mono ?_; rintro e w' ⟨rfl, hw⟩; rw [hw]; clear hw w') | (go_at_call 46; refine (hrk _).mono ?_; rintro e w' ⟨rfl, hw⟩; rw [hw]; clear hw w'))
      go_loopw [7, 42] (fun v7 v42 wr => ∃ (i : Nat) (acc : Int), i ≤ N ∧ v42 = .int .i64 (i : Int) ∧ v7 = .int .i64 acc ∧ 0 ≤ acc ∧ acc ≤ (i : Int) * 1000000000 ∧ Hid (PK = pick (g.bs.drop i) (g.cs.drop i) acc r g.l.hi) ∧ wr = w) (fun _ v _ => N - (intOf v).toNat)
      case atStart => exact ⟨0, 0, by omega, rfl, rfl, by omega, by omega, by show _ = _; rw [← hPK.out]; rfl, rfl⟩
      case round =>
        obtain ⟨i, acc, hi, rfl, rfl, ha1, ha2, hpk, hwr⟩ := hrel
        subst hwr
        by_cases hin : i = N
        · subst hin
          have he : Hid (PK = g.l.hi) := hide (by rw [hpk.out, HP2.out])
          go_wp2_with fail
          go_ret2
          exact ⟨by rw [he.out]; rfl, rfl⟩
        · have hil : i < N := by omega
          obtain ⟨bb, rfl, hcb⟩ := HB.out i hil
          have hcc := HC.out i (by omega)
          obtain ⟨q1, q2⟩ := HCS.out i (by omega)
          have hst := HP1.out i hil acc
          rw [← hpk.out] at hst
          obtain ⟨y, hy⟩ : ∃ y, Hid (g.bs.getD i 0 = y) := ⟨_, rfl⟩
          obtain ⟨c, hc⟩ : ∃ c, Hid (g.cs.getD i 0 = c) := ⟨_, rfl⟩
          rw [hc.out] at hcc q1 q2 hst
          rw [hy.out] at hcb hst
          have i1 : (i : Int) < (N : Int) := by omega
          have i2 : (0 : Int) ≤ (i : Int) := by omega
          have i3 : (i : Int) < (K : Int) := by omega
          have hmo := fun u => more_any u acc c ha1 (by omega) q1 (by omega)
          by_cases hge : r ≤ acc + c
          · rw [if_pos hge] at hst
            have he : Hid (PK = y) := hide hst
            clear hst
            go_wp2_with (go_at_call 33; refine (hmo _).mono ?_; rintro e w' ⟨rfl, hw⟩; rw [hw]; clear hw w')
            go_ret2
            exact ⟨by rw [he.out]; rfl, rfl⟩
          · rw [if_neg hge] at hst
            have he := hide hst
            clear hst
            go_wp2_with (go_at_call 33; refine (hmo _).mono ?_; rintro e w' ⟨rfl, hw⟩; rw [hw]; clear hw w')
            go_roundw
            case rel => exact ⟨i + 1, acc + c, by omega, by go_num, rfl, by omega, by omega, he.out, by trivial⟩
            case measure => simp [intOf]; omega
  · have hE : qtF g q = (0, 1) := by unfold qtF; rw [if_pos hqb]
    rw [hE]
    unfold ordZ ordO at *
    rcases o1 with o1 | o1
    · go_enter Try.func22, Try.ntmps22
      go_wp2_with (go_at_call 32; refine hm.mono ?_; rintro e w' ⟨rfl, hw⟩; rw [hw]; clear hw w')
      go_ret2
      exact ⟨rfl, rfl⟩
    · by_cases h3 : (FloatKind.f64.format.order q 0 == some .gt || FloatKind.f64.format.order q 0 == some .eq) = true
      · go_enter Try.func22, Try.ntmps22
        go_wp2_with (go_at_call 32; refine hm.mono ?_; rintro e w' ⟨rfl, hw⟩; rw [hw]; clear hw w')
        go_ret2
        exact ⟨rfl, rfl⟩
      · go_enter Try.func22, Try.ntmps22
        go_wp2_with (go_at_call 32; refine hm.mono ?_; rintro e w' ⟨rfl, hw⟩; rw [hw]; clear hw w')
        go_ret2
        exact ⟨rfl, rfl⟩
end Go.Proofs.Ytjkdhckhokkefaa.Gg

/-
  begun: a gauge that is made and told three numbers.
-/
namespace Go.Proofs.Ytjkdhckhokkefaa.Gg
open Go.RowKit Rl
set_option linter.unusedVariables false
set_option maxRecDepth 100000
theorem new_ok (w : World) (v : Value) (l : List Nat) (hx : Row w v (fvals l)) (hb : Bs l) (hl : l.length ≤ 64) (hr : Rises l) :
    Calls Try.prog 10 #[v] w fun e w' => ∃ b vb vc, e = .returned (.tuple #[.pointer (some ⟨b, 0, none⟩), .int .i64 0]) ∧ At 64 w' b (g0 l) vb vc ∧ (∀ k, Own b vb vc k → w.heap.size ≤ k) ∧ Below w.heap.size w w' := by
  refine (new_any w v l hx hb).mono ?_
  rintro e w' ⟨b0, ⟨h1, rfl⟩ | ⟨h1, h2, rfl⟩ | ⟨h1, h2, b, vb, vc, rfl, a, o⟩⟩
  · omega
  · exact absurd hr h2
  · exact ⟨b, vb, vc, rfl, a, o, b0⟩
theorem nanv_any (w : World) : Calls Try.prog 28 #[] w fun e w' => e = .returned (.float .f64 9221120237041090561) ∧ w' = w := by
  have k := of_run
  go_enter Try.func28, Try.ntmps28
  go_wp2_with fail
  go_ret
  exact ⟨rfl, rfl⟩
def gB0 : G := g0 [0, 4607182418800017408]
def gB1 : G := ⟨[0, 4607182418800017408], [1, 0, 0], ⟨1, 0, 13830554455654793216, 13830554455654793216, 13830554455654793216⟩⟩
def gB2 : G := ⟨[0, 4607182418800017408], [1, 0, 1], ⟨2, 0, 13830554455654793216, 4617315517961601024, 4611686018427387904⟩⟩
def gB3 : G := ⟨[0, 4607182418800017408], [1, 0, 1], ⟨2, 1, 13830554455654793216, 4617315517961601024, 4611686018427387904⟩⟩
theorem pB1 : putF gB0 13830554455654793216 = gB1 := by kernel_rfl
theorem pB2 : putF gB1 4617315517961601024 = gB2 := by kernel_rfl
theorem pB3 : putF gB2 9221120237041090561 = gB3 := by kernel_rfl
theorem qB3 : qtF gB3 4602678819172646912 = (0, 0) := by kernel_rfl
theorem sB3 : smF 4607182418800017408 4613937818241073152 4602678819172646912 = (4611686018427387904, 0) := by kernel_rfl
theorem rises2 : Rises [0, 4607182418800017408] := by
  intro i hi
  simp only [List.length_cons, List.length_nil] at hi
  match i, hi with
  | 0, _ => show okAt [0, 4607182418800017408] 0 = true; decide +kernel
  | 1, _ => show okAt [0, 4607182418800017408] 1 = true; decide +kernel
theorem bs2 : Bs [0, 4607182418800017408] := bs_two (by omega) (by omega)
theorem okB0 : Ok 0 gB0 := Ok.new (by simp) bs2 rises2
theorem okB1 : Ok 1 gB1 := by have := okB0.put 13830554455654793216 (by omega); rwa [pB1] at this
theorem okB2 : Ok 2 gB2 := by have := okB1.put 4617315517961601024 (by omega); rwa [pB2] at this
theorem okB3 : Ok 3 gB3 := by have := okB2.put 9221120237041090561 (by omega); rwa [pB3] at this
set_option maxHeartbeats 1000000 in
theorem begun_any (w : World) : Calls Try.prog 8 #[] w fun e w' => e = .returned (.bool true) ∧ Below w.heap.size w w' := by
  have R0 := hide (row_two w 0 4607182418800017408 26)
  have B0 := hide (box_below w (.cells #[.float .f64 0, .float .f64 4607182418800017408] 26))
  go_enter Try.func8, Try.ntmps8
  go_wp2_with fail
  go_at_call 10
  refine (new_ok _ _ _ R0.out bs2 (by simp) rises2).mono ?_
  rintro e w1 ⟨b, vb, vc, rfl, A1, N1, B1⟩
  have sz : Hid (w.heap.size ≤ b ∧ ∀ k, vc.ownBlock = some k → w.heap.size ≤ k) := hide ⟨Nat.le_trans B0.out.size (N1 b (.inl rfl)), fun k hk => Nat.le_trans B0.out.size (N1 k (.inr (.inr hk)))⟩
  have A := hide (show At 64 w1 b gB0 vb vc from A1)
  have B := hide (keepF B0.out B1)
  clear A1 N1 B1 R0 B0
  have hT : Hid (∀ u u', Below w.heap.size w u → But (Tur b vc) u u' → Below w.heap.size w u') := hide fun u u' h1 h2 => h1.trans (h2.below h1.size fun k hk => by
    rcases hk with rfl | hk
    · exact sz.out.1
    · exact sz.out.2 k hk)
  go_upto_region 4 with fail
  go_wp2_with fail
  go_at_call 12
  refine (put_any _ b _ vb vc 0 _ A.out okB0 (by omega) (by omega)).mono ?_
  rintro e w2 ⟨rfl, a, bb⟩
  rw [pB1] at a
  replace A := hide a
  replace B := hide (hT.out _ _ B.out bb)
  clear a bb
  go_wp2_with fail
  go_at_call 12
  refine (put_any _ b _ vb vc 1 _ A.out okB1 (by omega) (by omega)).mono ?_
  rintro e w3 ⟨rfl, a, bb⟩
  rw [pB2] at a
  replace A := hide a
  replace B := hide (hT.out _ _ B.out bb)
  clear a bb
  go_wp2_with fail
  refine (nanv_any _).mono ?_
  rintro e w4 ⟨rfl, hw⟩
  rw [hw]
  clear hw w4
  go_wp2_with fail
  go_at_call 12
  refine (put_any _ b _ vb vc 2 _ A.out okB2 (by omega) (by omega)).mono ?_
  rintro e w4 ⟨rfl, a, bb⟩
  rw [pB3] at a
  replace A := hide a
  replace B := hide (hT.out _ _ B.out bb)
  clear a bb
  go_wp2_with fail
  go_at_call 22
  refine (quantile_any _ b _ vb vc 3 _ A.out okB3 (by omega) (by omega)).mono ?_
  rw [qB3]
  rintro e w5 ⟨rfl, hw⟩
  rw [hw]
  clear hw w5
  go_wp2_with fail
  go_at_call 18
  refine (cells_any _ b _ vb vc 3 A.out okB3).mono ?_
  rintro e w5 ⟨v5, rfl, i5, b5⟩
  obtain ⟨cb, cca, cur, rfl, k1, k2, k3, k4, k5⟩ := Iw.at i5 (by simp [gB3])
  have z0 := k5 0 (by simp [gB3])
  have z2 := k5 2 (by simp [gB3])
  replace A := hide (A.out.below b5)
  replace B := hide (keepF B.out b5)
  rw [show gB3.cs.length = 3 from rfl] at k2 ⊢
  rw [show gB3.cs.getD 0 0 = 1 from rfl] at z0
  rw [show gB3.cs.getD 2 0 = 1 from rfl] at z2
  clear i5 b5 k4 k5
  go_wp2_with fail
  go_at_call 19
  refine (look_any _ b _ vb vc 3 A.out okB3).mono ?_
  rintro e w6 ⟨rfl, b6⟩
  replace B := hide (keepF B.out b6)
  replace z0 := (b6.cell (p := ⟨cb, 0, none⟩) k3).trans z0
  replace z2 := (b6.cell (p := ⟨cb, 2, none⟩) k3).trans z2
  replace k3 := Nat.lt_of_lt_of_le k3 b6.size
  clear b6 A
  have FB := hide (box_below w6 (.cells #[.int .i64 2, .int .i64 1, .float .f64 13830554455654793216, .float .f64 4617315517961601024, .float .f64 4611686018427387904] 44))
  have FX : Hid (Lx (w6.alloc (.cells #[.int .i64 2, .int .i64 1, .float .f64 13830554455654793216, .float .f64 4617315517961601024, .float .f64 4611686018427387904] 44)) w6.heap.size gB3.l) := hide (Lx.new w6 gB3.l)
  have sf : ∀ (W : World) (a : Addr) (x : Nat), (store a (.float .f64 x)).run Try.prog W = stored Try.prog W a (.float .f64 x) .plain := fun W a x => run_store _ W a _ _ rfl
  unfold L.val
  unfold gB3 at FX ⊢
  simp only at FX ⊢
  go_upto_region 10 with fail
  replace z0 := (FB.out.cell (p := ⟨cb, 0, none⟩) k3).trans z0
  replace z2 := (FB.out.cell (p := ⟨cb, 2, none⟩) k3).trans z2
  replace k3 := Nat.lt_of_lt_of_le k3 FB.out.size
  replace B := hide (keepF B.out FB.out)
  clear FB
  generalize w6.alloc (.cells #[.int .i64 2, .int .i64 1, .float .f64 13830554455654793216, .float .f64 4617315517961601024, .float .f64 4611686018427387904] 44) = w7 at *
  generalize w6.heap.size = p at *
  go_wp2_with fail
  go_at_call 24
  refine (smooth_any _ _ _ _ (by omega) (by omega) (by omega)).mono ?_
  rw [sB3]
  rintro e w8 ⟨rfl, b8⟩
  replace z0 := (b8.cell (p := ⟨cb, 0, none⟩) k3).trans z0
  replace z2 := (b8.cell (p := ⟨cb, 2, none⟩) k3).trans z2
  replace B := hide (keepF B.out b8)
  have X8 := FX.out.below b8
  obtain ⟨s0, s1, s2, s3, s4⟩ := X8.cells
  simp only at s0 s1 s2 s3 s4
  have o1 : FloatKind.f64.format.order 0 0 = some .eq := by decide +kernel
  have o2 : FloatKind.f64.format.order 4611686018427387904 4611686018427387904 = some .eq := by decide +kernel
  clear b8 X8 FX
  go_wp2_with fail
  go_ret
  exact ⟨rfl, B.out⟩
end Go.Proofs.Ytjkdhckhokkefaa.Gg

/-
  meanOfBoth, merged. (gen_GgM.py)
-/
namespace Go.Proofs.Ytjkdhckhokkefaa.Gg
open Go.RowKit Rl
open Ix (wp_region_T wpAnyT wpAnyT_take wpAnyT_one wpAnyT_done vac)
set_option linter.unusedVariables false
set_option maxRecDepth 100000
def Two (q : World) (p : Nat) (a b c : L) : Prop := Lx q p a ∧ Lx q (p + 1) b ∧ Lx q (p + 2) c
theorem Two.below {q q' : World} {p : Nat} {a b c : L} (h : Two q p a b c) (hb : Below q.heap.size q q') : Two q' p a b c := ⟨h.1.below hb, h.2.1.below hb, h.2.2.below hb⟩
end Go.Proofs.Ytjkdhckhokkefaa.Gg

/-
  Merge of the gauge. (gen_GgN.py)
-/
namespace Go.Proofs.Ytjkdhckhokkefaa.Gg
open Go.RowKit Rl
open Ix (wp_region_T wpAnyT wpAnyT_take wpAnyT_one wpAnyT_done vac)
set_option linter.unusedVariables false
set_option maxRecDepth 100000
/-- Cells added. -/
def addL (a b : List Int) : List Int := List.zipWith (· + ·) a b
/-- Behind i steps. -/
def mixL (a b : List Int) (i : Nat) : List Int := addL (a.take i) (b.take i) ++ a.drop i
theorem mix_len (a b : List Int) (h : a.length = b.length) (i : Nat) : (mixL a b i).length = a.length := by
  simp [mixL, addL]
  omega
theorem mix_step (a b : List Int) (h : a.length = b.length) (i : Nat) (hi : i < a.length) : (mixL a b i).set i (a.getD i 0 + b.getD i 0) = mixL a b (i + 1) := by
  unfold mixL
  have hl : (addL (a.take i) (b.take i)).length = i := by simp [addL]; omega
  rw [List.set_append_right _ _ (by omega), hl, Nat.sub_self, List.drop_eq_getElem_cons hi, List.set_cons_zero, List.take_succ_eq_append_getElem hi, List.take_succ_eq_append_getElem (by omega : i < b.length)]
  unfold addL
  rw [List.zipWith_append (by simp; omega), List.append_assoc]
  simp [hi, show i < b.length by omega]
end Go.Proofs.Ytjkdhckhokkefaa.Gg

/-
  Merge of the gauge: its walk. (gen_GgO.py)
-/
namespace Go.Proofs.Ytjkdhckhokkefaa.Gg
open Go.RowKit Rl
open Ix (wp_region_T wpAnyT wpAnyT_take wpAnyT_one wpAnyT_done vac)
set_option linter.unusedVariables false
set_option maxRecDepth 100000
/-- A block that holds what a gauge is, but for its cells. -/
def Bo (T : TypeId) (w : World) (b : Nat) (l : L) (vb vc : Value) : Prop := w.heap[b]? = some (.cells #[vb, vc, .int .i64 l.n, .int .i64 l.na, .float .f64 l.lo, .float .f64 l.hi, .float .f64 l.me] T (0, 0))
theorem At.bo {T : TypeId} {w : World} {b : Nat} {g : G} {vb vc : Value} (h : At T w b g vb vc) : Bo T w b g.l vb vc := h.box
theorem Bo.cells {T : TypeId} {w : World} {b : Nat} {l : L} {vb vc : Value} (h : Bo T w b l vb vc) : w.cell? ⟨b, 0, none⟩ = some vb ∧ w.cell? ⟨b, 1, none⟩ = some vc ∧ w.cell? ⟨b, 2, none⟩ = some (.int .i64 l.n) ∧ w.cell? ⟨b, 3, none⟩ = some (.int .i64 l.na) ∧ w.cell? ⟨b, 4, none⟩ = some (.float .f64 l.lo) ∧ w.cell? ⟨b, 5, none⟩ = some (.float .f64 l.hi) ∧ w.cell? ⟨b, 6, none⟩ = some (.float .f64 l.me) := by
  unfold Bo at h
  refine ⟨?_, ?_, ?_, ?_, ?_, ?_, ?_⟩ <;> (rw [cell_of h]; rfl)
theorem cell_set_ne {w : World} {cb i ob j : Nat} {cur : Array Value} {T : TypeId} (v : Value) (hne : j ≠ i) (hh : w.heap[cb]? = some (.cells cur T (0, 0))) : (w.setCell ⟨cb, i, none⟩ v).cell? ⟨ob, j, none⟩ = w.cell? ⟨ob, j, none⟩ := by
  by_cases e : ob = cb
  · subst e
    rw [cell_of hh, cell_of (heap_setCell_same w ob i _ _ v hh), Array.getElem?_setIfInBounds_ne (by omega)]
  · exact World.cell?_of_block (w := w) (set_block w cb i ob v e)
/-- Between the rounds: how far the cells of o have been added. -/
structure Mg (T : TypeId) (w wr : World) (b : Nat) (g : G) (vb : Value) (cb K ca : Nat) (b2 : Nat) (o : G) (vb2 : Value) (ob ca2 : Nat) (i : Nat) : Prop where
  at_ : At T wr b ⟨g.bs, mixL g.cs o.cs i, g.l⟩ vb (.slice (some ⟨cb, 0, none⟩) K ca)
  bo : Bo T wr b2 o.l vb2 (.slice (some ⟨ob, 0, none⟩) K ca2)
  left : ∀ j, i ≤ j → j < K → wr.cell? ⟨ob, j, none⟩ = some (.int .i64 (o.cs.getD j 0))
  but : But (Tur b (.slice (some ⟨cb, 0, none⟩) K ca)) w wr
theorem Mg.drewN {T : TypeId} {w wr : World} {b : Nat} {g : G} {vb : Value} {cb K ca : Nat} {b2 : Nat} {o : G} {vb2 : Value} {ob ca2 i : Nat} (h : Mg T w wr b g vb cb K ca b2 o vb2 ob ca2 i) : Mg T w wr.drew b g vb cb K ca b2 o vb2 ob ca2 i :=
  ⟨h.at_.below (Below.refl _ _).drew, h.bo, h.left, h.but.trans (But.of_below (Below.refl _ _).drew _)⟩
theorem Mg.step {T : TypeId} {w wr : World} {b : Nat} {g : G} {vb : Value} {cb K ca : Nat} {b2 : Nat} {o : G} {vb2 : Value} {ob ca2 i : Nat} (h : Mg T w wr b g vb cb K ca b2 o vb2 ob ca2 i) (hT : T ≠ 2) (hg : g.cs.length = K) (ho : o.cs.length = K) (hi : i < K) : Mg T w (wr.setCell ⟨cb, i, none⟩ (.int .i64 (g.cs.getD i 0 + o.cs.getD i 0))) b g vb cb K ca b2 o vb2 ob ca2 (i + 1) := by
  have h1 := h.at_.cset hT i (g.cs.getD i 0 + o.cs.getD i 0)
  simp only at h1
  rw [mix_step g.cs o.cs (by omega) i (by omega)] at h1
  have hn : (Value.slice (some ⟨cb, 0, none⟩) K ca).ownBlock ≠ some b2 := owns_no h.at_.rc h.bo hT
  obtain ⟨b', ca', cur, e, _, _, _, hh, _⟩ := Iw.at h.at_.rc (by rw [mix_len _ _ (by omega)]; omega)
  simp at e
  obtain ⟨rfl, _, _⟩ := e
  refine ⟨h1, (set_block wr cb i b2 _ (fun e => hn (by rw [e]; rfl))).trans h.bo, fun j hj hjK => ?_, h.but.trans (but_cell _ _ _ _ (.inr rfl))⟩
  rw [cell_set_ne _ (by omega) hh]
  exact h.left j (by omega) hjK
end Go.Proofs.Ytjkdhckhokkefaa.Gg

/-
  Merge of the gauge. (gen_GgP.py)
-/
namespace Go.Proofs.Ytjkdhckhokkefaa.Gg
open Go.RowKit Rl
open Ix (wp_region_T wpAnyT wpAnyT_take wpAnyT_one wpAnyT_done vac)
set_option linter.unusedVariables false
set_option maxRecDepth 100000
end Go.Proofs.Ytjkdhckhokkefaa.Gg

/-
  The document's New. (gen_GrA.py)
-/
namespace Go.Proofs.Ytjkdhckhokkefaa.Gg
open Go.RowKit Rl
open Ix (wp_region_T wpAnyT wpAnyT_take wpAnyT_one wpAnyT_done vac)
set_option linter.unusedVariables false
set_option maxRecDepth 100000
end Go.Proofs.Ytjkdhckhokkefaa.Gg

/-
  The document's Put. (gen_GrB.py)
-/
namespace Go.Proofs.Ytjkdhckhokkefaa.Gg
open Go.RowKit Rl
set_option linter.unusedVariables false
set_option maxRecDepth 100000
/-- The least and the greatest are numbers. -/
def Nn (l : L) : Prop := nanB l.lo = false ∧ nanB l.hi = false
theorem key_nanc : keyB 9221120237041090561 = 18446744073709551615 := by decide +kernel
theorem key_le {b : Nat} (hb : b < 18446744073709551616) : keyB b ≤ 18446744073709551615 := by
  unfold keyB
  split
  · omega
  · split <;> omega
theorem key_num {b : Nat} (hb : b < 18446744073709551616) (h : nanB b = false) : keyB b < 18446744073709551615 := by
  have h1 := keyB_nan b hb
  have h2 := key_le hb
  rw [h] at h1
  rcases Nat.lt_or_eq_of_le h2 with q | q
  · exact q
  · exact absurd (h1.1 q) (by simp)
theorem min_num {a b : Nat} (ha : a < 18446744073709551616) (hn : nanB a = false) : minB [a, b] = if cmpB b a < 0 then b else a := by
  rw [min_pair]
  have : minStep 9221120237041090561 a = a := by
    unfold minStep
    rw [if_pos ((cmpB_neg _ _).2 (by rw [key_nanc]; exact key_num ha hn))]
  rw [this]
  rfl
theorem max_num {a b : Nat} (hn : nanB a = false) (hb : nanB b = false) : maxB [a, b] = if 0 < cmpB b a then b else a := by
  rw [max_pair]
  have : maxStep 9221120237041090561 a = a := by
    unfold maxStep
    rw [hn, nan_c]
    rfl
  rw [this]
  unfold maxStep
  rw [hb, hn]
  simp
theorem nn_ends {a b : L} (ha : Nn a) (hb : Nn b) (h1 : a.lo < 18446744073709551616) : nanB (endsF a b).1 = false ∧ nanB (endsF a b).2 = false := by
  unfold endsF
  rw [min_num h1 ha.1, max_num ha.2 hb.2]
  split
  · exact hb
  · split
    · exact ha
    · simp only
      refine ⟨?_, ?_⟩
      · split
        · exact hb.1
        · exact ha.1
      · split
        · exact hb.2
        · exact ha.2
theorem Nn.put {g : G} (h : Nn g.l) (h1 : g.l.lo < 18446744073709551616) (x : Nat) : Nn (putF g x).l := by
  unfold putF
  cases hx : nanB x
  · rw [if_neg (by simp)]
    exact nn_ends h ⟨hx, hx⟩ h1
  · rw [if_pos rfl]
    exact h
theorem nn0 (l : List Nat) : Nn (g0 l).l := ⟨show nanB 0 = false by decide, show nanB 0 = false by decide⟩
theorem cmpB_pos (a b : Nat) : 0 < cmpB a b ↔ keyB b < keyB a := by
  unfold cmpB cmpZ
  split
  · constructor <;> intro <;> omega
  · split <;> (constructor <;> intro <;> omega)
end Go.Proofs.Ytjkdhckhokkefaa.Gg

/-
  The document's Quantile.
-/
namespace Go.Proofs.Ytjkdhckhokkefaa.Gg
open Go.RowKit Rl
set_option linter.unusedVariables false
set_option maxRecDepth 100000
/-- Rounded down, then one more where something is left. -/
theorem down_up {P : Nat} (hP : P < 9218868437227405312) (hf : magB P / 2 ^ 1074 < 9007199254740992) : (FloatKind.f64.nearest ((magB P / 2 ^ 1074 : Nat) : Int) < P ∧ upU (magB P) = magB P / 2 ^ 1074 + 1) ∨ (¬ FloatKind.f64.nearest ((magB P / 2 ^ 1074 : Nat) : Int) < P ∧ upU (magB P) = magB P / 2 ^ 1074) := by
  have hm := nf_mag hf
  have hU := Nat.two_pow_pos 1074
  have hd := Nat.div_add_mod (magB P) (2 ^ 1074)
  unfold upU
  generalize FloatKind.f64.nearest ((magB P / 2 ^ 1074 : Nat) : Int) = R at *
  generalize 2 ^ 1074 = U at *
  by_cases h0 : magB P % U = 0
  · right
    rw [h0]
    refine ⟨fun hlt => ?_, rfl⟩
    have := mag_mono hlt
    rw [hm] at this
    rw [h0, Nat.mul_comm] at hd
    omega
  · left
    have e : (magB P % U != 0) = true := by simp [h0]
    rw [e]
    refine ⟨?_, rfl⟩
    rcases Nat.lt_or_ge R P with q | q
    · exact q
    · have := mag_le q
      rw [hm] at this
      rw [Nat.mul_comm] at hd
      omega
theorem down_le {V n : Nat} (h : V ≤ n * 2 ^ 1074) : V / 2 ^ 1074 ≤ n := by
  have hU := Nat.two_pow_pos 1074
  generalize 2 ^ 1074 = U at *
  exact Nat.div_le_of_le_mul (by rw [Nat.mul_comm]; exact h)
theorem nf_inf {n : Nat} (hn : n < 9007199254740992) : FloatKind.f64.nearest (n : Int) < 9218868437227405312 := by rw [nf_eq]; exact round_lt_inf hn
/-- What the document comes to, step by step: the product, the whole number below, whether something is left. -/
theorem steps {q n : Nat} (hq : qB q = true) (h1 : 1 ≤ n) (hn : n ≤ 1000000000) : ∃ X c : Nat, Ieee.double.mul q (FloatKind.f64.nearest (n : Int)) = some X ∧ (∀ u, (convert 26 2 (.float .f64 X)).run Try.prog u = .ok (.int .i64 (c : Int)) u) ∧ c ≤ n ∧ ((FloatKind.f64.format.order (FloatKind.f64.nearest (c : Int)) X == some .lt) = true ∧ c + 1 ≤ n ∧ rkF q n = c + 1 ∨ (FloatKind.f64.format.order (FloatKind.f64.nearest (c : Int)) X == some .lt) = false ∧ rkF q n = max c 1) := by
  have hn' : n < 9007199254740992 := by omega
  rcases q_cases hq with ⟨c1, c2, c3⟩ | rfl
  · have hmul := mul_n (a := q) (n := n) (by rw [c2]; omega) hn'
    rw [c3, word_eq, if_neg (by decide)] at hmul
    change _ = some (prB q n) at hmul
    have hinf := pr_inf hq hn'
    have hmg := pr_mag hq hn'
    have hle := down_le hmg
    have hup := rk_le hq hn'
    have hR : rkF q n = max (upU (magB (prB q n))) 1 := rfl
    have hdu := down_up hinf (by omega)
    have hti := toInt_read hinf
    have hni := nf_inf (n := magB (prB q n) / 2 ^ 1074) (by omega)
    generalize magB (prB q n) / 2 ^ 1074 = c at *
    refine ⟨prB q n, c, hmul, fun u => conv_i hti (by omega) u, hle, ?_⟩
    rcases hdu with ⟨a, b⟩ | ⟨a, b⟩
    · left
      rw [ord_pos (by omega) (by omega), Nat.compare_eq_lt.2 a]
      refine ⟨rfl, by omega, by rw [hR, b]; omega⟩
    · right
      rw [ord_pos (by omega) (by omega)]
      refine ⟨?_, by rw [hR, b]⟩
      rcases Nat.lt_or_eq_of_le (Nat.le_of_not_lt a) with e | e
      · rw [Nat.compare_eq_gt.2 e]; rfl
      · rw [Nat.compare_eq_eq.2 e.symm]; rfl
  · have hmul := mul_n (a := 9223372036854775808) (n := n) (by decide) hn'
    have z0 : magB (9223372036854775808 % 9223372036854775808) = 0 := by decide
    rw [z0, Nat.zero_mul, round_zero, show sgnB 9223372036854775808 = true by decide, word_eq, if_pos rfl, Nat.add_zero] at hmul
    have hR : rkF 9223372036854775808 n = 1 := by
      unfold rkF prB
      rw [z0, Nat.zero_mul, round_zero, mag_zero, up_zero]
      rfl
    refine ⟨_, 0, hmul, fun u => conv_i (by decide +kernel) (by omega) u, by omega, .inr ⟨by decide +kernel, by rw [hR]; rfl⟩⟩
end Go.Proofs.Ytjkdhckhokkefaa.Gg

/-
  The document's Merge. (gen_GrD.py)
-/
namespace Go.Proofs.Ytjkdhckhokkefaa.Gg
open Go.RowKit Rl
open Ix (wp_region_T wpAnyT wpAnyT_take wpAnyT_one wpAnyT_done vac)
set_option linter.unusedVariables false
set_option maxRecDepth 100000
/-- Of one that was told nothing both ends are 0. -/
def Nz (l : L) : Prop := Nn l ∧ (l.n = 0 → l.lo = 0 ∧ l.hi = 0)
theorem nz0 (l : List Nat) : Nz (g0 l).l := ⟨nn0 l, fun _ => ⟨rfl, rfl⟩⟩
theorem Nz.put {g : G} (h : Nz g.l) (hn : 0 ≤ g.l.n) (h1 : g.l.lo < 18446744073709551616) (x : Nat) : Nz (putF g x).l := by
  refine ⟨h.1.put h1 x, ?_⟩
  unfold putF
  split
  · exact h.2
  · intro e
    have : g.l.n + 1 = 0 := e
    omega
/-- Between the rounds: how far the cells have been added; the copies. -/
structure Mr (w wr : World) (b : Nat) (g : G) (vb : Value) (cb K ca xb : Nat) (cs2 : List Int) (pb : Nat) (l2 : L) (i : Nat) : Prop where
  at_ : At 66 wr b ⟨g.bs, mixL g.cs cs2 i, g.l⟩ vb (.slice (some ⟨cb, 0, none⟩) K ca)
  cp : ∀ j, j < K → wr.cell? ⟨xb, j, none⟩ = some (.int .i64 (cs2.getD j 0))
  lx : Lx wr pb l2
  but : But (Tur b (.slice (some ⟨cb, 0, none⟩) K ca)) w wr
  h1 : cb ≠ xb
  h2 : cb ≠ pb
  h3 : b ≠ pb
theorem Mr.drew {w wr : World} {b : Nat} {g : G} {vb : Value} {cb K ca xb : Nat} {cs2 : List Int} {pb : Nat} {l2 : L} {i : Nat} (h : Mr w wr b g vb cb K ca xb cs2 pb l2 i) : Mr w wr.drew b g vb cb K ca xb cs2 pb l2 i :=
  ⟨h.at_.below (Below.refl _ _).drew, h.cp, h.lx, h.but.trans (But.of_below (Below.refl _ _).drew _), h.h1, h.h2, h.h3⟩
theorem Mr.step {w wr : World} {b : Nat} {g : G} {vb : Value} {cb K ca xb : Nat} {cs2 : List Int} {pb : Nat} {l2 : L} {i : Nat} (h : Mr w wr b g vb cb K ca xb cs2 pb l2 i) (hg : g.cs.length = K) (ho : cs2.length = K) (hi : i < K) : Mr w (wr.setCell ⟨cb, i, none⟩ (.int .i64 (g.cs.getD i 0 + cs2.getD i 0))) b g vb cb K ca xb cs2 pb l2 (i + 1) := by
  have h1 := h.at_.cset (by decide) i (g.cs.getD i 0 + cs2.getD i 0)
  simp only at h1
  rw [mix_step g.cs cs2 (by omega) i (by omega)] at h1
  refine ⟨h1, fun j hj => ?_, h.lx.away _ (Ne.symm h.h2), h.but.trans (but_cell _ _ _ _ (.inr rfl)), h.h1, h.h2, h.h3⟩
  rw [World.cell?_of_block (w := wr) (set_block wr cb i xb _ (Ne.symm h.h1))]
  exact h.cp j hj
/-- What stands while what is told is merged. -/
structure Mt (w q : World) (b : Nat) (g : G) (vb vc : Value) (pb : Nat) (l2 : L) : Prop where
  at_ : At 66 q b g vb vc
  lx : Lx q pb l2
  but : But (Tur b vc) w q
  ne : b ≠ pb
theorem Mt.below {w q q' : World} {b : Nat} {g : G} {vb vc : Value} {pb : Nat} {l2 : L} (h : Mt w q b g vb vc pb l2) (hb : Below q.heap.size q q') : Mt w q' b g vb vc pb l2 := ⟨h.at_.below hb, h.lx.below hb, h.but.trans (But.of_below hb _), h.ne⟩
theorem Mt.s2 {w q : World} {b : Nat} {g : G} {vb vc : Value} {pb : Nat} {l2 : L} (h : Mt w q b g vb vc pb l2) (x : Int) : Mt w (q.setCell ⟨b, 2, none⟩ (.int .i64 x)) b ⟨g.bs, g.cs, ⟨x, g.l.na, g.l.lo, g.l.hi, g.l.me⟩⟩ vb vc pb l2 := ⟨h.at_.set2 (by decide) (by decide) x, h.lx.away _ (Ne.symm h.ne), h.but.trans (but_cell _ _ _ _ (.inl rfl)), h.ne⟩
theorem Mt.s3 {w q : World} {b : Nat} {g : G} {vb vc : Value} {pb : Nat} {l2 : L} (h : Mt w q b g vb vc pb l2) (x : Int) : Mt w (q.setCell ⟨b, 3, none⟩ (.int .i64 x)) b ⟨g.bs, g.cs, ⟨g.l.n, x, g.l.lo, g.l.hi, g.l.me⟩⟩ vb vc pb l2 := ⟨h.at_.set3 (by decide) (by decide) x, h.lx.away _ (Ne.symm h.ne), h.but.trans (but_cell _ _ _ _ (.inl rfl)), h.ne⟩
theorem Mt.s4 {w q : World} {b : Nat} {g : G} {vb vc : Value} {pb : Nat} {l2 : L} (h : Mt w q b g vb vc pb l2) (x : Nat) : Mt w (q.setCell ⟨b, 4, none⟩ (.float .f64 x)) b ⟨g.bs, g.cs, ⟨g.l.n, g.l.na, x, g.l.hi, g.l.me⟩⟩ vb vc pb l2 := ⟨h.at_.set4 (by decide) (by decide) x, h.lx.away _ (Ne.symm h.ne), h.but.trans (but_cell _ _ _ _ (.inl rfl)), h.ne⟩
end Go.Proofs.Ytjkdhckhokkefaa.Gg

/-
  cells, Look, same: what the law asks of both gauges.
-/
namespace Go.Proofs.Ytjkdhckhokkefaa.Gg
open Go.RowKit Rl
set_option linter.unusedVariables false
set_option maxRecDepth 100000
end Go.Proofs.Ytjkdhckhokkefaa.Gg

/-
  same: do both tell the same? (gen_GrF.py)
-/
namespace Go.Proofs.Ytjkdhckhokkefaa.Gg
open Go.RowKit Rl
open Ix (wp_region_T wpAnyT wpAnyT_take wpAnyT_one wpAnyT_done vac)
set_option linter.unusedVariables false
set_option maxRecDepth 100000
/-- What stands in same: both gauges, the list told first. -/
def Ss (q : World) (b : Nat) (g : G) (va vc : Value) (rb : Nat) (ra rc : Value) (vl : Value) : Prop := At 64 q b g va vc ∧ At 66 q rb g ra rc ∧ Row q vl (ivals g.cs)
theorem Ss.below {q q' : World} {b : Nat} {g : G} {va vc : Value} {rb : Nat} {ra rc vl : Value} (h : Ss q b g va vc rb ra rc vl) (hb : Below q.heap.size q q') : Ss q' b g va vc rb ra rc vl := ⟨h.1.below hb, h.2.1.below hb, Below.row hb h.2.2⟩
end Go.Proofs.Ytjkdhckhokkefaa.Gg

/-
  Several gauges in memory, apart from each other.
-/
namespace Go.Proofs.Ytjkdhckhokkefaa.Gg
open Go.RowKit Rl
set_option linter.unusedVariables false
set_option maxRecDepth 100000
structure E where
  T : TypeId
  b : Nat
  vb : Value
  vc : Value
def E.own (e : E) : Nat → Prop := Own e.b e.vb e.vc
def E.at_ (e : E) (w : World) (g : G) : Prop := At e.T w e.b g e.vb e.vc
/-- Gauges apart from each other, all of memory that was not there in W. -/
structure Ens (W w : World) (l : List (E × G)) : Prop where
  all : ∀ p ∈ l, p.1.at_ w p.2
  low : ∀ p ∈ l, ∀ k, p.1.own k → W.heap.size ≤ k
  dis : (l.map Prod.fst).Pairwise (fun e f => ∀ k, e.own k → ¬ f.own k)
  bel : Below W.heap.size W w
theorem Ens.below {W w w' : World} {l : List (E × G)} (h : Ens W w l) (hb : Below w.heap.size w w') : Ens W w' l :=
  ⟨fun p hp => (h.all p hp).below hb, h.low, h.dis, keepF h.bel hb⟩
theorem Ens.nil {W w : World} (h : Below W.heap.size W w) : Ens W w [] := ⟨fun p hp => by simp at hp, fun p hp => by simp at hp, List.Pairwise.nil, h⟩
/-- One more, of new memory. -/
theorem Ens.add {W w w' : World} {l : List (E × G)} {e : E} {g : G} (h : Ens W w l) (hb : Below w.heap.size w w') (ha : e.at_ w' g) (hn : ∀ k, e.own k → w.heap.size ≤ k) : Ens W w' (l ++ [(e, g)]) := by
  refine ⟨fun p hp => ?_, fun p hp k hk => ?_, ?_, keepF h.bel hb⟩
  · rw [List.mem_append, List.mem_singleton] at hp
    rcases hp with hp | rfl
    · exact (h.all p hp).below hb
    · exact ha
  · rw [List.mem_append, List.mem_singleton] at hp
    rcases hp with hp | rfl
    · exact h.low p hp k hk
    · exact Nat.le_trans h.bel.size (hn k hk)
  · rw [List.map_append, List.pairwise_append]
    refine ⟨h.dis, by simp, fun a ha' b hb' k hk hk' => ?_⟩
    simp at hb'
    subst hb'
    obtain ⟨p, hp, rfl⟩ := List.mem_map.1 ha'
    have h1 := (h.all p hp).lt k hk
    have h2 := hn k hk'
    omega
/-- Told one number after the other. -/
def pG (g : G) (xs : List Nat) (i : Nat) : G := (xs.take i).foldl putF g
theorem pG_zero (g : G) (xs : List Nat) : pG g xs 0 = g := rfl
theorem pG_succ (g : G) (xs : List Nat) {i : Nat} (hi : i < xs.length) : pG g xs (i + 1) = putF (pG g xs i) (xs.getD i 0) := by
  unfold pG
  rw [List.take_succ_eq_append_getElem hi, List.foldl_append]
  simp [hi]
theorem pG_ok {g : G} {M : Int} (h : Ok M g) {xs : List Nat} (hb : Bs xs) (i : Nat) (hi : i ≤ xs.length) : Ok (M + (i : Int)) (pG g xs i) := by
  induction i with
  | zero => rw [pG_zero]; exact h.mono (by omega)
  | succ i ih =>
    rw [pG_succ g xs (by omega)]
    exact ((ih (by omega)).put _ (hb _ (getD_mem (by omega)))).mono (by omega)
theorem wpList_append_runF {w : World} {ops : Array Oper} {rest : List Oper} {o : Oper} {a : Act} {Q : Exit → Act → World → Prop} (hgd : o.guard = none) (s x : Operand) {vs vx v' : Value} {w' : World}
    (ho : o.op = .call { callee := .builtin .append, args := #[s, x], argTypes := #[24, 24] }) (hs : a.eval s = vs) (hx : a.eval x = vx)
    (hr : (Builtin.append_ #[24, 24] o.type #[vs, vx]).run Try.prog w = .ok v' w') (h : wpList Try.prog ops Q rest (a.put o.dst v') w') : wpList Try.prog ops Q (o :: rest) a w := by
  refine wpList_plain hgd fun K hK => ?_
  exact Lib.wp_append_run _ s x 24 24 ho vs vx hs hx v' w' hr (hK _ _ h)
/-- One float more, onto one's own. -/
theorem run_oneF {B : Nat} {w : World} {v : Value} {l : List Nat} (x : Nat) (gg : Nat) (h : Fw B w v l) (h0 : w.cell? ⟨gg, 0, none⟩ = some (.float .f64 x)) (hl : l.length ≤ 1000000) (hB : B ≤ w.heap.size) (ty : TypeId) :
    ∃ v' w', (Builtin.append_ #[24, 24] ty #[v, .slice (some ⟨gg, 0, none⟩) 1 1]).run Try.prog w = .ok v' w' ∧ Fw B w' v' (l ++ [x]) ∧ w.grownBy w' v.ownBlock := by
  obtain ⟨i0, hi, hz0, hz1, hz2⟩ := info_parts Try.infoF64
  obtain ⟨v', w', hr, ho, hg, _, hat⟩ := run_append_own_at (P := Try.prog) w B 24 ty 26 i0 (.float .f64 0) 1 8 Try.underlying24 hi hz0 hz1 hz2 rfl (by decide) v l.length (fvals l) h ⟨gg, 0, none⟩ 1 1 [.float .f64 x] rfl (by
      intro j u hu
      rw [addr_add]
      match j with
      | 0 => simp at hu; subst hu; exact h0
      | j + 1 => simp at hu) (by
      intro u hu
      simp at hu
      subst hu
      rfl) (by unfold maxLen; omega) (by omega) hB
  refine ⟨v', w', hr, ?_, hg⟩
  unfold Fw
  rw [List.length_append, show fvals (l ++ [x]) = fvals l ++ [.float .f64 x] by simp [fvals]]
  exact ho
/-- One of them written over. -/
theorem Fw.set {B : Nat} {w : World} {b n ca : Nat} {l : List Nat} (h : Fw B w (.slice (some ⟨b, 0, none⟩) n ca) l) (k : Nat) (x : Nat) : Fw B (w.setCell ⟨b, k, none⟩ (.float .f64 x)) (.slice (some ⟨b, 0, none⟩) n ca) (l.set k x) := by
  rcases h.2 with ⟨e, _⟩ | ⟨g', cap, cur, e, hg, hh, a, b', c, d⟩
  · simp at e
  · simp at e
    obtain ⟨rfl, rfl, rfl⟩ := e
    have h1 : (w.setCell ⟨b, k, none⟩ (.float .f64 x)).heap[b]? = some (.cells (cur.setIfInBounds k (.float .f64 x)) 26 (0, 0)) := by rw [heap_setCell_same w b k _ _ _ hh]
    refine ⟨by simp [fvals], .inr ⟨b, ca, _, by rw [List.length_set], hg, h1, by rw [List.length_set]; exact a, b', by simpa using c, ?_⟩⟩
    rw [List.length_set, show fvals (l.set k x) = (fvals l).set k (.float .f64 x) by simp [fvals, List.map_set], ← d]
    simp [List.take_set]
end Go.Proofs.Ytjkdhckhokkefaa.Gg

