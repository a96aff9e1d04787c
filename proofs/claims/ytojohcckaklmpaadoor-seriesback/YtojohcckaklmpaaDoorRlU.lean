/-
  Package real's exact sums: words in memory; which of two is less.
-/
import Derived.Test.YtojohcckaklmpaaDoorRlV
import Derived.Test.YtojohcckaklmpaaDoorRlC
import Derived.BigRegion
import Derived.Handy
namespace Go.Proofs.YtojohcckaklmpaaDoor.Rl
open Go.RowKit
set_option maxRecDepth 100000

def wcells (ds : List Nat) : Array Value := (ds.map fun d : Nat => Value.int .u64 (d : Int)).toArray
/-- Block b holds the 34 words ds. -/
def Un (q : World) (b : Nat) (ds : List Nat) : Prop := ds.length = 34 ∧ Ws ds ∧ ∃ T, q.heap[b]? = some (.cells (wcells ds) T (0, 0))
theorem Un.cell {q : World} {b : Nat} {ds : List Nat} (h : Un q b ds) (i : Nat) (hi : i < ds.length) : q.cell? ⟨b, i, none⟩ = some (.int .u64 (ds[i] : Int)) := by
  obtain ⟨_, _, _, h⟩ := h
  unfold World.cell?
  simp only [h]
  simp [wcells, hi]
theorem Un.frozen {q : World} {b : Nat} {ds : List Nat} (h : Un q b ds) (i : Nat) : q.frozen? ⟨b, i, none⟩ = false := by
  obtain ⟨_, _, _, h⟩ := h
  simp [World.frozen?, h]
theorem Un.set {q : World} {b : Nat} {ds : List Nat} (h : Un q b ds) (i x : Nat) (hx : x < 18446744073709551616) : Un (q.setCell ⟨b, i, none⟩ (.int .u64 (x : Int))) b (ds.set i x) := by
  obtain ⟨h1, h2, T, h3⟩ := h
  refine ⟨by simpa using h1, h2.set i x hx, T, ?_⟩
  rw [heap_setCell_same q b i _ _ _ h3]
  congr 2
  simp [wcells, List.map_set]
theorem Un.other {q : World} {a b : Nat} {ds : List Nat} (h : Un q a ds) (hne : a ≠ b) (i : Nat) (v : Value) : Un (q.setCell ⟨b, i, none⟩ v) a ds :=
  ⟨h.1, h.2.1, by rw [heap_setCell_other q ⟨b, i, none⟩ a v hne]; exact h.2.2⟩
theorem Un.drew {q : World} {b : Nat} {ds : List Nat} (h : Un q b ds) : Un q.drew b ds := h
theorem Un.below {q q' : World} {b : Nat} {ds : List Nat} (h : Un q b ds) (hb : Below q.heap.size q q') : Un q' b ds := by
  obtain ⟨h1, h2, T, h3⟩ := h
  exact ⟨h1, h2, T, by rw [hb.block b (heap_lt h3)]; exact h3⟩
theorem less_any (w : World) (a b : Nat) (ds es : List Nat) (hd : Un w a ds) (he : Un w b es) :
    Calls Tryd.prog 53 #[.pointer (some ⟨a, 0, none⟩), .pointer (some ⟨b, 0, none⟩)] w fun e w' => e = .returned (.bool (decide (val ds < val es))) ∧ Qt w w' := by
  replace hd : Hid (Un w a ds) := hd
  replace he : Hid (Un w b es) := he
  go_enter Tryd.func53, Tryd.ntmps53
  go_wp2_with fail
  go_loopw [5] (fun v wr => ∃ k : Nat, k ≤ 34 ∧ v = .int .i64 ((k : Int) - 1) ∧ Hid (ds.drop k = es.drop k) ∧ Qt w wr) (fun v _ => ((intOf v) + 1).toNat)
  case atStart => exact ⟨34, by omega, rfl, by show _ = _; rw [List.drop_eq_nil_of_le (by have := hd.out.1; omega), List.drop_eq_nil_of_le (by have := he.out.1; omega)], ⟨0, rfl⟩⟩
  case round =>
    obtain ⟨k, hk, rfl, hdr, hq⟩ := hrel
    replace hq : Hid (Qt w wr) := hq
    have hd' : Hid (Un wr a ds) := hd.out.below (Qt.below hq.out _)
    have he' : Hid (Un wr b es) := he.out.below (Qt.below hq.out _)
    by_cases h0 : k = 0
    · subst h0
      have hz : Hid (decide (val ds < val es) = false) := by
        show _ = _
        have : ds = es := by simpa using hdr.out
        rw [this]; simp
      go_wp2
      go_ret
      exact ⟨by rw [hz.out]; rfl, hq.out⟩
    · obtain ⟨j, rfl⟩ : ∃ j, k = j + 1 := ⟨k - 1, by omega⟩
      have hl1 := hd.out.1
      have hl2 := he.out.1
      have c1 := hd'.out.cell j (by omega)
      have c2 := he'.out.cell j (by omega)
      obtain ⟨x, hx⟩ : ∃ x, Hid (ds[j] = x) := ⟨ds[j], rfl⟩
      obtain ⟨y, hy⟩ : ∃ x, Hid (es[j] = x) := ⟨es[j], rfl⟩
      rw [hx.out] at c1
      rw [hy.out] at c2
      have hj : (j : Int) < 34 := by omega
      have hj0 : (0 : Int) ≤ (j : Int) := by omega
      have hj2 : ((j + 1 : Nat) : Int) - 1 = (j : Int) := by omega
      rw [hj2]
      clear h0
      by_cases hxy : x = y
      · have hdr2 : Hid (ds.drop j = es.drop j) := by
          show _ = _
          rw [List.drop_eq_getElem_cons (l := ds) (i := j) (by omega), List.drop_eq_getElem_cons (l := es) (i := j) (by omega), hdr.out, hx.out, hy.out, hxy]
        subst hxy
        go_wp2_with fail
        go_quiet (fail)
        go_wp2_with fail
        go_roundw
        case rel => exact ⟨j, by omega, by go_num, hdr2.out, hq.out.trans ⟨nq, rfl⟩⟩
        case measure => simp [intOf]
      · have hbeq : ((x : Int) == (y : Int)) = false := by simp; omega
        have hfin : Hid (decide (val ds < val es) = decide (x < y)) := by
          show _ = _
          by_cases hlt : x < y
          · rw [decide_eq_true hlt, decide_eq_true (val_cmp hd.out.2.1 j (by omega) (by omega) hdr.out (by rw [hx.out, hy.out]; exact hlt))]
          · have h2 := val_cmp he.out.2.1 j (by omega) (by omega) hdr.out.symm (by rw [hx.out, hy.out]; omega)
            rw [decide_eq_false hlt, decide_eq_false (by omega)]
        go_wp2_with fail
        go_quiet (fail)
        have c3 : (wr.drewN nq).cell? ⟨a, j, none⟩ = some (.int .u64 (x : Int)) := by simpa using c1
        have c4 : (wr.drewN nq).cell? ⟨b, j, none⟩ = some (.int .u64 (y : Int)) := by simpa using c2
        go_wp2_with fail
        go_quiet (fail)
        go_wp2
        go_ret
        refine ⟨congrArg (fun x => Ending.returned (Value.bool x)) (?_ : _ = _), hq.out.trans (Qt.trans ⟨_, rfl⟩ ⟨_, rfl⟩)⟩
        rw [hfin.out]

theorem add64_run (x y c : Int) (hx : 0 ≤ x) (hy : 0 ≤ y) (hc0 : 0 ≤ c) (hc : c ≤ 1) (w : World) :
    (callFunc 68 #[.int .u64 x, .int .u64 y, .int .u64 c]).run Tryd.prog w = .ok (.value (.tuple #[.int .u64 ((x + y + c) % 18446744073709551616), .int .u64 ((x + y + c) / 18446744073709551616)])) w := by
  rw [run_callFunc_extern Tryd.func68 (by kernel_rfl) (by kernel_rfl) (by kernel_rfl) (e := add64Entry) (by kernel_rfl)]
  rw [run_add64 x y c hx hy hc0 hc w]
  rfl
def sub64Entry : Array Value → Sem Value := fun args => do
  let (x, y, b) ← Extern.MathBitsCarry.three "Sub64" args
  pure (Extern.MathBitsCarry.pair ((x + Extern.MathBitsCarry.m64 - y - b) % Extern.MathBitsCarry.m64) (if x < y + b then 1 else 0))
theorem sub64_run (x y c : Nat) (hc : c ≤ 1) (w : World) :
    (callFunc 69 #[.int .u64 (x : Int), .int .u64 (y : Int), .int .u64 (c : Int)]).run Tryd.prog w = .ok (.value (.tuple #[.int .u64 (((x + 18446744073709551616 - y - c) % 18446744073709551616 : Nat) : Int), .int .u64 ((if x < y + c then 1 else 0 : Nat) : Int)])) w := by
  rw [run_callFunc_extern Tryd.func69 (by kernel_rfl) (by kernel_rfl) (by kernel_rfl) (e := sub64Entry) (by kernel_rfl)]
  have : c = 0 ∨ c = 1 := by omega
  rcases this with rfl | rfl <;> rfl
/-- How many times 2^-1074 a finite number of the bits s is. -/
def magB (s : Nat) : Nat := if s < 4503599627370496 then s else (s % 4503599627370496 + 4503599627370496) * 2 ^ (s / 4503599627370496 - 1)
theorem low52 (s : Nat) (hs : s < 18446744073709551616) : bits .and .u64 (s : Int) 4503599627370495 = ((s % 4503599627370496 : Nat) : Int) := by
  have h := bits_and_u64_nat s 4503599627370495 hs (by omega)
  rw [show 4503599627370495 = 2 ^ 52 - 1 by omega, and_low] at h
  exact h
theorem or52 (m : Nat) (hm : m < 4503599627370496) : bits .or .u64 (m : Int) 4503599627370496 = ((m + 4503599627370496 : Nat) : Int) := by
  have h := bits_or_u64_nat m 4503599627370496 (by omega) (by omega)
  rw [Nat.or_comm, show 4503599627370496 = 2 ^ 52 * 1 by omega, ← Nat.two_pow_add_eq_or_of_lt (by omega)] at h
  rw [show (4503599627370496 : Int) = ((2 ^ 52 * 1 : Nat) : Int) by rfl, h]
  omega
end Go.Proofs.YtojohcckaklmpaaDoor.Rl
