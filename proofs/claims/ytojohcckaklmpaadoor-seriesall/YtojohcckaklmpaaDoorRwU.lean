/-
  The document's own exact sums: words of 32 bits in memory; which of two is less; single bits; one taken away.
-/
import Derived.Test.YtojohcckaklmpaaDoorRwV
namespace Go.Proofs.YtojohcckaklmpaaDoor.Rl
open Go.RowKit
set_option maxRecDepth 100000

/-- Block b holds the 70 words ds. -/
def Wd (q : World) (b : Nat) (ds : List Nat) : Prop := ds.length = 70 ∧ Ys ds ∧ ∃ T, q.heap[b]? = some (.cells (wcells ds) T (0, 0))
theorem Wd.cell {q : World} {b : Nat} {ds : List Nat} (h : Wd q b ds) (i : Nat) (hi : i < ds.length) : q.cell? ⟨b, i, none⟩ = some (.int .u64 (ds[i] : Int)) := by
  obtain ⟨_, _, _, h⟩ := h
  unfold World.cell?
  simp only [h]
  simp [wcells, hi]
theorem Wd.frozen {q : World} {b : Nat} {ds : List Nat} (h : Wd q b ds) (i : Nat) : q.frozen? ⟨b, i, none⟩ = false := by
  obtain ⟨_, _, _, h⟩ := h
  simp [World.frozen?, h]
theorem Wd.set {q : World} {b : Nat} {ds : List Nat} (h : Wd q b ds) (i x : Nat) (hx : x < 4294967296) : Wd (q.setCell ⟨b, i, none⟩ (.int .u64 (x : Int))) b (ds.set i x) := by
  obtain ⟨h1, h2, T, h3⟩ := h
  refine ⟨by simpa using h1, h2.set i x hx, T, ?_⟩
  rw [heap_setCell_same q b i _ _ _ h3]
  congr 2
  simp [wcells, List.map_set]
theorem Wd.other {q : World} {a b : Nat} {ds : List Nat} (h : Wd q a ds) (hne : a ≠ b) (i : Nat) (v : Value) : Wd (q.setCell ⟨b, i, none⟩ v) a ds :=
  ⟨h.1, h.2.1, by rw [heap_setCell_other q ⟨b, i, none⟩ a v hne]; exact h.2.2⟩
theorem Wd.drew {q : World} {b : Nat} {ds : List Nat} (h : Wd q b ds) : Wd q.drew b ds := h
theorem Wd.below {q q' : World} {b : Nat} {ds : List Nat} (h : Wd q b ds) (hb : Below q.heap.size q q') : Wd q' b ds := by
  obtain ⟨h1, h2, T, h3⟩ := h
  exact ⟨h1, h2, T, by rw [hb.block b (heap_lt h3)]; exact h3⟩
theorem wless_any (w : World) (a b : Nat) (ds es : List Nat) (hd : Wd w a ds) (he : Wd w b es) :
    Calls Tryd.prog 59 #[.pointer (some ⟨a, 0, none⟩), .pointer (some ⟨b, 0, none⟩)] w fun e w' => e = .returned (.bool (decide (wal ds < wal es))) ∧ Qt w w' := by
  replace hd : Hid (Wd w a ds) := hd
  replace he : Hid (Wd w b es) := he
  go_enter Tryd.func59, Tryd.ntmps59
  go_wp2_with fail
  go_loopw [5] (fun v wr => ∃ k : Nat, k ≤ 70 ∧ v = .int .i64 ((k : Int) - 1) ∧ Hid (ds.drop k = es.drop k) ∧ Qt w wr) (fun v _ => ((intOf v) + 1).toNat)
  case atStart => exact ⟨70, by omega, rfl, by show _ = _; rw [List.drop_eq_nil_of_le (by have := hd.out.1; omega), List.drop_eq_nil_of_le (by have := he.out.1; omega)], ⟨0, rfl⟩⟩
  case round =>
    obtain ⟨k, hk, rfl, hdr, hq⟩ := hrel
    replace hq : Hid (Qt w wr) := hq
    have hd' : Hid (Wd wr a ds) := hd.out.below (Qt.below hq.out _)
    have he' : Hid (Wd wr b es) := he.out.below (Qt.below hq.out _)
    by_cases h0 : k = 0
    · subst h0
      have hz : Hid (decide (wal ds < wal es) = false) := by
        show _ = _
        have : ds = es := by simpa using hdr.out
        rw [this]; simp
      go_wp2
      go_ret
      exact ⟨by rw [hz.out]; rfl, hq.out⟩
    · obtain ⟨j, rfl⟩ : ∃ j, k = j + 1 := ⟨k - 1, by omega⟩
      have hl1 := hd.out.1
      have hl2 := he.out.1
      have c1 := hd'.out.cell j (by omega)
      have c2 := he'.out.cell j (by omega)
      obtain ⟨x, hx⟩ : ∃ x, Hid (ds[j] = x) := ⟨ds[j], rfl⟩
      obtain ⟨y, hy⟩ : ∃ x, Hid (es[j] = x) := ⟨es[j], rfl⟩
      rw [hx.out] at c1
      rw [hy.out] at c2
      have hj : (j : Int) < 70 := by omega
      have hj0 : (0 : Int) ≤ (j : Int) := by omega
      have hj2 : ((j + 1 : Nat) : Int) - 1 = (j : Int) := by omega
      rw [hj2]
      clear h0
      by_cases hxy : x = y
      · have hdr2 : Hid (ds.drop j = es.drop j) := by
          show _ = _
          rw [List.drop_eq_getElem_cons (l := ds) (i := j) (by omega), List.drop_eq_getElem_cons (l := es) (i := j) (by omega), hdr.out, hx.out, hy.out, hxy]
        subst hxy
        go_wp2_with fail
        go_quiet (fail)
        go_wp2_with fail
        go_roundw
        case rel => exact ⟨j, by omega, by go_num, hdr2.out, hq.out.trans ⟨nq, rfl⟩⟩
        case measure => simp [intOf]
      · have hbeq : ((x : Int) == (y : Int)) = false := by simp; omega
        have hfin : Hid (decide (wal ds < wal es) = decide (x < y)) := by
          show _ = _
          by_cases hlt : x < y
          · rw [decide_eq_true hlt, decide_eq_true (wal_cmp hd.out.2.1 j (by omega) (by omega) hdr.out (by rw [hx.out, hy.out]; exact hlt))]
          · have h2 := wal_cmp he.out.2.1 j (by omega) (by omega) hdr.out.symm (by rw [hx.out, hy.out]; omega)
            rw [decide_eq_false hlt, decide_eq_false (by omega)]
        go_wp2_with fail
        go_quiet (fail)
        have c3 : (wr.drewN nq).cell? ⟨a, j, none⟩ = some (.int .u64 (x : Int)) := by simpa using c1
        have c4 : (wr.drewN nq).cell? ⟨b, j, none⟩ = some (.int .u64 (y : Int)) := by simpa using c2
        go_wp2_with fail
        go_quiet (fail)
        go_wp2
        go_ret
        refine ⟨congrArg (fun x => Ending.returned (Value.bool x)) (?_ : _ = _), hq.out.trans (Qt.trans ⟨_, rfl⟩ ⟨_, rfl⟩)⟩
        rw [hfin.out]

/-- Block b holds three words. -/
def Pt (q : World) (b x y z : Nat) : Prop := ∃ T, q.heap[b]? = some (.cells #[.int .u64 (x : Int), .int .u64 (y : Int), .int .u64 (z : Int)] T (0, 0))
theorem Pt.cell {q : World} {b x y z : Nat} (h : Pt q b x y z) (ps : List Nat) (hp : ps = [x, y, z]) (j : Nat) (hj : j < 3) : q.cell? ⟨b, j, none⟩ = some (.int .u64 ((ps[j]?.getD 0 : Nat) : Int)) := by
  obtain ⟨T, h⟩ := h
  subst hp
  unfold World.cell?
  simp only [h]
  match j, hj with
  | 0, _ => rfl
  | 1, _ => rfl
  | 2, _ => rfl
theorem Pt.cell2 {q : World} {b x y z : Nat} (h : Pt q b x y z) : q.cell? ⟨b, 2, none⟩ = some (.int .u64 (z : Int)) := by
  obtain ⟨T, h⟩ := h
  unfold World.cell?
  simp only [h]
  rfl
theorem Pt.frozen {q : World} {b x y z : Nat} (h : Pt q b x y z) (i : Nat) : q.frozen? ⟨b, i, none⟩ = false := by
  obtain ⟨_, h⟩ := h
  simp [World.frozen?, h]
theorem Pt.set2 {q : World} {b x y z : Nat} (h : Pt q b x y z) (u : Nat) : Pt (q.setCell ⟨b, 2, none⟩ (.int .u64 (u : Int))) b x y u := by
  obtain ⟨T, h⟩ := h
  exact ⟨T, by rw [heap_setCell_same q b 2 _ _ _ h]; rfl⟩
theorem Pt.other {q : World} {a b x y z : Nat} (h : Pt q a x y z) (hne : a ≠ b) (i : Nat) (v : Value) : Pt (q.setCell ⟨b, i, none⟩ v) a x y z := by
  obtain ⟨T, h⟩ := h
  exact ⟨T, by rw [heap_setCell_other q ⟨b, i, none⟩ a v hne]; exact h⟩
theorem grown_store {w q : World} {P b : Nat} (hg : w.grownBy q (some b)) (hP : w.heap.size ≤ P) (o : Nat) (v : Value) : w.grownBy (q.setCell ⟨P, o, none⟩ v) (some b) := by
  have h2 := grown_setCell q P o v
  exact ⟨h2.os.trans hg.os, h2.tape.trans hg.tape, h2.output.trans hg.output, Nat.le_trans hg.size h2.size, fun k hk hne => by
    rw [h2.block k (Nat.lt_of_lt_of_le hk hg.size) (by simp; omega)]; exact hg.block k hk hne⟩
theorem wbit_neg (w : World) (b : Nat) : Calls Tryd.prog 75 #[.pointer (some ⟨b, 0, none⟩), .int .i64 (-1)] w fun e w' => e = .returned (.int .u64 0) ∧ w' = w := by
  go_enter Tryd.func75, Tryd.ntmps75
  go_wp2
  go_ret
  exact ⟨rfl, rfl⟩
theorem wbit_any (w : World) (b n : Nat) (ds : List Nat) (hu : Wd w b ds) (hn : n < 2240) :
    Calls Tryd.prog 75 #[.pointer (some ⟨b, 0, none⟩), .int .i64 (n : Int)] w fun e w' => e = .returned (.int .u64 ((wal ds / 2 ^ n % 2 : Nat) : Int)) ∧ w' = w := by
  obtain ⟨A, hA⟩ : ∃ A, Hid (A = n / 32) := ⟨_, rfl⟩
  obtain ⟨O, hO⟩ : ∃ O, Hid (O = n % 32) := ⟨_, rfl⟩
  have a1 : (n : Int).tdiv 32 = (A : Int) := by rw [hA.out, Int.tdiv_eq_ediv_of_nonneg (by omega)]; omega
  have a2 : (n : Int).tmod 32 = (O : Int) := by rw [hO.out, Int.tmod_eq_emod_of_nonneg (by omega)]; omega
  have a3 : (A : Int) < 70 := by have := hA.out; omega
  have a4 : (0 : Int) ≤ (A : Int) := by omega
  have a5 : (O : Int) < 32 := by have := hO.out; omega
  have a6 : (0 : Int) ≤ (O : Int) := by omega
  have hl := hu.1
  have hAl : A < ds.length := by omega
  have c1 := hu.cell A hAl
  obtain ⟨x, hx⟩ : ∃ x, Hid (ds[A] = x) := ⟨ds[A], rfl⟩
  rw [hx.out] at c1
  have fin : Hid (wal ds / 2 ^ n % 2 = x / 2 ^ O % 2) := by
    have := wal_bit hu.2.1 A O hAl (by omega)
    rw [show 32 * A + O = n by have := hA.out; have := hO.out; omega, hx.out] at this
    exact this
  have hxl : x < 4294967296 := by rw [← hx.out]; exact hu.2.1.get A hAl
  obtain ⟨z, hz⟩ : ∃ z, Hid (z = x / 2 ^ O) := ⟨_, rfl⟩
  have a7 : (x : Int) / 2 ^ O = (z : Int) := by rw [hz.out]; simp
  have a8 := and_one z (by rw [hz.out]; exact Nat.lt_of_le_of_lt (Nat.div_le_self _ _) (by omega))
  rw [fin.out, ← hz.out]
  clear hu hxl
  go_enter Tryd.func75, Tryd.ntmps75
  go_wp2_with fail
  go_ret
  exact ⟨rfl, rfl⟩
theorem and32 (s : Nat) (hs : s < 18446744073709551616) : bits .and .u64 (s : Int) 4294967295 = ((s % 4294967296 : Nat) : Int) := by
  have h := bits_and_u64_nat s 4294967295 hs (by omega)
  rw [show 4294967295 = 2 ^ 32 - 1 by omega, and_low] at h
  exact h
theorem wsub_any (w : World) (a b : Nat) (hab : a ≠ b) (ds es : List Nat) (hd : Wd w a ds) (he : Wd w b es) (hle : wal es ≤ wal ds) :
    Calls Tryd.prog 60 #[.pointer (some ⟨a, 0, none⟩), .pointer (some ⟨b, 0, none⟩)] w fun e w' => ∃ v ds', e = .returned v ∧ Wd w' a ds' ∧ wal ds' = wal ds - wal es ∧ w.grownBy w' (some a) := by
  replace hd : Hid (Wd w a ds) := hd
  replace he : Hid (Wd w b es) := he
  replace hle : Hid (wal es ≤ wal ds) := hle
  replace hab : Hid (a ≠ b) := hab
  go_enter Tryd.func60, Tryd.ntmps60
  go_wp2_with fail
  go_loopw [4, 5] (fun v4 v6 wr => ∃ (i c : Nat) (us : List Nat), i ≤ 70 ∧ c ≤ 1 ∧ v4 = .int .u64 (c : Int) ∧ v6 = .int .i64 (i : Int) ∧ Hid (Wd wr a us) ∧ Hid (Wd wr b es) ∧ Hid (wal us + wal (es.take i) = wal ds + c * 4294967296 ^ i) ∧ Hid (w.grownBy wr (some a))) (fun _ v6 _ => 70 - (intOf v6).toNat)
  case atStart => exact ⟨0, 0, ds, by omega, by omega, rfl, rfl, hd.out, he.out, by show _ = _; simp [wal], (Qt.refl w).grown _⟩
  case round =>
    obtain ⟨i, c, us, hi, hc, rfl, rfl, hu, hv, hval, hg⟩ := hrel
    have hlu := hu.out.1
    have hle2 := hv.out.1
    by_cases h34 : i = 70
    · subst h34
      have fin : Hid (wal us = wal ds - wal es) := by
        show _ = _
        have h1 := hval.out
        rw [List.take_of_length_le (by omega)] at h1
        have h2 := wal_lt hu.out.2.1
        rw [hlu] at h2
        have h3 := hle.out
        have : c = 0 := by
          rcases Nat.eq_zero_or_pos c with h | h
          · exact h
          · have h4 : c = 1 := by omega
            subst h4
            omega
        subst this
        omega
      go_wp2
      go_returns
      exact ⟨_, us, rfl, hu.out, fin.out, hg.out⟩
    · have hil : i < us.length := by omega
      have hjl : i < es.length := by omega
      have c1 := hu.out.cell i hil
      have f1 := hu.out.frozen i
      have c2 := hv.out.cell i hjl
      obtain ⟨x, hx⟩ : ∃ z, Hid (us[i] = z) := ⟨us[i], rfl⟩
      obtain ⟨y, hy⟩ : ∃ z, Hid (es[i] = z) := ⟨es[i], rfl⟩
      rw [hx.out] at c1
      rw [hy.out] at c2
      have hxl := hu.out.2.1.get i hil
      have hyl := hv.out.2.1.get i hjl
      rw [hx.out] at hxl
      rw [hy.out] at hyl
      obtain ⟨X, hX⟩ : ∃ X, Hid (X = x + 4294967296 - y - c) := ⟨_, rfl⟩
      have k1 : IntKind.u64.wrap ((x : Int) + 4294967296) = ((x + 4294967296 : Nat) : Int) := by rw [IntKind.wrap_u64]; omega
      have k2 : IntKind.u64.wrap (((x + 4294967296 : Nat) : Int) - (y : Int)) = ((x + 4294967296 - y : Nat) : Int) := by rw [IntKind.wrap_u64]; omega
      have k3 : IntKind.u64.wrap (((x + 4294967296 - y : Nat) : Int) - (c : Int)) = (X : Int) := by rw [IntKind.wrap_u64, hX.out]; omega
      obtain ⟨Z1, hZ1⟩ : ∃ Z : Int, Hid (Z = ((x + 4294967296 : Nat) : Int)) := ⟨_, rfl⟩
      obtain ⟨Z2, hZ2⟩ : ∃ Z : Int, Hid (Z = ((x + 4294967296 - y : Nat) : Int)) := ⟨_, rfl⟩
      rw [← hZ1.out] at k1 k2
      rw [← hZ2.out] at k2 k3
      have hXl : X < 8589934592 := by rw [hX.out]; omega
      have k4 := and32 X (by omega)
      obtain ⟨L, hL⟩ : ∃ L, Hid (L = X % 4294967296) := ⟨_, rfl⟩
      rw [← hL.out] at k4
      obtain ⟨C, hC⟩ : ∃ C : Nat, Hid (C = 1 - X / 4294967296) := ⟨_, rfl⟩
      have k5 : IntKind.u64.wrap (1 - (X : Int) / 4294967296) = (C : Int) := by rw [IntKind.wrap_u64, hC.out]; omega
      have i1 : (i : Int) < 70 := by omega
      have i2 : (0 : Int) ≤ (i : Int) := by omega
      have hval3 : Hid (wal (us.set i L) + wal (es.take (i + 1)) = wal ds + C * 4294967296 ^ (i + 1)) := by
        show _ = _
        have e0 : L + y + c = us[i] + 4294967296 * C := by
          rw [hx.out, hL.out, hC.out, hX.out]; omega
        have e1 := wal_sub us i y c L C hil e0
        rw [wal_take_succ es i hjl, hy.out]
        have e2 := hval.out
        rw [Nat.add_mul] at e1
        omega
      have hCl : C ≤ 1 := by rw [hC.out]; omega
      have hLl : Hid (L < 4294967296) := by show _ < _; rw [hL.out]; omega
      clear hxl hyl hXl
      go_wp2_with fail
      go_quiet (fail)
      have f1' : (wr.drewN nq).frozen? ⟨a, i, none⟩ = false := by simpa using f1
      go_wp2_with fail
      have hq : Qt wr (wr.drewN nq) := ⟨nq, rfl⟩
      have hu3 : Hid (Wd ((wr.drewN nq).setCell ⟨a, i, none⟩ (.int .u64 (L : Int))) a (us.set i L)) := (hu.out.below (Qt.below hq _)).set i L hLl.out
      have hv3 : Hid (Wd ((wr.drewN nq).setCell ⟨a, i, none⟩ (.int .u64 (L : Int))) b es) := (hv.out.below (Qt.below hq _)).other (fun e => hab.out e.symm) i _
      have hg3 : Hid (w.grownBy ((wr.drewN nq).setCell ⟨a, i, none⟩ (.int .u64 (L : Int))) (some a)) := grown_trans hg.out (grown_trans (Qt.grown hq _) (grown_setCell _ a i _))
      go_roundw
      case rel => exact ⟨i + 1, C, us.set i L, by omega, hCl, rfl, by go_num, hu3.out, hv3.out, hval3.out, hg3.out⟩
      case measure => simp [intOf]; omega
#print axioms wsub_any
set_option maxHeartbeats 1000000 in
theorem wadd_any (w : World) (b m h : Nat) (ds : List Nat) (hu : Wd w b ds) (hm : m < 9007199254740992) (hh : h ≤ 2045) (hsum : wal ds + m * 2 ^ h < 4294967296 ^ 70) :
    Calls Tryd.prog 57 #[.pointer (some ⟨b, 0, none⟩), .int .u64 (m : Int), .int .i64 (h : Int)] w fun e w' => ∃ v ds', e = .returned v ∧ Wd w' b ds' ∧ wal ds' = wal ds + m * 2 ^ h ∧ w.grownBy w' (some b) := by
  obtain ⟨A, hA⟩ : ∃ A, Hid (A = h / 32) := ⟨_, rfl⟩
  obtain ⟨O, hO⟩ : ∃ O, Hid (O = h % 32) := ⟨_, rfl⟩
  have a1 : (h : Int).tdiv 32 = (A : Int) := by rw [hA.out, Int.tdiv_eq_ediv_of_nonneg (by omega)]; omega
  have a2 : (h : Int).tmod 32 = (O : Int) := by rw [hO.out, Int.tmod_eq_emod_of_nonneg (by omega)]; omega
  have a3 : (A : Int) < 64 := by have := hA.out; omega
  have a4 : (0 : Int) ≤ (A : Int) := by omega
  have a5 : (O : Int) < 32 := by have := hO.out; omega
  have a6 : (0 : Int) ≤ (O : Int) := by omega
  have hO32 : Hid (O < 32) := by show _ < _; omega
  obtain ⟨M, hM⟩ : ∃ M : Nat, Hid (M = m * 2 ^ O % 18446744073709551616) := ⟨_, rfl⟩
  have k1 : IntKind.u64.wrap ((m : Int) * 2 ^ O) = (M : Int) := by rw [IntKind.wrap_u64, hM.out]; simp
  have k2 := and32 M (by rw [hM.out]; omega)
  obtain ⟨p0, hp0⟩ : ∃ p : Nat, Hid (p = M % 4294967296) := ⟨_, rfl⟩
  rw [← hp0.out] at k2
  obtain ⟨N, hN⟩ : ∃ N : Nat, Hid (N = m / 2 ^ (32 - O)) := ⟨_, rfl⟩
  have k3 : (m : Int) / 2 ^ (32 - O) = (N : Int) := by rw [hN.out]; simp
  have hNl : N < 18446744073709551616 := by rw [hN.out]; exact Nat.lt_of_le_of_lt (Nat.div_le_self _ _) (by omega)
  have k4 := and32 N hNl
  obtain ⟨p1, hp1⟩ : ∃ p : Nat, Hid (p = N % 4294967296) := ⟨_, rfl⟩
  rw [← hp1.out] at k4
  obtain ⟨R, hR⟩ : ∃ R : Nat, Hid (R = m / 4294967296) := ⟨_, rfl⟩
  have k5 : (m : Int) / 4294967296 = (R : Int) := by rw [hR.out]; simp
  obtain ⟨p2, hp2⟩ : ∃ p : Nat, Hid (p = R / 2 ^ (32 - O)) := ⟨_, rfl⟩
  have k6 : (R : Int) / 2 ^ (32 - O) = (p2 : Int) := by rw [hp2.out]; simp
  have h3 : Hid (p0 + 4294967296 * p1 + 4294967296 * 4294967296 * p2 = m * 2 ^ O) := by
    show _ = _
    have := three_words m O hO32.out
    rw [hp0.out, hp1.out, hp2.out, hM.out, hN.out, hR.out, ← this]
    congr 2
    omega
  have hps : Hid (p0 < 4294967296 ∧ p1 < 4294967296 ∧ p2 < 4294967296) := by
    refine ⟨by rw [hp0.out]; omega, by rw [hp1.out]; omega, ?_⟩
    rw [hp2.out]
    exact Nat.lt_of_le_of_lt (Nat.div_le_self _ _) (by rw [hR.out]; omega)
  replace hu : Hid (Wd w b ds) := hu
  replace hsum : Hid (wal ds + m * 2 ^ h < 4294967296 ^ 70) := hsum
  have k7 : (32 : Int) - (O : Int) ≥ 0 := by omega
  clear hNl
  go_enter Tryd.func57, Tryd.ntmps57
  go_wp2_with fail
  go_region
  obtain ⟨P, hP⟩ : ∃ P, Hid (w.heap.size = P) := ⟨_, rfl⟩
  refine widen2 (fun q => Wd q b ds ∧ Pt q P p0 p1 0 ∧ w.grownBy q (some b)) ⟨hu.out.below (box_below _ _).drew, ?_, grown_drew (Below.grownAny (box_below _ _) _)⟩ ?_
  · rw [← hP.out]; exact ⟨_, heap_alloc_new _ _⟩
  rw [hP.out]
  rintro q1 ⟨hu1, hp1', hg1⟩
  replace hu1 : Hid (Wd q1 b ds) := hu1
  replace hp1' : Hid (Pt q1 P p0 p1 0) := hp1'
  replace hg1 : Hid (w.grownBy q1 (some b)) := hg1
  have hPb : Hid (P ≠ b) := by
    show _ ≠ _
    rw [← hP.out]; have := heap_lt hu.out.2.2.choose_spec; omega
  have hPw : Hid (w.heap.size ≤ P) := by show _ ≤ _; rw [hP.out]; omega
  clear k1 k2 k3 k4
  go_upto_if 27 with fail
  go_cut [] from 12 (fun wx => Hid (Wd wx b ds) ∧ Hid (Pt wx P p0 p1 p2) ∧ Hid (w.grownBy wx (some b)))
  case first =>
    by_cases hO0 : O = 0
    · have hz : p2 = 0 := by rw [hp2.out, hO0, hR.out]; omega
      subst hO0 hz
      go_wp2_with fail
      go_meet
      case rel => exact ⟨hu1.out, hp1'.out, hg1.out⟩
    · have f1 := hp1'.out.frozen 2
      have c1 := hp1'.out.cell2
      have hpos : (0 : Int) < (O : Int) := by omega
      go_wp2_with fail
      go_meet
      case rel => exact ⟨hu1.out.other (fun e => hPb.out e.symm) 2 _, hp1'.out.set2 _, grown_store hg1.out hPw.out _ _⟩
  case rest =>
    obtain ⟨hu2, hp2', hg2⟩ := hcut
    clear hu1 hp1' hg1 k5 k6 k7
    obtain ⟨ps, hps2⟩ : ∃ ps : List Nat, Hid (ps = [p0, p1, p2]) := ⟨_, rfl⟩
    have hpl : Hid (ps.length = 3) := by show _ = _; rw [hps2.out]; rfl
    go_wp2_with fail
    go_loopw [9, 10] (fun v9 v10 wr => ∃ (i c : Nat) (us : List Nat), A ≤ i ∧ i ≤ 70 ∧ c ≤ 1 ∧ v9 = .int .u64 (c : Int) ∧ v10 = .int .i64 (i : Int) ∧ Hid (Wd wr b us) ∧ Hid (Pt wr P p0 p1 p2) ∧ Hid (wal us + c * 4294967296 ^ i = wal ds + wal (ps.take (i - A)) * 4294967296 ^ A) ∧ Hid (w.grownBy wr (some b))) (fun _ v _ => 70 - (intOf v).toNat)
    case atStart => exact ⟨A, 0, ds, by omega, by omega, by omega, rfl, rfl, hu2.out, hp2'.out, by show _ = _; simp [wal], hg2.out⟩
    case round =>
      clear hu2 hp2' hg2
      obtain ⟨i, c, us, hAi, hi, hc, rfl, rfl, hue, hpe, hve, hge⟩ := hrel
      have hlu := hue.out.1
      by_cases h70 : i = 70
      · have fin : Hid (wal us = wal ds + m * 2 ^ h) := by
          show _ = _
          have h1 := hve.out
          rw [List.take_of_length_le (by rw [hpl.out]; omega), hps2.out, show wal [p0, p1, p2] = p0 + 4294967296 * p1 + 4294967296 * 4294967296 * p2 by simp only [wal]; omega, h3.out, Nat.mul_assoc, words32 A, ← Nat.pow_add, show O + 32 * A = h by have := hA.out; have := hO.out; omega, h70] at h1
          have h2 := hsum.out
          have : c = 0 := by
            rcases Nat.eq_zero_or_pos c with h | h
            · exact h
            · have h4 : c = 1 := by omega
              subst h4
              omega
          subst this
          omega
        subst h70
        go_wp2
        go_returns
        exact ⟨_, us, rfl, hue.out, fin.out, hge.out⟩
      · have hil : i < us.length := by omega
        have c1 := hue.out.cell i hil
        have f1 := hue.out.frozen i
        obtain ⟨x, hx⟩ : ∃ z, Hid (us[i] = z) := ⟨us[i], rfl⟩
        rw [hx.out] at c1
        have hxl := hue.out.2.1.get i hil
        rw [hx.out] at hxl
        obtain ⟨j, hj⟩ : ∃ j, Hid (j = i - A) := ⟨_, rfl⟩
        have j1 : (i : Int) - (A : Int) = (j : Int) := by rw [hj.out]; omega
        obtain ⟨y, hy⟩ : ∃ y, Hid (y = (ps[j]?).getD 0) := ⟨_, rfl⟩
        have hyl : y < 4294967296 := by
          rw [hy.out, hps2.out]
          have := hps.out
          match j with
          | 0 => simp; omega
          | 1 => simp; omega
          | 2 => simp; omega
          | j + 3 => simp
        obtain ⟨X, hX⟩ : ∃ X : Nat, Hid (X = x + c + y) := ⟨_, rfl⟩
        have e1 : IntKind.u64.wrap ((x : Int) + (c : Int)) = ((x + c : Nat) : Int) := by rw [IntKind.wrap_u64]; omega
        obtain ⟨Z, hZ⟩ : ∃ Z : Int, Hid (Z = ((x + c : Nat) : Int)) := ⟨_, rfl⟩
        rw [← hZ.out] at e1
        have e2 : IntKind.u64.wrap (Z + (y : Int)) = (X : Int) := by rw [IntKind.wrap_u64, hX.out, hZ.out]; omega
        have hXl : X < 8589934592 := by rw [hX.out]; omega
        have e3 := and32 X (by omega)
        obtain ⟨L, hL⟩ : ∃ L, Hid (L = X % 4294967296) := ⟨_, rfl⟩
        rw [← hL.out] at e3
        obtain ⟨C, hC⟩ : ∃ C : Nat, Hid (C = X / 4294967296) := ⟨_, rfl⟩
        have e4 : (X : Int) / 4294967296 = (C : Int) := by rw [hC.out]; omega
        have i1 : (i : Int) < 70 := by omega
        have i2 : (0 : Int) ≤ (i : Int) := by omega
        have hCl : C ≤ 1 := by rw [hC.out]; omega
        have hLl : Hid (L < 4294967296) := by show _ < _; rw [hL.out]; omega
        have hval3 : Hid (wal (us.set i L) + C * 4294967296 ^ (i + 1) = wal ds + wal (ps.take (i + 1 - A)) * 4294967296 ^ A) := by
          show _ = _
          have g1 := wal_put us i (y + c) L C hil (by rw [hx.out, hL.out, hC.out, hX.out]; omega)
          have g2 : wal (ps.take (i + 1 - A)) = wal (ps.take (i - A)) + y * 4294967296 ^ j := by
            rw [show i + 1 - A = j + 1 by have := hj.out; omega, show i - A = j by exact hj.out.symm]
            by_cases hj3 : j < ps.length
            · rw [wal_take_succ ps j hj3, hy.out, List.getElem?_eq_getElem hj3]; rfl
            · rw [List.take_of_length_le (by omega), List.take_of_length_le (by omega), hy.out, List.getElem?_eq_none (by omega)]; simp
          have g3 : 4294967296 ^ i = 4294967296 ^ j * 4294967296 ^ A := by rw [← Nat.pow_add]; congr 1; have := hj.out; omega
          rw [g1, g2, Nat.add_mul, Nat.add_mul, Nat.mul_assoc y, ← g3]
          have := hve.out
          omega
        have hu3 : Hid (Wd (wr.setCell ⟨b, i, none⟩ (.int .u64 (L : Int))) b (us.set i L)) := hue.out.set i L hLl.out
        have hp3 : Hid (Pt (wr.setCell ⟨b, i, none⟩ (.int .u64 (L : Int))) P p0 p1 p2) := hpe.out.other hPb.out i _
        have hg3 : Hid (w.grownBy (wr.setCell ⟨b, i, none⟩ (.int .u64 (L : Int))) (some b)) := grown_trans hge.out (grown_setCell _ b i _)
        clear hxl hyl hXl
        by_cases hj3 : j < 3
        · have cp := hpe.out.cell ps hps2.out j hj3
          rw [← hy.out] at cp
          have j2 : (j : Int) < 3 := by omega
          have j3 : (0 : Int) ≤ (j : Int) := by omega
          go_wp2_with fail
          go_roundw
          case rel => exact ⟨i + 1, C, us.set i L, by omega, by omega, hCl, rfl, by go_num, hu3.out, hp3.out, hval3.out, hg3.out⟩
          case measure => simp [intOf]; omega
        · have hy0 : y = 0 := by rw [hy.out, List.getElem?_eq_none (by rw [hpl.out]; omega)]; rfl
          subst hy0
          have hZX : Z = (X : Int) := by rw [hZ.out, hX.out]; omega
          subst hZX
          have j2 : ¬ (j : Int) < 3 := by omega
          go_wp2_with fail
          go_roundw
          case rel => exact ⟨i + 1, C, us.set i L, by omega, by omega, hCl, rfl, by go_num, hu3.out, hp3.out, hval3.out, hg3.out⟩
          case measure => simp [intOf]; omega
#print axioms wadd_any
end Go.Proofs.YtojohcckaklmpaaDoor.Rl
