/-
  WireForms returns true, and writes nothing that was there.
-/
import Derived.Test.YtjajnioocoinlaaRws
import Derived.Test.YtjajnioocoinlaaLent
import Derived.Test.YtjajnioocoinlaaRefF
import Derived.Test.YtjajnioocoinlaaReads
import Derived.Deep.RegionHeld3
namespace Go.Proofs.Ytjajnioocoinlaa
open Go.RowKit

theorem and32 (u : Nat) (h : u < 18446744073709551616) : bits BinOp.and IntKind.u64 (u : Int) 4294967295 = ((u % 4294967296 : Nat) : Int) := by
  have h1 := u64_and_nat u 4294967295 h (by decide)
  rw [show ((4294967295 : Nat) : Int) = 4294967295 from rfl] at h1
  rw [h1]
  have h2 := Nat.and_two_pow_sub_one_eq_mod u 32
  simp only [show (2 : Nat) ^ 32 - 1 = 4294967295 from rfl, show (2 : Nat) ^ 32 = 4294967296 from rfl] at h2
  rw [h2]

theorem keep1 {w u u' : World} {p1 : Addr} {v1 : Value} (h : Below w.heap.size w u ∧ u.cell? p1 = some v1) (hb : u' = u) : Below w.heap.size w u' ∧ u'.cell? p1 = some v1 := by
  rw [hb]; exact h

set_option maxRecDepth 100000 in
set_option maxHeartbeats 4000000 in
theorem forms_walk (x y z : Value) (us is : List Int) (vs : List Value) (ls : List (List UInt8)) (w : World) (hx : Row w x (us.map (Value.int .u64))) (hy : Row w y (is.map (Value.int .i64))) (hz : Row w z vs) (hs : Sls w vs ls)
    (hu : ∀ n ∈ us, (Lit.int .u64 n).wf = true) (hi : ∀ n ∈ is, (Lit.int .i64 n).wf = true) (hl : ∀ l ∈ ls, l.length ≤ 140737488351232) :
    Calls Try.prog 3 #[x, y, z] w fun e w' => e = .returned (.bool true) ∧ Below w.heap.size w w' := by
  obtain ⟨a1, c1, rfl, _, m1, m2, g1⟩ := hx
  obtain ⟨a2, c2, rfl, _, k1, k2, g2⟩ := hy
  obtain ⟨a3, c3, rfl, _, l1, l2, g3⟩ := hz
  simp only [List.length_map] at m1 k1
  have hv1 : us.length ≤ 9223372036854775807 := by unfold maxLen at m2; omega
  have hv2 : is.length ≤ 9223372036854775807 := by unfold maxLen at k2; omega
  have hv3 : vs.length ≤ 9223372036854775807 := by unfold maxLen at l2; omega
  rw [List.length_map, List.length_map]
  have HU : Hid (∀ n ∈ us, (Lit.int .u64 n).wf = true) := hu
  have HI : Hid (∀ n ∈ is, (Lit.int .i64 n).wf = true) := hi
  have HL : Hid (∀ l ∈ ls, l.length ≤ 140737488351232) := hl
  clear hu hi hl m1 m2 k1 k2 l1 l2
  go_enter Try.func3, Try.ntmps3
  go_wp2_with fail
  refine (begun_any w).mono ?_
  rintro e w1 ⟨rfl, b1⟩
  go_wp2_with fail
  go_loopw [7] (fun i wr => ∃ (k : Nat), k ≤ us.length ∧ i = .int .i64 k ∧ Below w.heap.size w wr) (fun i _ => us.length - (intOf i).toNat)
  case atStart => exact ⟨0, Nat.zero_le _, rfl, b1⟩
  case round =>
    clear b1
    obtain ⟨k, hk, rfl, hbel⟩ := hrel
    by_cases hlt : k < us.length
    · obtain ⟨x1, o1, rfl, d1⟩ := g1 k (by simpa using hlt)
      have hub := u64_bounds (HU.out us[k] (List.getElem_mem hlt))
      simp only [List.getElem_map] at d1
      have q1 := lt_of_cell d1
      generalize us[k] = u at *
      have e1 := (hbel.cell q1).trans d1
      obtain ⟨hu0, hu1⟩ := hub
      have HB : Hid (0 ≤ u ∧ u < 18446744073709551616) := ⟨hu0, hu1⟩
      clear hu0 hu1 g1 g2 g3 hs
      go_wp2_with fail
      refine (varint_any wr u HB.out.1 HB.out.2).mono ?_
      rintro e w2 ⟨v2, rfl, t2, b2⟩
      have hb2 := hbel.trans (b2.mono hbel.size)
      clear b2 hbel e1
      go_wp2_with fail
      refine (refVarint_any w2 u HB.out.1 HB.out.2).mono ?_
      rintro e w3 ⟨v3, rfl, t3, b3⟩
      have hb3 := hb2.trans (b3.mono hb2.size)
      have s2 := Below.sl b3 (Sl.of_owns t2)
      have s3 := Sl.of_owns t3
      clear b3 hb2 t2 t3
      go_wp2_with fail
      refine (eq_sl w3 v2 v3 _ _ s2 s3).mono ?_
      rintro e w4 ⟨rfl, q4⟩
      rw [show decide (enc u.toNat = enc u.toNat) = true by simp]
      have hb4 := hb3.trans (q4.below _)
      clear s2 s3 q4 hb3
      go_wp2_with fail
      refine (zag_any w4 u HB.out.1 HB.out.2).mono ?_
      rintro e w5 ⟨rfl, hw⟩
      subst hw
      go_wp2_with fail
      refine (refZag_any _ u HB.out.1 HB.out.2).mono ?_
      rintro e w6 ⟨rfl, hw⟩
      subst hw
      have z1 : (zag u != zag u) = false := by simp
      go_wp2_with fail
      refine (fixed64_any _ u HB.out.1 HB.out.2).mono ?_
      rintro e w7 ⟨v7, rfl, t7, b7⟩
      have hb7 := hb4.trans (b7.mono hb4.size)
      clear b7 hb4
      go_wp2_with fail
      refine (refFixed_any w7 u 8 HB.out.1 HB.out.2 (by decide)).mono ?_
      rintro e w8 ⟨v8, rfl, t8, b8⟩
      have hb8 := hb7.trans (b8.mono hb7.size)
      have s7 := Below.sl b8 (Sl.of_owns t7)
      have s8 := Sl.of_owns t8
      clear b8 hb7 t7 t8
      go_wp2_with fail
      refine (eq_sl w8 v7 v8 _ _ s7 s8).mono ?_
      rintro e w9 ⟨rfl, q9⟩
      rw [show decide (fx 8 u.toNat = fx 8 u.toNat) = true by simp]
      have hb9 := hb8.trans (q9.below _)
      clear s7 s8 q9 hb8
      have ha : bits BinOp.and IntKind.u64 u 4294967295 = u % 4294967296 := by
        have h := HB.out
        obtain ⟨n, rfl⟩ := Int.eq_ofNat_of_zero_le h.1
        rw [and32 n (by omega)]; simp
      go_wp2_with fail
      refine (fixed32_any w9 (u % 4294967296) (by omega) (by omega)).mono ?_
      rintro e w10 ⟨v10, rfl, t10, b10⟩
      have hb10 := hb9.trans (b10.mono hb9.size)
      clear b10 hb9
      go_wp2_with fail
      refine (refFixed_any w10 (u % 4294967296) 4 (by omega) (by omega) (by decide)).mono ?_
      rintro e w11 ⟨v11, rfl, t11, b11⟩
      have hb11 := hb10.trans (b11.mono hb10.size)
      have s10 := Below.sl b11 (Sl.of_owns t10)
      have s11 := Sl.of_owns t11
      clear b11 hb10 t10 t11
      go_wp2_with fail
      refine (eq_sl w11 v10 v11 _ _ s10 s11).mono ?_
      rintro e w12 ⟨rfl, q12⟩
      rw [show decide (fx 4 (u % 4294967296).toNat = fx 4 (u % 4294967296).toNat) = true by simp]
      have hb12 := hb11.trans (q12.below _)
      clear s10 s11 q12 hb11 z1 ha
      go_wp2
      go_roundw
      case rel => exact ⟨k + 1, by omega, by go_num, hb12⟩
      case measure => simp [intOf]; omega
    · clear g1
      go_wp2_with fail
      go_loopw [9] (fun i wr => ∃ (k : Nat), k ≤ is.length ∧ i = .int .i64 k ∧ Below w.heap.size w wr) (fun i _ => is.length - (intOf i).toNat)
      case atStart => exact ⟨0, Nat.zero_le _, rfl, hbel⟩
      case round =>
        clear hbel
        obtain ⟨j, hj, rfl, hbel⟩ := hrel
        by_cases hlt2 : j < is.length
        · obtain ⟨x2, o2, rfl, d2⟩ := g2 j (by simpa using hlt2)
          have hib := i64_bounds (HI.out is[j] (List.getElem_mem hlt2))
          simp only [List.getElem_map] at d2
          have q2 := lt_of_cell d2
          generalize is[j] = n at *
          obtain ⟨hn0, hn1⟩ := hib
          have hzb := zig_bounds n hn0 hn1
          have HZ : Hid (0 ≤ zig n ∧ zig n < 18446744073709551616) := hzb
          have HN : Hid (-9223372036854775808 ≤ n ∧ n ≤ 9223372036854775807) := ⟨hn0, hn1⟩
          have hS0 : Below w.heap.size w wr.drew ∧ wr.drew.cell? ⟨x2, o2 + j, none⟩ = some (.int .i64 n) := ⟨hbel.drew, (hbel.cell q2).trans d2⟩
          have hjj : (0 : Int) ≤ (j : Int) := by omega
          have hjn : (j : Int) < (is.length : Int) := by omega
          clear hzb hn0 hn1 g2 g3 hs d2 hbel
          go_wp2_with fail
          go_region_held3 (fun q => Below w.heap.size w q ∧ q.cell? ⟨x2, o2 + j, none⟩ = some (.int .i64 n)) (first | exact hS0 | exact keep1 (by assumption) rfl)
            (first
              | (go_at_call 18; refine (zig_any _ n HN.out.1 HN.out.2).mono ?_; rintro e u1 ⟨rfl, rfl⟩)
              | (go_at_call 19; refine (refZig_any _ n HN.out.1 HN.out.2).mono ?_; rintro e u1 ⟨rfl, rfl⟩)
              | (go_at_call 13; refine (zag_any _ (zig n) HZ.out.1 HZ.out.2).mono ?_; rw [zag_zig]; rintro e u1 ⟨rfl, rfl⟩))
          have hS6 : Below w.heap.size w wr.drew := hS0.1
          clear hS0
          go_wp2
          go_roundw
          case rel => exact ⟨j + 1, by omega, by go_num, hS6⟩
          case measure => simp [intOf]; omega
        · clear g2
          go_wp2_with fail
          go_loopw [10] (fun i wr => ∃ (k : Nat), k ≤ vs.length ∧ i = .int .i64 k ∧ Below w.heap.size w wr) (fun i _ => vs.length - (intOf i).toNat)
          case atStart => exact ⟨0, Nat.zero_le _, rfl, hbel⟩
          case round =>
            clear hbel
            obtain ⟨m, hm, rfl, hbel⟩ := hrel
            by_cases hlt3 : m < vs.length
            · have hlt4 : m < ls.length := by have := hs.1; omega
              have hSk := hs.2 m hlt3 hlt4
              have hLk := HL.out ls[m] (List.getElem_mem hlt4)
              obtain ⟨x3, o3, rfl, d3⟩ := g3 m hlt3
              have l3 := lt_of_cell d3
              generalize vs[m] = vv at *
              generalize ls[m] = ll at *
              have e1 := (hbel.cell l3).trans d3
              clear hs g3 hlt4
              go_wp2_with fail
              refine (lent_any wr vv ll (Below.sl hbel hSk) (by omega)).mono ?_
              rintro e w2 ⟨g, v2, rfl, t2, b2, hg2⟩
              have hb2 := hbel.trans (b2.mono hbel.size)
              have hg0 : w.heap.size ≤ g := by have := hbel.size; omega
              clear b2 hbel hg2 e1
              go_wp2_with fail
              refine (string_any w2 v2 ll t2.sl (by omega)).mono ?_
              rintro e w5 ⟨v5, rfl, o5, b5⟩
              have hb5 := hb2.trans (b5.mono hb2.size)
              have t5 := t2.below b5
              have hg5 := t2.lt
              have e5 := (hb5.cell l3).trans d3
              clear b5 hb2 t2
              go_wp2_with fail
              refine (refString_any w5 vv ll (Below.sl hb5 hSk) (by omega)).mono ?_
              rintro e w6 ⟨v6, rfl, o6, b6⟩
              have hb6 := hb5.trans (b6.mono hb5.size)
              have t6 := t5.below b6
              have o56 := ownsRow_below o5 b6
              have e6 := (hb6.cell l3).trans d3
              generalize hLL : enc ll.length ++ ll = LL at *
              have HLL : Hid (enc ll.length ++ ll = LL) := hLL
              clear hLL e5 b6 o5 hb5 t5
              go_wp2_with fail
              refine (eq_sl w6 v5 v6 LL LL (Sl.of_owns o56) (Sl.of_owns o6)).mono ?_
              rintro e w7 ⟨rfl, q7⟩
              rw [show decide (LL = LL) = true by simp]
              have hb7 := hb6.trans (q7.below _)
              have t7 := t6.below (q7.below _)
              have o57 := ownsRow_below o56 (q7.below _)
              have e7 := (hb7.cell l3).trans d3
              clear e6 o56 o6 t6 hb6
              go_wp2_with fail
              refine (back_any w w7 g v2 vv ll hb7 hSk t7 hg0 (by omega)).mono ?_
              rintro e w8 ⟨rfl, g8⟩
              have hb8 := below_rdr hb7 g8 hg0
              have o58 := o57.kept g8 (own_apart o57 (by omega))
              have e8 := (hb8.cell l3).trans d3
              clear e7 o57 t7 hb7 g8
              go_wp2_with fail
              refine (refString_any w8 vv ll (Below.sl hb8 hSk) (by omega)).mono ?_
              rintro e w9 ⟨v9, rfl, o9, b9⟩
              rw [HLL.out] at o9
              have hb9 := hb8.trans (b9.mono hb8.size)
              have s59 := Below.sl b9 (Sl.of_owns o58)
              clear e8 b9 o58 hb8
              go_wp2_with fail
              refine (eq_sl w9 v5 v9 LL LL s59 (Sl.of_owns o9)).mono ?_
              rintro e w10 ⟨rfl, q10⟩
              rw [show decide (LL = LL) = true by simp]
              have hb10 := hb9.trans (q10.below _)
              clear o9 s59 hb9 q10
              go_wp2
              go_roundw
              case rel => exact ⟨m + 1, by omega, by go_num, hb10⟩
              case measure => simp [intOf]; omega
            · go_wp2
              go_ret
              exact ⟨rfl, hbel⟩
#print axioms forms_walk
end Go.Proofs.Ytjajnioocoinlaa
