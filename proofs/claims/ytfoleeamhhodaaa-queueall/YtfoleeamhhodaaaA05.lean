/-
  QueueFair. (gen_QuW.py)
-/
import Derived.Test.YtfoleeamhhodaaaA04
import Derived.Deep.CutBlock
namespace Go.Proofs.Ytfoleeamhhodaaa.Qu
open Go.RowKit
open Ix (wp_region_T wpAnyT wpAnyT_take wpAnyT_one wpAnyT_done vac)
set_option linter.unusedVariables false
set_option maxRecDepth 100000
theorem QpAt.below {w u : World} {b off : Nat} {o : Qop} (h : QpAt w b off o) (hb : Below w.heap.size w u) : QpAt u b off o := by
  obtain ⟨h1, h2, h3, h4⟩ := h
  exact ⟨(World.cell?_of_block (hb.block b (lt_of_cell h1))).trans h1, (World.cell?_of_block (hb.block b (lt_of_cell h2))).trans h2, (World.cell?_of_block (hb.block b (lt_of_cell h3))).trans h3, (World.cell?_of_block (hb.block b (lt_of_cell h4))).trans h4⟩
theorem wr_one {i : Nat} (h : i ≤ 1024) : wrap64 ((i : Int) + 1) = (i : Int) + 1 := by unfold wrap64; omega
end Go.Proofs.Ytfoleeamhhodaaa.Qu

/-
  QueueAll's walk.
-/
namespace Go.Proofs.Ytfoleeamhhodaaa.Qu
open Go.RowKit
set_option linter.unusedVariables false
set_option maxRecDepth 100000
theorem Rd1.qt {w w' : World} {v : Value} {l : List Int} (h : Rd1 w v l) (q : Qt w w') : Rd1 w' v l := by
  obtain ⟨ao, ca, e, k⟩ := h
  refine ⟨ao, ca, e, fun hl => ?_⟩
  obtain ⟨tb, e2, k2⟩ := k hl
  exact ⟨tb, e2, fun i hi => (q.cell _).trans (k2 i hi)⟩
theorem four_of {x : World} {b : Nat} {a c d e : Value} {T : TypeId} (h : x.heap[b]? = some (.cells #[a, c, d, e] T)) : x.cell? ⟨b, 0, none⟩ = some a ∧ x.cell? ⟨b, 1, none⟩ = some c ∧ x.cell? ⟨b, 2, none⟩ = some d ∧ x.cell? ⟨b, 3, none⟩ = some e := by
  simp [World.cell?, h]
theorem meas5 {i : Nat} (h : i < 500) : 500 - (intOf (Value.int .i64 ((i : Int) + 1))).toNat < 500 - (intOf (Value.int .i64 (i : Int))).toNat := by simp only [intOf]; omega
set_option maxHeartbeats 4000000 in
theorem all_walk (w : World) (cap bytes : Int) (ao3 : Option Addr) (os : List Qop) (cp3 : Nat) (hos : AtQops w ao3 os) (hol : os.length ≤ 9223372036854775807) :
    Calls Try.prog 3 #[.int .i64 cap, .int .i64 bytes, .slice ao3 os.length cp3] w fun e w' => e = .returned (.bool true) ∧ Below w.heap.size w w' := by
  by_cases hm : mayB cap bytes
  · obtain ⟨N, hTl⟩ : ∃ T, Hid (os.length = T) := ⟨_, rfl⟩
    have HT : Hid (∀ u, Below w.heap.size w u → ∀ i (hi : i < N), ∃ tb toff, ao3 = some ⟨tb, toff, none⟩ ∧ QpAt u tb (toff + i * 4) (os[i]'(by have := hTl.out; omega))) := by
      intro u hu i hi
      obtain ⟨tb, toff, e, h⟩ := hos i (by rw [hTl.out]; exact hi)
      exact ⟨tb, toff, e, h.below hu⟩
    rw [hTl.out] at hol ⊢
    clear hos
    go_enter Try.func3, Try.ntmps3
    go_upto_region 3 with (go_at_call 6; refine (begun_any _).mono ?_; rintro e u1 ⟨rfl, b1⟩; replace b1 := hide b1)
    have NW := hide (mine_new w u1 b1.out cap bytes hm)
    obtain ⟨qb, hqb⟩ : ∃ qb, Hid (u1.heap.size = qb) := ⟨_, rfl⟩
    rw [hqb.out] at NW
    go_upto_region 4 with (go_at_call 7; refine NW.out.mono ?_; rintro e u2 ⟨rfl, m2⟩; replace m2 := hide m2)
    have NR := hide (Two.new w u2 qb _ m2.out cap bytes hm)
    obtain ⟨rb, hrb⟩ : ∃ rb, Hid (u2.heap.size = rb) := ⟨_, rfl⟩
    rw [hrb.out] at NR
    go_upto_region 7 with (go_at_call 8; refine NR.out.mono ?_; rintro e u3 ⟨rfl, m3⟩; replace m3 := hide m3)
    clear NW NR m2
    go_wp2_with fail
    go_loopw [11] (fun s11 wr => ∃ (i : Nat) (q : Q), s11 = .int .i64 (i : Int) ∧ i ≤ 500 ∧ Hid (Two w wr qb rb q q)) (fun s11 wr => 500 - (intOf s11).toNat)
    case atStart => exact ⟨0, q0 cap bytes, rfl, by omega, m3.out⟩
    case round =>
      clear m3
      obtain ⟨i, q, rfl, hi5, hst⟩ := hrel
      by_cases hiN : i < N ∧ i < 500
      · have hiN1 : (i : Int) < (N : Int) := by omega
        have hiN2 : (i : Int) < 500 := by omega
        have ewi := wr_one (Nat.le_trans hi5 (by decide : 500 ≤ 1024))
        obtain ⟨tb, toff, rfl, c0, c1, c2, c3⟩ := HT.out wr hst.out.bel i hiN.1
        have hil : i < os.length := by have := hTl.out; omega
        obtain ⟨⟨kk, oid, on, oy⟩, ho⟩ : ∃ o : Qop, Hid (os[i] = o) := ⟨os[i], rfl⟩
        rw [ho.out] at c0 c1 c2 c3
        simp only at c0 c1 c2 c3
        have TB := hide (hst.out.box (.cells #[.int .i64 kk, .int .i64 oid, .int .i64 on, .int .i64 oy] 32))
        have TW : Hid (Two w (wr.alloc (.cells #[.int .i64 kk, .int .i64 oid, .int .i64 on, .int .i64 oy] 32)) qb rb q q) := TB.out.two
        obtain ⟨okq, -⟩ := TB.out.ok
        replace okq := hide okq
        clear ho hst HT
        go_upto_region 11 with fail
        generalize wr.alloc (.cells #[.int .i64 kk, .int .i64 oid, .int .i64 on, .int .i64 oy] 32) = u0 at *
        generalize wr.heap.size = xb at *
        obtain ⟨x0, x1, x2, x3⟩ := four_of TB.out.k
        clear c0 c1 c2 c3
        by_cases k1 : kk = 1
        · subst k1
          have CP := hide (TB.out.put oid on)
          have PA : Hid (∀ u, T2 w u qb rb (putQ q oid on).2.2 q (fun x => x.heap[xb]? = some (.cells #[.int .i64 1, .int .i64 oid, .int .i64 on, .int .i64 oy] 32)) → Calls Try.prog 10 #[.pointer (some ⟨rb, 0, none⟩), .int .i64 oid, .int .i64 on] u fun e u' => e = .returned (.tuple #[.bool (putQ q oid on).1, .int .i64 (putQ q oid on).2.1]) ∧ Two w u' qb rb (putQ q oid on).2.2 (putQ q oid on).2.2) := fun u h => (h.put oid on).mono (by rintro e u' ⟨h1, h2, -⟩; exact ⟨h1, h2⟩)
          generalize putQ q oid on = P at *
          obtain ⟨P1, P2, P3⟩ := P
          simp only at CP PA
          clear TB TW
          go_upto_region 15 with (go_at_call 9; refine CP.out.mono ?_; rintro e u1 ⟨rfl, t1⟩; replace t1 := hide t1)
          obtain ⟨-, y1, y2, -⟩ := four_of t1.out.k
          go_upto_region 16 with (go_at_call 10; refine (PA.out u1 t1.out).mono ?_; rintro e u4 ⟨rfl, t4⟩; replace t4 := hide t4)
          clear x0 x1 x2 x3 y1 y2 CP PA t1
          have t1 : (P1 == P1) = true := by simp
          have t2 : (P2 == P2) = true := by simp
          go_wp2_with (go_at_call 19; refine (lsame_any w _ qb rb P3 t4.out).mono ?_; rintro e u5 ⟨rfl, b5⟩; replace b5 := hide b5)
          go_roundw
          case measure => exact meas5 hiN.2
          case rel => exact ⟨i + 1, P3, rfl, hiN.2, t4.out.below b5.out⟩
        · by_cases k2 : kk = 2
          · subst k2
            have CP := hide (TB.out.take on oy)
            have PA : Hid (∀ u K, T2 w u qb rb (takeQ q on oy).2.2 q K → Calls Try.prog 12 #[.pointer (some ⟨rb, 0, none⟩), .int .i64 on, .int .i64 oy] u fun e u' => ∃ ov idv, e = .returned (.tuple #[ov, idv]) ∧ (Two w u' qb rb (takeQ q on oy).2.2 (takeQ q on oy).2.2 ∧ K u') ∧ Rd2 u' ov (takeQ q on oy).1 ∧ Rd1 u' idv (takeQ q on oy).2.1) := fun u K h => h.take on oy
            obtain ⟨l1, l2⟩ := len_take okq.out on oy
            generalize takeQ q on oy = P at *
            obtain ⟨P1, P2, P3⟩ := P
            simp only at CP PA l1 l2
            replace l1 := hide l1
            replace l2 := hide l2
            clear TB TW k1
            go_upto_region 19 with (go_at_call 11; refine CP.out.mono ?_; rintro e u1 ⟨ov, idv, rfl, t1⟩; replace t1 := hide t1)
            obtain ⟨-, -, y2, y3⟩ := four_of t1.out.k.1
            go_upto_region 20 with (go_at_call 12; refine (PA.out u1 _ t1.out).mono ?_; rintro e u4 ⟨ov2, idv2, rfl, t4⟩; replace t4 := hide t4)
            clear x0 x1 x2 x3 y2 y3 CP PA t1
            go_upto_region 27 with (first | (go_at_call 13; refine (litems_any u4 ov ov2 P1 t4.out.1.2.2.1 t4.out.2.1 l1.out).mono ?_; rintro e u5 ⟨rfl, q5⟩; replace q5 := hide q5) | (go_at_call 14; refine (lids_any u5 idv idv2 P2 (t4.out.1.2.2.2.qt q5.out) (t4.out.2.2.qt q5.out) l2.out).mono ?_; rintro e u6 ⟨rfl, q6⟩; replace q6 := hide q6))
            have t6 : Hid (Two w u6 qb rb P3 P3) := (t4.out.1.1.below (q5.out.below _)).below (q6.out.below _)
            clear t4 q5 q6 l1 l2
            go_wp2_with (go_at_call 19; refine (lsame_any w _ qb rb P3 t6.out).mono ?_; rintro e u7 ⟨rfl, b7⟩; replace b7 := hide b7)
            go_roundw
            case measure => exact meas5 hiN.2
            case rel => exact ⟨i + 1, P3, rfl, hiN.2, t6.out.below b7.out⟩
          · by_cases k3 : kk = 3
            · subst k3
              have CP := hide (TB.out.leave oid)
              have PA : Hid (∀ u K, T2 w u qb rb (leaveQ q oid).2.2 q K → Calls Try.prog 16 #[.pointer (some ⟨rb, 0, none⟩), .int .i64 oid] u fun e u' => ∃ idv, e = .returned (.tuple #[idv, .int .i64 (leaveQ q oid).2.1]) ∧ (Two w u' qb rb (leaveQ q oid).2.2 (leaveQ q oid).2.2 ∧ K u') ∧ Rd1 u' idv (leaveQ q oid).1) := fun u K h => h.leave oid
              have l1 := len_leave okq.out oid
              generalize leaveQ q oid = P at *
              obtain ⟨P1, P2, P3⟩ := P
              simp only at CP PA l1
              replace l1 := hide l1
              clear TB TW k1 k2
              go_upto_region 23 with (go_at_call 15; refine CP.out.mono ?_; rintro e u1 ⟨idv, rfl, t1⟩; replace t1 := hide t1)
              obtain ⟨-, y1, -, -⟩ := four_of t1.out.k.1
              go_upto_region 24 with (go_at_call 16; refine (PA.out u1 _ t1.out).mono ?_; rintro e u4 ⟨idv2, rfl, t4⟩; replace t4 := hide t4)
              clear x0 x1 x2 x3 y1 CP PA t1
              have t2 : (P2 == P2) = true := by simp
              go_upto_region 27 with (go_at_call 14; refine (lids_any u4 idv idv2 P1 t4.out.1.2.2 t4.out.2 l1.out).mono ?_; rintro e u6 ⟨rfl, q6⟩; replace q6 := hide q6)
              have t6 : Hid (Two w u6 qb rb P3 P3) := t4.out.1.1.below (q6.out.below _)
              clear t4 q6 l1
              go_wp2_with (go_at_call 19; refine (lsame_any w _ qb rb P3 t6.out).mono ?_; rintro e u7 ⟨rfl, b7⟩; replace b7 := hide b7)
              go_roundw
              case measure => exact meas5 hiN.2
              case rel => exact ⟨i + 1, P3, rfl, hiN.2, t6.out.below b7.out⟩
            · by_cases k4 : kk = 4
              · subst k4
                have CP := hide TB.out.clear
                have PA : Hid (∀ u K, T2 w u qb rb (clearQ q).2 q K → Calls Try.prog 18 #[.pointer (some ⟨rb, 0, none⟩)] u fun e u' => ∃ idv, e = .returned idv ∧ (Two w u' qb rb (clearQ q).2 (clearQ q).2 ∧ K u') ∧ Rd1 u' idv (clearQ q).1) := fun u K h => h.clear
                have l1 := len_clear okq.out
                generalize clearQ q = P at *
                obtain ⟨P1, P3⟩ := P
                simp only at CP PA l1
                replace l1 := hide l1
                clear TB TW k1 k2 k3
                go_upto_region 27 with (first | (go_at_call 17; refine CP.out.mono ?_; rintro e u1 ⟨idv, rfl, t1⟩; replace t1 := hide t1) | (go_at_call 18; refine (PA.out u1 _ t1.out).mono ?_; rintro e u4 ⟨idv2, rfl, t4⟩; replace t4 := hide t4) | (go_at_call 14; refine (lids_any u4 idv idv2 P1 t4.out.1.2.2 t4.out.2 l1.out).mono ?_; rintro e u6 ⟨rfl, q6⟩; replace q6 := hide q6))
                have t6 : Hid (Two w u6 qb rb P3 P3) := t4.out.1.1.below (q6.out.below _)
                clear x0 x1 x2 x3 CP PA t1 t4 q6 l1
                go_wp2_with (go_at_call 19; refine (lsame_any w _ qb rb P3 t6.out).mono ?_; rintro e u7 ⟨rfl, b7⟩; replace b7 := hide b7)
                go_roundw
                case measure => exact meas5 hiN.2
                case rel => exact ⟨i + 1, P3, rfl, hiN.2, t6.out.below b7.out⟩
              · have d1 : (kk == 1) = false := by simpa using k1
                have d2 : (kk == 2) = false := by simpa using k2
                have d3 : (kk == 3) = false := by simpa using k3
                have d4 : (kk == 4) = false := by simpa using k4
                clear TB
                go_wp2_with (go_at_call 19; refine (lsame_any w _ qb rb q TW.out).mono ?_; rintro e u5 ⟨rfl, b5⟩; replace b5 := hide b5)
                go_roundw
                case measure => exact meas5 hiN.2
                case rel => exact ⟨i + 1, q, rfl, hiN.2, TW.out.below b5.out⟩
      · have B0 := hide hst.out.bel
        by_cases hi1 : i < N
        · have hiN1 : (i : Int) < (N : Int) := by omega
          have hiN2 : ¬ (i : Int) < 500 := by omega
          go_wp2_with fail
          go_ret
          exact ⟨rfl, B0.out⟩
        · have hiN1 : ¬ (i : Int) < (N : Int) := by omega
          go_wp2_with fail
          go_ret
          exact ⟨rfl, B0.out⟩
  · go_enter Try.func3, Try.ntmps3
    go_upto_region 3 with (go_at_call 6; refine (begun_any _).mono ?_; rintro e u1 ⟨rfl, b1⟩; replace b1 := hide b1)
    go_wp2_with (first | (go_at_call 7; refine (new_no _ cap bytes hm).mono ?_; rintro e u2 ⟨rfl, hw⟩; rw [hw]; clear hw u2) | (go_at_call 8; refine (rnew_no _ cap bytes hm).mono ?_; rintro e u2 ⟨rfl, hw⟩; rw [hw]; clear hw u2))
    go_ret
    exact ⟨rfl, b1.out⟩
end Go.Proofs.Ytfoleeamhhodaaa.Qu

