/-
  What (*flumelaw1.Bytes).Apart answers where each list that was kept lies in a block of its own: true.
-/
import Derived.Test.YtebhkdaefjmbnaaHold
import Derived.Deep.RegionLaw
namespace Go.Proofs.Ytebhkdaefjmbnaa
open Go.RowKit

set_option maxHeartbeats 400000 in
theorem room_big (w : World) (n c : Nat) (hn : n ≤ 9223372036854770000) (_hc : c ≤ 9223372036854775807) : Calls Try.prog 22 #[.int .i64 (n : Int), .int .i64 (c : Int)] w fun e w' => e = .returned (.int .i64 (room n c : Int)) ∧ w' = w := by
  unfold room
  by_cases h : c ≤ n + 5000
  · rw [Nat.min_eq_left h]
    go_enter Try.func22, Try.ntmps22
    go_wp2
    go_ret
    exact ⟨rfl, rfl⟩
  · rw [Nat.min_eq_right (by omega)]
    go_enter Try.func22, Try.ntmps22
    go_wp2
    go_ret
    exact ⟨ret_int (by omega), rfl⟩

theorem room_spare {w : World} {g m : Nat} {o : Obj} (h : (w.cell? ⟨g, m, none⟩).isSome = true ∧ w.frozen? ⟨g, m, none⟩ = false) (hg : g < w.heap.size) : ∀ j, j < [Value.int .u8 0].length → ((w.alloc o).cell? ⟨g, 0 + m * 1 + j, none⟩).isSome = true ∧ (w.alloc o).frozen? ⟨g, 0 + m * 1 + j, none⟩ = false := by
  intro j hj
  have : j = 0 := by simpa using hj
  subst this
  have hb := box_below w o
  rw [show 0 + m * 1 + 0 = m by omega, hb.cell (p := ⟨g, m, none⟩) hg, hb.frozen (p := ⟨g, m, none⟩) hg]
  exact h

theorem mark_val (i sc : Nat) (hi : i ≤ 9223372036854775807) : (wrap64 ((i : Int) / (sc : Int))).tmod 250 % 256 = ((i / sc % 250 : Nat) : Int) := by
  have e : (i : Int) / (sc : Int) = ((i / sc : Nat) : Int) := by simp
  have hl : i / sc ≤ 9223372036854775807 := Nat.le_trans (Nat.div_le_self _ _) hi
  rw [e]
  generalize i / sc = q at *
  have hw : wrap64 ((q : Nat) : Int) = ((q : Nat) : Int) := by
    unfold wrap64; omega
  rw [hw, Int.tmod_eq_emod_of_nonneg (by omega)]
  omega

set_option maxRecDepth 100000 in
set_option maxHeartbeats 4000000 in
theorem apart_pos (w : World) (kb lb N lcap base : Nat) (g c n0 : Nat → Nat) (h : LS w kb lb N lcap g c n0) (d : DJ kb lb N base g) (hNl : N ≤ lcap) (hlm : lcap ≤ 9223372036854775807) (hc : ∀ j, j < N → c j ≤ 9223372036854775807) (hn : ∀ j, j < N → n0 j ≤ 281474976710656) :
    Calls Try.prog 15 #[.pointer (some ⟨kb, 0, none⟩)] w fun e w' => e = .returned (.bool true) ∧ BD base w w' := by
  have HC : Hid (∀ j, j < N → c j ≤ 9223372036854775807) := hc
  have DD : Hid (DJ kb lb N base g) := d
  have H0 : Hid (LS w kb lb N lcap g c n0) := h
  have HN0 : Hid (∀ j, j < N → n0 j ≤ 281474976710656) := hn
  clear hc d h hn
  go_enter Try.func15, Try.ntmps15
  go_wp2_with fail
  go_loopw [3] (fun vs wr => ∃ (sc : Nat) (n : Nat → Nat), vs = .int .i64 (sc : Int) ∧ (sc = 1 ∨ sc = 250 ∨ sc = 62500) ∧ Hid (LS wr kb lb N lcap g c n) ∧ Hid (∀ j, j < N → n j ≤ 281474976710656 + 40 * sc) ∧ Hid (BD base w wr)) (fun s _ => 62500 - (intOf s).toNat)
  case atStart => exact ⟨1, n0, rfl, .inl rfl, H0.out, fun j hj => by have := HN0.out j hj; omega, BD.refl _ _⟩
  case round =>
    obtain ⟨sc, n, rfl, hsc, hL, hn, hB⟩ := hrel
    by_cases hend : sc = 62500
    · subst hend
      go_wp2_with fail
      go_ret
      exact ⟨rfl, hB.out⟩
    · have hsc2 : 1 ≤ sc ∧ sc ≤ 250 := by omega
      obtain ⟨hs1, hs2⟩ := hsc2
      have hsI : (sc : Int) ≤ 250 := by omega
      go_wp2_with fail
      (try simp only [hsI, decide_true])
      go_loopw [4] (fun vi wr => ∃ (i : Nat) (n : Nat → Nat), i ≤ N ∧ vi = .int .i64 (i : Int) ∧ Hid (LS wr kb lb N lcap g c n) ∧ Hid (∀ j, j < N → n j ≤ 281474976710656 + 40 * sc + 5000) ∧ Hid (∀ j, i ≤ j → j < N → n j ≤ 281474976710656 + 40 * sc) ∧ Hid (∀ j, j < i → Mk wr (g j) (n j) ((j / sc % 250 : Nat) : Int)) ∧ Hid (BD base w wr)) (fun i _ => N - (intOf i).toNat)
      case atStart => exact ⟨0, n, Nat.zero_le _, rfl, hL.out, fun j hj => by have := hn.out j hj; omega, fun j _ hj => hn.out j hj, fun j hj => by omega, hB.out⟩
      case round =>
        clear hL hn hB
        obtain ⟨i, n, hi, rfl, hL, hn, hnb, hM, hB⟩ := hrel
        have top := hL.out.top
        by_cases hlt : i < N
        · have hrow := (hL.out.row i hlt).1
          have hcc := HC.out i hlt
          have hnn := hnb.out i (Nat.le_refl _) hlt
          have hnc := (hL.out.each i hlt).2.1
          have hlt' : (i : Int) < (N : Int) := by omega
          obtain ⟨r, hr⟩ : ∃ r, r = room (n i) (c i) := ⟨_, rfl⟩
          have hrc : r ≤ c i := by rw [hr]; exact Nat.min_le_left _ _
          have hrn : r ≤ n i + 5000 := by rw [hr]; exact Nat.min_le_right _ _
          have HR : Hid (room (n i) (c i) = r) := hr.symm
          clear hr
          go_wp2_with fail
          go_quiet ((go_at_call 22; exact Calls.quiet_of_same (room_big _ _ _ (by omega) (by omega))))
          rw [HR.out]
          go_wp2_with fail
          have HS : Hid (St w (wr.drewN nq) kb lb N lcap base g c n i sc n) := St.drewN ⟨hL.out, hM.out, hB.out⟩ nq
          generalize wr.drewN nq = wd at *
          clear hM hL hB top hrow
          (try simp only [hlt', decide_true])
          go_loopw [49] (fun _ wx => ∃ (m : Nat), m ≤ c i ∧ m ≤ 281474976710656 + 40 * sc + 5000 ∧ Hid (St w wx kb lb N lcap base g c (updN n i m) i sc n)) (fun _ wx => r - lenAt wx lb i)
          case atStart => exact ⟨n i, hnc, by omega, by show St _ _ _ _ _ _ _ _ _ _ _ _ _; rw [updN_self]; exact HS.out⟩
          case round =>
            clear HS
            obtain ⟨m, hmc, hmb, hS⟩ := hrel
            have top := hS.out.1.top
            have hrow := (hS.out.1.row i hlt).1
            rw [updN_same] at hrow
            have HLA : Hid (lenAt wr lb i = m) := by show _ = _; rw [hS.out.1.lenAt hlt, updN_same]
            by_cases hmr : m < r
            · have hmr' : (m : Int) < (r : Int) := by omega
              have HSP : Hid ((wr.cell? ⟨g i, m, none⟩).isSome = true ∧ wr.frozen? ⟨g i, m, none⟩ = false) := (hS.out.1.each i hlt).1 m (by omega)
              have HGL : Hid (g i < wr.heap.size) := (hS.out.1.each i hlt).2.2
              have hkbl : kb < wr.heap.size := lt_of_cell top
              have hlbl : lb < wr.heap.size := lt_of_cell hrow
              obtain ⟨i0, hi0, hz0, hz1, hz2⟩ := info_parts Try.infoU8
              go_wp2_with fail
              go_region_law (first | (refine step_append_room rfl (.tmp 60) (.tmp 61) 22 rfl 5 i0 1 Try.underlying22 hi0 hz1 (g i) 0 m (c i) (by simp [Act.eval]) ⟨wr.heap.size, 0, none⟩ 1 1 [.int .u8 0] (by simp [Act.eval]) rfl (cell_one_new _ _ _) (by simp [Value.oneCell']) (by omega) (room_spare HSP.out HGL.out) ?_; generalize hw3 : World.setCells _ _ _ _ = w3; have S3 : Hid (St w w3 kb lb N lcap base g c (updN n i m) i sc n) := (by rw [← hw3]; first | exact (hS.out.alloc (hS.out.size DD.out hlt) _).drew.push DD.out hlt _ _ | exact (hS.out.drew.alloc (hS.out.size DD.out hlt) _).push DD.out hlt _ _ | exact (hS.out.alloc (hS.out.size DD.out hlt) _).push DD.out hlt _ _); clear hw3; have cc3 := (S3.out.1.row i hlt).1; have ff3 := (S3.out.1.row i hlt).2; have tt3 := S3.out.1.top))
              all_goals
                have S4 : Hid (St w (w3.setCell ⟨lb, i, none⟩ (.slice (some ⟨g i, 0, none⟩) (m + 1) (c i))) kb lb N lcap base g c (updN n i (m + 1)) i sc n) := by
                  have := S3.out.len DD.out hlt (m + 1) (by omega)
                  rw [updN_updN] at this
                  exact this
                have HLB : Hid (lenAt (w3.setCell ⟨lb, i, none⟩ (.slice (some ⟨g i, 0, none⟩) (m + 1) (c i))) lb i = m + 1) := by show _ = _; rw [S4.out.1.lenAt hlt, updN_same]
                clear cc3 ff3 tt3 top hrow
                go_wp2_with fail
                go_roundw
                case rel => exact ⟨m + 1, by omega, by omega, S4.out⟩
                case measure => rw [HLA.out, HLB.out]; omega
            · have hmr' : ¬ ((m : Int) < (r : Int)) := by omega
              obtain ⟨n1, hn1⟩ : ∃ n1, n1 = updN n i m := ⟨_, rfl⟩
              have HN1 : Hid (n1 i = m) := by show _ = _; rw [hn1, updN_same]
              have HNo : Hid (∀ j, j ≠ i → n1 j = n j) := fun j hj => by rw [hn1, updN_other _ _ hj]
              have S5 : Hid (St w wr kb lb N lcap base g c n1 i sc n1) := by
                refine ⟨by rw [hn1]; exact hS.out.1, fun j hj => ?_, hS.out.2.2⟩
                rw [HNo.out j (by omega)]
                exact hS.out.2.1 j hj
              clear hn1 hS
              obtain ⟨mk, hmk⟩ : ∃ mk : Nat, mk = i / sc % 250 := ⟨_, rfl⟩
              have HV : Hid ((wrap64 ((i : Int) / (sc : Int))).tmod 250 % 256 = (mk : Int)) := by rw [hmk]; exact mark_val i sc (by omega)
              have hmkl : mk < 250 := by omega
              have HMK : Hid (mk = i / sc % 250) := hmk
              have hsc0 : ¬ ((sc : Int) = 0) := by omega
              clear hmk
              go_wp2_with fail
              go_loopw [6] (fun vk wx => ∃ (k : Nat), k ≤ m ∧ vk = .int .i64 (k : Int) ∧ Hid (St w wx kb lb N lcap base g c n1 i sc n1) ∧ Hid (Mk wx (g i) k (mk : Int))) (fun k _ => m - (intOf k).toNat)
              case atStart => exact ⟨0, Nat.zero_le _, rfl, S5.out, fun q hq => by omega⟩
              case round =>
                clear S5 top hrow
                obtain ⟨k, hk, rfl, hS, hM⟩ := hrel
                have top := hS.out.1.top
                have hrow := (hS.out.1.row i hlt).1
                rw [HN1.out] at hrow
                by_cases hkm : k < m
                · have hkm' : (k : Int) < (m : Int) := by omega
                  have HSP := (hS.out.1.each i hlt).1 k (by omega)
                  obtain ⟨hsp, hfz⟩ := HSP
                  have HSO : Hid ((wr.cell? ⟨g i, k, none⟩).isSome = true) := hsp
                  obtain ⟨ov, hov⟩ := Option.isSome_iff_exists.1 hsp
                  clear hsp
                  go_wp2_with fail
                  go_region
                  rw [HV.out]
                  have S6 : Hid (St w (wr.setCell ⟨g i, k, none⟩ (.int .u8 (mk : Int))).drew kb lb N lcap base g c n1 i sc n1) := (hS.out.mark DD.out hlt k _).drew
                  have M6 : Hid (Mk (wr.setCell ⟨g i, k, none⟩ (.int .u8 (mk : Int))).drew (g i) (k + 1) (mk : Int)) := hM.out.more HSO.out
                  go_wp2_with fail
                  go_roundw
                  case rel => exact ⟨k + 1, by omega, by go_num, S6.out, M6.out⟩
                  case measure => simp [intOf]; omega
                · obtain rfl : k = m := by omega
                  go_wp2_with fail
                  go_roundw
                  case rel =>
                    refine ⟨i + 1, n1, by omega, by go_num, hS.out.1, fun j hj => ?_, fun j h1 h2 => ?_, fun j hj => ?_, hS.out.2.2⟩
                    · by_cases e : j = i
                      · subst e; rw [HN1.out]; exact hmb
                      · rw [HNo.out j e]; exact hn.out j hj
                    · rw [HNo.out j (by omega)]; exact hnb.out j (by omega) h2
                    · by_cases e : j = i
                      · subst e; rw [HN1.out, ← HMK.out]; exact hM.out
                      · exact hS.out.2.1 j (by omega)
                  case measure => simp [intOf]; omega
        · obtain rfl : N = i := by omega
          have hlt' : ¬ ((N : Int) < (N : Int)) := by omega
          have S7 : Hid (St w wr kb lb N lcap base g c n N sc n) := ⟨hL.out, hM.out, hB.out⟩
          clear hL hM hB hnb
          go_wp2_with fail
          clear top
          go_loopw [7] (fun vi wx => ∃ (p : Nat), p ≤ N ∧ vi = .int .i64 (p : Int) ∧ Hid (St w wx kb lb N lcap base g c n N sc n)) (fun i _ => N - (intOf i).toNat)
          case atStart => exact ⟨0, Nat.zero_le _, rfl, S7.out⟩
          case round =>
            clear S7
            obtain ⟨p, hp, rfl, hS⟩ := hrel
            have top := hS.out.1.top
            by_cases hpl : p < N
            · have hpl' : (p : Int) < (N : Int) := by omega
              have hcc := HC.out p hpl
              have hnc := (hS.out.1.each p hpl).2.1
              go_wp2_with fail
              (try simp only [hpl', decide_true])
              clear top
              go_loopw [8] (fun vk wx => ∃ (k : Nat), k ≤ n p ∧ vk = .int .i64 (k : Int) ∧ Hid (St w wx kb lb N lcap base g c n N sc n)) (fun k _ => n p - (intOf k).toNat)
              case atStart => exact ⟨0, Nat.zero_le _, rfl, hS.out⟩
              case round =>
                clear hS
                obtain ⟨k, hk, rfl, hS⟩ := hrel
                have top := hS.out.1.top
                have hrow := (hS.out.1.row p hpl).1
                have hsc0 : ¬ ((sc : Int) = 0) := by omega
                by_cases hkm : k < n p
                · have hkm' : (k : Int) < ((n p : Nat) : Int) := by omega
                  have hcell := hS.out.2.1 p hpl k hkm
                  have hv : (wrap64 ((p : Int) / (sc : Int))).tmod 250 % 256 = ((p / sc % 250 : Nat) : Int) := mark_val p sc (by omega)
                  obtain ⟨mk, hmk⟩ : ∃ mk : Nat, mk = p / sc % 250 := ⟨_, rfl⟩
                  rw [← hmk] at hv hcell
                  clear hmk
                  have hne : (((mk : Nat) : Int) != ((mk : Nat) : Int)) = false := by simp
                  go_wp2_with fail
                  go_quiet (fail)
                  go_wp2_with fail
                  go_roundw
                  case rel => exact ⟨k + 1, by omega, by go_num, hS.out.drewN _⟩
                  case measure => simp [intOf]; omega
                · obtain rfl : k = n p := by omega
                  have hkm' : ¬ (((n p : Nat) : Int) < ((n p : Nat) : Int)) := by omega
                  go_wp2_with fail
                  go_roundw
                  case rel => exact ⟨p + 1, by omega, by go_num, hS.out⟩
                  case measure => simp [intOf]; omega
            · obtain rfl : N = p := by omega
              go_wp2_with fail
              go_roundw
              case rel =>
                refine ⟨sc * 250, n, by go_num, by omega, hS.out.1, fun j hj => ?_, hS.out.2.2⟩
                have := hn.out j hj
                omega
              case measure => simp [intOf]; omega
#print axioms apart_pos
end Go.Proofs.Ytebhkdaefjmbnaa
