/-
  The walk of IndexFound.
-/
import Derived.Test.YtoffahbnffhliaaIxK
import Derived.Test.YtoffahbnffhliaaIxP
namespace Go.Proofs.Ytoffahbnffhliaa.Ix
open Go.RowKit

/-- Places as a list of the call's own. -/
def Offs (B : Nat) (w : World) (v : Value) (os : List Int) : Prop := w.ownsRow B 3 1 v os.length (os.map (Value.int .i64))
theorem Offs.but {B : Nat} {Y : Nat → Prop} {A C : World} {v : Value} {os : List Int} (h : Offs B A v os) (hb : But Y A C) (hx : ∀ k, v.ownBlock = some k → ¬ Y k) : Offs B C v os := by
  refine ⟨h.1, ?_⟩
  rcases h.2 with h | ⟨g, cap, cur, rfl, hg, hh, r⟩
  · exact .inl h
  · exact .inr ⟨g, cap, cur, rfl, hg, hb.at hh (hx g rfl), r⟩
theorem Offs.below {B : Nat} {A C : World} {v : Value} {os : List Int} (h : Offs B A v os) (hb : Below A.heap.size A C) : Offs B C v os := h.but (But.of_below hb fun _ => False) fun _ _ c => c
theorem Offs.no {B : Nat} {w : World} {v : Value} {os : List Int} (h : Offs B w v os) {b : Nat} {cs : Array Value} {T : TypeId} {fz : Nat × Nat} (hb : w.heap[b]? = some (.cells cs T fz)) (hT : T ≠ 3) : v.ownBlock ≠ some b := fun e1 => by
  rcases h.2 with ⟨rfl, _⟩ | ⟨g, cap, cur, rfl, hg, hh, r⟩
  · simp [Value.ownBlock] at e1
  · simp [Value.ownBlock] at e1
    subst e1
    rw [hb] at hh
    simp at hh
    exact hT hh.2.1
theorem Offs.own {B : Nat} {T : TypeId} {A C : World} {v : Value} {os : List Int} {b : Nat} {x : X} {vx : Value} (h : Offs B A v os) (ha : At T A b x vx) (hT : T ≠ 3) (hb : But (Own b vx) A C) : Offs B C v os := by
  refine h.but hb fun k hk => ?_
  rintro (e | e)
  · exact h.no ha.box hT (by rw [← e]; exact hk)
  · rcases ha.row.2 with ⟨rfl, _⟩ | ⟨g, cap, cur, rfl, hg, hh, r⟩
    · simp [Value.ownBlock] at e
    · simp [Value.ownBlock] at e
      subst e
      exact h.no hh (by decide) hk
theorem Offs.form {B : Nat} {w : World} {v : Value} {os : List Int} (h : Offs B w v os) : ∃ ao ca, v = .slice ao os.length ca := by
  rcases h.2 with ⟨rfl, e⟩ | ⟨g, cap, cur, rfl, _⟩
  · exact ⟨_, _, by rw [e]⟩
  · exact ⟨_, _, rfl⟩
theorem Offs.at {B : Nat} {w : World} {ao : Option Addr} {n ca : Nat} {os : List Int} (h : Offs B w (.slice ao n ca) os) (h0 : os ≠ []) : ∃ g, ao = some ⟨g, 0, none⟩ ∧ ∀ i (hi : i < os.length), w.cell? ⟨g, i, none⟩ = some (.int .i64 os[i]) := by
  have h' := h
  rcases h.2 with ⟨e, e2⟩ | ⟨g, cap, cur, e, _, hh, _, _, _, d⟩
  · exact absurd (List.length_eq_zero_iff.1 e2) h0
  · simp only [Value.slice.injEq] at e
    obtain ⟨rfl, _, _⟩ := e
    refine ⟨g, rfl, fun i hi => ?_⟩
    have : w.cell? ⟨g, i, none⟩ = (os.map (Value.int .i64))[i]? := by
      rw [← d, List.getElem?_take_of_lt (by omega)]
      simp [World.cell?, hh]
    rw [this]
    simp [hi]
theorem infoInt : (Try.prog.info? 3).map (fun i => (i.zero, i.size, i.bytes)) = some (some (.int .i64 0), 1, 8) := by kernel_rfl
theorem one_newE (w : World) (a : Value) (T : TypeId) : ∀ (j : Nat) (u : Value), [a][j]? = some u → (w.alloc (.cells #[a] T)).cell? ((⟨w.heap.size, 0, none⟩ : Addr).add j) = some u := by
  intro j u h
  rw [addr_add]
  match j with
  | 0 => simp at h; subst h; unfold World.cell?; rw [show (w.alloc (.cells #[a] T)).heap[(⟨w.heap.size, 0 + 0, none⟩ : Addr).block]? = _ from heap_alloc_new _ _]; rfl
  | j + 1 => simp at h
/-- How far the telling has come. -/
structure L1 (B : Int) (w wr : World) (b : Nat) (st : Nat) (x : X) (v : Value) (vo : Value) (os : List Int) (off : Int) : Prop where
  mine : Mine TI w wr b x v
  fnd : Fnd B st os x
  row : Offs w.heap.size wr vo os
  up : ∀ p ∈ os, p < off
  inc : Inc os
  o0 : 0 ≤ off
  o1 : off ≤ 32 + 65536 * (os.length : Int)
theorem offs_app {B : Nat} {T : TypeId} {w u w3 : World} {b : Nat} {x : X} {v vo vo' : Value} {os : List Int} {o : Int} (ha : At T w b x v) (hr : Offs B w vo os) (hT : T ≠ 3) (hu : Below w.heap.size w u) (hg : u.grownBy w3 vo.ownBlock)
    (ho : w3.ownsRow B 3 1 vo' (os.length + 1) (os.map (Value.int .i64) ++ [.int .i64 o])) : At T w3 b x v ∧ Offs B w3 vo' (os ++ [o]) ∧ But (fun k => vo.ownBlock = some k) w w3 := by
  have hb : But (fun k => vo.ownBlock = some k) w w3 := (But.of_below hu _).trans (But.of_grownBy hg fun k e => e)
  refine ⟨ha.but hb ?_, ?_, hb⟩
  · rintro k (e | e) h
    · exact hr.no ha.box hT (by rw [← e]; exact h)
    · rcases ha.row.2 with ⟨rfl, _⟩ | ⟨g, cap, cur, rfl, _, hh, r⟩
      · simp [Value.ownBlock] at e
      · simp [Value.ownBlock] at e
        subst e
        exact hr.no hh (by decide) h
  · unfold Offs
    rw [List.map_append, List.length_append]
    exact ho
set_option maxHeartbeats 4000000 in
theorem found_walk (w : World) (step : Int) (z : Value) (us : List Int) (h0 : -9223372036854775808 ≤ step) (h1 : step ≤ 9223372036854775807) (hz : Row w z (us.map (Value.int .u16))) (hu : ∀ u ∈ us, 0 ≤ u ∧ u ≤ 65535) :
    Calls Try.prog 4 #[.int .i64 step, z] w fun e w' => e = .returned (.bool true) ∧ Below w.heap.size w w' := by
  obtain ⟨ao, ca, rfl, g2, g3, g4, g5⟩ := hz
  have hm : ca ≤ 9223372036854775807 := by unfold maxLen at g4; omega
  have HU := hide hu
  have HZ : Hid (∀ i (hi : i < us.length), ∃ b off, ao = some ⟨b, off, none⟩ ∧ w.cell? ⟨b, off + i, none⟩ = some (.int .u16 us[i])) := fun i hi => by
    obtain ⟨b, off, e, hc⟩ := g5 i (by simpa using hi)
    exact ⟨b, off, e, by rw [hc]; simp⟩
  have hul : us.length ≤ ca := by simpa using g3
  obtain ⟨n, hn⟩ : ∃ n, Hid (us.length = n) := ⟨_, rfl⟩
  rw [List.length_map, hn.out]
  rw [hn.out] at hul
  clear g2 g3 g4 g5 hu
  go_enter Try.func4, Try.ntmps4
  go_wp2_with fail
  refine (begun_any w).mono ?_
  rintro e w0 ⟨rfl, b0⟩
  replace b0 := hide b0
  go_wp2_with fail
  refine (new_any w0 step h0 h1).mono ?_
  rintro e w1 ⟨B1, ⟨h, rfl⟩ | ⟨q0, q1, b, lo, rfl, A1⟩⟩
  · have hB := hide (keepF b0.out B1)
    by_cases hs : step < 1
    · go_wp2_with fail
      go_ret
      exact ⟨rfl, hB.out⟩
    · have hs2 : 1048576 < step := by omega
      go_wp2_with fail
      go_ret
      exact ⟨rfl, hB.out⟩
  have hB := hide (keepF b0.out B1)
  obtain ⟨st, rfl⟩ : ∃ st : Nat, step = (st : Int) := ⟨step.toNat, by omega⟩
  rw [Int.toNat_natCast] at A1
  have hlo := Nat.le_trans b0.out.size lo
  have W0 : Hid (L1 100 w w1 b st ⟨st, [], (0, 0)⟩ (.slice none 0 0) (.slice none 0 0) [] 32) :=
    ⟨⟨A1, hB.out, hlo, fun k hk => by simp [Value.ownBlock] at hk⟩, Fnd.nil _ (by omega) (by omega), World.ownsRow_nil _ _ _ _, fun p hp => by simp at hp, Inc.nil, by omega, by simp⟩
  clear A1 B1 lo b0 hB
  go_wp2_with fail
  go_loopw [7, 8, 9] (fun vf vo vi wr => ∃ (i : Nat) (off : Int) (os : List Int) (x : X) (v : Value), i ≤ n ∧ i ≤ 400 ∧ vi = .int .i64 (i : Int) ∧ vf = .int .i64 off ∧ Hid (os.length = i) ∧ Hid (L1 100 w wr b st x v vo os off)) (fun _ _ vi _ => 400 - (intOf vi).toNat)
  case atStart => exact ⟨0, 32, [], _, _, Nat.zero_le _, Nat.zero_le _, rfl, rfl, rfl, W0.out⟩
  case round =>
    obtain ⟨i, off, os, x, v, hi, hi4, rfl, rfl, hol, hL⟩ := hrel
    obtain ⟨aoo, cao, rfl⟩ := hL.out.row.form
    rw [hol.out] at hL ⊢
    have o0 := hL.out.o0
    have o1 := hL.out.o1
    rw [hol.out] at o1
    by_cases hlt : i < n ∧ i < 400
    · obtain ⟨l1, l2⟩ := hlt
      have l1' : (i : Int) < (n : Int) := by omega
      have l2' : (i : Int) < 400 := by omega
      have hiu : i < us.length := by rw [hn.out]; exact l1
      obtain ⟨bz, oz, rfl, hcz⟩ := HZ.out i hiu
      have hub := HU.out _ (List.getElem_mem hiu)
      generalize us[i] = u at *
      obtain ⟨u0, u1⟩ := hub
      have hS := fnd_step hL.out.fnd (o := off) (by omega) (by rw [hol.out]; omega) o0 (by omega) hL.out.up
      rw [hol.out] at hS
      have hS1 := hide hS.1
      have hS2 := hide hS.2
      have hw1 : IntKind.i64.wrap (100 + (i : Int)) = 100 + (i : Int) := by rw [IntKind.wrap_i64]; omega
      have hw2 : IntKind.i64.wrap (off + 1) = off + 1 := by rw [IntKind.wrap_i64]; omega
      have hw3 : IntKind.i64.wrap (off + 1 + u) = off + 1 + u := by rw [IntKind.wrap_i64]; omega
      have hw4 : IntKind.i64.wrap u = u := by rw [IntKind.wrap_i64]; omega
      clear hS
      go_wp2_with fail
      refine (add_any wr b x v (100 + (i : Int)) off hL.out.mine.at0 hL.out.fnd.ok (by omega) (by omega) (by omega) (by omega)).mono ?_
      rintro e w2 ⟨rfl, v2, A2, B2, O2⟩
      rw [hS1.out] at A2 ⊢
      have M2 := hide (hL.out.mine.next A2 B2 O2)
      have R2 := hide (hL.out.row.own hL.out.mine.at0 (by decide) B2)
      clear A2 B2 O2
      obtain ⟨i0, hi0, hz0, hz1, hz2⟩ := info_parts infoInt
      have hcz2 : w2.cell? ⟨bz, oz + i, none⟩ = some (.int .u16 u) := by rw [M2.out.bel.cell (lt_of_cell hcz)]; exact hcz
      have hsz2 := M2.out.bel.size
      have R2' : Hid (w2.ownsRow w.heap.size 3 1 (.slice aoo i cao) i (os.map (Value.int .i64))) := by have := R2.out; unfold Offs at this; rw [hol.out] at this; exact this
      go_wp2_with (at_builtin; refine wpList_append_own_at _ rfl (.tmp 46) (.tmp 48) 49 rfl w.heap.size 3 i0 (.int .i64 0) 1 8 Try.underlying49 hi0 hz0 hz1 hz2 rfl (by decide) (.slice aoo i cao) i (os.map (Value.int .i64)) rfl (R2'.out.alloc _) ⟨w2.heap.size, 0, none⟩ 1 1 [.int .i64 off] rfl rfl (one_newE _ _ _) (by simp [Value.oneCell']) (by unfold maxLen; omega) (by omega) (by simp; omega) ?_; intro v3 w3 hown3 hgrow3 _ hat3; have P3 := hide (offs_app (vo := .slice aoo i cao) (vo' := v3) M2.out.at0 R2.out (by decide) (box_below w2 _) hgrow3 (by rw [hol.out]; exact hown3)); have M3 : Hid (Below w.heap.size w w3) := Below.trans M2.out.bel (P3.out.2.2.below M2.out.bel.size fun k hk => (World.ownsRow.lt R2.out k hk).1); have hcz3 : w3.cell? ⟨bz, oz + i, none⟩ = some (.int .u16 u) := (by rw [M3.out.cell (lt_of_cell hcz)]; exact hcz); clear hown3 hgrow3 hat3 hcz2)
      go_roundw
      case rel =>
        refine ⟨i + 1, off + 1 + u, os ++ [off], nextX 100 x off, v2, by omega, by omega, by go_num, rfl, by show _ = _; rw [List.length_append, hol.out]; rfl, ?_⟩
        refine ⟨⟨P3.out.1, M3.out, M2.out.lo, M2.out.own⟩, hS2.out, P3.out.2.1, fun p hp => ?_, hL.out.inc.snoc o0 (by omega) hL.out.up, by omega, ?_⟩
        · rcases List.mem_append.1 hp with hp | hp
          · have := hL.out.up p hp; omega
          · rw [List.mem_singleton.1 hp]; omega
        · rw [List.length_append, hol.out]; simp; omega
      case measure => simp [intOf]; omega
    · have M0 := hide hL.out.mine
      have R0 := hide hL.out.row
      have F0 := hide hL.out.fnd
      have I0 := hide hL.out.inc
      have hcond : ((i : Int) < (n : Int) ∧ ¬ (i : Int) < 400) ∨ ¬ (i : Int) < (n : Int) := by omega
      clear hL o0 o1 hlt HZ HU W0
      rcases hcond with ⟨hz, hz2⟩ | hz
      all_goals
        go_wp2_with fail
        go_loopg [10] i (fun kx vi wq => ∃ (j : Nat), j ≤ i ∧ i - j ≤ kx ∧ vi = .int .i64 (j : Int) ∧ Hid (Mine TI w wq b x v) ∧ Hid (Offs w.heap.size wq (.slice aoo i cao) os))
        case atStart => exact ⟨0, Nat.zero_le _, by omega, rfl, M0.out, R0.out⟩
        case round =>
          obtain ⟨j, hj, hjk, rfl, hM, hR⟩ := hrel
          by_cases hjl : j < i
          · have hjo : j < os.length := by rw [hol.out]; exact hjl
            have hne : os ≠ [] := fun c => by rw [c] at hjo; simp at hjo
            obtain ⟨e, E1, E2, E3, E4, E5, E6, E7⟩ := F0.out.find hjo
            obtain ⟨g, rfl, hcs⟩ := hR.out.at hne
            obtain ⟨m, hm1⟩ : ∃ m : Nat, e.1 - 100 = (m : Int) := ⟨(e.1 - 100).toNat, by omega⟩
            have hml : m < os.length := by
              rw [hm1, Int.toNat_natCast] at E4
              exact (List.getElem?_eq_some_iff.1 E4).1
            have hmv : os[m] = e.2 := by
              rw [hm1, Int.toNat_natCast] at E4
              exact (List.getElem?_eq_some_iff.1 E4).2
            have k1 := hcs m hml
            have k2 := hcs j hjo
            rw [hmv] at k1
            have hmi : m < i := by rw [← hol.out]; exact hml
            have hoj := I0.out.2 _ (List.getElem_mem hjo)
            replace E1 := hide E1
            obtain ⟨e1, e2⟩ := e
            simp only at E2 E3 E5 E6 E7 hm1 k1
            generalize os[j] = oj at *
            obtain ⟨y1, y2⟩ := hoj
            have hw1 : IntKind.i64.wrap (100 + (j : Int)) = 100 + (j : Int) := by rw [IntKind.wrap_i64]; omega
            have hw2 : IntKind.i64.wrap (m : Int) = (m : Int) := by rw [IntKind.wrap_i64]; omega
            have hw3 : IntKind.i64.wrap (oj - e2) = oj - e2 := by rw [IntKind.wrap_i64]; omega
            have t1 : ¬ 100 + (j : Int) < e1 := by omega
            have t2 : ¬ e1 < 100 := by omega
            have t3 : ¬ (st : Int) ≤ oj - e2 := by omega
            clear hcs E4 hml hmv hne hjo
            go_wp2_with fail
            refine (find_any wr b x v (100 + (j : Int)) hM.out.at0 F0.out.ok (by omega) (by omega)).mono ?_
            rintro e w2 ⟨rfl, b2⟩
            rw [E1.out]
            simp only [entv]
            have k1' : w2.cell? ⟨g, m, none⟩ = some (.int .i64 e2) := by rw [b2.cell (lt_of_cell k1)]; exact k1
            have k2' : w2.cell? ⟨g, j, none⟩ = some (.int .i64 oj) := by rw [b2.cell (lt_of_cell k2)]; exact k2
            have hgl := lt_of_cell k1'
            have M2 := hide ((hM.out.below b2).below (box_below w2 (.cells #[.int .i64 e1, .int .i64 e2] 35)))
            have R2 := hide ((hR.out.below b2).below (box_below w2 (.cells #[.int .i64 e1, .int .i64 e2] 35)))
            clear b2 k1 k2 E1 hM hR
            go_upto_region 19 with fail
            go_cut [106] from 71 to 105 (fun y wx => y = .bool false ∧ Hid (Mine TI w wx b x v ∧ Offs w.heap.size wx (.slice (some ⟨g, 0, none⟩) i cao) os))
            case first =>
              go_quiet (fail)
              go_wp2_with fail
              go_meet
              case rel => exact ⟨by rw [decide_eq_false (by omega), decide_eq_false (by omega), decide_eq_false (by omega)]; rfl, M2.out.below (Qt.below ⟨_, rfl⟩ _), R2.out.below (Qt.below ⟨_, rfl⟩ _)⟩
            case rest =>
              obtain ⟨rfl, hcut⟩ := hcut
              go_wp2_with fail
              go_roundg (i - (j + 1))
              case measure => omega
              case rel => exact ⟨j + 1, by omega, Nat.le_refl _, by go_num, hcut.out.1, hcut.out.2⟩
          · obtain rfl : j = i := by omega
            have hno := hide F0.out.find_no
            rw [show (100 : Int) - 1 = 99 by omega] at hno
            have hxl : x.l.length ≤ j := by have := F0.out.len; rw [hol.out] at this; exact this
            clear R0 hR
            go_wp2_with fail
            refine (find_any wr b x v 99 hM.out.at0 F0.out.ok (by omega) (by omega)).mono ?_
            rintro e w2 ⟨rfl, b2⟩
            rw [hno.out]
            simp only [entv]
            have M2 := hide ((hM.out.below b2).below (box_below w2 (.cells #[.int .i64 0, .int .i64 0] 35)))
            clear b2 hM
            go_wp2_with fail
            refine (entries_any _ b x v M2.out.at0 F0.out.ok).mono ?_
            rintro e w3 ⟨v3, rfl, e3, b3, _⟩
            obtain ⟨ao3, ca3, rfl, _, _⟩ := e3.form
            have hB := hide (M2.out.below b3).bel
            generalize x.l.length = N at *
            have hNj : (N : Int) ≤ (j : Int) := by omega
            clear e3 b3 M2
            go_wp2_with fail
            go_ret
            exact ⟨by first | rfl | simp [hxl] | simp, hB.out⟩
#print axioms found_walk
end Go.Proofs.Ytoffahbnffhliaa.Ix
