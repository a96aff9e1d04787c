/-
  WireReads returns true, and writes nothing that was there.
-/
import Derived.Test.YtjajnioocoinlaaRws
import Derived.Test.YtjajnioocoinlaaLent
import Derived.Test.YtjajnioocoinlaaRefR
namespace Go.Proofs.Ytjajnioocoinlaa
open Go.RowKit

theorem own_apart {w : World} {base g e n : Nat} {v : Value} {xs : List Value} (h : w.ownsRow base e 1 v n xs) (hg : g < base) : v.ownBlock = none ∨ v.ownBlock ≠ some g := by
  by_cases hn : v.ownBlock = none
  · exact Or.inl hn
  · right
    intro e
    have := (h.lt g e).1
    omega

set_option maxRecDepth 100000 in
set_option maxHeartbeats 4000000 in
theorem reads_walk (x y : Value) (vs : List Value) (ls : List (List UInt8)) (ms : List Int) (w : World) (hx : Row w x vs) (hs : Sls w vs ls) (hy : Row w y (ms.map (Value.int .i64))) (hm : ∀ n ∈ ms, (Lit.int .i64 n).wf = true) (hl : ∀ l ∈ ls, l.length ≤ 140737488351232) :
    Calls Try.prog 4 #[x, y] w fun e w' => e = .returned (.bool true) ∧ Below w.heap.size w w' := by
  obtain ⟨a1, c1, rfl, _, m1, m2, g1⟩ := hx
  obtain ⟨a2, c2, rfl, _, k1, k2, g2⟩ := hy
  have hv : vs.length ≤ 9223372036854775807 := by unfold maxLen at m2; omega
  have hv2 : ms.length ≤ 9223372036854775807 := by simp only [List.length_map] at k1; unfold maxLen at k2; omega
  rw [List.length_map]
  have HM : Hid (∀ n ∈ ms, (Lit.int .i64 n).wf = true) := hm
  have HL : Hid (∀ l ∈ ls, l.length ≤ 140737488351232) := hl
  clear hm hl m1 m2 k1 k2
  go_enter Try.func4, Try.ntmps4
  go_wp2_with fail
  refine (begun_any w).mono ?_
  rintro e w1 ⟨rfl, b1⟩
  go_wp2_with fail
  go_loopw [5] (fun i wr => ∃ (k : Nat), k ≤ vs.length ∧ i = .int .i64 k ∧ Below w.heap.size w wr) (fun i _ => vs.length - (intOf i).toNat)
  case atStart => exact ⟨0, Nat.zero_le _, rfl, b1⟩
  case round =>
    clear b1
    obtain ⟨k, hk, rfl, hbel⟩ := hrel
    by_cases hlt : k < vs.length
    · have hlt2 : k < ls.length := by have := hs.1; omega
      have hSk := hs.2 k hlt hlt2
      have hLk := HL.out ls[k] (List.getElem_mem hlt2)
      obtain ⟨x1, o1, rfl, d1⟩ := g1 k hlt
      have l1 := lt_of_cell d1
      generalize vs[k] = vv at *
      generalize ls[k] = ll at *
      have e1 := (hbel.cell l1).trans d1
      by_cases hmk : k < ms.length
      · obtain ⟨x3, o3, rfl, d3⟩ := g2 k (by simpa using hmk)
        have l3 := lt_of_cell d3
        have hmb := i64_bounds (HM.out ms[k] (List.getElem_mem hmk))
        simp only [List.getElem_map] at d3
        generalize ms[k] = mm at *
        obtain ⟨hm0, hm1⟩ := hmb
        clear hs g1 g2 hlt2
        go_wp2_with fail
        refine (lent_any wr vv ll (Below.sl hbel hSk) (by omega)).mono ?_
        rintro e w2 ⟨g, v2, rfl, t2, b2, hg2⟩
        have hb2 := hbel.trans (b2.mono hbel.size)
        have hg0 : w.heap.size ≤ g := by have := hbel.size; omega
        clear b2 hbel hg2 e1
        go_wp2_with fail
        refine (readVarint_any w2 v2 ll t2.sl).mono ?_
        rintro e w3 ⟨rfl, hw⟩
        subst hw
        have e2 := (hb2.cell l1).trans d1
        have e3 := (hb2.cell l3).trans d3
        obtain ⟨nn, hnn⟩ : ∃ nn, nn = (rv ll).1 := ⟨_, rfl⟩
        obtain ⟨kk, hkk⟩ : ∃ kk, kk = (rv ll).2.1 := ⟨_, rfl⟩
        obtain ⟨er, her⟩ : ∃ er, er = (rv ll).2.2 := ⟨_, rfl⟩
        have HRV : Hid (rvVal (rv ll) = .tuple #[.int .u64 (nn : Int), .int .i64 (kk : Int), .int .i64 er]) := by show _ = _; rw [rvVal, hnn, hkk, her]
        clear hnn hkk her
        rw [HRV.out]
        go_wp2_with fail
        refine (refReadVarint_any _ vv ll (Below.sl hb2 hSk)).mono ?_
        rintro e w4 ⟨rfl, hw⟩
        subst hw
        rw [HRV.out]
        have q1 : (((nn : Nat) : Int) != ((nn : Nat) : Int)) = false := by simp
        have q2 : (((kk : Nat) : Int) != ((kk : Nat) : Int)) = false := by simp
        have q3 : (er != er) = false := by simp
        go_wp2_with fail
        refine (readString_any _ v2 ll mm t2.sl (by omega) hm0 hm1).mono ?_
        rintro e w5 ⟨v5, rfl, o5, b5⟩
        have hb5 := hb2.trans (b5.mono hb2.size)
        have t5 := t2.below b5
        have hg5 := t2.lt
        have e5 := (hb5.cell l1).trans d1
        clear e2 e3 b5 q1 q2 q3 HRV hb2 t2
        go_wp2_with fail
        refine (refReadString_any w5 vv ll mm (Below.sl hb5 hSk) (by omega) hm0 hm1).mono ?_
        rintro e w6 ⟨v6, rfl, o6, b6⟩
        have hb6 := hb5.trans (b6.mono hb5.size)
        have t6 := t5.below b6
        have o56 := ownsRow_below o5 b6
        have hg6 := t5.lt
        have e6 := (hb6.cell l1).trans d1
        generalize hrs : rs ll mm = R at *
        obtain ⟨sl, sk, se⟩ := R
        simp only at o56 o6
        clear hrs e5 b6 o5 hb5 t5
        go_wp2_with fail
        refine (eq_sl w6 v5 v6 sl sl (Sl.of_owns o56) (Sl.of_owns o6)).mono ?_
        rintro e w7 ⟨rfl, q7⟩
        rw [show decide (sl = sl) = true by simp]
        have hb7 := hb6.trans (q7.below _)
        have t7 := t6.below (q7.below _)
        have o57 := ownsRow_below o56 (q7.below _)
        have o67 := ownsRow_below o6 (q7.below _)
        have e7 := (hb7.cell l1).trans d1
        have q1 : (((sk : Nat) : Int) != ((sk : Nat) : Int)) = false := by simp
        have q2 : (se != se) = false := by simp
        clear e6 o56 o6 t6 hb6
        go_wp2_with fail
        refine (back_any w w7 g v2 vv ll hb7 hSk t7 hg0 (by omega)).mono ?_
        rintro e w8 ⟨rfl, g8⟩
        have hb8 := below_rdr hb7 g8 hg0
        have o58 := o57.kept g8 (own_apart o57 (by omega))
        have o68 := o67.kept g8 (own_apart o67 (by omega))
        clear e7 o57 o67 t7 hb7 g8
        go_wp2_with fail
        refine (eq_sl w8 v5 v6 sl sl (Sl.of_owns o58) (Sl.of_owns o68)).mono ?_
        rintro e w9 ⟨rfl, q9⟩
        rw [show decide (sl = sl) = true by simp]
        have hb9 := hb8.trans (q9.below _)
        clear o58 o68 hb8 q9 q1 q2
        go_wp2
        go_roundw
        case rel => exact ⟨k + 1, by omega, by go_num, hb9⟩
        case measure => simp [intOf]; omega
      · clear hs g1 g2 hlt2
        go_wp2_with fail
        refine (lent_any wr vv ll (Below.sl hbel hSk) (by omega)).mono ?_
        rintro e w2 ⟨g, v2, rfl, t2, b2, hg2⟩
        have hb2 := hbel.trans (b2.mono hbel.size)
        have hg0 : w.heap.size ≤ g := by have := hbel.size; omega
        clear b2 hbel hg2 e1
        go_wp2_with fail
        refine (readVarint_any w2 v2 ll t2.sl).mono ?_
        rintro e w3 ⟨rfl, hw⟩
        subst hw
        have e2 := (hb2.cell l1).trans d1
        obtain ⟨nn, hnn⟩ : ∃ nn, nn = (rv ll).1 := ⟨_, rfl⟩
        obtain ⟨kk, hkk⟩ : ∃ kk, kk = (rv ll).2.1 := ⟨_, rfl⟩
        obtain ⟨er, her⟩ : ∃ er, er = (rv ll).2.2 := ⟨_, rfl⟩
        have HRV : Hid (rvVal (rv ll) = .tuple #[.int .u64 (nn : Int), .int .i64 (kk : Int), .int .i64 er]) := by show _ = _; rw [rvVal, hnn, hkk, her]
        clear hnn hkk her
        rw [HRV.out]
        go_wp2_with fail
        refine (refReadVarint_any _ vv ll (Below.sl hb2 hSk)).mono ?_
        rintro e w4 ⟨rfl, hw⟩
        subst hw
        rw [HRV.out]
        have q1 : (((nn : Nat) : Int) != ((nn : Nat) : Int)) = false := by simp
        have q2 : (((kk : Nat) : Int) != ((kk : Nat) : Int)) = false := by simp
        have q3 : (er != er) = false := by simp
        go_wp2_with fail
        refine (readString_any _ v2 ll 1048576 t2.sl (by omega) (by decide) (by decide)).mono ?_
        rintro e w5 ⟨v5, rfl, o5, b5⟩
        have hb5 := hb2.trans (b5.mono hb2.size)
        have t5 := t2.below b5
        have hg5 := t2.lt
        have e5 := (hb5.cell l1).trans d1
        clear e2 b5 q1 q2 q3 HRV hb2 t2
        go_wp2_with fail
        refine (refReadString_any w5 vv ll 1048576 (Below.sl hb5 hSk) (by omega) (by decide) (by decide)).mono ?_
        rintro e w6 ⟨v6, rfl, o6, b6⟩
        have hb6 := hb5.trans (b6.mono hb5.size)
        have t6 := t5.below b6
        have o56 := ownsRow_below o5 b6
        have hg6 := t5.lt
        have e6 := (hb6.cell l1).trans d1
        generalize hrs : rs ll 1048576 = R at *
        obtain ⟨sl, sk, se⟩ := R
        simp only at o56 o6
        clear hrs e5 b6 o5 hb5 t5
        go_wp2_with fail
        refine (eq_sl w6 v5 v6 sl sl (Sl.of_owns o56) (Sl.of_owns o6)).mono ?_
        rintro e w7 ⟨rfl, q7⟩
        rw [show decide (sl = sl) = true by simp]
        have hb7 := hb6.trans (q7.below _)
        have t7 := t6.below (q7.below _)
        have o57 := ownsRow_below o56 (q7.below _)
        have o67 := ownsRow_below o6 (q7.below _)
        have e7 := (hb7.cell l1).trans d1
        have q1 : (((sk : Nat) : Int) != ((sk : Nat) : Int)) = false := by simp
        have q2 : (se != se) = false := by simp
        clear e6 o56 o6 t6 hb6
        go_wp2_with fail
        refine (back_any w w7 g v2 vv ll hb7 hSk t7 hg0 (by omega)).mono ?_
        rintro e w8 ⟨rfl, g8⟩
        have hb8 := below_rdr hb7 g8 hg0
        have o58 := o57.kept g8 (own_apart o57 (by omega))
        have o68 := o67.kept g8 (own_apart o67 (by omega))
        clear e7 o57 o67 t7 hb7 g8
        go_wp2_with fail
        refine (eq_sl w8 v5 v6 sl sl (Sl.of_owns o58) (Sl.of_owns o68)).mono ?_
        rintro e w9 ⟨rfl, q9⟩
        rw [show decide (sl = sl) = true by simp]
        have hb9 := hb8.trans (q9.below _)
        clear o58 o68 hb8 q9 q1 q2
        go_wp2
        go_roundw
        case rel => exact ⟨k + 1, by omega, by go_num, hb9⟩
        case measure => simp [intOf]; omega
    · go_wp2
      go_ret
      exact ⟨rfl, hbel⟩
#print axioms reads_walk
end Go.Proofs.Ytjajnioocoinlaa
