/-
  The document's own Reader (flumeref1.Reader): what its methods do.
-/
import Derived.Test.YtdhjlongdfgejaaRefF
import Derived.Test.YtdhjlongdfgejaaRefR
import Derived.Test.YtdhjlongdfgejaaRdS
import Derived.Deep.RegionHeld3
namespace Go.Proofs.Ytdhjlongdfgejaa
open Go.RowKit

/-- A slice's bytes lie in a block below q. -/
def VB (v : Value) (q : Nat) : Prop := ∀ a n c, v = .slice (some a) n c → 0 < n → a.block < q
theorem VB.nil (q n c : Nat) : VB (.slice none n c) q := fun a n c h => by simp at h
/-- At block qb lies the document's Reader over the bytes l that stands at k, its error's number er. -/
def RefAt (w : World) (qb : Nat) (l : List UInt8) (k : Nat) (er : Int) : Prop :=
  ∃ v, w.heap[qb]? = some (.cells #[v, .int .i64 (k : Int), .int .i64 er] 77 (0, 0)) ∧ Sl w v l ∧ k ≤ l.length ∧ l.length ≤ 140737488355328 ∧ VB v qb

theorem RefAt.lt {w : World} {qb : Nat} {l : List UInt8} {k : Nat} {er : Int} (h : RefAt w qb l k er) : qb < w.heap.size := by
  obtain ⟨v, hr, _⟩ := h; exact heap_lt hr
theorem RefAt.below {w w' : World} {qb : Nat} {l : List UInt8} {k : Nat} {er : Int} (h : RefAt w qb l k er) (hb : Below w.heap.size w w') : RefAt w' qb l k er := by
  obtain ⟨v, hr, ho, hk⟩ := h
  exact ⟨v, by rw [hb.block qb (heap_lt hr)]; exact hr, Below.sl hb ho, hk⟩
theorem RefAt.noByte {w : World} {qb : Nat} {m : List UInt8} {k : Nat} {er : Int} (h : RefAt w qb m k er) {j : Nat} {c : Int} (hc : w.cell? ⟨qb, j, none⟩ = some (.int .u8 c)) : False := by
  obtain ⟨v, hr, ho, _⟩ := h
  obtain ⟨ao, ca, rfl, _⟩ := ho
  simp [World.cell?, hr] at hc
  match j, hc with
  | 0, hc => simp at hc
  | 1, hc => simp at hc
  | 2, hc => simp at hc
  | j + 3, hc => simp at hc
/-- What has no byte in block b is no part of a slice of bytes. -/
theorem Sl.kept {w w' : World} {b : Nat} {v : Value} {l : List UInt8} (h : Sl w v l) (hb : ∀ j c, w.cell? ⟨b, j, none⟩ ≠ some (.int .u8 c)) (hg : w.grownBy w' (some b)) : Sl w' v l := by
  obtain ⟨ao, cap, rfl, h2, h3, h4, h5⟩ := h
  refine ⟨ao, cap, rfl, h2, h3, h4, fun i hi => ?_⟩
  obtain ⟨b', off, rfl, hc⟩ := h5 i hi
  refine ⟨b', off, rfl, ?_⟩
  by_cases hbb : b' = b
  · subst hbb; exact (hb _ _ hc).elim
  · exact hg.cell hc (by simpa using hbb)
theorem RefAt.setAt {w : World} {qb : Nat} {l : List UInt8} {k : Nat} {er : Int} (h : RefAt w qb l k er) (k' : Nat) (hk' : k' ≤ l.length) : RefAt (w.setCell ⟨qb, 1, none⟩ (.int .i64 (k' : Int))) qb l k' er := by
  have hn := fun j c => h.noByte (j := j) (c := c)
  obtain ⟨v, hr, ho, hk, hl⟩ := h
  refine ⟨v, ?_, ho.kept (fun j c hc => hn j c hc) (grown_setCell _ _ _ _), hk', hl⟩
  rw [heap_setCell_same w qb 1 _ _ _ hr]; simp
theorem RefAt.setErr {w : World} {qb : Nat} {l : List UInt8} {k : Nat} {er : Int} (h : RefAt w qb l k er) (er' : Int) : RefAt (w.setCell ⟨qb, 2, none⟩ (.int .i64 er')) qb l k er' := by
  have hn := fun j c => h.noByte (j := j) (c := c)
  obtain ⟨v, hr, ho, hk, hl⟩ := h
  refine ⟨v, ?_, ho.kept (fun j c hc => hn j c hc) (grown_setCell _ _ _ _), hk, hl⟩
  rw [heap_setCell_same w qb 2 _ _ _ hr]; simp
theorem RefAt.cells {w : World} {qb : Nat} {l : List UInt8} {k : Nat} {er : Int} (h : RefAt w qb l k er) : ∃ ao ca, w.cell? ⟨qb, 0, none⟩ = some (.slice ao l.length ca) ∧ w.cell? ⟨qb, 1, none⟩ = some (.int .i64 (k : Int)) ∧ w.cell? ⟨qb, 2, none⟩ = some (.int .i64 er) ∧
    w.frozen? ⟨qb, 1, none⟩ = false ∧ w.frozen? ⟨qb, 2, none⟩ = false ∧ (ao = none → l = [] ∧ ca = 0) ∧ l.length ≤ ca ∧ ca ≤ maxLen ∧ Rd w ao l ∧ k ≤ l.length ∧ l.length ≤ 140737488355328 := by
  obtain ⟨v, hr, ⟨ao, ca, rfl, g2, g3, g4, g5⟩, hk, hl⟩ := h
  exact ⟨ao, ca, by simp [World.cell?, hr], by simp [World.cell?, hr], by simp [World.cell?, hr], by simp [World.frozen?, hr], by simp [World.frozen?, hr], g2, g3, g4, g5, hk, hl.1⟩

set_option maxHeartbeats 400000 in
theorem qVarint_no (w : World) (qb : Nat) (l : List UInt8) (k : Nat) (er most : Int) (h : RefAt w qb l k er) (he : (er != 0) = true) :
    Calls Try.prog 47 #[.pointer (some ⟨qb, 0, none⟩), .int .u64 most] w fun e w' => e = .returned (.int .u64 0) ∧ w' = w := by
  obtain ⟨ao, ca, c0, c1, c2, f1, f2, _⟩ := h.cells
  clear h
  go_enter Try.func47, Try.ntmps47
  go_wp2
  go_ret
  exact ⟨rfl, rfl⟩

set_option maxRecDepth 100000 in
set_option maxHeartbeats 1000000 in
theorem qVarint_go (w : World) (qb : Nat) (l : List UInt8) (k : Nat) (most : Int) (h : RefAt w qb l k 0) (hm : 0 ≤ most ∧ most < 18446744073709551616) :
    Calls Try.prog 47 #[.pointer (some ⟨qb, 0, none⟩), .int .u64 most] w fun e w' => e = .returned (.int .u64 ((vr l k most).1 : Int)) ∧
      RefAt w' qb l (k + (vr l k most).2.1) (vr l k most).2.2 ∧ w.grownBy w' (some qb) := by
  obtain ⟨hm0, hm1⟩ := hm
  obtain ⟨ao, ca, c0, c1, c2, f1, f2, g2, g3, g4, g5, hk, hl⟩ := h.cells
  have hmx : ca ≤ 9223372036854775807 := by unfold maxLen at g4; omega
  obtain ⟨n, hn⟩ : ∃ n, n = (rv (l.drop k)).1 := ⟨_, rfl⟩
  obtain ⟨s, hs⟩ : ∃ s, s = (rv (l.drop k)).2.1 := ⟨_, rfl⟩
  obtain ⟨er, he⟩ : ∃ er, er = (rv (l.drop k)).2.2 := ⟨_, rfl⟩
  have hbd := rv_bounds (l.drop k)
  have hvr : vr l k most = if er ≠ 0 then (0, 0, er) else if most < (n : Int) then (0, 0, 3) else (n, s, er) := by
    rw [vr, hn, hs, he]
  rw [← hn, ← hs, ← he] at hbd
  have HR : Hid (rvVal (rv (l.drop k)) = .tuple #[.int .u64 (n : Int), .int .i64 (s : Int), .int .i64 er]) := by show _ = _; rw [rvVal, hn, hs, he]
  obtain ⟨hb1, hb2, hb3, hb4, hb5, _⟩ := hbd
  have hks : k + s ≤ l.length := by simp at hb2; omega
  clear hn hs he hb2
  have HS := fun (u : World) (hu : Qt w u) => hu.sl (sl_drop k hk g2 g3 g4 g5)
  have HQ : Hid (RefAt w qb l k 0) := h
  clear h
  generalize hz : (if ca = k then ao else Option.map (fun x : Addr => x.add k) ao) = zo at *
  have HG : ∀ u : World, Qt w u → Calls Try.prog 64 #[.slice zo (l.length - k) (ca - k)] u fun e w' => e = .returned (.tuple #[.int .u64 (n : Int), .int .i64 (s : Int), .int .i64 er]) ∧ w' = u := by
    intro u hu
    refine (refReadVarint_any u _ (l.drop k) (HS u hu)).mono ?_
    rw [HR.out]
    exact fun _ _ h => h
  have HGG : Hid (∀ u : World, Qt w u → Calls Try.prog 64 #[.slice zo (l.length - k) (ca - k)] u fun e w' => e = .returned (.tuple #[.int .u64 (n : Int), .int .i64 (s : Int), .int .i64 er]) ∧ w' = u) := HG
  clear g2 g3 g4 g5 HS HG
  go_enter Try.func47, Try.ntmps47
  go_wp2_with fail
  go_quiet ((go_at_call 64; exact Calls.quiet_of_same (HGG.out _ ⟨_, rfl⟩)))
  clear hz
  by_cases h1 : er = 0
  · subst h1
    rw [if_neg (by simp)] at hvr
    by_cases h2 : most < (n : Int)
    · rw [if_pos h2] at hvr
      have HV : Hid (vr l k most = (0, 0, 3)) := hvr
      clear hvr
      go_wp2
      go_ret
      rw [HV.out]
      exact ⟨rfl, (HQ.out.setErr 3).below (Qt.below ⟨_, rfl⟩ _), grown_trans (grown_setCell _ _ _ _) (Qt.grown ⟨_, rfl⟩ _)⟩
    · rw [if_neg h2] at hvr
      have HV : Hid (vr l k most = (n, s, 0)) := hvr
      clear hvr
      go_wp2
      go_ret
      rw [HV.out]
      exact ⟨rfl, (HQ.out.setAt (k + s) hks).below (Qt.below ⟨_, rfl⟩ _), grown_trans (grown_setCell _ _ _ _) (Qt.grown ⟨_, rfl⟩ _)⟩
  · have q1 : (er == 0) = false := by simpa using h1
    have q2 : (er != 0) = true := by simpa using h1
    rw [if_pos h1] at hvr
    have HV : Hid (vr l k most = (0, 0, er)) := hvr
    clear hvr h1
    go_wp2
    go_ret
    rw [HV.out]
    exact ⟨rfl, (HQ.out.setErr er).below (Qt.below ⟨_, rfl⟩ _), grown_trans (grown_setCell _ _ _ _) (Qt.grown ⟨_, rfl⟩ _)⟩
theorem num_drop (l : List UInt8) (q : Nat) (h : q < l.length) : num (l.drop q) = l[q].toNat + 256 * num (l.drop (q + 1)) := by
  rw [drop_cons l q h, num]
set_option maxRecDepth 100000 in
set_option maxHeartbeats 800000 in
theorem number_any (w : World) (x : Value) (l : List UInt8) (hx : Sl w x l) (h8 : l.length ≤ 8) :
    Calls Try.prog 45 #[x] w fun e w' => e = .returned (.int .u64 (num l : Int)) ∧ w' = w := by
  obtain ⟨ao, ca, rfl, h2, h3, h4, h5⟩ := hx
  clear h2 h3 h4
  go_enter Try.func45, Try.ntmps45
  go_wp2
  go_loop [3, 4] (fun n i => ∃ (j acc : Nat) (z : Int), j ≤ l.length ∧ i = .int .i64 z ∧ z + 1 ≤ j ∧ j ≤ z + 1 ∧ n = .int .u64 acc ∧ Hid (acc = num (l.drop j))) (fun _ i => (intOf i + 1).toNat)
  case atStart => exact ⟨l.length, 0, (l.length : Int) - 1, Nat.le_refl _, rfl, by omega, by omega, rfl, by simp [Hid, num]⟩
  case round =>
    obtain ⟨j, acc, z, hj, rfl, hz1, hz2, rfl, hacc⟩ := hrel
    by_cases hlt : 0 ≤ z
    · obtain ⟨q, rfl⟩ := Int.eq_ofNat_of_zero_le hlt
      have hq : q < l.length := by omega
      obtain ⟨b1, o1, rfl, h1⟩ := h5.at (by omega)
      have c1 := h1 q hq
      have hc := l[q].toNat_lt
      have hjq : j = q + 1 := by omega
      have hn := num_le (l.drop (q + 1)) 7 (by simp; omega)
      have hacc2 : acc < 72057594037927936 := by rw [hacc.out, hjq]; simpa using hn
      have HN : Hid (acc * 256 + l[q].toNat = num (l.drop q)) := by
        show _ = _
        rw [num_drop l q hq, hacc.out, hjq]; omega
      clear h1 h5 hn hjq
      generalize l[q] = c at *
      go_wp2
      go_round
      case rel => exact ⟨q, acc * 256 + c.toNat, (q : Int) - 1, by omega, rfl, by omega, by omega, by go_num, HN⟩
      case measure => simp [intOf]
    · have HN : Hid (num l = acc) := by
        show _ = _
        rw [hacc.out, show j = 0 by omega, List.drop_zero]
      go_wp2
      go_ret
      exact ⟨by rw [HN.out]; rfl, rfl⟩
set_option maxHeartbeats 400000 in
theorem qtake_no (w : World) (qb : Nat) (l : List UInt8) (k : Nat) (er n : Int) (h : RefAt w qb l k er) (he : (er != 0) = true) :
    Calls Try.prog 65 #[.pointer (some ⟨qb, 0, none⟩), .int .i64 n] w fun e w' => e = .returned (.tuple #[.slice none 0 0, .bool false]) ∧ w' = w := by
  obtain ⟨ao, ca, c0, c1, c2, f1, f2, _⟩ := h.cells
  clear h
  go_enter Try.func65, Try.ntmps65
  go_wp2
  go_ret2
  exact ⟨rfl, rfl⟩
set_option maxHeartbeats 800000 in
theorem qtake_short (w : World) (qb : Nat) (l : List UInt8) (k : Nat) (n : Int) (h : RefAt w qb l k 0) (hn : (l.length : Int) - k < n) :
    Calls Try.prog 65 #[.pointer (some ⟨qb, 0, none⟩), .int .i64 n] w fun e w' => e = .returned (.tuple #[.slice none 0 0, .bool false]) ∧ RefAt w' qb l k 2 ∧ w.grownBy w' (some qb) := by
  obtain ⟨ao, ca, c0, c1, c2, f1, f2, g2, g3, g4, g5, hk, hl⟩ := h.cells
  have HQ : Hid (RefAt w qb l k 0) := h
  clear h g2 g3 g4 g5
  go_enter Try.func65, Try.ntmps65
  go_wp2
  go_quiet (fail)
  go_wp2
  go_ret2
  exact ⟨rfl, (HQ.out.setErr 2).below (Qt.below ⟨_, rfl⟩ _), grown_trans (grown_setCell _ _ _ _) (Qt.grown ⟨_, rfl⟩ _)⟩
set_option maxHeartbeats 800000 in
theorem qtake_go (w : World) (qb : Nat) (l : List UInt8) (k n : Nat) (h : RefAt w qb l k 0) (hn : k + n ≤ l.length) (hn0 : 0 < n) :
    Calls Try.prog 65 #[.pointer (some ⟨qb, 0, none⟩), .int .i64 (n : Int)] w fun e w' => ∃ v', e = .returned (.tuple #[v', .bool true]) ∧ Sl w' v' ((l.drop k).take n) ∧ RefAt w' qb l (k + n) 0 ∧ w.grownBy w' (some qb) := by
  obtain ⟨ao, ca, c0, c1, c2, f1, f2, g2, g3, g4, g5, hk, hl⟩ := h.cells
  have HQ : Hid (RefAt w qb l k 0) := h
  have hca : ca ≤ 9223372036854775807 := by unfold maxLen at g4; omega
  obtain ⟨b, off, rfl, _⟩ := g5.at (by omega)
  have HS : Hid (Sl w (.slice (some ⟨b, off + k, none⟩) n (ca - k)) ((l.drop k).take n)) := sl_cut g5 k n ca hn g3 g4
  have hne : ¬ ca = k := by omega
  clear h g2 g4 g5
  go_enter Try.func65, Try.ntmps65
  go_wp2
  go_quiet (fail)
  go_wp2
  go_quiet (fail)
  have HS2 : Hid (Sl w (.slice (some ⟨b, off + k, none⟩) (k + n - k) (ca - k)) ((l.drop k).take n)) := by show Sl _ _ _; rw [Nat.add_sub_cancel_left]; exact HS.out
  go_wp2
  go_ret2
  refine ⟨_, rfl, ?_, (HQ.out.setAt (k + n) hn).below (Qt.below ⟨_, rfl⟩ _), grown_trans (grown_setCell _ _ _ _) (Qt.grown ⟨_, rfl⟩ _)⟩
  exact Qt.sl ⟨_, rfl⟩ (HS2.out.kept (fun j c hc => HQ.out.noByte hc) (grown_setCell w qb 1 _))
theorem qFixed_no (w : World) (qb : Nat) (l : List UInt8) (k : Nat) (er n : Int) (h : RefAt w qb l k er) (he : (er != 0) = true) :
    Calls Try.prog 48 #[.pointer (some ⟨qb, 0, none⟩), .int .i64 n] w fun e w' => e = .returned (.int .u64 0) ∧ w' = w := by
  go_enter Try.func48, Try.ntmps48
  go_wp2_with fail
  refine (qtake_no _ qb l k er n h he).mono ?_
  rintro e w2 ⟨rfl, rfl⟩
  go_wp2
  go_ret
  exact ⟨rfl, rfl⟩
theorem qFixed_short (w : World) (qb : Nat) (l : List UInt8) (k : Nat) (n : Int) (h : RefAt w qb l k 0) (hn : (l.length : Int) - k < n) :
    Calls Try.prog 48 #[.pointer (some ⟨qb, 0, none⟩), .int .i64 n] w fun e w' => e = .returned (.int .u64 0) ∧ RefAt w' qb l k 2 ∧ w.grownBy w' (some qb) := by
  go_enter Try.func48, Try.ntmps48
  go_wp2_with fail
  refine (qtake_short _ qb l k n h hn).mono ?_
  rintro e w2 ⟨rfl, h2, g2⟩
  go_wp2
  go_ret
  exact ⟨rfl, h2, g2⟩
theorem qFixed_go (w : World) (qb : Nat) (l : List UInt8) (k n : Nat) (h : RefAt w qb l k 0) (hn : k + n ≤ l.length) (hn0 : 0 < n) (hn8 : n ≤ 8) :
    Calls Try.prog 48 #[.pointer (some ⟨qb, 0, none⟩), .int .i64 (n : Int)] w fun e w' => e = .returned (.int .u64 (num ((l.drop k).take n) : Int)) ∧ RefAt w' qb l (k + n) 0 ∧ w.grownBy w' (some qb) := by
  have hl8 : ((l.drop k).take n).length ≤ 8 := by simp; omega
  go_enter Try.func48, Try.ntmps48
  go_wp2_with fail
  refine (qtake_go _ qb l k n h hn hn0).mono ?_
  rintro e w2 ⟨v2, rfl, s2, h2, g2⟩
  go_wp2_with fail
  refine (number_any _ v2 _ s2 hl8).mono ?_
  rintro e w3 ⟨rfl, hw⟩
  subst hw
  go_wp2
  go_ret
  exact ⟨rfl, h2, g2⟩
end Go.Proofs.Ytdhjlongdfgejaa
