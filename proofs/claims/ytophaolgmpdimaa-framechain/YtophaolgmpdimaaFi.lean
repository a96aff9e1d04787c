/-
  What a head is, by its bytes; frame.mayBe, headFields, WriteHead.
-/
import Derived.Test.YtophaolgmpdimaaFj
namespace Go.Proofs.Ytophaolgmpdimaa
open Go.RowKit

theorem mayBe_any (w : World) (nm bs : Int) (seed : Crc.R) :
    Calls Try.prog 41 #[.agg #[.int .i64 nm, .int .i64 bs, .int .u32 (seed.toNat : Int)]] w fun e w' => e = .returned (.bool (inB nm 9223372036854775807 && inB bs 9223372036854775807)) ∧ Below w.heap.size w w' := by
  cases h1 : inB nm 9223372036854775807 with
  | false =>
    replace h1 := hide h1
    go_enter Try.func41, Try.ntmps41
    go_wp2_with fail
    refine (within_any _ nm 9223372036854775807).mono ?_
    rintro e w0 ⟨rfl, hw⟩
    obtain rfl := hw.symm
    rw [h1.out]
    go_wp2_with fail
    go_ret
    exact ⟨rfl, box_below _ _⟩
  | true =>
    replace h1 := hide h1
    obtain ⟨B, hB⟩ : ∃ B, Hid (inB bs 9223372036854775807 = B) := ⟨_, rfl⟩
    rw [hB.out, Bool.true_and]
    go_enter Try.func41, Try.ntmps41
    go_wp2_with fail
    refine (within_any _ nm 9223372036854775807).mono ?_
    rintro e w0 ⟨rfl, hw⟩
    obtain rfl := hw.symm
    rw [h1.out]
    go_wp2_with fail
    refine (within_any _ bs 9223372036854775807).mono ?_
    rintro e w0 ⟨rfl, hw⟩
    obtain rfl := hw.symm
    rw [hB.out]
    go_wp2_with fail
    go_ret
    exact ⟨rfl, box_below _ _⟩

/-- The mark that a conversion of a constant's bytes leaves. -/
def frz (q : World) (b : Nat) : World := q.freeze ⟨b, 8, none⟩ 1
def tC : Array Value := #[.int .u8 70, .int .u8 76, .int .u8 85, .int .u8 77, .int .u8 69, .int .u8 76, .int .u8 79, .int .u8 71]
theorem frz_size (q : World) (b : Nat) : (frz q b).heap.size = q.heap.size := by
  unfold frz World.freeze
  rw [if_neg (by decide)]
  simp
theorem frz_other (q : World) (b k : Nat) (h : k ≠ b) : (frz q b).heap[k]? = q.heap[k]? := by
  unfold frz World.freeze
  rw [if_neg (by decide)]
  simp [Array.getElem?_modify, h.symm]
theorem frz_cell (q : World) (b : Nat) (a : Addr) : (frz q b).cell? a = q.cell? a := by
  by_cases h : a.block = b
  · unfold frz World.freeze
    rw [if_neg (by decide)]
    simp only [World.cell?, Array.getElem?_modify, h, if_true]
    cases q.heap[b]? with
    | none => rfl
    | some o => cases o <;> rfl
  · simp only [World.cell?, frz_other q b a.block h]
theorem frz_below {B b : Nat} {u q : World} (h : Below B u q) (hb : B ≤ b) : Below B u (frz q b) := by
  refine ⟨?_, ?_, ?_, ?_, fun k hk => ?_⟩
  · unfold frz World.freeze; rw [if_neg (by decide)]; exact h.os
  · unfold frz World.freeze; rw [if_neg (by decide)]; exact h.tape
  · unfold frz World.freeze; rw [if_neg (by decide)]; exact h.output
  · rw [frz_size]; exact h.size
  · rw [frz_other q b k (by omega)]; exact h.block k hk
theorem Sl.frz {q : World} {b : Nat} {v : Value} {l : List UInt8} (h : Sl q v l) : Sl (frz q b) v l := by
  obtain ⟨ao, ca, e, g2, g3, g4, g5⟩ := h
  refine ⟨ao, ca, e, g2, g3, g4, fun i hi => ?_⟩
  obtain ⟨b', off, e1, hc⟩ := g5 i hi
  exact ⟨b', off, e1, by rw [frz_cell]; exact hc⟩
theorem conv_at {q : World} {b : Nat} (h : q.heap[b]? = some (.cells tC 5 (0, 0))) : (convert 31 31 (.slice (some ⟨b, 0, none⟩) 8 8)).run Try.prog q = .ok (.slice (some ⟨b, 0, none⟩) 8 8) (frz q b) := by
  have hsh : q.shape? b = some (5, 8) := by
    unfold World.shape?
    rw [h]; rfl
  simp [convert, run_underlying Try.underlying31, run_underlying Try.underlying5, markStringish, hsh]
  rfl
/-- Sl, sealed. -/
structure SlH (w : World) (v : Value) (l : List UInt8) : Prop where
  out : Sl w v l
theorem SlH.bel {w w' : World} {v : Value} {l : List UInt8} (hb : Below w.heap.size w w') (h : SlH w v l) : SlH w' v l := ⟨Below.sl hb h.out⟩
theorem SlH.dr {w : World} {v : Value} {l : List UInt8} (h : SlH w v l) : SlH w.drew v l := ⟨h.out⟩
/-- What such a conversion leaves: a world of which all is as it was but a block's mark. -/
def Mkd (q : World) (b : Nat) (q' : World) : Prop := (∀ B u, Below B u q → B ≤ b → Below B u q') ∧ ∀ v l, SlH q v l → SlH q' v l
theorem conv_ex {q : World} {b : Nat} (h : q.heap[b]? = some (.cells tC 5 (0, 0))) : ∃ q', (convert 31 31 (.slice (some ⟨b, 0, none⟩) 8 8)).run Try.prog q = .ok (.slice (some ⟨b, 0, none⟩) 8 8) q' ∧ Hid (Mkd q b q') :=
  ⟨frz q b, conv_at h, fun _ _ a b => frz_below a b, fun _ _ a => ⟨a.out.frz⟩⟩
theorem conv1 {W u : World} (h : Below (W.alloc (.cells tC 5)).heap.size (W.alloc (.cells tC 5)) u) : u.heap[W.heap.size]? = some (.cells tC 5 (0, 0)) := by
  rw [h.block W.heap.size (by simp)]; exact heap_alloc_new _ _
theorem conv1d {W u : World} (h : Below (W.alloc (.cells tC 5)).drew.heap.size (W.alloc (.cells tC 5)).drew u) : u.heap[W.heap.size]? = some (.cells tC 5 (0, 0)) := by
  rw [h.block W.heap.size (by simp)]; exact heap_alloc_new _ _
theorem conv2 {u v : World} {b : Nat} (h : u.heap[b]? = some (.cells tC 5 (0, 0))) (hb : Below u.heap.size u v) : v.heap[b]? = some (.cells tC 5 (0, 0)) := by
  rw [hb.block b (heap_lt h)]; exact h
theorem Sl.dr {q : World} {v : Value} {l : List UInt8} (h : Sl q v l) : Sl q.drew v l := h
theorem sl_tC (W : World) : SlH (W.alloc (.cells tC 5)) (.slice (some ⟨W.heap.size, 0, none⟩) 8 8) ttl := ⟨sl_lit W ttl 5 (by decide) _ rfl⟩
theorem sl_tCm (W : World) (fr : Nat × Nat) : SlH (W.alloc (.cells tC 5 fr)) (.slice (some ⟨W.heap.size, 0, none⟩) 8 8) ttl := ⟨sl_lit_mark W ttl 5 fr (by decide) _ rfl⟩

theorem concat4 (lo : Nat) (X : World) (hlo : lo ≤ X.heap.size) (g : Nat) (hg : g = X.heap.size) (v1 v2 v3 v4 : Value) (l1 l2 l3 l4 : List UInt8) (h1 : SlH X v1 l1) (h2 : SlH X v2 l2) (h3 : SlH X v3 l3) (h4 : SlH X v4 l4) (hl : l1.length + l2.length + l3.length + l4.length ≤ 4096) :
    Calls Try.prog 28 #[.slice (some ⟨g, 0, none⟩) 4 4] (X.alloc (.cells #[v1, v2, v3, v4] 31)) fun e w' => ∃ v', e = .returned v' ∧ w'.ownsRow lo 5 1 v' (l1 ++ (l2 ++ (l3 ++ l4))).length (bvals (l1 ++ (l2 ++ (l3 ++ l4)))) ∧ Below X.heap.size X w' ∧ Below (X.alloc (.cells #[v1, v2, v3, v4] 31)).heap.size (X.alloc (.cells #[v1, v2, v3, v4] 31)) w' := by
  subst hg
  refine (concat_any (X.alloc (.cells #[v1, v2, v3, v4] 31)) _ [v1, v2, v3, v4] [l1, l2, l3, l4] (row_lit X [v1, v2, v3, v4] 31 (by show 4 ≤ maxLen; decide)) (Below.sls (box_below X _) (.cons h1.out (.cons h2.out (.cons h3.out (.cons h4.out (.nil _)))))) (by simp; omega)).mono ?_
  rintro e w' ⟨v', rfl, ho, hb⟩
  have e1 : [l1, l2, l3, l4].flatten = l1 ++ (l2 ++ (l3 ++ l4)) := by simp
  rw [e1] at ho
  exact ⟨v', rfl, owns_lower ho (by simp; omega), keepF (box_below X _) hb, hb⟩

set_option maxHeartbeats 20000000 in
theorem headFields_any (w : World) (nm bs : Int) (seed : Crc.R) (h0 : 1 ≤ nm) (h1 : nm ≤ 9223372036854775807) (h2 : 1 ≤ bs) (h3 : bs ≤ 9223372036854775807) :
    Calls Try.prog 42 #[.agg #[.int .i64 nm, .int .i64 bs, .int .u32 (seed.toNat : Int)]] w fun e w' => ∃ v', e = .returned v' ∧ w'.ownsRow w.heap.size 5 1 v' (hfs nm.toNat bs.toNat seed).length (bvals (hfs nm.toNat bs.toNat seed)) ∧ Below w.heap.size w w' := by
  have HS := hide (Crc.lt32 seed)
  obtain ⟨HH, hHH⟩ : ∃ HH, Hid (hfs nm.toNat bs.toNat seed = HH) := ⟨_, rfl⟩
  rw [hHH.out]
  obtain ⟨w1, hw1⟩ : ∃ w1, Hid (w.alloc (.cells #[.int .i64 nm, .int .i64 bs, .int .u32 (seed.toNat : Int)] 50) = w1) := ⟨_, rfl⟩
  have hb1 : Hid (Below w.heap.size w w1) := by rw [← hw1.out]; exact box_below _ _
  have hh1 : Hid (w1.heap[w.heap.size]? = some (.cells #[.int .i64 nm, .int .i64 bs, .int .u32 (seed.toNat : Int)] 50 (0, 0))) := by rw [← hw1.out]; exact heap_alloc_new _ _
  have kd := fun (w : World) (C : Array Value) (n c : Nat) => Lib.run_convert_bytes_const (P := Try.prog) w 31 5 C n c Try.underlying31 Try.underlying5
  have kc : ∀ (w : World) (C : Array Value) (n c : Nat), (convert 31 31 (.slice (some ⟨w.heap.size, 0, none⟩) n c)).run Try.prog (w.alloc (.cells C 5)).drew = .ok (.slice (some ⟨w.heap.size, 0, none⟩) n c) (w.alloc (.cells C 5 (C.size, C.size + 1))).drew := fun w C n c => Lib.run_convert_bytes_const (P := Try.prog) w.drew 31 5 C n c Try.underlying31 Try.underlying5
  have n1 : IntKind.u64.wrap nm = nm := by rw [IntKind.wrap_u64]; omega
  have n2 : IntKind.u64.wrap bs = bs := by rw [IntKind.wrap_u64]; omega
  go_enter Try.func42, Try.ntmps42
  go_wp2_with fail
  rw [hw1.out]
  have KS : Hid (∀ q : World, Below w1.heap.size w1 q → Below w1.heap.size w1 q ∧ q.cell? ⟨w.heap.size, 0, none⟩ = some (.int .i64 nm) ∧ q.cell? ⟨w.heap.size, 1, none⟩ = some (.int .i64 bs) ∧ q.cell? ⟨w.heap.size, 2, none⟩ = some (.int .u32 (seed.toNat : Int))) := fun q hb => by
    have hh : q.heap[w.heap.size]? = some (.cells #[.int .i64 nm, .int .i64 bs, .int .u32 (seed.toNat : Int)] 50 (0, 0)) := by rw [hb.block w.heap.size (heap_lt hh1.out)]; exact hh1.out
    obtain ⟨a, b, c, _⟩ := three_cells hh
    exact ⟨hb, a, b, c⟩
  have hS0 := KS.out w1.drew (Below.refl _ _).drew
  have F8 : Hid (∀ (q : World) (x : Int), 1 ≤ x → x ≤ 9223372036854775807 → Calls Try.prog 49 #[.int .u64 x] q fun e w' => ∃ ao ca, e = .returned (.slice ao 8 ca) ∧ SlH w' (.slice ao 8 ca) (fx 8 x.toNat) ∧ Below q.heap.size q w') := fun q x g0 g1 =>
    (fixed64_any q x (by omega) (by omega)).mono fun e w' ⟨v, a, b, c⟩ => by
      have s := Sl.of_owns b
      obtain ⟨ao, ca, rfl⟩ := s.form (fx_len _ _)
      exact ⟨ao, ca, a, ⟨s⟩, c⟩
  have F4 : Hid (∀ (q : World), Calls Try.prog 48 #[.int .u32 (seed.toNat : Int)] q fun e w' => ∃ ao ca, e = .returned (.slice ao 4 ca) ∧ SlH w' (.slice ao 4 ca) (fx 4 seed.toNat) ∧ Below q.heap.size q w') := fun q =>
    (fixed32_any q _ (by omega) (by have := HS.out; omega)).mono fun e w' ⟨v, a, b, c⟩ => by
      rw [Int.toNat_natCast] at b
      have s := Sl.of_owns b
      obtain ⟨ao, ca, rfl⟩ := s.form (fx_len _ _)
      exact ⟨ao, ca, a, ⟨s⟩, c⟩
  have BS : Hid (∀ q q' : World, (Below w1.heap.size w1 q ∧ q.cell? ⟨w.heap.size, 0, none⟩ = some (.int .i64 nm) ∧ q.cell? ⟨w.heap.size, 1, none⟩ = some (.int .i64 bs) ∧ q.cell? ⟨w.heap.size, 2, none⟩ = some (.int .u32 (seed.toNat : Int))) → Below q.heap.size q q' → Below w1.heap.size w1 q' ∧ q'.cell? ⟨w.heap.size, 0, none⟩ = some (.int .i64 nm) ∧ q'.cell? ⟨w.heap.size, 1, none⟩ = some (.int .i64 bs) ∧ q'.cell? ⟨w.heap.size, 2, none⟩ = some (.int .u32 (seed.toNat : Int))) := fun q q' h hb => KS.out q' (keepF h.1 hb)
  have BS2 : Hid (∀ q q' : World, Below q.heap.size q q' → (Below w1.heap.size w1 q ∧ q.cell? ⟨w.heap.size, 0, none⟩ = some (.int .i64 nm) ∧ q.cell? ⟨w.heap.size, 1, none⟩ = some (.int .i64 bs) ∧ q.cell? ⟨w.heap.size, 2, none⟩ = some (.int .u32 (seed.toNat : Int))) → Below w1.heap.size w1 q' ∧ q'.cell? ⟨w.heap.size, 0, none⟩ = some (.int .i64 nm) ∧ q'.cell? ⟨w.heap.size, 1, none⟩ = some (.int .i64 bs) ∧ q'.cell? ⟨w.heap.size, 2, none⟩ = some (.int .u32 (seed.toNat : Int))) := fun q q' hb h => KS.out q' (keepF h.1 hb)
  go_region_held (fun q => Below w1.heap.size w1 q ∧ q.cell? ⟨w.heap.size, 0, none⟩ = some (.int .i64 nm) ∧ q.cell? ⟨w.heap.size, 1, none⟩ = some (.int .i64 bs) ∧ q.cell? ⟨w.heap.size, 2, none⟩ = some (.int .u32 (seed.toNat : Int)))
    (first | exact hS0 | assumption | exact BS2.out _ _ (by assumption) (by assumption) | exact BS2.out _ _ (box_below _ _) (by assumption) | exact KS.out _ (box_below w1 _).drew | fail)
    (first
      | (go_at_call 49; have g := S1; clear g; refine (F8.out _ bs h2 h3).mono ?_; rintro e u2 ⟨ao2, ca2, rfl, S2, B2⟩
         have Ku2 := BS2.out _ _ B2 (by assumption)
         first | (have S12 := SlH.bel B2 S1) | (have S12 := SlH.bel B2 (Z1.out.2 _ _ S1)) | (have S12 := SlH.bel B2 (SlH.bel (box_below u1 _) S1))
         first
           | (have X2 := conv_ex (conv2 (conv1d (W := w1) B1) B2)
              obtain ⟨q2, D2, Z2⟩ := X2
              have T2 := SlH.bel B2 T1
              have K2 := KS.out q2 (Z2.out.1 _ _ Ku2.1 (Nat.le_refl _)))
           | (have X2 := conv_ex (conv1 (W := u1) B2)
              obtain ⟨q2, D2, Z2⟩ := X2
              have T2 := SlH.bel B2 (sl_tC u1)
              have K2 := KS.out q2 (Z2.out.1 _ _ Ku2.1 Ku1.1.size))
           | (have T2 := SlH.bel B2 T1)
           | (have T2 := SlH.bel B2 (Z1.out.2 _ _ T1))
           | (have T2 := SlH.bel B2 (sl_tCm u1 _))
           | skip)
      | (go_at_call 49; refine (F8.out _ nm h0 h1).mono ?_; rintro e u1 ⟨ao1, ca1, rfl, S1, B1⟩
         have Ku1 := BS2.out _ _ B1 (by assumption)
         first
           | (have X1 := conv_ex (conv1d (W := w1) B1)
              obtain ⟨q1, D1, Z1⟩ := X1
              have T1 := SlH.bel B1 (SlH.dr (sl_tC w1))
              have K1 := KS.out q1 (Z1.out.1 _ _ Ku1.1 (Nat.le_refl _)))
           | (have T1 := SlH.bel B1 (SlH.dr (sl_tCm w1 _)))
           | skip)
      | (go_at_call 48; refine (F4.out _).mono ?_; rintro e u3 ⟨ao3, ca3, rfl, S3, B3⟩
         have Ku3 := BS2.out _ _ B3 (by assumption)
         first | (have S13 := SlH.bel B3 S12) | (have S13 := SlH.bel B3 (Z2.out.2 _ _ S12)) | (have S13 := SlH.bel B3 (SlH.bel (box_below u2 _) S12))
         first | (have S23 := SlH.bel B3 S2) | (have S23 := SlH.bel B3 (Z2.out.2 _ _ S2)) | (have S23 := SlH.bel B3 (SlH.bel (box_below u2 _) S2))
         first
           | (have X3 := conv_ex (conv2 (conv2 (conv1d (W := w1) B1) B2) B3)
              obtain ⟨q3, D3, Z3⟩ := X3
              have T3 := SlH.bel B3 T2
              have K3 := KS.out q3 (Z3.out.1 _ _ Ku3.1 (Nat.le_refl _)))
           | (have X3 := conv_ex (conv2 (conv1 (W := u1) B2) B3)
              obtain ⟨q3, D3, Z3⟩ := X3
              have T3 := SlH.bel B3 T2
              have K3 := KS.out q3 (Z3.out.1 _ _ Ku3.1 Ku1.1.size))
           | (have X3 := conv_ex (conv1 (W := u2) B3)
              obtain ⟨q3, D3, Z3⟩ := X3
              have T3 := SlH.bel B3 (sl_tC u2)
              have K3 := KS.out q3 (Z3.out.1 _ _ Ku3.1 Ku2.1.size))
           | (have T3 := SlH.bel B3 T2)
           | (have T3 := SlH.bel B3 (Z2.out.2 _ _ T2))
           | (have T3 := SlH.bel B3 (sl_tCm u2 _))
           | skip)
      | (go_at_call 28
         refine (concat4 w.heap.size _ (by first | exact Nat.le_trans hb1.out.size Ku3.1.size | exact Nat.le_trans hb1.out.size K3.1.size | exact Nat.le_trans (Nat.le_trans hb1.out.size Ku3.1.size) (box_below u3 _).size | fail) _ (by first | rfl | simp) _ _ _ _ ttl (fx 8 nm.toNat) (fx 8 bs.toNat) (fx 4 seed.toNat) (by first | exact T3 | exact Z3.out.2 _ _ T3 | exact sl_tCm u3 _ | fail) (by first | exact S13 | exact Z3.out.2 _ _ S13 | exact SlH.bel (box_below u3 _) S13 | fail) (by first | exact S23 | exact Z3.out.2 _ _ S23 | exact SlH.bel (box_below u3 _) S23 | fail) (by first | exact S3 | exact Z3.out.2 _ _ S3 | exact SlH.bel (box_below u3 _) S3 | fail) (by simp [fx_len, ttl])).mono ?_
         rintro e u4 ⟨v4, rfl, ho4, B4, B5⟩)
      | fail)
  all_goals
    have hfin : Hid (Below w.heap.size w u4) := keepF hb1.out (And.left (b := u4.cell? ⟨w.heap.size, 0, none⟩ = some (.int .i64 nm) ∧ u4.cell? ⟨w.heap.size, 1, none⟩ = some (.int .i64 bs) ∧ u4.cell? ⟨w.heap.size, 2, none⟩ = some (.int .u32 (seed.toNat : Int))) (by assumption))
    have hown : Hid (u4.ownsRow w.heap.size 5 1 v4 HH.length (bvals HH)) := by rw [← hHH.out]; exact ho4
    clear ho4
    go_wp2_with fail
    go_ret
    exact ⟨_, rfl, hown.out, hfin.out⟩
#print axioms headFields_any
end Go.Proofs.Ytophaolgmpdimaa
