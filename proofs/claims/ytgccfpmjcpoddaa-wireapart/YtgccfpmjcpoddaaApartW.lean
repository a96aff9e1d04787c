/-
  The walk of WireApart: true.
-/
import Derived.Test.YtgccfpmjcpoddaaNewL
import Derived.Test.YtgccfpmjcpoddaaRws
import Derived.Test.YtgccfpmjcpoddaaBegun
import Derived.Deep.RegionHeld3
namespace Go.Proofs.Ytgccfpmjcpoddaa
open Go.RowKit

theorem keepB {w u v : World} (q : Below u.heap.size u v) (h : Below w.heap.size w u) : Below w.heap.size w v := h.trans (q.mono h.size)
theorem varint_new (w : World) (n : Int) (h0 : 0 ≤ n) (hn : n < 18446744073709551616) : Calls Try.prog 11 #[.int .u64 n] w fun e w' => ∃ t, e = .returned (.slice (sAo t) (sN t) (sC t)) ∧ New w w' t :=
  (varint_any w n h0 hn).mono fun e w' ⟨v, h1, h2, h3⟩ => by
    obtain ⟨t, rfl, ht⟩ := New.of_own h2 (by have := enc_len n.toNat; omega) h3
    rw [slv_slx] at h1
    exact ⟨t, h1, ht⟩
theorem fixed64_new (w : World) (n : Int) (h0 : 0 ≤ n) (hn : n < 18446744073709551616) : Calls Try.prog 15 #[.int .u64 n] w fun e w' => ∃ t, e = .returned (.slice (sAo t) (sN t) (sC t)) ∧ New w w' t :=
  (fixed64_any w n h0 hn).mono fun e w' ⟨v, h1, h2, h3⟩ => by
    obtain ⟨t, rfl, ht⟩ := New.of_own h2 (by rw [fx_len]; omega) h3
    rw [slv_slx] at h1
    exact ⟨t, h1, ht⟩
theorem fixed32_new (w : World) (n : Int) (h0 : 0 ≤ n) (hn : n < 4294967296) : Calls Try.prog 17 #[.int .u32 n] w fun e w' => ∃ t, e = .returned (.slice (sAo t) (sN t) (sC t)) ∧ New w w' t :=
  (fixed32_any w n h0 hn).mono fun e w' ⟨v, h1, h2, h3⟩ => by
    obtain ⟨t, rfl, ht⟩ := New.of_own h2 (by rw [fx_len]; omega) h3
    rw [slv_slx] at h1
    exact ⟨t, h1, ht⟩
theorem string_new (w : World) (x : Value) (l : List UInt8) (hx : Sl w x l) (hlen : l.length + 10 ≤ 140737488355328) : Calls Try.prog 21 #[x] w fun e w' => ∃ t, e = .returned (.slice (sAo t) (sN t) (sC t)) ∧ New w w' t :=
  (string_any w x l hx hlen).mono fun e w' ⟨v, h1, h2, h3⟩ => by
    obtain ⟨t, rfl, ht⟩ := New.of_own h2 (by have := enc_len l.length; simp; omega) h3
    rw [slv_slx] at h1
    exact ⟨t, h1, ht⟩
theorem rs_len (l : List UInt8) (most : Int) : (rs l most).1.length ≤ l.length := by
  unfold rs
  split
  · simp
  · split
    · simp
    · split
      · simp
      · split
        · simp
        · simp; omega
theorem readString_new (w : World) (x : Value) (l : List UInt8) (most : Int) (hx : Sl w x l) (hlen : l.length ≤ 140737488355328) (h0 : -9223372036854775808 ≤ most) (h1 : most ≤ 9223372036854775807) :
    Calls Try.prog 26 #[x, .int .i64 most] w fun e w' => ∃ t a b, e = .returned (.tuple #[.slice (sAo t) (sN t) (sC t), .int .i64 a, .int .i64 b]) ∧ New w w' t :=
  (readString_any w x l most hx hlen h0 h1).mono fun e w' ⟨v, h1, h2, h3⟩ => by
    obtain ⟨t, rfl, ht⟩ := New.of_own h2 (by have := rs_len l most; omega) h3
    rw [slv_slx] at h1
    exact ⟨t, _, _, h1, ht⟩

set_option maxRecDepth 100000 in
set_option maxHeartbeats 4000000 in
theorem apartW_walk (x z : Value) (us : List Int) (vs : List Value) (ls : List (List UInt8)) (w : World) (hx : Row w x (us.map (Value.int .u64))) (hz : Row w z vs) (hs : Sls w vs ls)
    (hu : ∀ n ∈ us, (Lit.int .u64 n).wf = true) (hl : ∀ l ∈ ls, l.length ≤ 140737488351232) :
    Calls Try.prog 8 #[x, z] w fun e w' => e = .returned (.bool true) ∧ Below w.heap.size w w' := by
  obtain ⟨a1, c1, rfl, -, m1, m2, g1⟩ := hx
  obtain ⟨a3, c3, rfl, -, l1, l2, g3⟩ := hz
  simp only [List.length_map] at m1
  have hv1 : us.length ≤ 9223372036854775807 := by unfold maxLen at m2; omega
  have hv3 : vs.length ≤ 9223372036854775807 := by unfold maxLen at l2; omega
  rw [List.length_map]
  have HU : Hid (∀ n ∈ us, (Lit.int .u64 n).wf = true) := hu
  have HL : Hid (∀ l ∈ ls, l.length ≤ 140737488351232) := hl
  have HG1 : Hid (At w a1 (us.map (Value.int .u64))) := g1
  have HG3 : Hid (At w a3 vs) := g3
  have HS : Hid (Sls w vs ls) := hs
  clear hu hl m1 m2 l1 l2 g1 g3 hs
  go_enter Try.func8, Try.ntmps8
  go_wp2_with fail
  refine (begun_any w).mono ?_
  rintro e w1 ⟨rfl, b1⟩
  have HB1 : Hid (Below w.heap.size w w1) := b1
  clear b1
  go_wp2_with fail
  have HB2 : Hid (Below w.heap.size w (w1.alloc (.cells #[.slice none 0 0, .int .i64 0] 53))) := HB1.out.alloc HB1.out.size _
  have HK0 : Hid (Kept (w1.alloc (.cells #[.slice none 0 0, .int .i64 0] 53)) w1.heap.size w1.heap.size [] 0) := ⟨.slice none 0 0, heap_alloc_new _ _, World.ownsRow_nil _ _ _ _, by simp, by decide⟩
  have hwk : Hid (w.heap.size ≤ w1.heap.size) := HB1.out.size
  generalize w1.alloc (.cells #[.slice none 0 0, .int .i64 0] 53) = w2 at *
  generalize w1.heap.size = kb at *
  clear HB1
  go_loopw [6] (fun vi wr => ∃ (i : Nat), i ≤ us.length ∧ vi = .int .i64 (i : Int) ∧ Hid (∃ its size, Kept wr kb kb its size ∧ Items wr kb its) ∧ Hid (Below w.heap.size w wr)) (fun i _ => us.length - (intOf i).toNat)
  case atStart => exact ⟨0, Nat.zero_le _, rfl, ⟨[], 0, HK0.out, fun t ht => by simp at ht, by simp⟩, HB2.out⟩
  case round =>
    clear HK0 HB2
    obtain ⟨i, hi, rfl, hK, hB⟩ := hrel
    by_cases hlt : i < us.length
    · have hlt' : (i : Int) < (us.length : Int) := by omega
      obtain ⟨x1, o1, rfl, d1⟩ := HG1.out i (by simpa using hlt)
      simp only [List.getElem_map] at d1
      have q1 := lt_of_cell d1
      have hub := u64_bounds (HU.out us[i] (List.getElem_mem hlt))
      generalize us[i] = u at *
      have HUB : Hid (0 ≤ u ∧ u < 18446744073709551616) := hub
      have hw32 : IntKind.u32.wrap u = u % 4294967296 := IntKind.wrap_u32 u
      have D1 : Hid (w.cell? ⟨x1, o1 + i, none⟩ = some (.int .u64 u)) := d1
      have KS : Hid (∀ v : World, Below w.heap.size w v → Below w.heap.size w v ∧ v.cell? ⟨x1, o1 + i, none⟩ = some (.int .u64 u)) := fun v hv => ⟨hv, (hv.cell q1).trans D1.out⟩
      have hS0 := KS.out wr.drew hB.out.drew
      obtain ⟨its, size, hKK, hII⟩ := hK.out
      have HKK : Hid (Kept wr.drew kb kb its size) := hKK
      have HII : Hid (Items wr.drew kb its) := hII
      clear d1 hub hK hKK hII
      go_wp2_with fail
      go_region_held3 (fun q => Below w.heap.size w q ∧ q.cell? ⟨x1, o1 + i, none⟩ = some (.int .u64 u))
        (first | exact hS0 | assumption | exact KS.out _ (by assumption) | exact KS.out _ (keepB (by assumption) (And.left (by assumption))) | exact KS.out _ (Below.alloc (And.left (by assumption)) (Below.size (And.left (by assumption))) _))
        (first
          | (go_at_call 11; refine (varint_new _ u HUB.out.1 HUB.out.2).mono ?_; rintro e u1 ⟨t1, rfl, N1⟩; have B1 := N1.1)
          | (go_at_call 17; refine (fixed32_new _ (u % 4294967296) (by have := HUB.out; omega) (by have := HUB.out; omega)).mono ?_; rintro e u1 ⟨t1, rfl, N1⟩; have B1 := N1.1)
          | (go_at_call 15; refine (fixed64_new _ u HUB.out.1 HUB.out.2).mono ?_; rintro e u1 ⟨t1, rfl, N1⟩; have B1 := N1.1)
          | (go_at_call 35; refine (keep_new2 wr.drew _ kb kb its size [_, _, _, _, _, _] HKK.out HII.out (Nat.le_refl _) ((((((NewL.nil wr.drew).snoc (by assumption)).snoc (by assumption)).snoc (by assumption)).snoc (by assumption)).snoc (by assumption) |>.snoc (by assumption)) (by simp) _ rfl 6 6 rfl).mono ?_; rintro e uK ⟨rfl, hKn, hBn⟩; have BK : Below w.heap.size w uK := hB.out.drew.trans (hBn.mono hwk.out)))
      all_goals (have HKn : Hid (∃ its size, Kept uK kb kb its size ∧ Items uK kb its) := hKn)
      all_goals (have HBK : Hid (Below w.heap.size w uK) := BK)
      all_goals (go_wp2_with fail)
      all_goals (go_roundw)
      case rel => exact ⟨i + 1, by omega, by go_num, HKn.out, HBK.out⟩
      case measure => simp [intOf]; omega
    · have hlt' : ¬ ((i : Int) < (us.length : Int)) := by omega
      go_wp2_with fail
      go_loopw [7] (fun vi wr => ∃ (i : Nat), i ≤ vs.length ∧ vi = .int .i64 (i : Int) ∧ Hid (∃ its size, Kept wr kb kb its size ∧ Items wr kb its) ∧ Hid (Below w.heap.size w wr)) (fun i _ => vs.length - (intOf i).toNat)
      case atStart => exact ⟨0, Nat.zero_le _, rfl, hK.out, hB.out⟩
      case round =>
        clear hK hB
        obtain ⟨j, hj, rfl, hK, hB⟩ := hrel
        by_cases hjl : j < vs.length
        · have hjl' : (j : Int) < (vs.length : Int) := by omega
          obtain ⟨x1, o1, rfl, d1⟩ := HG3.out j hjl
          have hlt2 : j < ls.length := by rw [← HS.out.1]; exact hjl
          have hSk := HS.out.2 j hjl hlt2
          have hll := HL.out ls[j] (List.getElem_mem hlt2)
          have q1 := lt_of_cell d1
          generalize vs[j] = vv at *
          generalize ls[j] = ll at *
          have HSk : Hid (Sl w vv ll) := hSk
          obtain ⟨vo, vc, rfl, -, -, -, -⟩ := hSk
          have e1 := (hB.out.cell q1).trans d1
          have D1 : Hid (w.cell? ⟨x1, o1 + j, none⟩ = some (.slice vo ll.length vc)) := d1
          have KS : Hid (∀ v : World, Below w.heap.size w v → Below w.heap.size w v ∧ v.cell? ⟨x1, o1 + j, none⟩ = some (.slice vo ll.length vc)) := fun v hv => ⟨hv, (hv.cell q1).trans D1.out⟩
          obtain ⟨its, size, hKK, hII⟩ := hK.out
          have HKK : Hid (Kept wr kb kb its size) := hKK
          have HII : Hid (Items wr kb its) := hII
          clear d1 hK hKK hII
          go_wp2_with fail
          refine (readString_new wr _ ll 1048576 (Below.sl hB.out HSk.out) (by omega) (by decide) (by decide)).mono ?_
          rintro e w3 ⟨ta, a, b, rfl, Na⟩
          have HB3 : Hid (Below w.heap.size w w3) := keepB Na.1 hB.out
          have HNa : Hid (New wr w3 ta) := Na
          have e3 := (HB3.out.cell q1).trans D1.out
          clear Na e1
          go_wp2_with fail
          refine (readString_new w3 _ ll 1048576 (Below.sl HB3.out HSk.out) (by omega) (by decide) (by decide)).mono ?_
          rintro e w4 ⟨tb, a', b', rfl, Nb⟩
          have HB4 : Hid (Below w.heap.size w w4) := keepB Nb.1 HB3.out
          have HNb : Hid (NewL wr w4.drew [ta, tb]) := (((NewL.nil wr).snoc HNa.out).snoc Nb).drew
          have e4 := (HB4.out.cell q1).trans D1.out
          have hS0 := KS.out w4.drew HB4.out.drew
          clear Nb e3
          go_wp2_with fail
          go_region_held3 (fun q => Below w.heap.size w q ∧ q.cell? ⟨x1, o1 + j, none⟩ = some (.slice vo ll.length vc))
            (first | exact hS0 | assumption | exact KS.out _ (by assumption) | exact KS.out _ (keepB (by assumption) (And.left (by assumption))) | exact KS.out _ (Below.alloc (And.left (by assumption)) (Below.size (And.left (by assumption))) _))
            (first
              | (go_at_call 21; refine (string_new _ _ ll (Below.sl (And.left (by assumption)) HSk.out) (by omega)).mono ?_; rintro e u1 ⟨t1, rfl, N1⟩; have B1 := N1.1)
              | (go_at_call 35; refine (keep_new2 wr _ kb kb its size ([_, _] ++ [ta, tb]) HKK.out HII.out (Nat.le_refl _) (NewL.swap (a := [ta, tb]) (NewL.snoc (NewL.snoc HNb.out (by assumption)) (by assumption))) (by simp) _ rfl 4 4 rfl).mono ?_; rintro e uK ⟨rfl, hKn, hBn⟩; have BK : Below w.heap.size w uK := hB.out.trans (hBn.mono hwk.out)))
          all_goals (have HKn : Hid (∃ its size, Kept uK kb kb its size ∧ Items uK kb its) := hKn)
          all_goals (have HBK : Hid (Below w.heap.size w uK) := BK)
          all_goals (go_wp2_with fail)
          all_goals (go_roundw)
          case rel => exact ⟨j + 1, by omega, by go_num, HKn.out, HBK.out⟩
          case measure => simp [intOf]; omega
        · have hjl' : ¬ ((j : Int) < (vs.length : Int)) := by omega
          obtain ⟨its, size, hKK, hII⟩ := hK.out
          have HKK : Hid (Kept wr kb kb its size) := hKK
          have HII : Hid (Items wr kb its) := hII
          clear hKK hII hK
          go_wp2_with fail
          refine (apart_any wr kb kb its size HKK.out HII.out).mono ?_
          rintro e w5 ⟨rfl, q⟩
          have HB5 : Hid (Below w.heap.size w w5) := hB.out.trans (q.mono hwk.out)
          clear q
          go_wp2_with fail
          go_ret
          exact ⟨rfl, HB5.out⟩
#print axioms apartW_walk
end Go.Proofs.Ytgccfpmjcpoddaa
