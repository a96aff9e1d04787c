/-
  Load: the program's.
-/
import Derived.Test.YtoffahbnffhliaaIxH
namespace Go.Proofs.Ytoffahbnffhliaa.Ix
open Go.RowKit

/-- What a function that loads hands over, from the world w on: E, x: what it tells by data. -/
def Loaded (T : TypeId) (w w' : World) (E : Int) (x : X) (p : Value) : Prop := (E ≠ 0 ∧ p = .pointer none) ∨ (E = 0 ∧ ∃ b v, p = .pointer (some ⟨b, 0, none⟩) ∧ w.heap.size ≤ b ∧ At T w' b x v ∧ (∀ k, v.ownBlock = some k → w.heap.size ≤ k))
/-- How far read has come. -/
structure Rdg (w : World) (b rb : Nat) (l : List UInt8) (st c : Nat) (R : Int × List (Int × Int) × List UInt8) (i : Nat) (wr : World) (v : Value) (li : List (Int × Int)) (k : Nat) : Prop where
  at0 : At TI wr b ⟨st, li, lastE li⟩ v
  rd : RdrAt wr rb l k 0
  srt : Srt st li
  same : loadL st (c - i) li (lastE li) (l.drop k) = R
  bel : But (fun j => j = rb) w wr
  lo : w.heap.size ≤ b
  own : ∀ k, v.ownBlock = some k → w.heap.size ≤ k
set_option maxHeartbeats 4000000 in
theorem read_any (w : World) (rb : Nat) (l : List UInt8) (hr : RdrAt w rb l 0 0) :
    Calls Try.prog 33 #[.pointer (some ⟨rb, 0, none⟩)] w fun e w' => ∃ p, e = .returned (.tuple #[p, .int .i64 (readF l).1]) ∧ Loaded TI w w' (readF l).1 (readF l).2 p ∧ But (fun j => j = rb) w w' := by
  have HR := hide hr
  have hrb := hr.lt
  clear hr
  obtain ⟨st, hst⟩ : ∃ st, Hid ((rv l).1 = st) := ⟨_, rfl⟩
  obtain ⟨k1, hk1⟩ : ∃ k1, Hid (0 + (rv l).2.1 = k1) := ⟨_, rfl⟩
  have hr1 : Hid (l.drop k1 = nx l) := by show _ = _; rw [← hk1.out, nx]; simp
  have hF1z := hide (@fld_zero l 1 1048576)
  have hC1 := fld_cases l 1 1048576
  have CALL1 := field_any w rb l 0 1 1048576 HR.out (by omega)
  rw [List.drop_zero, hst.out, hk1.out] at CALL1
  rw [hst.out] at hF1z
  obtain ⟨F1, hF1⟩ : ∃ F1, Hid (fldE l 1 1048576 = F1) := ⟨_, rfl⟩
  rw [hF1.out] at CALL1 hF1z hC1
  replace CALL1 := hide CALL1
  by_cases hz : ¬ F1 = 0
  · have hb0 : (F1 == 0) = false := by simpa using hz
    have hE : Hid (readF l = (F1, zX)) := by show _ = _; rw [readF, hF1.out, if_pos hz]
    rw [if_neg hz] at CALL1
    clear hC1
    go_enter Try.func33, Try.ntmps33
    go_wp2_with fail
    refine CALL1.out.mono ?_
    rintro e w1 ⟨rfl, g1, r1⟩
    replace g1 := hide g1
    clear r1
    go_wp2_with fail
    go_ret2
    rw [hE.out]
    exact ⟨_, rfl, .inl ⟨hz, rfl⟩, But.of_grownBy g1.out fun j e => by cases e; rfl⟩
  · replace hz := Classical.not_not.1 hz
    subst hz
    rw [if_pos rfl] at CALL1
    obtain ⟨_, l1, l2⟩ := hF1z.out rfl
    go_enter Try.func33, Try.ntmps33
    go_wp2_with fail
    refine CALL1.out.mono ?_
    rintro e w1 ⟨rfl, g1, r1⟩
    replace g1 := hide g1
    have R1 := hide (r1 trivial)
    clear r1 CALL1 hC1 hF1z
    obtain ⟨c, hc⟩ : ∃ c, Hid ((rv (l.drop k1)).1 = c) := ⟨_, rfl⟩
    obtain ⟨k2, hk2⟩ : ∃ k2, Hid (k1 + (rv (l.drop k1)).2.1 = k2) := ⟨_, rfl⟩
    have hr2 : Hid (l.drop k2 = nx (nx l)) := by show _ = _; rw [← hk2.out, drop_nx, hr1.out]
    have hF2z := hide (@fld_zero (l.drop k1) 0 18446744073709551615)
    have hC2 := fld_cases (l.drop k1) 0 18446744073709551615
    have CALL2 := hide (field_any w1 rb l k1 0 18446744073709551615 R1.out (by omega))
    rw [hc.out] at CALL2 hF2z
    rw [hk2.out] at CALL2
    obtain ⟨F2, hF2⟩ : ∃ F2, Hid (fldE (l.drop k1) 0 18446744073709551615 = F2) := ⟨_, rfl⟩
    rw [hF2.out] at CALL2 hF2z hC2
    go_wp2_with fail
    refine CALL2.out.mono ?_
    rintro e w2 ⟨rfl, g2, r2⟩
    have g12 := hide (grown_trans g1.out g2)
    by_cases hz : ¬ F2 = 0
    · have hb0 : (F2 == 0) = false := by simpa using hz
      have hE : Hid (readF l = (F2, zX)) := by show _ = _; rw [readF, hF1.out, if_neg (by simp), ← hr1.out, hF2.out, if_pos hz]
      rw [if_neg hz]
      clear hC2 CALL2 r2 g2
      go_wp2_with fail
      go_ret2
      rw [hE.out]
      exact ⟨_, rfl, .inl ⟨hz, rfl⟩, But.of_grownBy g12.out fun j e => by cases e; rfl⟩
    · replace hz := Classical.not_not.1 hz
      subst hz
      rw [if_pos rfl]
      obtain ⟨_, l3, l4⟩ := hF2z.out rfl
      have R2 := hide (r2 rfl)
      clear r2 CALL2 hC2 hF2z g2 g1 R1
      have hw1 : IntKind.i64.wrap (st : Int) = (st : Int) := by rw [IntKind.wrap_i64]; omega
      obtain ⟨R, hRR⟩ : ∃ R, Hid (loadL st c [] (0, 0) (l.drop k2) = R) := ⟨_, rfl⟩
      have hE : Hid (readF l = if R.1 ≠ 0 then (R.1, zX) else if R.2.2 ≠ [] then (4, zX) else (0, ⟨st, R.2.1, lastE R.2.1⟩)) := by
        show _ = _
        rw [readF, hF1.out, if_neg (by simp), ← hr1.out, hF2.out, if_neg (by simp), hst.out, hc.out, hr1.out, ← hr2.out, hRR.out]
      have W0 : Hid (Rdg w w2.heap.size rb l st c R 0 (w2.alloc (.cells #[.int .i64 (st : Int), .slice none 0 0, .int .i64 0, .int .i64 0] 58)) (.slice none 0 0) [] k2) :=
        ⟨⟨heap_alloc_new _ _, Ents.nil _⟩, R2.out.below (box_below _ _), ⟨l2, l1, List.Pairwise.nil, fun e he => by simp at he⟩, by rw [Nat.sub_zero, lastE_nil]; exact hRR.out, (But.of_grownBy g12.out fun j e => by cases e; rfl).trans (But.alloc _ _ _), g12.out.size, fun k hk => by simp [Value.ownBlock] at hk⟩
      go_wp2_with fail
      generalize hq : w2.heap.size = b at *
      generalize hq4 : w2.alloc (.cells #[.int .i64 (st : Int), .slice none 0 0, .int .i64 0, .int .i64 0] 58) = w4 at *
      clear hq hq4 R2
      go_loopw [30] (fun vi wr => ∃ (i : Nat) (v : Value) (li : List (Int × Int)) (k : Nat), i ≤ c ∧ vi = .int .u64 (i : Int) ∧ Hid (Rdg w b rb l st c R i wr v li k)) (fun vi _ => c - (intOf vi).toNat)
      case atStart => exact ⟨0, _, [], k2, Nat.zero_le _, rfl, W0.out⟩
      case round =>
        obtain ⟨i, v, li, k, hi, rfl, hW⟩ := hrel
        by_cases hlt : i < c
        · have hsm : Hid (loadL st (c - i) li (lastE li) (l.drop k) = R) := hW.out.same
          have CALL := hide (readEntry_any wr b rb ⟨st, li, lastE li⟩ v l k hW.out.at0 hW.out.rd hW.out.srt rfl)
          dsimp only at CALL
          obtain ⟨F3, hF3⟩ : ∃ F3, Hid (entE st li (lastE li) (l.drop k) = F3) := ⟨_, rfl⟩
          rw [hF3.out] at CALL
          have hstep : Hid ((if F3 ≠ 0 then (F3, [], []) else loadL st (c - (i + 1)) (li ++ [entV (lastE li) (l.drop k)]) (entV (lastE li) (l.drop k)) (nx (nx (l.drop k)))) = R) := by
            show _ = _
            have := hsm.out
            rw [show c - i = (c - (i + 1)) + 1 by omega, loadL, hF3.out] at this
            exact this
          go_wp2_with fail
          refine CALL.out.mono ?_
          rintro e w5 ⟨rfl, b5, r5⟩
          have B5 : Hid (But (fun j => j = rb) w w5) := by
            refine ⟨b5.os.trans hW.out.bel.os, b5.tape.trans hW.out.bel.tape, b5.output.trans hW.out.bel.output, Nat.le_trans hW.out.bel.size b5.size, fun j hj hne => ?_⟩
            rw [b5.block j (Nat.lt_of_lt_of_le hj hW.out.bel.size) ?_]
            · exact hW.out.bel.block j hj hne
            · rintro (e | e | e)
              · exact hne e
              · have := hW.out.lo; omega
              · have := hW.out.own j e; omega
          replace b5 := hide b5
          by_cases hz : ¬ F3 = 0
          · have hb0 : (F3 == 0) = false := by simpa using hz
            rw [if_pos hz] at hstep
            have hE2 : Hid (readF l = (F3, zX)) := by show _ = _; rw [hE.out, ← hstep.out, if_pos hz]
            clear r5 CALL
            go_wp2_with fail
            go_ret2
            rw [hE2.out]
            exact ⟨_, rfl, .inl ⟨hz, rfl⟩, B5.out⟩
          · replace hz := Classical.not_not.1 hz
            subst hz
            rw [if_neg (by simp)] at hstep
            obtain ⟨v', A5, O5, k', R5, hd5⟩ := r5 rfl
            have W5 : Hid (Rdg w b rb l st c R (i + 1) w5 v' (li ++ [entV (lastE li) (l.drop k)]) k') :=
              ⟨by rw [lastE_snoc]; exact A5, R5, ent_ok hW.out.srt hF3.out, by rw [lastE_snoc, hd5]; exact hstep.out, B5.out, hW.out.lo, fun j hj => by
                rcases O5 j hj with h | h
                · exact hW.out.own j h
                · exact Nat.le_trans hW.out.bel.size h⟩
            clear A5 O5 R5 hd5 CALL
            go_wp2_with fail
            go_roundw
            case rel => exact ⟨i + 1, v', _, k', by omega, by go_num, W5.out⟩
            case measure => simp [intOf]; omega
        · obtain rfl : i = c := by omega
          have hsm := hW.out.same
          rw [Nat.sub_self, loadL] at hsm
          have hk := hW.out.rd
          have hkl : k ≤ l.length := by obtain ⟨_, _, _, h, _⟩ := hk; exact h
          have hll : l.length ≤ 140737488355328 := by obtain ⟨_, _, _, _, h⟩ := hk; exact h
          replace hsm := hide hsm
          have CALL := hide (left_any wr rb l k 0 hk)
          clear hk
          obtain ⟨LL, hLL⟩ : ∃ LL, Hid (l.length = LL) := ⟨_, rfl⟩
          rw [hLL.out] at CALL hkl hll
          go_wp2_with fail
          refine CALL.out.mono ?_
          rintro e w5 ⟨rfl, q5⟩
          have B5 := hide (hW.out.bel.trans (But.of_below (q5.below _) _))
          have A5 := hide (hW.out.at0.below (q5.below _))
          clear q5
          by_cases hz : (0 : Int) < (LL : Int) - (k : Int)
          · have hE2 : Hid (readF l = (4, zX)) := by
              show _ = _
              rw [hE.out, ← hsm.out, if_neg (by simp), if_pos]
              intro c
              have := congrArg List.length c
              rw [List.length_drop, hLL.out] at this
              simp at this
              omega
            go_wp2_with fail
            go_ret2
            rw [hE2.out]
            exact ⟨_, rfl, .inl ⟨by simp, rfl⟩, B5.out⟩
          · have hE2 : Hid (readF l = (0, ⟨st, li, lastE li⟩)) := by
              show _ = _
              rw [hE.out, ← hsm.out, if_neg (by simp), if_neg]
              refine fun c => c ?_
              rw [List.drop_eq_nil_iff, hLL.out]
              omega
            go_wp2_with fail
            go_ret2
            rw [hE2.out]
            exact ⟨_, rfl, .inr ⟨rfl, b, v, rfl, hW.out.lo, A5.out, hW.out.own⟩, B5.out⟩
#print axioms read_any
end Go.Proofs.Ytoffahbnffhliaa.Ix
