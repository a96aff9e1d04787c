/-
  What flumelaw1's Bytes.Keep does with lists that are kept.
-/
import Derived.Test.YtebhkdaefjmbnaaGen
import Derived.Deep.RegionLaw
import Derived.Deep.AppendLies
namespace Go.Proofs.Ytebhkdaefjmbnaa
open Go.RowKit
set_option linter.unusedVariables false

theorem own_slice {w : World} {base e n : Nat} {v : Value} {xs : List Value} (ho : w.ownsRow base e 1 v n xs) : ∃ ao ca, v = .slice ao n ca := by
  obtain ⟨h1, h2⟩ := ho
  rcases h2 with ⟨rfl, rfl⟩ | ⟨g, cap, cur, rfl, _⟩
  · exact ⟨_, _, rfl⟩
  · exact ⟨_, _, rfl⟩
/-- A list that may be kept: block, length, capacity. -/
def itv (t : Nat × Nat × Nat) : Value := .slice (some ⟨t.1, 0, none⟩) t.2.1 t.2.2
def itvs (l : List (Nat × Nat × Nat)) : List Value := l.map itv
def slv : Option (Nat × Nat × Nat) → Value
  | none => .slice none 0 0
  | some t => itv t
def somes : List (Option (Nat × Nat × Nat)) → List (Nat × Nat × Nat)
  | [] => []
  | none :: r => somes r
  | some t :: r => t :: somes r

theorem somes_append (a b : List (Option (Nat × Nat × Nat))) : somes (a ++ b) = somes a ++ somes b := by
  induction a with
  | nil => rfl
  | cons x r ih => cases x <;> simp [somes, ih]
/-- At block kb lies a Bytes that holds its, of so many bytes. -/
def Kept (w : World) (base kb : Nat) (its : List (Nat × Nat × Nat)) (size : Nat) : Prop :=
  ∃ vl, w.heap[kb]? = some (.cells #[vl, .int .i64 (size : Int)] 38 (0, 0)) ∧ w.ownsRow base 22 1 vl its.length (itvs its) ∧ its.length ≤ size ∧ size ≤ 4194304

theorem Try.infoSl : (Try.prog.info? 22).map (fun i => (i.zero, i.size, i.bytes)) = some (some (.slice none 0 0), 1, 24) := by kernel_rfl

/-- How far a list is grown. -/
def room (n c : Nat) : Nat := min c (n + 5000)

set_option maxHeartbeats 400000 in
theorem room_any (w : World) (n c : Nat) (hn : n ≤ 281474976710656) (hc : c ≤ 9223372036854775807) : Calls Try.prog 22 #[.int .i64 (n : Int), .int .i64 (c : Int)] w fun e w' => e = .returned (.int .i64 (room n c : Int)) ∧ w' = w := by
  unfold room
  by_cases h : c ≤ n + 5000
  · rw [Nat.min_eq_left h]
    go_enter Try.func22, Try.ntmps22
    go_wp2
    go_ret
    exact ⟨rfl, rfl⟩
  · rw [Nat.min_eq_right (by omega)]
    go_enter Try.func22, Try.ntmps22
    go_wp2
    go_ret
    exact ⟨ret_int (by omega), rfl⟩

/-- Behind a Keep: blocks below base, and those above it that are neither kb nor rows of slices, are as they were. -/
structure FrK (base kb : Nat) (w w' : World) : Prop where
  os : w'.os = w.os
  tape : w'.tape = w.tape
  output : w'.output = w.output
  size : w.heap.size ≤ w'.heap.size
  block : ∀ k, k < w.heap.size → k ≠ kb → (k < base ∨ ∀ cur fr, w.heap[k]? ≠ some (.cells cur 22 fr)) → w'.heap[k]? = w.heap[k]?
theorem FrK.refl (base kb : Nat) (w : World) : FrK base kb w w := ⟨rfl, rfl, rfl, Nat.le_refl _, fun _ _ _ _ => rfl⟩
theorem FrK.trans {base kb : Nat} {u v w : World} (h : FrK base kb u v) (g : FrK base kb v w) : FrK base kb u w := by
  refine ⟨g.os.trans h.os, g.tape.trans h.tape, g.output.trans h.output, Nat.le_trans h.size g.size, fun k hk h1 h2 => ?_⟩
  have e := h.block k hk h1 h2
  rw [g.block k (Nat.lt_of_lt_of_le hk h.size) h1 (by rw [e]; exact h2), e]
theorem FrK.of_below {base kb : Nat} {w w' : World} (h : Below w.heap.size w w') : FrK base kb w w' := ⟨h.os, h.tape, h.output, h.size, fun k hk _ _ => h.block k hk⟩
theorem FrK.of_set (base kb : Nat) (w : World) (o : Nat) (u : Value) : FrK base kb w (w.setCell ⟨kb, o, none⟩ u) :=
  ⟨rfl, rfl, rfl, by simp, fun k _ h1 _ => heap_setCell_other w ⟨kb, o, none⟩ k u (by simpa using h1)⟩
theorem FrK.of_grown {base kb : Nat} {w w' : World} {vl : Value} {n : Nat} {xs : List Value} (ho : w.ownsRow base 22 1 vl n xs) (hg : w.grownBy w' vl.ownBlock) : FrK base kb w w' := by
  refine ⟨hg.os, hg.tape, hg.output, hg.size, fun k hk _ h2 => hg.block k hk ?_⟩
  intro e
  have hl := ho.lt k e.symm
  rcases h2 with h2 | h2
  · omega
  · obtain ⟨_, p⟩ := ho
    rcases p with ⟨rfl, _⟩ | ⟨g, cap, cur, rfl, _, hh, _⟩
    · simp [Value.ownBlock] at e
    · simp [Value.ownBlock] at e
      subst e
      exact h2 _ _ hh

theorem kept_cells {w : World} {base kb : Nat} {its : List (Nat × Nat × Nat)} {size : Nat} (h : Kept w base kb its size) : ∃ vl, w.cell? ⟨kb, 0, none⟩ = some vl ∧ w.cell? ⟨kb, 1, none⟩ = some (.int .i64 (size : Int)) ∧ w.frozen? ⟨kb, 0, none⟩ = false ∧ w.frozen? ⟨kb, 1, none⟩ = false ∧
    w.ownsRow base 22 1 vl its.length (itvs its) ∧ vl.ownBlock ≠ some kb ∧ its.length ≤ size ∧ size ≤ 4194304 := by
  obtain ⟨vl, hk, ho, h1, h2⟩ := h
  refine ⟨vl, by simp [World.cell?, hk], by simp [World.cell?, hk], by simp [World.frozen?, hk], by simp [World.frozen?, hk], ho, ?_, h1, h2⟩
  obtain ⟨_, p⟩ := ho
  rcases p with ⟨rfl, _⟩ | ⟨g, cap, cur, rfl, _, hh, _⟩
  · simp [Value.ownBlock]
  · intro e
    simp [Value.ownBlock] at e
    subst e
    rw [hk] at hh
    simp at hh

theorem kb_after {w2 W w3 : World} {kb : Nat} {X : Obj} {row : Option Nat} (hb : Below w2.heap.size w2 W) (hk : w2.heap[kb]? = some X) (hg : W.grownBy w3 row) (hne : row ≠ some kb) : w3.heap[kb]? = some X := by
  have hl := heap_lt hk
  rw [hg.block kb (by have := hb.size; omega) (fun e => hne e.symm), hb.block kb hl]; exact hk
theorem own28_ne {w : World} {base kb g m cap : Nat} {xs : List Value} {x y : Value} (ho : w.ownsRow base 22 1 (.slice (some ⟨g, 0, none⟩) m cap) m xs) (hk : w.heap[kb]? = some (.cells #[x, y] 38 (0, 0))) : Value.ownBlock (.slice (some ⟨g, 0, none⟩) m cap) ≠ some kb := by
  intro e
  simp [Value.ownBlock] at e
  subst e
  obtain ⟨_, p⟩ := ho
  rcases p with ⟨h, _⟩ | ⟨g', c', cur, h, _, hh, _⟩
  · simp at h
  · simp only [Value.slice.injEq, Option.some.injEq, Addr.mk.injEq, and_true, true_and] at h
    obtain ⟨rfl, _⟩ := h
    rw [hk] at hh
    simp at hh
/-- One list kept: the size raised, the list behind the others. -/
theorem Kept.add {w w1 : World} {base kb : Nat} {its : List (Nat × Nat × Nat)} {size n : Nat} {vl v1 : Value} {t : Nat × Nat × Nat} (hk : w.heap[kb]? = some (.cells #[vl, .int .i64 ((size + n : Nat) : Int)] 38 (0, 0)))
    (hw1 : w1.heap[kb]? = w.heap[kb]?) (ho : w1.ownsRow base 22 1 v1 (its.length + 1) (itvs its ++ [itv t])) (hv : v1.ownBlock ≠ some kb) (hn : 1 ≤ n) (h1 : its.length ≤ size) (h2 : size + n ≤ 4194304) : Kept (w1.setCell ⟨kb, 0, none⟩ v1) base kb (its ++ [t]) (size + n) := by
  rw [hk] at hw1
  refine ⟨v1, ?_, ?_, by simp; omega, h2⟩
  · rw [heap_setCell_same w1 kb 0 _ _ _ hw1]; simp
  · have := ownsRow_setCell_other ho hv (a := ⟨kb, 0, none⟩) v1
    simpa [itvs] using this

set_option maxRecDepth 100000 in
set_option maxHeartbeats 2000000 in
theorem keep_any (w : World) (base kb lb cc : Nat) (its : List (Nat × Nat × Nat)) (size : Nat) (ts : List (Option (Nat × Nat × Nat))) (hk : Kept w base kb its size) (hbase : base ≤ kb) (hlb : ∀ i (h : i < ts.length), w.cell? ⟨lb, i, none⟩ = some (slv ts[i]))
    (hts : ∀ t, some t ∈ ts → t.2.1 ≤ 281474976710656 ∧ t.2.2 ≤ maxLen) (hlk : lb ≠ kb) (hlen : ts.length ≤ 1000)
    (hdis : ∀ vl, w.cell? ⟨kb, 0, none⟩ = some vl → vl.ownBlock ≠ some lb) :
    Calls Try.prog 10 #[.pointer (some ⟨kb, 0, none⟩), .slice (some ⟨lb, 0, none⟩) ts.length cc] w fun e w' => e = .returned (.tuple #[]) ∧ ∃ its' size', Kept w' base kb its' size' ∧ its'.Sublist (its ++ somes ts) ∧ FrK base kb w w' := by
  go_enter Try.func10, Try.ntmps10
  go_wp2
  go_loopw [4] (fun i wr => ∃ (k : Nat) (its' : List (Nat × Nat × Nat)) (size' : Nat), k ≤ ts.length ∧ i = .int .i64 k ∧ Kept wr base kb its' size' ∧ its'.Sublist (its ++ somes (ts.take k)) ∧ FrK base kb w wr ∧ Hid (∀ i (h : i < ts.length), wr.cell? ⟨lb, i, none⟩ = some (slv ts[i])) ∧ Hid (∀ vl, wr.cell? ⟨kb, 0, none⟩ = some vl → vl.ownBlock ≠ some lb)) (fun i _ => ts.length - (intOf i).toNat)
  case atStart => exact ⟨0, its, size, Nat.zero_le _, rfl, hk, by simp [somes], FrK.refl _ _ _, hlb, hdis⟩
  case round =>
    clear hk hlb hdis
    obtain ⟨k, its', size', hk, rfl, hK, hsub, hfr, hlb, hdis⟩ := hrel
    by_cases hlt : k < ts.length
    · have c1 := hlb.out k hlt
      cases htk : ts[k] with
      | none =>
        rw [htk] at c1
        have c1' : wr.cell? ⟨lb, k, none⟩ = some (.slice none 0 0) := c1
        have HT : Hid (somes (ts.take (k + 1)) = somes (ts.take k)) := by show _ = _; rw [List.take_succ_eq_append_getElem hlt, htk, somes_append]; simp [somes]
        clear c1 htk
        have hrm : ∀ u : World, Calls Try.prog 22 #[.int .i64 0, .int .i64 0] u fun e w' => e = .returned (.int .i64 0) ∧ w' = u := fun u => room_any u 0 0 (by decide) (by decide)
        have HRM : Hid (∀ u : World, Calls Try.prog 22 #[.int .i64 0, .int .i64 0] u fun e w' => e = .returned (.int .i64 0) ∧ w' = u) := hrm
        clear hrm
        go_wp2
        go_quiet ((go_at_call 22; exact Calls.quiet_of_same (HRM.out _)))
        go_wp2
        go_roundw
        case rel => exact ⟨k + 1, its', size', by omega, by go_num, hK, by rw [HT.out]; exact hsub, hfr.trans (FrK.of_below (Qt.below ⟨_, rfl⟩ _)), hlb, hdis⟩
        case measure => simp [intOf]; omega
      | some t =>
        rw [htk] at c1
        obtain ⟨g, n, c⟩ := t
        have c1' : wr.cell? ⟨lb, k, none⟩ = some (.slice (some ⟨g, 0, none⟩) n c) := c1
        have hb := hts (g, n, c) (by rw [← htk]; exact List.getElem_mem hlt)
        have hn0 : n ≤ 281474976710656 := hb.1
        have hc0 : c ≤ 9223372036854775807 := by have := hb.2; unfold maxLen at this; exact this
        have HT : Hid (somes (ts.take (k + 1)) = somes (ts.take k) ++ [(g, n, c)]) := by show _ = _; rw [List.take_succ_eq_append_getElem hlt, htk, somes_append]; simp [somes]
        have HSK : Hid (its'.Sublist (its ++ somes (ts.take (k + 1)))) := by
          show List.Sublist _ _
          rw [HT.out, ← List.append_assoc]
          exact hsub.trans (List.sublist_append_left _ _)
        have HRM : Hid (∀ u : World, Calls Try.prog 22 #[.int .i64 (n : Int), .int .i64 (c : Int)] u fun e w' => e = .returned (.int .i64 (room n c : Int)) ∧ w' = u) := fun u => room_any u n c hn0 hc0
        have hrl : room n c ≤ 281474976715656 := by unfold room; omega
        clear c1 htk hb
        obtain ⟨vl, k0, k1, f0, f1, ho, hvk, hsz, hmax⟩ := kept_cells hK
        generalize hr : room n c = r at *
        clear hr
        by_cases hr0 : r = 0
        · subst hr0
          go_wp2
          go_quiet ((go_at_call 22; exact Calls.quiet_of_same (HRM.out _)))
          go_wp2
          go_roundw
          case rel => exact ⟨k + 1, its', size', by omega, by go_num, hK, HSK.out, hfr.trans (FrK.of_below (Qt.below ⟨_, rfl⟩ _)), hlb, hdis⟩
          case measure => simp [intOf]; omega
        · have q0 : (((r : Nat) : Int) == 0) = false := by simp; omega
          by_cases hbig : 4194304 < size' + r
          · have q1 : (4194304 : Int) < (size' : Int) + (r : Int) := by omega
            go_wp2
            go_quiet ((go_at_call 22; exact Calls.quiet_of_same (HRM.out _)))
            go_wp2
            go_roundw
            case rel => exact ⟨k + 1, its', size', by omega, by go_num, hK, HSK.out, hfr.trans (FrK.of_below (Qt.below ⟨_, rfl⟩ _)), hlb, hdis⟩
            case measure => simp [intOf]; omega
          · go_wp2
            go_quiet ((go_at_call 22; exact Calls.quiet_of_same (HRM.out _)))
            go_wp2
            have e2 : ((size' : Int) + (r : Int)) = ((size' + r : Nat) : Int) := by omega
            rw [e2]
            obtain ⟨w2, hw2⟩ : ∃ w2, w2 = (wr.drewN nq).setCell ⟨kb, 1, none⟩ (.int .i64 ((size' + r : Nat) : Int)) := ⟨_, rfl⟩
            have hk2 : w2.heap[kb]? = some (.cells #[vl, .int .i64 ((size' + r : Nat) : Int)] 38 (0, 0)) := by
              obtain ⟨vl', hk', _⟩ := hK
              have : vl' = vl := by simp [World.cell?, hk'] at k0; exact k0
              subst this
              rw [hw2, heap_setCell_same (wr.drewN nq) kb 1 _ _ _ hk']; simp
            have ho2 : w2.ownsRow base 22 1 vl its'.length (itvs its') := by rw [hw2]; exact ownsRow_setCell_other ho (by simpa using hvk) _
            have fr2 : FrK base kb wr w2 := by rw [hw2]; exact (FrK.of_below (Qt.below ⟨_, rfl⟩ _)).trans (FrK.of_set _ _ _ _ _)
            have lb2 : ∀ i (h : i < ts.length), w2.cell? ⟨lb, i, none⟩ = some (slv ts[i]) := by
              intro i hi
              rw [hw2, World.cell?_of_block (w := wr.drewN nq) (heap_setCell_other _ ⟨kb, 1, none⟩ lb _ hlk)]
              exact hlb.out i hi
            have c2 : w2.cell? ⟨lb, k, none⟩ = some (.slice (some ⟨g, 0, none⟩) n c) := by
              rw [hw2, World.cell?_of_block (w := wr.drewN nq) (heap_setCell_other _ ⟨kb, 1, none⟩ lb _ hlk)]; exact c1'
            have k02 : w2.cell? ⟨kb, 0, none⟩ = some vl := by simp [World.cell?, hk2]
            have hbz : base ≤ w2.heap.size := by have := heap_lt hk2; omega
            have hvl : vl.ownBlock ≠ some lb := hdis.out vl k0
            have LB2 : Hid (∀ i (h : i < ts.length), w2.cell? ⟨lb, i, none⟩ = some (slv ts[i])) := lb2
            rw [← hw2]
            obtain ⟨i0, hi, hz0, hz1, hz2⟩ := info_parts Try.infoSl
            obtain ⟨ao, ca, rfl⟩ := own_slice ho2
            clear hw2 lb2 e2 hlb hdis k0 k1 f0 f1 ho hK c1' HRM
            have hlbl : lb < w2.heap.size := lt_of_cell c2
            have hkbl : kb < w2.heap.size := lt_of_cell k02
            go_region_law (first | (refine step_append_lies _ rfl (.tmp 47) (.tmp 52) 36 rfl base 22 i0 (.slice none 0 0) 1 24 Try.underlying36 hi hz0 hz1 hz2 rfl (by decide) (.slice ao its'.length ca) its'.length (itvs its') (by simp [Act.eval]) (ho2.alloc _) ⟨w2.heap.size, 0, none⟩ 1 1 [.slice (some ⟨g, 0, none⟩) n c] (by simp [Act.eval]) rfl (cell_one_new _ _ _) (by simp [Value.oneCell']) (by decide) (by unfold maxLen; omega) (by omega) (by simp; omega) (w2.heap.size + 1) (by simp) ?_; intro g2 cap2 w3 hown3 hgrow3 hat hlt3; have kk3 := kb_after (w2 := w2) (by first | exact (box_below w2 _).drew | exact (box_below w2.drew _)) hk2 hgrow3 hvk; have cc3 : w3.cell? ⟨kb, 0, none⟩ = some (.slice ao its'.length ca) := (by simp [World.cell?, kk3]); have ff3 : w3.frozen? ⟨kb, 0, none⟩ = false := (by simp [World.frozen?, kk3])))
            all_goals
              have hg2k : Value.ownBlock (.slice (some ⟨g2, 0, none⟩) (its'.length + 1) cap2) ≠ some kb := own28_ne hown3 kk3
              have hg2l : g2 ≠ lb := by
                rcases hat with h | h
                · intro e; exact hvl (by rw [h, e])
                · omega
              have hKK := Kept.add (t := (g, n, c)) hk2 (kk3.trans hk2.symm) hown3 hg2k (by omega) hsz (by omega)
              have hFF := (fr2.trans (FrK.of_below (by first | exact (box_below w2 _).drew | exact (box_below w2.drew _)))).trans ((FrK.of_grown (by exact ho2.alloc _) hgrow3).trans (FrK.of_set base kb w3 0 (.slice (some ⟨g2, 0, none⟩) (its'.length + 1) cap2)))
              have hLL : ∀ i (h : i < ts.length), (w3.setCell ⟨kb, 0, none⟩ (.slice (some ⟨g2, 0, none⟩) (its'.length + 1) cap2)).cell? ⟨lb, i, none⟩ = some (slv ts[i]) := by
                intro i hi
                rw [World.cell?_of_block (w := w3) (heap_setCell_other _ ⟨kb, 0, none⟩ lb _ hlk)]
                refine hgrow3.cell (a := ⟨lb, i, none⟩) ?_ (fun e => hvl e.symm)
                exact ((box_below w2 (.cells #[.slice (some ⟨g, 0, none⟩) n c] 22)).cell (p := ⟨lb, i, none⟩) hlbl).trans (LB2.out i hi)
              have hDD : ∀ vl, (w3.setCell ⟨kb, 0, none⟩ (.slice (some ⟨g2, 0, none⟩) (its'.length + 1) cap2)).cell? ⟨kb, 0, none⟩ = some vl → vl.ownBlock ≠ some lb := by
                intro vl' hv'
                rw [World.cell?_setCell_same _ _ _ cc3] at hv'
                simp only [Option.some.injEq] at hv'
                subst hv'
                simpa [Value.ownBlock] using hg2l
              have HSS : Hid ((its' ++ [(g, n, c)]).Sublist (its ++ somes (ts.take (k + 1)))) := by
                show List.Sublist _ _
                rw [HT.out, ← List.append_assoc]
                exact hsub.append (List.Sublist.refl _)
              have HLL : Hid _ := hLL
              have HDD : Hid _ := hDD
              clear hLL hDD hown3 hgrow3 hat hlt3 kk3 cc3 ff3
              go_wp2
              go_roundw
              case rel => exact ⟨k + 1, its' ++ [(g, n, c)], size' + r, by omega, by go_num, hKK, HSS.out, hfr.trans hFF, HLL.out, HDD.out⟩
              case measure => simp [intOf]; omega
    · have HE : Hid (ts.take k = ts) := List.take_of_length_le (by omega)
      rw [HE.out] at hsub
      go_wp2
      go_end0
      exact ⟨rfl, its', size', hK, hsub, hfr⟩
end Go.Proofs.Ytebhkdaefjmbnaa
