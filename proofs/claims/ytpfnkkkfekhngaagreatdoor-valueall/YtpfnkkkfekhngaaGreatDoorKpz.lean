/-
  What flumelaw1's Bytes.Keep does with lists that are kept.
-/
import Derived.Test.YtpfnkkkfekhngaaGreatDoorGen
import Derived.Deep.RegionLaw
import Derived.Deep.AppendLies
import Derived.Deep.MidRow
import Derived.Test.YtpfnkkkfekhngaaGreatDoorYa
namespace Go.Proofs.YtpfnkkkfekhngaaGreatDoor
open Go.RowKit
set_option linter.unusedVariables false

theorem own_slice {w : World} {base e n : Nat} {v : Value} {xs : List Value} (ho : w.ownsRow base e 1 v n xs) : ∃ ao ca, v = .slice ao n ca := by
  obtain ⟨h1, h2⟩ := ho
  rcases h2 with ⟨rfl, rfl⟩ | ⟨g, cap, cur, rfl, _⟩
  · exact ⟨_, _, rfl⟩
  · exact ⟨_, _, rfl⟩
/-- A list that may be kept: block, length, capacity. -/
def itv (t : Nat × Nat × Nat) : Value := .slice (some ⟨t.1, 0, none⟩) t.2.1 t.2.2
def itvs (l : List (Nat × Nat × Nat)) : List Value := l.map itv
def slv : Option (Nat × Nat × Nat) → Value
  | none => .slice none 0 0
  | some t => itv t
def somes : List (Option (Nat × Nat × Nat)) → List (Nat × Nat × Nat)
  | [] => []
  | none :: r => somes r
  | some t :: r => t :: somes r

theorem somes_append (a b : List (Option (Nat × Nat × Nat))) : somes (a ++ b) = somes a ++ somes b := by
  induction a with
  | nil => rfl
  | cons x r ih => cases x <;> simp [somes, ih]
/-- At block kb lies a Bytes that holds its, of so many bytes. -/
def Kept (w : World) (base kb : Nat) (its : List (Nat × Nat × Nat)) (size : Nat) : Prop :=
  ∃ vl, w.heap[kb]? = some (.cells #[vl, .int .i64 (size : Int)] 31 (0, 0)) ∧ w.ownsRow base 40 1 vl its.length (itvs its) ∧ its.length ≤ size ∧ size ≤ 4194304

theorem Tryz.infoSl : (Tryz.prog.info? 40).map (fun i => (i.zero, i.size, i.bytes)) = some (some (.slice none 0 0), 1, 24) := by kernel_rfl

/-- How far a list is grown. -/
def room (n c : Nat) : Nat := min c (n + 5000)

set_option maxHeartbeats 400000 in
theorem room_any (w : World) (n c : Nat) (hn : n ≤ 281474976710656) (hc : c ≤ 9223372036854775807) : Calls Tryz.prog 37 #[.int .i64 (n : Int), .int .i64 (c : Int)] w fun e w' => e = .returned (.int .i64 (room n c : Int)) ∧ w' = w := by
  unfold room
  by_cases h : c ≤ n + 5000
  · rw [Nat.min_eq_left h]
    go_enter Tryz.func37, Tryz.ntmps37
    go_wp2
    go_ret
    exact ⟨rfl, rfl⟩
  · rw [Nat.min_eq_right (by omega)]
    go_enter Tryz.func37, Tryz.ntmps37
    go_wp2
    go_ret
    exact ⟨ret_int (by omega), rfl⟩

/-- Behind a Keep: blocks below base, and those above it that are neither kb nor rows of slices, are as they were. -/
structure FrK (base kb : Nat) (w w' : World) : Prop where
  os : w'.os = w.os
  tape : w'.tape = w.tape
  output : w'.output = w.output
  size : w.heap.size ≤ w'.heap.size
  block : ∀ k, k < w.heap.size → k ≠ kb → (k < base ∨ ∀ cur fr, w.heap[k]? ≠ some (.cells cur 40 fr)) → w'.heap[k]? = w.heap[k]?
theorem FrK.refl (base kb : Nat) (w : World) : FrK base kb w w := ⟨rfl, rfl, rfl, Nat.le_refl _, fun _ _ _ _ => rfl⟩
theorem FrK.trans {base kb : Nat} {u v w : World} (h : FrK base kb u v) (g : FrK base kb v w) : FrK base kb u w := by
  refine ⟨g.os.trans h.os, g.tape.trans h.tape, g.output.trans h.output, Nat.le_trans h.size g.size, fun k hk h1 h2 => ?_⟩
  have e := h.block k hk h1 h2
  rw [g.block k (Nat.lt_of_lt_of_le hk h.size) h1 (by rw [e]; exact h2), e]
theorem FrK.of_below {base kb : Nat} {w w' : World} (h : Below w.heap.size w w') : FrK base kb w w' := ⟨h.os, h.tape, h.output, h.size, fun k hk _ _ => h.block k hk⟩
theorem FrK.of_set (base kb : Nat) (w : World) (o : Nat) (u : Value) : FrK base kb w (w.setCell ⟨kb, o, none⟩ u) :=
  ⟨rfl, rfl, rfl, by simp, fun k _ h1 _ => heap_setCell_other w ⟨kb, o, none⟩ k u (by simpa using h1)⟩
theorem FrK.of_grown {base kb : Nat} {w w' : World} {vl : Value} {n : Nat} {xs : List Value} (ho : w.ownsRow base 40 1 vl n xs) (hg : w.grownBy w' vl.ownBlock) : FrK base kb w w' := by
  refine ⟨hg.os, hg.tape, hg.output, hg.size, fun k hk _ h2 => hg.block k hk ?_⟩
  intro e
  have hl := ho.lt k e.symm
  rcases h2 with h2 | h2
  · omega
  · obtain ⟨_, p⟩ := ho
    rcases p with ⟨rfl, _⟩ | ⟨g, cap, cur, rfl, _, hh, _⟩
    · simp [Value.ownBlock] at e
    · simp [Value.ownBlock] at e
      subst e
      exact h2 _ _ hh

theorem kept_cells {w : World} {base kb : Nat} {its : List (Nat × Nat × Nat)} {size : Nat} (h : Kept w base kb its size) : ∃ vl, w.cell? ⟨kb, 0, none⟩ = some vl ∧ w.cell? ⟨kb, 1, none⟩ = some (.int .i64 (size : Int)) ∧ w.frozen? ⟨kb, 0, none⟩ = false ∧ w.frozen? ⟨kb, 1, none⟩ = false ∧
    w.ownsRow base 40 1 vl its.length (itvs its) ∧ vl.ownBlock ≠ some kb ∧ its.length ≤ size ∧ size ≤ 4194304 := by
  obtain ⟨vl, hk, ho, h1, h2⟩ := h
  refine ⟨vl, by simp [World.cell?, hk], by simp [World.cell?, hk], by simp [World.frozen?, hk], by simp [World.frozen?, hk], ho, ?_, h1, h2⟩
  obtain ⟨_, p⟩ := ho
  rcases p with ⟨rfl, _⟩ | ⟨g, cap, cur, rfl, _, hh, _⟩
  · simp [Value.ownBlock]
  · intro e
    simp [Value.ownBlock] at e
    subst e
    rw [hk] at hh
    simp at hh

theorem kb_after {w2 W w3 : World} {kb : Nat} {X : Obj} {row : Option Nat} (hb : Below w2.heap.size w2 W) (hk : w2.heap[kb]? = some X) (hg : W.grownBy w3 row) (hne : row ≠ some kb) : w3.heap[kb]? = some X := by
  have hl := heap_lt hk
  rw [hg.block kb (by have := hb.size; omega) (fun e => hne e.symm), hb.block kb hl]; exact hk
theorem own28_ne {w : World} {base kb g m cap : Nat} {xs : List Value} {x y : Value} (ho : w.ownsRow base 40 1 (.slice (some ⟨g, 0, none⟩) m cap) m xs) (hk : w.heap[kb]? = some (.cells #[x, y] 31 (0, 0))) : Value.ownBlock (.slice (some ⟨g, 0, none⟩) m cap) ≠ some kb := by
  intro e
  simp [Value.ownBlock] at e
  subst e
  obtain ⟨_, p⟩ := ho
  rcases p with ⟨h, _⟩ | ⟨g', c', cur, h, _, hh, _⟩
  · simp at h
  · simp only [Value.slice.injEq, Option.some.injEq, Addr.mk.injEq, and_true, true_and] at h
    obtain ⟨rfl, _⟩ := h
    rw [hk] at hh
    simp at hh
/-- One list kept: the size raised, the list behind the others. -/
theorem Kept.add {w w1 : World} {base kb : Nat} {its : List (Nat × Nat × Nat)} {size n : Nat} {vl v1 : Value} {t : Nat × Nat × Nat} (hk : w.heap[kb]? = some (.cells #[vl, .int .i64 ((size + n : Nat) : Int)] 31 (0, 0)))
    (hw1 : w1.heap[kb]? = w.heap[kb]?) (ho : w1.ownsRow base 40 1 v1 (its.length + 1) (itvs its ++ [itv t])) (hv : v1.ownBlock ≠ some kb) (hn : 1 ≤ n) (h1 : its.length ≤ size) (h2 : size + n ≤ 4194304) : Kept (w1.setCell ⟨kb, 0, none⟩ v1) base kb (its ++ [t]) (size + n) := by
  rw [hk] at hw1
  refine ⟨v1, ?_, ?_, by simp; omega, h2⟩
  · rw [heap_setCell_same w1 kb 0 _ _ _ hw1]; simp
  · have := ownsRow_setCell_other ho hv (a := ⟨kb, 0, none⟩) v1
    simpa [itvs] using this

set_option maxRecDepth 100000 in
set_option maxHeartbeats 2000000 in
theorem keep_any (w : World) (base kb lb cc : Nat) (its : List (Nat × Nat × Nat)) (size : Nat) (ts : List (Option (Nat × Nat × Nat))) (hk : Kept w base kb its size) (hbase : base ≤ kb) (hlb : ∀ i (h : i < ts.length), w.cell? ⟨lb, i, none⟩ = some (slv ts[i]))
    (hts : ∀ t, some t ∈ ts → t.2.1 ≤ 281474976710656 ∧ t.2.2 ≤ maxLen) (hlk : lb ≠ kb) (hlen : ts.length ≤ 1000)
    (hdis : ∀ vl, w.cell? ⟨kb, 0, none⟩ = some vl → vl.ownBlock ≠ some lb) :
    Calls Tryz.prog 20 #[.pointer (some ⟨kb, 0, none⟩), .slice (some ⟨lb, 0, none⟩) ts.length cc] w fun e w' => e = .returned (.tuple #[]) ∧ ∃ its' size', Kept w' base kb its' size' ∧ its'.Sublist (its ++ somes ts) ∧ FrK base kb w w' := by
  go_enter Tryz.func20, Tryz.ntmps20
  go_wp2
  go_loopw [4] (fun i wr => ∃ (k : Nat) (its' : List (Nat × Nat × Nat)) (size' : Nat), k ≤ ts.length ∧ i = .int .i64 k ∧ Kept wr base kb its' size' ∧ its'.Sublist (its ++ somes (ts.take k)) ∧ FrK base kb w wr ∧ Hid (∀ i (h : i < ts.length), wr.cell? ⟨lb, i, none⟩ = some (slv ts[i])) ∧ Hid (∀ vl, wr.cell? ⟨kb, 0, none⟩ = some vl → vl.ownBlock ≠ some lb)) (fun i _ => ts.length - (intOf i).toNat)
  case atStart => exact ⟨0, its, size, Nat.zero_le _, rfl, hk, by simp [somes], FrK.refl _ _ _, hlb, hdis⟩
  case round =>
    clear hk hlb hdis
    obtain ⟨k, its', size', hk, rfl, hK, hsub, hfr, hlb, hdis⟩ := hrel
    by_cases hlt : k < ts.length
    · have c1 := hlb.out k hlt
      cases htk : ts[k] with
      | none =>
        rw [htk] at c1
        have c1' : wr.cell? ⟨lb, k, none⟩ = some (.slice none 0 0) := c1
        have HT : Hid (somes (ts.take (k + 1)) = somes (ts.take k)) := by show _ = _; rw [List.take_succ_eq_append_getElem hlt, htk, somes_append]; simp [somes]
        clear c1 htk
        have hrm : ∀ u : World, Calls Tryz.prog 37 #[.int .i64 0, .int .i64 0] u fun e w' => e = .returned (.int .i64 0) ∧ w' = u := fun u => room_any u 0 0 (by decide) (by decide)
        have HRM : Hid (∀ u : World, Calls Tryz.prog 37 #[.int .i64 0, .int .i64 0] u fun e w' => e = .returned (.int .i64 0) ∧ w' = u) := hrm
        clear hrm
        go_wp2
        go_quiet ((go_at_call 37; exact Calls.quiet_of_same (HRM.out _)))
        go_wp2
        go_roundw
        case rel => exact ⟨k + 1, its', size', by omega, by go_num, hK, by rw [HT.out]; exact hsub, hfr.trans (FrK.of_below (Qt.below ⟨_, rfl⟩ _)), hlb, hdis⟩
        case measure => simp [intOf]; omega
      | some t =>
        rw [htk] at c1
        obtain ⟨g, n, c⟩ := t
        have c1' : wr.cell? ⟨lb, k, none⟩ = some (.slice (some ⟨g, 0, none⟩) n c) := c1
        have hb := hts (g, n, c) (by rw [← htk]; exact List.getElem_mem hlt)
        have hn0 : n ≤ 281474976710656 := hb.1
        have hc0 : c ≤ 9223372036854775807 := by have := hb.2; unfold maxLen at this; exact this
        have HT : Hid (somes (ts.take (k + 1)) = somes (ts.take k) ++ [(g, n, c)]) := by show _ = _; rw [List.take_succ_eq_append_getElem hlt, htk, somes_append]; simp [somes]
        have HSK : Hid (its'.Sublist (its ++ somes (ts.take (k + 1)))) := by
          show List.Sublist _ _
          rw [HT.out, ← List.append_assoc]
          exact hsub.trans (List.sublist_append_left _ _)
        have HRM : Hid (∀ u : World, Calls Tryz.prog 37 #[.int .i64 (n : Int), .int .i64 (c : Int)] u fun e w' => e = .returned (.int .i64 (room n c : Int)) ∧ w' = u) := fun u => room_any u n c hn0 hc0
        have hrl : room n c ≤ 281474976715656 := by unfold room; omega
        clear c1 htk hb
        obtain ⟨vl, k0, k1, f0, f1, ho, hvk, hsz, hmax⟩ := kept_cells hK
        generalize hr : room n c = r at *
        clear hr
        by_cases hr0 : r = 0
        · subst hr0
          go_wp2
          go_quiet ((go_at_call 37; exact Calls.quiet_of_same (HRM.out _)))
          go_wp2
          go_roundw
          case rel => exact ⟨k + 1, its', size', by omega, by go_num, hK, HSK.out, hfr.trans (FrK.of_below (Qt.below ⟨_, rfl⟩ _)), hlb, hdis⟩
          case measure => simp [intOf]; omega
        · have q0 : (((r : Nat) : Int) == 0) = false := by simp; omega
          by_cases hbig : 4194304 < size' + r
          · have q1 : (4194304 : Int) < (size' : Int) + (r : Int) := by omega
            go_wp2
            go_quiet ((go_at_call 37; exact Calls.quiet_of_same (HRM.out _)))
            go_wp2
            go_roundw
            case rel => exact ⟨k + 1, its', size', by omega, by go_num, hK, HSK.out, hfr.trans (FrK.of_below (Qt.below ⟨_, rfl⟩ _)), hlb, hdis⟩
            case measure => simp [intOf]; omega
          · go_wp2
            go_quiet ((go_at_call 37; exact Calls.quiet_of_same (HRM.out _)))
            go_wp2
            have e2 : ((size' : Int) + (r : Int)) = ((size' + r : Nat) : Int) := by omega
            rw [e2]
            obtain ⟨w2, hw2⟩ : ∃ w2, w2 = (wr.drewN nq).setCell ⟨kb, 1, none⟩ (.int .i64 ((size' + r : Nat) : Int)) := ⟨_, rfl⟩
            have hk2 : w2.heap[kb]? = some (.cells #[vl, .int .i64 ((size' + r : Nat) : Int)] 31 (0, 0)) := by
              obtain ⟨vl', hk', _⟩ := hK
              have : vl' = vl := by simp [World.cell?, hk'] at k0; exact k0
              subst this
              rw [hw2, heap_setCell_same (wr.drewN nq) kb 1 _ _ _ hk']; simp
            have ho2 : w2.ownsRow base 40 1 vl its'.length (itvs its') := by rw [hw2]; exact ownsRow_setCell_other ho (by simpa using hvk) _
            have fr2 : FrK base kb wr w2 := by rw [hw2]; exact (FrK.of_below (Qt.below ⟨_, rfl⟩ _)).trans (FrK.of_set _ _ _ _ _)
            have lb2 : ∀ i (h : i < ts.length), w2.cell? ⟨lb, i, none⟩ = some (slv ts[i]) := by
              intro i hi
              rw [hw2, World.cell?_of_block (w := wr.drewN nq) (heap_setCell_other _ ⟨kb, 1, none⟩ lb _ hlk)]
              exact hlb.out i hi
            have c2 : w2.cell? ⟨lb, k, none⟩ = some (.slice (some ⟨g, 0, none⟩) n c) := by
              rw [hw2, World.cell?_of_block (w := wr.drewN nq) (heap_setCell_other _ ⟨kb, 1, none⟩ lb _ hlk)]; exact c1'
            have k02 : w2.cell? ⟨kb, 0, none⟩ = some vl := by simp [World.cell?, hk2]
            have hbz : base ≤ w2.heap.size := by have := heap_lt hk2; omega
            have hvl : vl.ownBlock ≠ some lb := hdis.out vl k0
            have LB2 : Hid (∀ i (h : i < ts.length), w2.cell? ⟨lb, i, none⟩ = some (slv ts[i])) := lb2
            rw [← hw2]
            obtain ⟨i0, hi, hz0, hz1, hz2⟩ := info_parts Tryz.infoSl
            obtain ⟨ao, ca, rfl⟩ := own_slice ho2
            clear hw2 lb2 e2 hlb hdis k0 k1 f0 f1 ho hK c1' HRM
            have hlbl : lb < w2.heap.size := lt_of_cell c2
            have hkbl : kb < w2.heap.size := lt_of_cell k02
            go_region_law (first | (refine step_append_lies _ rfl (.tmp 47) (.tmp 52) 29 rfl base 40 i0 (.slice none 0 0) 1 24 Tryz.underlying29 hi hz0 hz1 hz2 rfl (by decide) (.slice ao its'.length ca) its'.length (itvs its') (by simp [Act.eval]) (ho2.alloc _) ⟨w2.heap.size, 0, none⟩ 1 1 [.slice (some ⟨g, 0, none⟩) n c] (by simp [Act.eval]) rfl (cell_one_new _ _ _) (by simp [Value.oneCell']) (by decide) (by unfold maxLen; omega) (by omega) (by simp; omega) (w2.heap.size + 1) (by simp) ?_; intro g2 cap2 w3 hown3 hgrow3 hat hlt3; have kk3 := kb_after (w2 := w2) (by first | exact (box_below w2 _).drew | exact (box_below w2.drew _)) hk2 hgrow3 hvk; have cc3 : w3.cell? ⟨kb, 0, none⟩ = some (.slice ao its'.length ca) := (by simp [World.cell?, kk3]); have ff3 : w3.frozen? ⟨kb, 0, none⟩ = false := (by simp [World.frozen?, kk3])))
            all_goals
              have hg2k : Value.ownBlock (.slice (some ⟨g2, 0, none⟩) (its'.length + 1) cap2) ≠ some kb := own28_ne hown3 kk3
              have hg2l : g2 ≠ lb := by
                rcases hat with h | h
                · intro e; exact hvl (by rw [h, e])
                · omega
              have hKK := Kept.add (t := (g, n, c)) hk2 (kk3.trans hk2.symm) hown3 hg2k (by omega) hsz (by omega)
              have hFF := (fr2.trans (FrK.of_below (by first | exact (box_below w2 _).drew | exact (box_below w2.drew _)))).trans ((FrK.of_grown (by exact ho2.alloc _) hgrow3).trans (FrK.of_set base kb w3 0 (.slice (some ⟨g2, 0, none⟩) (its'.length + 1) cap2)))
              have hLL : ∀ i (h : i < ts.length), (w3.setCell ⟨kb, 0, none⟩ (.slice (some ⟨g2, 0, none⟩) (its'.length + 1) cap2)).cell? ⟨lb, i, none⟩ = some (slv ts[i]) := by
                intro i hi
                rw [World.cell?_of_block (w := w3) (heap_setCell_other _ ⟨kb, 0, none⟩ lb _ hlk)]
                refine hgrow3.cell (a := ⟨lb, i, none⟩) ?_ (fun e => hvl e.symm)
                exact ((box_below w2 (.cells #[.slice (some ⟨g, 0, none⟩) n c] 40)).cell (p := ⟨lb, i, none⟩) hlbl).trans (LB2.out i hi)
              have hDD : ∀ vl, (w3.setCell ⟨kb, 0, none⟩ (.slice (some ⟨g2, 0, none⟩) (its'.length + 1) cap2)).cell? ⟨kb, 0, none⟩ = some vl → vl.ownBlock ≠ some lb := by
                intro vl' hv'
                rw [World.cell?_setCell_same _ _ _ cc3] at hv'
                simp only [Option.some.injEq] at hv'
                subst hv'
                simpa [Value.ownBlock] using hg2l
              have HSS : Hid ((its' ++ [(g, n, c)]).Sublist (its ++ somes (ts.take (k + 1)))) := by
                show List.Sublist _ _
                rw [HT.out, ← List.append_assoc]
                exact hsub.append (List.Sublist.refl _)
              have HLL : Hid _ := hLL
              have HDD : Hid _ := hDD
              clear hLL hDD hown3 hgrow3 hat hlt3 kk3 cc3 ff3
              go_wp2
              go_roundw
              case rel => exact ⟨k + 1, its' ++ [(g, n, c)], size' + r, by omega, by go_num, hKK, HSS.out, hfr.trans hFF, HLL.out, HDD.out⟩
              case measure => simp [intOf]; omega
    · have HE : Hid (ts.take k = ts) := List.take_of_length_le (by omega)
      rw [HE.out] at hsub
      go_wp2
      go_end0
      exact ⟨rfl, its', size', hK, hsub, hfr⟩
end Go.Proofs.YtpfnkkkfekhngaaGreatDoor

/-
  Lists of bytes kept one beside the other: that each lies in a block of its own, and what a store into one of them leaves. No function is named here.
-/
namespace Go.Proofs.YtpfnkkkfekhngaaGreatDoor
open Go.RowKit

/-- Block b has n cells that may be written. -/
def Wr (w : World) (b n : Nat) : Prop := ∀ j, j < n → (w.cell? ⟨b, j, none⟩).isSome = true ∧ w.frozen? ⟨b, j, none⟩ = false

def updN (n : Nat → Nat) (i m : Nat) : Nat → Nat := fun j => if j = i then m else n j
theorem updN_same (n : Nat → Nat) (i m : Nat) : updN n i m i = m := by simp [updN]
theorem updN_other (n : Nat → Nat) {i j : Nat} (m : Nat) (h : j ≠ i) : updN n i m j = n j := by simp [updN, h]
theorem updN_updN (n : Nat → Nat) (i m m' : Nat) : updN (updN n i m) i m' = updN n i m' := by
  funext j; unfold updN; split <;> simp_all
theorem updN_self (n : Nat → Nat) (i : Nat) : updN n i (n i) = n := by
  funext j; unfold updN; split
  · subst_vars; rfl
  · rfl

/-- Lists in order: block kb holds their slice; block lb their values; list j lies in block g j, n j long, with room for c j. -/
structure LS (w : World) (kb lb N lcap : Nat) (g c n : Nat → Nat) : Prop where
  top : w.cell? ⟨kb, 0, none⟩ = some (.slice (some ⟨lb, 0, none⟩) N lcap)
  row : ∀ j, j < N → w.cell? ⟨lb, j, none⟩ = some (.slice (some ⟨g j, 0, none⟩) (n j) (c j)) ∧ w.frozen? ⟨lb, j, none⟩ = false
  each : ∀ j, j < N → Wr w (g j) (c j) ∧ n j ≤ c j ∧ g j < w.heap.size
/-- They lie apart from each other. -/
structure DJ (kb lb N base : Nat) (g : Nat → Nat) : Prop where
  lk : lb ≠ kb
  gk : ∀ j, j < N → g j ≠ kb ∧ g j ≠ lb
  gg : ∀ i j, i < N → j < N → i ≠ j → g i ≠ g j
  lbase : base ≤ lb
  gbase : ∀ j, j < N → base ≤ g j

theorem isSome_setCell (w : World) (a x : Addr) (v : Value) (h : (w.cell? x).isSome = true) : ((w.setCell a v).cell? x).isSome = true := by
  obtain ⟨u, hu⟩ := Option.isSome_iff_exists.1 h
  by_cases e : a = x
  · subst e; rw [World.cell?_setCell_same _ _ _ hu]; rfl
  · rw [World.cell?_setCell_other _ _ _ _ e, hu]; rfl
theorem Wr.setCell {w : World} {b n : Nat} (h : Wr w b n) (a : Addr) (v : Value) : Wr (w.setCell a v) b n := fun j hj => ⟨isSome_setCell w a _ v (h j hj).1, by simpa using (h j hj).2⟩
theorem blk_ne {a b i j : Nat} (h : a ≠ b) : (⟨a, i, none⟩ : Addr) ≠ ⟨b, j, none⟩ := fun e => h (congrArg Addr.block e)

theorem LS.drew {w : World} {kb lb N lcap : Nat} {g c n : Nat → Nat} (h : LS w kb lb N lcap g c n) : LS w.drew kb lb N lcap g c n := ⟨h.top, h.row, h.each⟩
theorem LS.drewN {w : World} {kb lb N lcap : Nat} {g c n : Nat → Nat} (h : LS w kb lb N lcap g c n) (k : Nat) : LS (w.drewN k) kb lb N lcap g c n := ⟨h.top, h.row, h.each⟩
theorem LS.below {w w' : World} {kb lb N lcap : Nat} {g c n : Nat → Nat} (h : LS w kb lb N lcap g c n) (hb : Below w.heap.size w w') : LS w' kb lb N lcap g c n := by
  have hk := lt_of_cell h.top
  refine ⟨(hb.cell (p := ⟨kb, 0, none⟩) hk).trans h.top, fun j hj => ?_, fun j hj => ?_⟩
  · have hl := lt_of_cell (h.row j hj).1
    exact ⟨(hb.cell (p := ⟨lb, j, none⟩) hl).trans (h.row j hj).1, (hb.frozen (p := ⟨lb, j, none⟩) hl).trans (h.row j hj).2⟩
  · obtain ⟨e1, e2, e3⟩ := h.each j hj
    refine ⟨fun q hq => ?_, e2, Nat.lt_of_lt_of_le e3 hb.size⟩
    rw [hb.cell (p := ⟨g j, q, none⟩) e3, hb.frozen (p := ⟨g j, q, none⟩) e3]
    exact e1 q hq
/-- A cell of list i is written. -/
theorem LS.mark {w : World} {kb lb N lcap base : Nat} {g c n : Nat → Nat} (h : LS w kb lb N lcap g c n) (d : DJ kb lb N base g) {i : Nat} (hi : i < N) (k : Nat) (v : Value) : LS (w.setCell ⟨g i, k, none⟩ v) kb lb N lcap g c n := by
  refine ⟨?_, fun j hj => ?_, fun j hj => ?_⟩
  · rw [World.cell?_setCell_other _ _ _ _ (blk_ne (d.gk i hi).1)]; exact h.top
  · exact ⟨by rw [World.cell?_setCell_other _ _ _ _ (blk_ne (d.gk i hi).2)]; exact (h.row j hj).1, by simpa using (h.row j hj).2⟩
  · obtain ⟨e1, e2, e3⟩ := h.each j hj
    exact ⟨e1.setCell _ _, e2, by simpa using e3⟩
/-- List i's value is written over by a longer one. -/
theorem LS.len {w : World} {kb lb N lcap base : Nat} {g c n : Nat → Nat} (h : LS w kb lb N lcap g c n) (d : DJ kb lb N base g) {i : Nat} (hi : i < N) (m : Nat) (hm : m ≤ c i) :
    LS (w.setCell ⟨lb, i, none⟩ (.slice (some ⟨g i, 0, none⟩) m (c i))) kb lb N lcap g c (updN n i m) := by
  refine ⟨?_, fun j hj => ⟨?_, by simpa using (h.row j hj).2⟩, fun j hj => ?_⟩
  · rw [World.cell?_setCell_other _ _ _ _ (blk_ne d.lk)]; exact h.top
  · by_cases e : j = i
    · subst e
      rw [World.cell?_setCell_same _ _ _ (h.row j hj).1, updN_same]
    · rw [World.cell?_setCell_other _ _ _ _ (fun x => e (by have := congrArg Addr.off x; simpa using this.symm)), updN_other _ _ e]
      exact (h.row j hj).1
  · obtain ⟨e1, e2, e3⟩ := h.each j hj
    refine ⟨e1.setCell _ _, ?_, by simpa using e3⟩
    by_cases e : j = i
    · subst e; rw [updN_same]; exact hm
    · rw [updN_other _ _ e]; exact e2
/-- The length of the list whose value lies in cell j of block lb. -/
def lenAt (w : World) (lb j : Nat) : Nat := match w.cell? ⟨lb, j, none⟩ with | some (.slice _ n _) => n | _ => 0
theorem LS.lenAt {w : World} {kb lb N lcap : Nat} {g c n : Nat → Nat} (h : LS w kb lb N lcap g c n) {j : Nat} (hj : j < N) : lenAt w lb j = n j := by
  unfold Go.Proofs.YtpfnkkkfekhngaaGreatDoor.lenAt; rw [(h.row j hj).1]
/-- List j holds the mark m, the first k cells. -/
def Mk (w : World) (b k : Nat) (m : Int) : Prop := ∀ q, q < k → w.cell? ⟨b, q, none⟩ = some (.int .u8 m)
theorem Mk.other {w : World} {b k g i : Nat} {m : Int} (h : Mk w b k m) (hne : g ≠ b) (v : Value) : Mk (w.setCell ⟨g, i, none⟩ v) b k m := fun q hq => by
  rw [World.cell?_setCell_other _ _ _ _ (blk_ne hne)]; exact h q hq
theorem Mk.below {w w' : World} {b k : Nat} {m : Int} (h : Mk w b k m) (hb : Below w.heap.size w w') : Mk w' b k m := fun q hq => by
  rw [hb.cell (p := ⟨b, q, none⟩) (lt_of_cell (h q hq))]; exact h q hq
theorem Mk.more {w : World} {b k : Nat} {m : Int} (h : Mk w b k m) (hs : (w.cell? ⟨b, k, none⟩).isSome = true) : Mk (w.setCell ⟨b, k, none⟩ (.int .u8 m)) b (k + 1) m := fun q hq => by
  obtain ⟨u, hu⟩ := Option.isSome_iff_exists.1 hs
  by_cases e : q = k
  · subst e; exact World.cell?_setCell_same _ _ _ hu
  · rw [World.cell?_setCell_other _ _ _ _ (fun x => e (by have := congrArg Addr.off x; simpa using this.symm))]
    exact h q (by omega)
theorem setCells_one (w : World) (b o : Nat) (v : Value) : w.setCells b o [v] = w.setCell ⟨b, o, none⟩ v := by
  rw [World.setCells.eq_def]; simp only; rw [World.setCells.eq_def]
theorem LS.push {w : World} {kb lb N lcap base : Nat} {g c n : Nat → Nat} (h : LS w kb lb N lcap g c n) (d : DJ kb lb N base g) {i : Nat} (hi : i < N) (o : Nat) (v : Value) : LS (w.setCells (g i) o [v]) kb lb N lcap g c n := by
  rw [setCells_one]; exact h.mark d hi o v
theorem Mk.push {w : World} {b k g o : Nat} {m : Int} (h : Mk w b k m) (hne : g ≠ b) (v : Value) : Mk (w.setCells g o [v]) b k m := by
  rw [setCells_one]; exact h.other hne v
theorem below_push {base b o : Nat} {a w : World} (h : Below base a w) (hb : base ≤ b) (v : Value) : Below base a (w.setCells b o [v]) := by
  rw [setCells_one]; exact h.setCell hb v
/-- Nothing below base has turned, and no record of deferred calls. -/
structure BD (base : Nat) (w w' : World) : Prop where
  b : Below base w w'
  d : ∀ (k : Nat) (o : Option (List Deferred)), w.heap[k]? = some (Obj.deferred o) → w'.heap[k]? = some (Obj.deferred o)
theorem BD.refl (base : Nat) (w : World) : BD base w w := ⟨Below.refl _ _, fun _ _ h => h⟩
theorem BD.drew {base : Nat} {w w' : World} (h : BD base w w') : BD base w w'.drew := ⟨h.b.drew, h.d⟩
theorem BD.drewN {base : Nat} {w w' : World} (h : BD base w w') (k : Nat) : BD base w (w'.drewN k) := ⟨below_drewN h.b k, h.d⟩
theorem BD.alloc {base : Nat} {w w' : World} (h : BD base w w') (hb : base ≤ w'.heap.size) (o : Obj) : BD base w (w'.alloc o) :=
  ⟨h.b.alloc hb o, fun k x hk => by
    have h1 := h.d k x hk
    have h2 : k < w'.heap.size := by
      by_cases e : k < w'.heap.size
      · exact e
      · rw [Array.getElem?_eq_none (by omega)] at h1; cases h1
    rw [Below.heap_alloc _ _ _ h2]; exact h1⟩
theorem BD.setCell {base : Nat} {w w' : World} (h : BD base w w') {p : Addr} (hb : base ≤ p.block) (v : Value) : BD base w (w'.setCell p v) :=
  ⟨h.b.setCell hb v, fun k x hk => by
    have h1 := h.d k x hk
    unfold World.setCell
    simp only [Array.getElem?_modify, h1]
    split <;> rfl⟩
theorem BD.push {base b o : Nat} {a w : World} (h : BD base a w) (hb : base ≤ b) (v : Value) : BD base a (w.setCells b o [v]) := by
  rw [setCells_one]; exact h.setCell hb v
/-- What holds of lists that lie apart, the first i of them marked. -/
def St (w wr : World) (kb lb N lcap base : Nat) (g c n : Nat → Nat) (i sc : Nat) (n0 : Nat → Nat) : Prop :=
  LS wr kb lb N lcap g c n ∧ (∀ j, j < i → Mk wr (g j) (n0 j) ((j / sc % 250 : Nat) : Int)) ∧ BD base w wr
theorem St.drew {w wr : World} {kb lb N lcap base i sc : Nat} {g c n n0 : Nat → Nat} (h : St w wr kb lb N lcap base g c n i sc n0) : St w wr.drew kb lb N lcap base g c n i sc n0 := ⟨h.1.drew, h.2.1, h.2.2.drew⟩
theorem St.drewN {w wr : World} {kb lb N lcap base i sc : Nat} {g c n n0 : Nat → Nat} (h : St w wr kb lb N lcap base g c n i sc n0) (k : Nat) : St w (wr.drewN k) kb lb N lcap base g c n i sc n0 := ⟨h.1.drewN k, h.2.1, h.2.2.drewN k⟩
theorem St.alloc {w wr : World} {kb lb N lcap base i sc : Nat} {g c n n0 : Nat → Nat} (h : St w wr kb lb N lcap base g c n i sc n0) (hb : base ≤ wr.heap.size) (o : Obj) : St w (wr.alloc o) kb lb N lcap base g c n i sc n0 :=
  ⟨h.1.below (box_below wr o), fun j hj => (h.2.1 j hj).below (box_below wr o), h.2.2.alloc hb o⟩
theorem St.push {w wr : World} {kb lb N lcap base i sc : Nat} {g c n n0 : Nat → Nat} (h : St w wr kb lb N lcap base g c n i sc n0) (d : DJ kb lb N base g) (hi : i < N) (o : Nat) (v : Value) : St w (wr.setCells (g i) o [v]) kb lb N lcap base g c n i sc n0 :=
  ⟨h.1.push d hi o v, fun j hj => (h.2.1 j hj).push (d.gg i j hi (by omega) (by omega)) v, h.2.2.push (d.gbase i hi) v⟩
theorem St.mark {w wr : World} {kb lb N lcap base i sc : Nat} {g c n n0 : Nat → Nat} (h : St w wr kb lb N lcap base g c n i sc n0) (d : DJ kb lb N base g) (hi : i < N) (o : Nat) (v : Value) : St w (wr.setCell ⟨g i, o, none⟩ v) kb lb N lcap base g c n i sc n0 :=
  ⟨h.1.mark d hi o v, fun j hj => (h.2.1 j hj).other (d.gg i j hi (by omega) (by omega)) v, h.2.2.setCell (d.gbase i hi) v⟩
theorem St.len {w wr : World} {kb lb N lcap base i sc : Nat} {g c n n0 : Nat → Nat} (h : St w wr kb lb N lcap base g c n i sc n0) (d : DJ kb lb N base g) (hi : i < N) (m : Nat) (hm : m ≤ c i) :
    St w (wr.setCell ⟨lb, i, none⟩ (.slice (some ⟨g i, 0, none⟩) m (c i))) kb lb N lcap base g c (updN n i m) i sc n0 :=
  ⟨h.1.len d hi m hm, fun j hj => (h.2.1 j hj).other (fun e => (d.gk j (by omega)).2 e.symm) _, h.2.2.setCell d.lbase _⟩
theorem St.size {w wr : World} {kb lb N lcap base i sc : Nat} {g c n n0 : Nat → Nat} (h : St w wr kb lb N lcap base g c n i sc n0) (d : DJ kb lb N base g) (hi : i < N) : base ≤ wr.heap.size :=
  Nat.le_trans (d.gbase i hi) (Nat.le_of_lt (h.1.each i hi).2.2)
#print axioms LS.len
end Go.Proofs.YtpfnkkkfekhngaaGreatDoor

/-
  What (*flumelaw1.Bytes).Apart answers where each list that was kept lies in a block of its own: true.
-/
namespace Go.Proofs.YtpfnkkkfekhngaaGreatDoor
open Go.RowKit

set_option maxHeartbeats 400000 in
theorem room_big (w : World) (n c : Nat) (hn : n ≤ 9223372036854770000) (_hc : c ≤ 9223372036854775807) : Calls Tryz.prog 37 #[.int .i64 (n : Int), .int .i64 (c : Int)] w fun e w' => e = .returned (.int .i64 (room n c : Int)) ∧ w' = w := by
  unfold room
  by_cases h : c ≤ n + 5000
  · rw [Nat.min_eq_left h]
    go_enter Tryz.func37, Tryz.ntmps37
    go_wp2
    go_ret
    exact ⟨rfl, rfl⟩
  · rw [Nat.min_eq_right (by omega)]
    go_enter Tryz.func37, Tryz.ntmps37
    go_wp2
    go_ret
    exact ⟨ret_int (by omega), rfl⟩

theorem room_spare {w : World} {g m : Nat} {o : Obj} (h : (w.cell? ⟨g, m, none⟩).isSome = true ∧ w.frozen? ⟨g, m, none⟩ = false) (hg : g < w.heap.size) : ∀ j, j < [Value.int .u8 0].length → ((w.alloc o).cell? ⟨g, 0 + m * 1 + j, none⟩).isSome = true ∧ (w.alloc o).frozen? ⟨g, 0 + m * 1 + j, none⟩ = false := by
  intro j hj
  have : j = 0 := by simpa using hj
  subst this
  have hb := box_below w o
  rw [show 0 + m * 1 + 0 = m by omega, hb.cell (p := ⟨g, m, none⟩) hg, hb.frozen (p := ⟨g, m, none⟩) hg]
  exact h

theorem mark_val (i sc : Nat) (hi : i ≤ 9223372036854775807) : (wrap64 ((i : Int) / (sc : Int))).tmod 250 % 256 = ((i / sc % 250 : Nat) : Int) := by
  have e : (i : Int) / (sc : Int) = ((i / sc : Nat) : Int) := by simp
  have hl : i / sc ≤ 9223372036854775807 := Nat.le_trans (Nat.div_le_self _ _) hi
  rw [e]
  generalize i / sc = q at *
  have hw : wrap64 ((q : Nat) : Int) = ((q : Nat) : Int) := by
    unfold wrap64; omega
  rw [hw, Int.tmod_eq_emod_of_nonneg (by omega)]
  omega

set_option maxRecDepth 100000 in
set_option maxHeartbeats 4000000 in
theorem apart_pos (w : World) (kb lb N lcap base : Nat) (g c n0 : Nat → Nat) (h : LS w kb lb N lcap g c n0) (d : DJ kb lb N base g) (hNl : N ≤ lcap) (hlm : lcap ≤ 9223372036854775807) (hc : ∀ j, j < N → c j ≤ 9223372036854775807) (hn : ∀ j, j < N → n0 j ≤ 281474976710656) :
    Calls Tryz.prog 26 #[.pointer (some ⟨kb, 0, none⟩)] w fun e w' => e = .returned (.bool true) ∧ BD base w w' := by
  have HC : Hid (∀ j, j < N → c j ≤ 9223372036854775807) := hc
  have DD : Hid (DJ kb lb N base g) := d
  have H0 : Hid (LS w kb lb N lcap g c n0) := h
  have HN0 : Hid (∀ j, j < N → n0 j ≤ 281474976710656) := hn
  clear hc d h hn
  go_enter Tryz.func26, Tryz.ntmps26
  go_wp2_with fail
  go_loopw [3] (fun vs wr => ∃ (sc : Nat) (n : Nat → Nat), vs = .int .i64 (sc : Int) ∧ (sc = 1 ∨ sc = 250 ∨ sc = 62500) ∧ Hid (LS wr kb lb N lcap g c n) ∧ Hid (∀ j, j < N → n j ≤ 281474976710656 + 40 * sc) ∧ Hid (BD base w wr)) (fun s _ => 62500 - (intOf s).toNat)
  case atStart => exact ⟨1, n0, rfl, .inl rfl, H0.out, fun j hj => by have := HN0.out j hj; omega, BD.refl _ _⟩
  case round =>
    obtain ⟨sc, n, rfl, hsc, hL, hn, hB⟩ := hrel
    by_cases hend : sc = 62500
    · subst hend
      go_wp2_with fail
      go_ret
      exact ⟨rfl, hB.out⟩
    · have hsc2 : 1 ≤ sc ∧ sc ≤ 250 := by omega
      obtain ⟨hs1, hs2⟩ := hsc2
      have hsI : (sc : Int) ≤ 250 := by omega
      go_wp2_with fail
      (try simp only [hsI, decide_true])
      go_loopw [4] (fun vi wr => ∃ (i : Nat) (n : Nat → Nat), i ≤ N ∧ vi = .int .i64 (i : Int) ∧ Hid (LS wr kb lb N lcap g c n) ∧ Hid (∀ j, j < N → n j ≤ 281474976710656 + 40 * sc + 5000) ∧ Hid (∀ j, i ≤ j → j < N → n j ≤ 281474976710656 + 40 * sc) ∧ Hid (∀ j, j < i → Mk wr (g j) (n j) ((j / sc % 250 : Nat) : Int)) ∧ Hid (BD base w wr)) (fun i _ => N - (intOf i).toNat)
      case atStart => exact ⟨0, n, Nat.zero_le _, rfl, hL.out, fun j hj => by have := hn.out j hj; omega, fun j _ hj => hn.out j hj, fun j hj => by omega, hB.out⟩
      case round =>
        clear hL hn hB
        obtain ⟨i, n, hi, rfl, hL, hn, hnb, hM, hB⟩ := hrel
        have top := hL.out.top
        by_cases hlt : i < N
        · have hrow := (hL.out.row i hlt).1
          have hcc := HC.out i hlt
          have hnn := hnb.out i (Nat.le_refl _) hlt
          have hnc := (hL.out.each i hlt).2.1
          have hlt' : (i : Int) < (N : Int) := by omega
          obtain ⟨r, hr⟩ : ∃ r, r = room (n i) (c i) := ⟨_, rfl⟩
          have hrc : r ≤ c i := by rw [hr]; exact Nat.min_le_left _ _
          have hrn : r ≤ n i + 5000 := by rw [hr]; exact Nat.min_le_right _ _
          have HR : Hid (room (n i) (c i) = r) := hr.symm
          clear hr
          go_wp2_with fail
          go_quiet ((go_at_call 37; exact Calls.quiet_of_same (room_big _ _ _ (by omega) (by omega))))
          rw [HR.out]
          go_wp2_with fail
          have HS : Hid (St w (wr.drewN nq) kb lb N lcap base g c n i sc n) := St.drewN ⟨hL.out, hM.out, hB.out⟩ nq
          generalize wr.drewN nq = wd at *
          clear hM hL hB top hrow
          (try simp only [hlt', decide_true])
          go_loopw [49] (fun _ wx => ∃ (m : Nat), m ≤ c i ∧ m ≤ 281474976710656 + 40 * sc + 5000 ∧ Hid (St w wx kb lb N lcap base g c (updN n i m) i sc n)) (fun _ wx => r - lenAt wx lb i)
          case atStart => exact ⟨n i, hnc, by omega, by show St _ _ _ _ _ _ _ _ _ _ _ _ _; rw [updN_self]; exact HS.out⟩
          case round =>
            clear HS
            obtain ⟨m, hmc, hmb, hS⟩ := hrel
            have top := hS.out.1.top
            have hrow := (hS.out.1.row i hlt).1
            rw [updN_same] at hrow
            have HLA : Hid (lenAt wr lb i = m) := by show _ = _; rw [hS.out.1.lenAt hlt, updN_same]
            by_cases hmr : m < r
            · have hmr' : (m : Int) < (r : Int) := by omega
              have HSP : Hid ((wr.cell? ⟨g i, m, none⟩).isSome = true ∧ wr.frozen? ⟨g i, m, none⟩ = false) := (hS.out.1.each i hlt).1 m (by omega)
              have HGL : Hid (g i < wr.heap.size) := (hS.out.1.each i hlt).2.2
              have hkbl : kb < wr.heap.size := lt_of_cell top
              have hlbl : lb < wr.heap.size := lt_of_cell hrow
              obtain ⟨i0, hi0, hz0, hz1, hz2⟩ := info_parts Tryz.infoU8
              go_wp2_with fail
              go_region_law (first | (refine step_append_room rfl (.tmp 60) (.tmp 61) 40 rfl 5 i0 1 Tryz.underlying40 hi0 hz1 (g i) 0 m (c i) (by simp [Act.eval]) ⟨wr.heap.size, 0, none⟩ 1 1 [.int .u8 0] (by simp [Act.eval]) rfl (cell_one_new _ _ _) (by simp [Value.oneCell']) (by omega) (room_spare HSP.out HGL.out) ?_; generalize hw3 : World.setCells _ _ _ _ = w3; have S3 : Hid (St w w3 kb lb N lcap base g c (updN n i m) i sc n) := (by rw [← hw3]; first | exact (hS.out.alloc (hS.out.size DD.out hlt) _).drew.push DD.out hlt _ _ | exact (hS.out.drew.alloc (hS.out.size DD.out hlt) _).push DD.out hlt _ _ | exact (hS.out.alloc (hS.out.size DD.out hlt) _).push DD.out hlt _ _); clear hw3; have cc3 := (S3.out.1.row i hlt).1; have ff3 := (S3.out.1.row i hlt).2; have tt3 := S3.out.1.top))
              all_goals
                have S4 : Hid (St w (w3.setCell ⟨lb, i, none⟩ (.slice (some ⟨g i, 0, none⟩) (m + 1) (c i))) kb lb N lcap base g c (updN n i (m + 1)) i sc n) := by
                  have := S3.out.len DD.out hlt (m + 1) (by omega)
                  rw [updN_updN] at this
                  exact this
                have HLB : Hid (lenAt (w3.setCell ⟨lb, i, none⟩ (.slice (some ⟨g i, 0, none⟩) (m + 1) (c i))) lb i = m + 1) := by show _ = _; rw [S4.out.1.lenAt hlt, updN_same]
                clear cc3 ff3 tt3 top hrow
                go_wp2_with fail
                go_roundw
                case rel => exact ⟨m + 1, by omega, by omega, S4.out⟩
                case measure => rw [HLA.out, HLB.out]; omega
            · have hmr' : ¬ ((m : Int) < (r : Int)) := by omega
              obtain ⟨n1, hn1⟩ : ∃ n1, n1 = updN n i m := ⟨_, rfl⟩
              have HN1 : Hid (n1 i = m) := by show _ = _; rw [hn1, updN_same]
              have HNo : Hid (∀ j, j ≠ i → n1 j = n j) := fun j hj => by rw [hn1, updN_other _ _ hj]
              have S5 : Hid (St w wr kb lb N lcap base g c n1 i sc n1) := by
                refine ⟨by rw [hn1]; exact hS.out.1, fun j hj => ?_, hS.out.2.2⟩
                rw [HNo.out j (by omega)]
                exact hS.out.2.1 j hj
              clear hn1 hS
              obtain ⟨mk, hmk⟩ : ∃ mk : Nat, mk = i / sc % 250 := ⟨_, rfl⟩
              have HV : Hid ((wrap64 ((i : Int) / (sc : Int))).tmod 250 % 256 = (mk : Int)) := by rw [hmk]; exact mark_val i sc (by omega)
              have hmkl : mk < 250 := by omega
              have HMK : Hid (mk = i / sc % 250) := hmk
              have hsc0 : ¬ ((sc : Int) = 0) := by omega
              clear hmk
              go_wp2_with fail
              go_loopw [6] (fun vk wx => ∃ (k : Nat), k ≤ m ∧ vk = .int .i64 (k : Int) ∧ Hid (St w wx kb lb N lcap base g c n1 i sc n1) ∧ Hid (Mk wx (g i) k (mk : Int))) (fun k _ => m - (intOf k).toNat)
              case atStart => exact ⟨0, Nat.zero_le _, rfl, S5.out, fun q hq => by omega⟩
              case round =>
                clear S5 top hrow
                obtain ⟨k, hk, rfl, hS, hM⟩ := hrel
                have top := hS.out.1.top
                have hrow := (hS.out.1.row i hlt).1
                rw [HN1.out] at hrow
                by_cases hkm : k < m
                · have hkm' : (k : Int) < (m : Int) := by omega
                  have HSP := (hS.out.1.each i hlt).1 k (by omega)
                  obtain ⟨hsp, hfz⟩ := HSP
                  have HSO : Hid ((wr.cell? ⟨g i, k, none⟩).isSome = true) := hsp
                  obtain ⟨ov, hov⟩ := Option.isSome_iff_exists.1 hsp
                  clear hsp
                  go_wp2_with fail
                  go_region
                  rw [HV.out]
                  have S6 : Hid (St w (wr.setCell ⟨g i, k, none⟩ (.int .u8 (mk : Int))).drew kb lb N lcap base g c n1 i sc n1) := (hS.out.mark DD.out hlt k _).drew
                  have M6 : Hid (Mk (wr.setCell ⟨g i, k, none⟩ (.int .u8 (mk : Int))).drew (g i) (k + 1) (mk : Int)) := hM.out.more HSO.out
                  go_wp2_with fail
                  go_roundw
                  case rel => exact ⟨k + 1, by omega, by go_num, S6.out, M6.out⟩
                  case measure => simp [intOf]; omega
                · obtain rfl : k = m := by omega
                  go_wp2_with fail
                  go_roundw
                  case rel =>
                    refine ⟨i + 1, n1, by omega, by go_num, hS.out.1, fun j hj => ?_, fun j h1 h2 => ?_, fun j hj => ?_, hS.out.2.2⟩
                    · by_cases e : j = i
                      · subst e; rw [HN1.out]; exact hmb
                      · rw [HNo.out j e]; exact hn.out j hj
                    · rw [HNo.out j (by omega)]; exact hnb.out j (by omega) h2
                    · by_cases e : j = i
                      · subst e; rw [HN1.out, ← HMK.out]; exact hM.out
                      · exact hS.out.2.1 j (by omega)
                  case measure => simp [intOf]; omega
        · obtain rfl : N = i := by omega
          have hlt' : ¬ ((N : Int) < (N : Int)) := by omega
          have S7 : Hid (St w wr kb lb N lcap base g c n N sc n) := ⟨hL.out, hM.out, hB.out⟩
          clear hL hM hB hnb
          go_wp2_with fail
          clear top
          go_loopw [7] (fun vi wx => ∃ (p : Nat), p ≤ N ∧ vi = .int .i64 (p : Int) ∧ Hid (St w wx kb lb N lcap base g c n N sc n)) (fun i _ => N - (intOf i).toNat)
          case atStart => exact ⟨0, Nat.zero_le _, rfl, S7.out⟩
          case round =>
            clear S7
            obtain ⟨p, hp, rfl, hS⟩ := hrel
            have top := hS.out.1.top
            by_cases hpl : p < N
            · have hpl' : (p : Int) < (N : Int) := by omega
              have hcc := HC.out p hpl
              have hnc := (hS.out.1.each p hpl).2.1
              go_wp2_with fail
              (try simp only [hpl', decide_true])
              clear top
              go_loopw [8] (fun vk wx => ∃ (k : Nat), k ≤ n p ∧ vk = .int .i64 (k : Int) ∧ Hid (St w wx kb lb N lcap base g c n N sc n)) (fun k _ => n p - (intOf k).toNat)
              case atStart => exact ⟨0, Nat.zero_le _, rfl, hS.out⟩
              case round =>
                clear hS
                obtain ⟨k, hk, rfl, hS⟩ := hrel
                have top := hS.out.1.top
                have hrow := (hS.out.1.row p hpl).1
                have hsc0 : ¬ ((sc : Int) = 0) := by omega
                by_cases hkm : k < n p
                · have hkm' : (k : Int) < ((n p : Nat) : Int) := by omega
                  have hcell := hS.out.2.1 p hpl k hkm
                  have hv : (wrap64 ((p : Int) / (sc : Int))).tmod 250 % 256 = ((p / sc % 250 : Nat) : Int) := mark_val p sc (by omega)
                  obtain ⟨mk, hmk⟩ : ∃ mk : Nat, mk = p / sc % 250 := ⟨_, rfl⟩
                  rw [← hmk] at hv hcell
                  clear hmk
                  have hne : (((mk : Nat) : Int) != ((mk : Nat) : Int)) = false := by simp
                  go_wp2_with fail
                  go_quiet (fail)
                  go_wp2_with fail
                  go_roundw
                  case rel => exact ⟨k + 1, by omega, by go_num, hS.out.drewN _⟩
                  case measure => simp [intOf]; omega
                · obtain rfl : k = n p := by omega
                  have hkm' : ¬ (((n p : Nat) : Int) < ((n p : Nat) : Int)) := by omega
                  go_wp2_with fail
                  go_roundw
                  case rel => exact ⟨p + 1, by omega, by go_num, hS.out⟩
                  case measure => simp [intOf]; omega
            · obtain rfl : N = p := by omega
              go_wp2_with fail
              go_roundw
              case rel =>
                refine ⟨sc * 250, n, by go_num, by omega, hS.out.1, fun j hj => ?_, hS.out.2.2⟩
                have := hn.out j hj
                omega
              case measure => simp [intOf]; omega
#print axioms apart_pos
end Go.Proofs.YtpfnkkkfekhngaaGreatDoor

/-
  What (*flumelaw1.Bytes).Apart answers of lists that were kept, each a block of its own: true.
-/
namespace Go.Proofs.YtpfnkkkfekhngaaGreatDoor
open Go.RowKit

/-- Block, length and capacity of a row of bytes at or above base. -/
def Own8 (w : World) (base : Nat) (t : Nat × Nat × Nat) : Prop :=
  ∃ cur, w.heap[t.1]? = some (.cells cur 5 (0, 0)) ∧ cur.size = t.2.2 ∧ t.2.1 ≤ t.2.2 ∧ t.2.2 ≤ maxLen ∧ t.2.1 ≤ 281474976710656 ∧ base ≤ t.1
/-- Such rows, no two of them one block. -/
def Items (w : World) (base : Nat) (its : List (Nat × Nat × Nat)) : Prop := (∀ t ∈ its, Own8 w base t) ∧ (its.map (·.1)).Nodup

theorem Own8.frK {w w' : World} {base kb : Nat} {t : Nat × Nat × Nat} (h : Own8 w base t) (hk : t.1 ≠ kb) (hf : FrK base kb w w') : Own8 w' base t := by
  obtain ⟨cur, h1, h2⟩ := h
  exact ⟨cur, by rw [hf.block t.1 (heap_lt h1) hk (.inr fun c fr e => by rw [h1] at e; simp at e)]; exact h1, h2⟩
theorem Own8.below {w w' : World} {base : Nat} {t : Nat × Nat × Nat} (h : Own8 w base t) (hf : Below w.heap.size w w') : Own8 w' base t := by
  obtain ⟨cur, h1, h2⟩ := h
  exact ⟨cur, by rw [hf.block t.1 (heap_lt h1)]; exact h1, h2⟩
theorem Items.sub {w : World} {base : Nat} {its its' : List (Nat × Nat × Nat)} (h : Items w base its) (hs : its'.Sublist its) : Items w base its' :=
  ⟨fun t ht => h.1 t (hs.subset ht), h.2.sublist (hs.map _)⟩
theorem Own8.of_owns {w : World} {base g n c : Nat} {xs : List Value} (h : w.ownsRow base 5 1 (.slice (some ⟨g, 0, none⟩) n c) n xs) (hn : n ≤ 281474976710656) : Own8 w base (g, n, c) := by
  obtain ⟨_, p⟩ := h
  rcases p with ⟨e, _⟩ | ⟨g', cap, cur, e, hg, hh, h1, h2, h3, _⟩
  · simp at e
  · simp only [Value.slice.injEq, Option.some.injEq, Addr.mk.injEq] at e
    obtain ⟨⟨rfl, _⟩, _, rfl⟩ := e
    exact ⟨cur, hh, by show cur.size = c; omega, h1, h2, hn, hg⟩

set_option maxRecDepth 100000 in
set_option maxHeartbeats 1000000 in
theorem apart_zero (w : World) (kb cap : Nat) (ao : Option Addr) (top : w.cell? ⟨kb, 0, none⟩ = some (.slice ao 0 cap)) :
    Calls Tryz.prog 26 #[.pointer (some ⟨kb, 0, none⟩)] w fun e w' => e = .returned (.bool true) ∧ w' = w := by
  have HT : Hid (w.cell? ⟨kb, 0, none⟩ = some (.slice ao 0 cap)) := top
  clear top
  go_enter Tryz.func26, Tryz.ntmps26
  go_wp2_with fail
  go_loopw [3] (fun vs wr => ∃ (sc : Nat), vs = .int .i64 (sc : Int) ∧ (sc = 1 ∨ sc = 250 ∨ sc = 62500) ∧ wr = w) (fun s _ => 62500 - (intOf s).toNat)
  case atStart => exact ⟨1, rfl, .inl rfl, rfl⟩
  case round =>
    obtain ⟨sc, rfl, hsc, hw⟩ := hrel
    replace hw := hw.symm
    subst hw
    by_cases hend : sc = 62500
    · subst hend
      go_wp2_with fail
      go_ret
      exact ⟨rfl, rfl⟩
    · have hs2 : sc ≤ 250 := by omega
      have hsI : (sc : Int) ≤ 250 := by omega
      go_wp2_with fail
      (try simp only [hsI, decide_true])
      go_loopw [4] (fun vi wr => vi = .int .i64 0 ∧ wr = w) (fun _ _ => 0)
      case atStart => exact ⟨rfl, rfl⟩
      case round =>
        obtain ⟨rfl, hw⟩ := hrel
        replace hw := hw.symm
        subst hw
        have top := HT.out
        go_wp2_with fail
        clear top
        go_loopw [7] (fun vi wr => vi = .int .i64 0 ∧ wr = w) (fun _ _ => 0)
        case atStart => exact ⟨rfl, rfl⟩
        case round =>
          obtain ⟨rfl, hw⟩ := hrel
          replace hw := hw.symm
          subst hw
          have top := HT.out
          go_wp2_with fail
          go_roundw
          case rel => exact ⟨sc * 250, by go_num, by omega, by trivial⟩
          case measure => simp [intOf]; omega

theorem apart_anyD (w : World) (base kb : Nat) (its : List (Nat × Nat × Nat)) (size : Nat) (hk : Kept w base kb its size) (hi : Items w base its) :
    Calls Tryz.prog 26 #[.pointer (some ⟨kb, 0, none⟩)] w fun e w' => e = .returned (.bool true) ∧ BD base w w' := by
  obtain ⟨vl, hkb, ho, -, -⟩ := hk
  have top : w.cell? ⟨kb, 0, none⟩ = some vl := by simp [World.cell?, hkb]
  obtain ⟨_, p⟩ := id ho
  rcases p with ⟨rfl, hn⟩ | ⟨lb, cap, cur, rfl, hlb, hh, hn, hm, hs, ht⟩
  · exact (apart_zero w kb 0 none top).mono fun e w' ⟨h1, h2⟩ => ⟨h1, by rw [h2]; exact BD.refl _ _⟩
  · have hblk : ∀ j (hj : j < its.length), ∃ cur, w.heap[its[j].1]? = some (.cells cur 5 (0, 0)) ∧ cur.size = its[j].2.2 ∧ its[j].2.1 ≤ its[j].2.2 ∧ its[j].2.2 ≤ maxLen ∧ its[j].2.1 ≤ 281474976710656 ∧ base ≤ its[j].1 := fun j hj => hi.1 _ (List.getElem_mem hj)
    have ed : ∀ j, j < its.length → its.getD j (0, 0, 0) = its[j]! := fun j hj => by simp [List.getD, hj]
    have ee : ∀ j (hj : j < its.length), its.getD j (0, 0, 0) = its[j] := fun j hj => by simp [List.getD, hj]
    refine apart_pos w kb lb its.length cap base (fun j => (its.getD j (0, 0, 0)).1) (fun j => (its.getD j (0, 0, 0)).2.2) (fun j => (its.getD j (0, 0, 0)).2.1) ⟨top, fun j hj => ⟨?_, ho.frozenAt j⟩, fun j hj => ?_⟩ ⟨?_, fun j hj => ?_, fun i j h1 h2 hne => ?_, hlb, fun j hj => ?_⟩ hn (by unfold maxLen at hm; omega) (fun j hj => ?_) (fun j hj => ?_)
    · rw [ho.cellAt j (by omega)]
      simp only [ee j hj]
      simp [itvs, itv, hj]
    · obtain ⟨cu, h1, h2, h3, h4, h5, h6⟩ := hblk j hj
      simp only [ee j hj]
      refine ⟨fun q hq => ⟨?_, by simp [World.frozen?, h1]⟩, h3, heap_lt h1⟩
      simp only [World.cell?, h1]
      rw [Array.getElem?_eq_getElem (by omega)]; rfl
    · rintro rfl
      rw [hkb] at hh; simp at hh
    · obtain ⟨cu, h1, _⟩ := hblk j hj
      simp only [ee j hj]
      refine ⟨fun e => ?_, fun e => ?_⟩
      · rw [e, hkb] at h1; simp at h1
      · rw [e, hh] at h1; simp at h1
    · simp only [ee i h1, ee j h2]
      intro e
      have hp := List.pairwise_iff_getElem.1 hi.2
      rcases Nat.lt_or_gt_of_ne hne with hlt | hlt
      · exact hp i j (by simpa using h1) (by simpa using h2) hlt (by simpa using e)
      · exact hp j i (by simpa using h2) (by simpa using h1) hlt (by simpa using e.symm)
    · simp only [ee j hj]; obtain ⟨cu, h1, h2, h3, h4, h5, h6⟩ := hblk j hj; exact h6
    · simp only [ee j hj]; obtain ⟨cu, h1, h2, h3, h4, h5, h6⟩ := hblk j hj; unfold maxLen at h4; omega
    · simp only [ee j hj]; obtain ⟨cu, h1, h2, h3, h4, h5, h6⟩ := hblk j hj; exact h5
theorem apart_any (w : World) (base kb : Nat) (its : List (Nat × Nat × Nat)) (size : Nat) (hk : Kept w base kb its size) (hi : Items w base its) :
    Calls Tryz.prog 26 #[.pointer (some ⟨kb, 0, none⟩)] w fun e w' => e = .returned (.bool true) ∧ Below base w w' :=
  (apart_anyD w base kb its size hk hi).mono fun _ _ ⟨h1, h2⟩ => ⟨h1, h2.b⟩
#print axioms apart_any
end Go.Proofs.YtpfnkkkfekhngaaGreatDoor

/-
  Lists that a call answers lie in blocks of their own, made by that call: New; several calls behind each other: NewL; kept: keep_new.
-/
namespace Go.Proofs.YtpfnkkkfekhngaaGreatDoor
open Go.RowKit

/-- t is a list that was made between u and u'; all that was there in u is as it was. -/
def New (u u' : World) (t : Option (Nat × Nat × Nat)) : Prop := Below u.heap.size u u' ∧ ∀ t', t = some t' → Own8 u' u.heap.size t'
def NewL (u u' : World) (ts : List (Option (Nat × Nat × Nat))) : Prop := Below u.heap.size u u' ∧ (∀ t ∈ somes ts, Own8 u' u.heap.size t) ∧ ((somes ts).map (·.1)).Nodup

theorem Own8.lower {w : World} {b b' : Nat} {t : Nat × Nat × Nat} (h : Own8 w b t) (hb : b' ≤ b) : Own8 w b' t := by
  obtain ⟨cur, h1, h2, h3, h4, h5, h6⟩ := h
  exact ⟨cur, h1, h2, h3, h4, h5, Nat.le_trans hb h6⟩
theorem Own8.lt {w : World} {b : Nat} {t : Nat × Nat × Nat} (h : Own8 w b t) : t.1 < w.heap.size := by
  obtain ⟨cur, h1, _⟩ := h; exact heap_lt h1
theorem own_slv {w : World} {lo : Nat} {v : Value} {l : List UInt8} (h : w.ownsRow lo 5 1 v l.length (bvals l)) (hl : l.length ≤ 281474976710656) : ∃ t, v = slv t ∧ ∀ t', t = some t' → Own8 w lo t' := by
  have h0 := h
  obtain ⟨_, p⟩ := h
  rcases p with ⟨rfl, _⟩ | ⟨g, cap, cur, rfl, hg, hh, h1, h2, h3, _⟩
  · exact ⟨none, rfl, fun t' e => by simp at e⟩
  · exact ⟨some (g, l.length, cap), rfl, fun t' e => by simp at e; subst e; exact Own8.of_owns h0 hl⟩
theorem New.of_own {u u' : World} {v : Value} {l : List UInt8} (h : u'.ownsRow u.heap.size 5 1 v l.length (bvals l)) (hl : l.length ≤ 281474976710656) (hb : Below u.heap.size u u') : ∃ t, v = slv t ∧ New u u' t := by
  obtain ⟨t, h1, h2⟩ := own_slv h hl
  exact ⟨t, h1, hb, h2⟩
theorem Below.of_drew {u v : World} (h : Below u.drew.heap.size u.drew v) : Below u.heap.size u v := ⟨h.os, h.tape, h.output, h.size, h.block⟩
theorem New.of_drew {u v : World} {t : Option (Nat × Nat × Nat)} (h : New u.drew v t) : New u v t := ⟨Below.of_drew h.1, h.2⟩
theorem NewL.nil (u : World) : NewL u u [] := ⟨Below.refl _ _, fun t ht => by simp [somes] at ht, by simp [somes]⟩
theorem NewL.snoc {u u' u'' : World} {ts : List (Option (Nat × Nat × Nat))} {t : Option (Nat × Nat × Nat)} (h : NewL u u' ts) (hn : New u' u'' t) : NewL u u'' (ts ++ [t]) := by
  obtain ⟨h1, h2, h3⟩ := h
  obtain ⟨n1, n2⟩ := hn
  refine ⟨h1.trans (n1.mono h1.size), ?_, ?_⟩
  · intro x hx
    rw [somes_append, List.mem_append] at hx
    rcases hx with hx | hx
    · exact (h2 x hx).below n1
    · cases t with
      | none => simp [somes] at hx
      | some t => simp [somes] at hx; subst hx; exact (n2 x rfl).lower h1.size
  · rw [somes_append, List.map_append]
    cases t with
    | none => simpa [somes] using h3
    | some t =>
      rw [List.nodup_append]
      refine ⟨h3, by simp [somes], fun a ha b hb => ?_⟩
      simp only [somes, List.map_cons, List.map_nil, List.mem_singleton] at hb
      obtain ⟨x, hx, rfl⟩ := List.mem_map.1 ha
      have l1 := (h2 x hx).lt
      obtain ⟨_, _, _, _, _, _, l2⟩ := n2 t rfl
      omega
theorem NewL.swap {u u' : World} {a b : List (Option (Nat × Nat × Nat))} (h : NewL u u' (a ++ b)) : NewL u u' (b ++ a) := by
  obtain ⟨h1, h2, h3⟩ := h
  rw [somes_append] at h2 h3
  refine ⟨h1, ?_, ?_⟩
  · intro t ht
    rw [somes_append, List.mem_append] at ht
    exact h2 t (List.mem_append.2 ht.symm)
  · rw [somes_append]
    exact (List.Perm.map _ List.perm_append_comm).nodup_iff.1 h3
theorem NewL.drew {u u' : World} {ts : List (Option (Nat × Nat × Nat))} (h : NewL u u' ts) : NewL u u'.drew ts := ⟨h.1.drew, h.2.1, h.2.2⟩
theorem NewL.drewN {u u' : World} {ts : List (Option (Nat × Nat × Nat))} (h : NewL u u' ts) (k : Nat) : NewL u (u'.drewN k) ts := ⟨below_drewN h.1 k, h.2.1, h.2.2⟩

theorem Kept.below {w w' : World} {base kb : Nat} {its : List (Nat × Nat × Nat)} {size : Nat} (h : Kept w base kb its size) (hb : Below w.heap.size w w') : Kept w' base kb its size := by
  obtain ⟨vl, h1, h2, h3⟩ := h
  exact ⟨vl, by rw [hb.block kb (heap_lt h1)]; exact h1, ownsRow_below h2 hb, h3⟩
theorem Kept.ne {w : World} {base b kb : Nat} {its : List (Nat × Nat × Nat)} {size : Nat} {t : Nat × Nat × Nat} (h : Kept w base kb its size) (ho : Own8 w b t) : t.1 ≠ kb := by
  obtain ⟨vl, h1, _⟩ := h
  obtain ⟨cur, h2, _⟩ := ho
  intro e
  rw [e, h1] at h2
  simp at h2
theorem FrK.below {base kb B : Nat} {w w' : World} (h : FrK base kb w w') (hb : base ≤ w.heap.size) (hk : base ≤ kb) (hB : B ≤ base) : Below B w w' :=
  ⟨h.os, h.tape, h.output, h.size, fun k hk' => h.block k (by omega) (by omega) (.inl (by omega))⟩

/-- The parts of a list's value. -/
def sAo : Option (Nat × Nat × Nat) → Option Addr
  | none => none
  | some t => some ⟨t.1, 0, none⟩
def sN : Option (Nat × Nat × Nat) → Nat
  | none => 0
  | some t => t.2.1
def sC : Option (Nat × Nat × Nat) → Nat
  | none => 0
  | some t => t.2.2
def slx (t : Option (Nat × Nat × Nat)) : Value := .slice (sAo t) (sN t) (sC t)
theorem slv_slx (t : Option (Nat × Nat × Nat)) : slv t = slx t := by cases t <;> rfl
theorem slx_eq : slx = slv := funext fun t => (slv_slx t).symm
theorem mem_somes {ts : List (Option (Nat × Nat × Nat))} {t : Nat × Nat × Nat} (h : some t ∈ ts) : t ∈ somes ts := by
  induction ts with
  | nil => simp at h
  | cons x r ih =>
    rcases List.mem_cons.1 h with e | e
    · subst e; simp [somes]
    · cases x <;> simp [somes, ih e]

theorem keep_new (u0 U : World) (base kb : Nat) (its : List (Nat × Nat × Nat)) (size : Nat) (ts : List (Option (Nat × Nat × Nat))) (hK : Kept u0 base kb its size) (hI : Items u0 base its) (hb : base ≤ kb) (hN : NewL u0 U ts) (hlen : ts.length ≤ 1000)
    (cs : Array Value) (hcs : cs = (ts.map slv).toArray) (n cc : Nat) (hn : n = ts.length) :
    Calls Tryz.prog 20 #[.pointer (some ⟨kb, 0, none⟩), .slice (some ⟨U.heap.size, 0, none⟩) n cc] (U.alloc (.cells cs 40)) fun e w' => e = .returned (.tuple #[]) ∧ (∃ its' size', Kept w' base kb its' size' ∧ Items w' base its') ∧ Below base u0 w' := by
  subst hn hcs
  have hb0 := box_below U (.cells (ts.map slv).toArray 40)
  have hKU : Kept (U.alloc (.cells (ts.map slv).toArray 40)) base kb its size := (hK.below hN.1).below hb0
  have hkl : kb < u0.heap.size := by obtain ⟨vl, h1, _⟩ := hK; exact heap_lt h1
  have hbu : base ≤ u0.heap.size := by omega
  have hIU : Items (U.alloc (.cells (ts.map slv).toArray 40)) base (its ++ somes ts) := by
    refine ⟨fun t ht => ?_, ?_⟩
    · rcases List.mem_append.1 ht with h | h
      · exact ((hI.1 t h).below hN.1).below hb0
      · exact ((hN.2.1 t h).lower hbu).below hb0
    · rw [List.map_append, List.nodup_append]
      refine ⟨hI.2, hN.2.2, fun a ha b hb' => ?_⟩
      obtain ⟨x, hx, rfl⟩ := List.mem_map.1 ha
      obtain ⟨y, hy, rfl⟩ := List.mem_map.1 hb'
      have l1 := (hI.1 x hx).lt
      obtain ⟨_, _, _, _, _, _, l2⟩ := hN.2.1 y hy
      omega
  refine (keep_any _ base kb U.heap.size cc its size ts hKU hb (fun i hi => ?_) (fun t ht => ?_) ?_ hlen (fun vl hv => ?_)).mono ?_
  · have : (U.alloc (.cells (ts.map slv).toArray 40)).heap[U.heap.size]? = some (.cells (ts.map slv).toArray 40 (0, 0)) := heap_alloc_new _ _
    simp only [World.cell?, this]
    simp [hi]
  · have hm : t ∈ somes ts := mem_somes ht
    obtain ⟨_, _, _, _, h4, h5, _⟩ := hN.2.1 t hm
    exact ⟨h5, h4⟩
  · have := hN.1.size; omega
  · obtain ⟨vl', hv1, ho, _⟩ := hK.below hN.1
    have hkU : kb < U.heap.size := heap_lt hv1
    have : (U.alloc (.cells (ts.map slv).toArray 40)).cell? ⟨kb, 0, none⟩ = some vl' := by
      rw [hb0.cell (p := ⟨kb, 0, none⟩) hkU]; simp [World.cell?, hv1]
    rw [this] at hv
    simp only [Option.some.injEq] at hv
    subst hv
    intro e
    have := (ho.lt U.heap.size e).2
    omega
  · rintro e w' ⟨rfl, its', size', hk', hs', hf'⟩
    have hb1 := hf'.below (B := base) (by have := hN.1.size; simp; omega) hb (Nat.le_refl _)
    have hb2 : Below base u0 (U.alloc (.cells (ts.map slv).toArray 40)) := (hN.1.mono hbu).trans (hb0.mono (by have := hN.1.size; omega))
    refine ⟨rfl, ⟨its', size', hk', Items.sub ⟨fun t ht => (hIU.1 t ht).frK (hKU.ne (hIU.1 t ht)) hf', hIU.2⟩ hs'⟩, hb2.trans hb1⟩
theorem keep_new2 (u0 U : World) (base kb : Nat) (its : List (Nat × Nat × Nat)) (size : Nat) (ts : List (Option (Nat × Nat × Nat))) (hK : Kept u0 base kb its size) (hI : Items u0 base its) (hb : base ≤ kb) (hN : NewL u0 U ts) (hlen : ts.length ≤ 1000)
    (cs : Array Value) (hcs : cs = (ts.map slx).toArray) (n cc : Nat) (hn : n = ts.length) :
    Calls Tryz.prog 20 #[.pointer (some ⟨kb, 0, none⟩), .slice (some ⟨U.heap.size, 0, none⟩) n cc] (U.alloc (.cells cs 40)) fun e w' => e = .returned (.tuple #[]) ∧ (∃ its' size', Kept w' base kb its' size' ∧ Items w' base its') ∧ Below base u0 w' :=
  keep_new u0 U base kb its size ts hK hI hb hN hlen cs (by rw [hcs, slx_eq]) n cc hn
theorem keep_new3 (u0 U : World) (base kb : Nat) (its : List (Nat × Nat × Nat)) (size : Nat) (ts : List (Option (Nat × Nat × Nat))) (hK : Kept u0 base kb its size) (hI : Items u0 base its) (hb : base ≤ kb) (hN : NewL u0 U ts) (hlen : ts.length ≤ 1000)
    (cs : Array Value) (hcs : cs = (ts.map slv).toArray) (n cc : Nat) (hn : n = ts.length) :
    Calls Tryz.prog 20 #[.pointer (some ⟨kb, 0, none⟩), .slice (some ⟨U.heap.size, 0, none⟩) n cc] (U.alloc (.cells cs 40)) fun e w' => e = .returned (.tuple #[]) ∧ (∃ its' size', Kept w' base kb its' size' ∧ Items w' base its') ∧ Below base u0 w' ∧ FrK base kb (U.alloc (.cells cs 40)) w' := by
  subst hn hcs
  have hb0 := box_below U (.cells (ts.map slv).toArray 40)
  have hKU : Kept (U.alloc (.cells (ts.map slv).toArray 40)) base kb its size := (hK.below hN.1).below hb0
  have hkl : kb < u0.heap.size := by obtain ⟨vl, h1, _⟩ := hK; exact heap_lt h1
  have hbu : base ≤ u0.heap.size := by omega
  have hIU : Items (U.alloc (.cells (ts.map slv).toArray 40)) base (its ++ somes ts) := by
    refine ⟨fun t ht => ?_, ?_⟩
    · rcases List.mem_append.1 ht with h | h
      · exact ((hI.1 t h).below hN.1).below hb0
      · exact ((hN.2.1 t h).lower hbu).below hb0
    · rw [List.map_append, List.nodup_append]
      refine ⟨hI.2, hN.2.2, fun a ha b hb' => ?_⟩
      obtain ⟨x, hx, rfl⟩ := List.mem_map.1 ha
      obtain ⟨y, hy, rfl⟩ := List.mem_map.1 hb'
      have l1 := (hI.1 x hx).lt
      obtain ⟨_, _, _, _, _, _, l2⟩ := hN.2.1 y hy
      omega
  refine (keep_any _ base kb U.heap.size cc its size ts hKU hb (fun i hi => ?_) (fun t ht => ?_) ?_ hlen (fun vl hv => ?_)).mono ?_
  · have : (U.alloc (.cells (ts.map slv).toArray 40)).heap[U.heap.size]? = some (.cells (ts.map slv).toArray 40 (0, 0)) := heap_alloc_new _ _
    simp only [World.cell?, this]
    simp [hi]
  · have hm : t ∈ somes ts := mem_somes ht
    obtain ⟨_, _, _, _, h4, h5, _⟩ := hN.2.1 t hm
    exact ⟨h5, h4⟩
  · have := hN.1.size; omega
  · obtain ⟨vl', hv1, ho, _⟩ := hK.below hN.1
    have hkU : kb < U.heap.size := heap_lt hv1
    have : (U.alloc (.cells (ts.map slv).toArray 40)).cell? ⟨kb, 0, none⟩ = some vl' := by
      rw [hb0.cell (p := ⟨kb, 0, none⟩) hkU]; simp [World.cell?, hv1]
    rw [this] at hv
    simp only [Option.some.injEq] at hv
    subst hv
    intro e
    have := (ho.lt U.heap.size e).2
    omega
  · rintro e w' ⟨rfl, its', size', hk', hs', hf'⟩
    have hb1 := hf'.below (B := base) (by have := hN.1.size; simp; omega) hb (Nat.le_refl _)
    have hb2 : Below base u0 (U.alloc (.cells (ts.map slv).toArray 40)) := (hN.1.mono hbu).trans (hb0.mono (by have := hN.1.size; omega))
    refine ⟨rfl, ⟨its', size', hk', Items.sub ⟨fun t ht => (hIU.1 t ht).frK (hKU.ne (hIU.1 t ht)) hf', hIU.2⟩ hs'⟩, hb2.trans hb1, hf'⟩
#print axioms keep_new
end Go.Proofs.YtpfnkkkfekhngaaGreatDoor

/-
  A Book and a Bytes beside each other: keeping in the one leaves the other as it was.
-/
namespace Go.Proofs.YtpfnkkkfekhngaaGreatDoor.Va
open Go.RowKit Go.Proofs.YtpfnkkkfekhngaaGreatDoor.Rl
set_option maxRecDepth 100000
set_option linter.unusedVariables false

theorem owns_fr {w w' : World} {base e n : Nat} {v : Value} {xs : List Value} (h : w.ownsRow base e 1 v n xs) (hf : Fr w w') (h1 : e ≠ 27) (h2 : e ≠ 22) : w'.ownsRow base e 1 v n xs := by
  refine ⟨h.1, ?_⟩
  rcases h.2 with g | ⟨g, cap, cur, a1, a2, a3, a4⟩
  · exact Or.inl g
  · exact Or.inr ⟨g, cap, cur, a1, a2, hf _ _ _ _ h1 h2 a3, a4⟩
theorem kept_fr {w w' : World} {base kb : Nat} {its : List (Nat × Nat × Nat)} {size : Nat} (h : Kept w base kb its size) (hf : Fr w w') : Kept w' base kb its size := by
  obtain ⟨vl, h1, h2, h3⟩ := h
  exact ⟨vl, hf _ _ _ _ (by decide) (by decide) h1, owns_fr h2 hf (by decide) (by decide), h3⟩
theorem own8_fr {w w' : World} {base : Nat} {t : Nat × Nat × Nat} (h : Own8 w base t) (hf : Fr w w') : Own8 w' base t := by
  obtain ⟨cur, h1, h2⟩ := h
  exact ⟨cur, hf _ _ _ _ (by decide) (by decide) h1, h2⟩
theorem items_fr {w w' : World} {base : Nat} {its : List (Nat × Nat × Nat)} (h : Items w base its) (hf : Fr w w') : Items w' base its :=
  ⟨fun t ht => own8_fr (h.1 t ht) hf, h.2⟩
/-- Behind a Keep of Bytes, blocks that are neither Bytes nor rows of slices of bytes are as they were. -/
def FrT (w w' : World) : Prop := ∀ (k : Nat) (cs : Array Value) (T : TypeId) (fr : Nat × Nat), T ≠ 31 → T ≠ 40 → w.heap[k]? = some (.cells cs T fr) → w'.heap[k]? = some (.cells cs T fr)
theorem FrT.of_below {w w' : World} (h : Below w.heap.size w w') : FrT w w' := fun k cs T fr _ _ e => by rw [h.block k (heap_lt e)]; exact e
theorem FrT.trans {u v w : World} (h : FrT u v) (g : FrT v w) : FrT u w := fun k cs T fr a b e => g k cs T fr a b (h k cs T fr a b e)
theorem FrT.of_frK {base kb : Nat} {w w' : World} {its : List (Nat × Nat × Nat)} {size : Nat} (h : FrK base kb w w') (hk : Kept w base kb its size) : FrT w w' := fun k cs T fr h1 h2 e => by
  obtain ⟨vl, hkb, _⟩ := hk
  rw [h.block k (heap_lt e) (fun q => by
    subst q
    rw [hkb] at e
    simp only [Option.some.injEq, Obj.cells.injEq] at e
    exact h1 e.2.1.symm) (Or.inr fun cur f2 q => by
    rw [e] at q
    simp only [Option.some.injEq, Obj.cells.injEq] at q
    exact h2 q.2.1)]
  exact e
theorem owns_frT {w w' : World} {base e m n : Nat} {v : Value} {xs : List Value} (h : w.ownsRow base e m v n xs) (hf : FrT w w') (h1 : e ≠ 31) (h2 : e ≠ 40) : w'.ownsRow base e m v n xs := by
  refine ⟨h.1, ?_⟩
  rcases h.2 with g | ⟨g, cap, cur, a1, a2, a3, a4⟩
  · exact Or.inl g
  · exact Or.inr ⟨g, cap, cur, a1, a2, hf _ _ _ _ h1 h2 a3, a4⟩
theorem bk_frT {w w' : World} {base kb : Nat} {its : List (Nat × Nat)} (h : Bk w base kb its) (hf : FrT w w') : Bk w' base kb its := by
  obtain ⟨vl, h1, h2, h3⟩ := h
  exact ⟨vl, hf _ _ _ _ (by decide) (by decide) h1, owns_frT h2 hf (by decide) (by decide), h3⟩
theorem item_frT {w w' : World} {t : Nat × Nat} (h : Item w t) (hf : FrT w w') : Item w' t := by
  obtain ⟨cs, h1, h2⟩ := h
  exact ⟨cs, hf _ _ _ _ (by decide) (by decide) h1, h2⟩
#print axioms FrT.of_frK
end Go.Proofs.YtpfnkkkfekhngaaGreatDoor.Va

