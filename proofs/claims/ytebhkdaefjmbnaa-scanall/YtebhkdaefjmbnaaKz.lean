/-
  What flumelaw1's Bytes.Keep leaves alone: all blocks but the Bytes' own and its list's row.
-/
import Derived.Test.YtebhkdaefjmbnaaNewL
import Derived.Test.YtebhkdaefjmbnaaIt
import Derived.Deep.RegionLaw
import Derived.Deep.AppendLies
import Derived.Test.YtebhkdaefjmbnaaJf
import Derived.Test.YtebhkdaefjmbnaaJj
namespace Go.Proofs.Ytebhkdaefjmbnaa
open Go.RowKit
set_option linter.unusedVariables false

def RowAt (w : World) (kb : Nat) (rb : Option Nat) (s0 : Nat) : Prop := ∀ vl, w.cell? ⟨kb, 0, none⟩ = some vl → vl.ownBlock = rb ∨ (∀ k, vl.ownBlock = some k → s0 ≤ k)
def FrE (kb : Nat) (rb : Option Nat) (w w' : World) : Prop := But (fun k => k = kb ∨ rb = some k) w w'
theorem frE_step {w wr w2 wa w3 : World} {kb g2 n2 cap2 : Nat} {rb : Option Nat} {vl : Value} (h1 : FrE kb rb w wr) (h2 : But (fun j => j = kb ∨ vl.ownBlock = some j) wr w2) (h3 : vl.ownBlock = rb ∨ ∀ j, vl.ownBlock = some j → w.heap.size ≤ j) (hb : Below w2.heap.size w2 wa) (hg : wa.grownBy w3 vl.ownBlock) {c0 : Value} (hc0 : w3.cell? ⟨kb, 0, none⟩ = some c0)
    (h4 : vl.ownBlock = some g2 ∨ w.heap.size ≤ g2) : FrE kb rb w (w3.setCell ⟨kb, 0, none⟩ (.slice (some ⟨g2, 0, none⟩) n2 cap2)) ∧ RowAt (w3.setCell ⟨kb, 0, none⟩ (.slice (some ⟨g2, 0, none⟩) n2 cap2)) kb rb w.heap.size := by
  have a1 : But (fun j => j = kb ∨ vl.ownBlock = some j) wr (w3.setCell ⟨kb, 0, none⟩ (.slice (some ⟨g2, 0, none⟩) n2 cap2)) :=
    ((h2.trans (But.of_below hb _)).trans (But.of_grownBy hg fun j e => .inr e)).trans (But.of_grownBy (grown_setCell _ _ _ _) fun j e => by cases e; exact .inl rfl)
  refine ⟨⟨a1.os.trans h1.os, a1.tape.trans h1.tape, a1.output.trans h1.output, Nat.le_trans h1.size a1.size, fun k hkl hx => ?_⟩, ?_⟩
  · rw [a1.block k (Nat.lt_of_lt_of_le hkl h1.size) (fun h => ?_)]
    · exact h1.block k hkl hx
    · rcases h with h | h
      · exact hx (.inl h)
      · rcases h3 with e | e
        · exact hx (.inr (by rw [← e]; exact h))
        · have := e k h; omega
  · intro vl' hv'
    rw [World.cell?_setCell_same _ _ _ hc0] at hv'
    simp only [Option.some.injEq] at hv'
    subst hv'
    rcases h4 with e | e
    · rcases h3 with e3 | e3
      · exact .inl (by rw [← e3, e]; rfl)
      · exact .inr fun k hk' => by simp [Value.ownBlock] at hk'; subst hk'; exact e3 _ e
    · exact .inr fun k hk' => by simp [Value.ownBlock] at hk'; subst hk'; exact e

set_option maxRecDepth 100000 in
set_option maxHeartbeats 2000000 in
theorem keep_any2 (w : World) (base kb lb cc : Nat) (its : List (Nat × Nat × Nat)) (size : Nat) (ts : List (Option (Nat × Nat × Nat))) (hk : Kept w base kb its size) (hbase : base ≤ kb) (hlb : ∀ i (h : i < ts.length), w.cell? ⟨lb, i, none⟩ = some (slv ts[i]))
    (hts : ∀ t, some t ∈ ts → t.2.1 ≤ 281474976710656 ∧ t.2.2 ≤ maxLen) (hlk : lb ≠ kb) (hlen : ts.length ≤ 1000)
    (hdis : ∀ vl, w.cell? ⟨kb, 0, none⟩ = some vl → vl.ownBlock ≠ some lb) :
    Calls Try.prog 10 #[.pointer (some ⟨kb, 0, none⟩), .slice (some ⟨lb, 0, none⟩) ts.length cc] w fun e w' => e = .returned (.tuple #[]) ∧ ∃ its' size', Kept w' base kb its' size' ∧ its'.Sublist (its ++ somes ts) ∧ FrK base kb w w' ∧ (∀ vl, w.cell? ⟨kb, 0, none⟩ = some vl → FrE kb vl.ownBlock w w' ∧ RowAt w' kb vl.ownBlock w.heap.size) := by
  obtain ⟨vl0, kk0, -⟩ := kept_cells hk
  obtain ⟨rb, hrb⟩ : ∃ rb, Hid (vl0.ownBlock = rb) := ⟨_, rfl⟩
  have HR0 : Hid (RowAt w kb rb w.heap.size) := fun vl h => by rw [kk0] at h; cases h; exact .inl hrb.out
  have HK0 : Hid (w.cell? ⟨kb, 0, none⟩ = some vl0) := kk0
  clear kk0
  go_enter Try.func10, Try.ntmps10
  go_wp2
  go_loopw [4] (fun i wr => ∃ (k : Nat) (its' : List (Nat × Nat × Nat)) (size' : Nat), k ≤ ts.length ∧ i = .int .i64 k ∧ Kept wr base kb its' size' ∧ its'.Sublist (its ++ somes (ts.take k)) ∧ FrK base kb w wr ∧ Hid (FrE kb rb w wr ∧ RowAt wr kb rb w.heap.size) ∧ Hid (∀ i (h : i < ts.length), wr.cell? ⟨lb, i, none⟩ = some (slv ts[i])) ∧ Hid (∀ vl, wr.cell? ⟨kb, 0, none⟩ = some vl → vl.ownBlock ≠ some lb)) (fun i _ => ts.length - (intOf i).toNat)
  case atStart => exact ⟨0, its, size, Nat.zero_le _, rfl, hk, by simp [somes], FrK.refl _ _ _, ⟨But.refl _ _, HR0.out⟩, hlb, hdis⟩
  case round =>
    clear hk hlb hdis
    obtain ⟨k, its', size', hk, rfl, hK, hsub, hfr, hfe, hlb, hdis⟩ := hrel
    by_cases hlt : k < ts.length
    · have c1 := hlb.out k hlt
      cases htk : ts[k] with
      | none =>
        rw [htk] at c1
        have c1' : wr.cell? ⟨lb, k, none⟩ = some (.slice none 0 0) := c1
        have HT : Hid (somes (ts.take (k + 1)) = somes (ts.take k)) := by show _ = _; rw [List.take_succ_eq_append_getElem hlt, htk, somes_append]; simp [somes]
        clear c1 htk
        have hrm : ∀ u : World, Calls Try.prog 22 #[.int .i64 0, .int .i64 0] u fun e w' => e = .returned (.int .i64 0) ∧ w' = u := fun u => room_any u 0 0 (by decide) (by decide)
        have HRM : Hid (∀ u : World, Calls Try.prog 22 #[.int .i64 0, .int .i64 0] u fun e w' => e = .returned (.int .i64 0) ∧ w' = u) := hrm
        clear hrm
        go_wp2
        go_quiet ((go_at_call 22; exact Calls.quiet_of_same (HRM.out _)))
        go_wp2
        go_roundw
        case rel => exact ⟨k + 1, its', size', by omega, by go_num, hK, by rw [HT.out]; exact hsub, hfr.trans (FrK.of_below (Qt.below ⟨_, rfl⟩ _)), ⟨hfe.out.1.trans (But.of_below (Qt.below ⟨_, rfl⟩ _) _), hfe.out.2⟩, hlb, hdis⟩
        case measure => simp [intOf]; omega
      | some t =>
        rw [htk] at c1
        obtain ⟨g, n, c⟩ := t
        have c1' : wr.cell? ⟨lb, k, none⟩ = some (.slice (some ⟨g, 0, none⟩) n c) := c1
        have hb := hts (g, n, c) (by rw [← htk]; exact List.getElem_mem hlt)
        have hn0 : n ≤ 281474976710656 := hb.1
        have hc0 : c ≤ 9223372036854775807 := by have := hb.2; unfold maxLen at this; exact this
        have HT : Hid (somes (ts.take (k + 1)) = somes (ts.take k) ++ [(g, n, c)]) := by show _ = _; rw [List.take_succ_eq_append_getElem hlt, htk, somes_append]; simp [somes]
        have HSK : Hid (its'.Sublist (its ++ somes (ts.take (k + 1)))) := by
          show List.Sublist _ _
          rw [HT.out, ← List.append_assoc]
          exact hsub.trans (List.sublist_append_left _ _)
        have HRM : Hid (∀ u : World, Calls Try.prog 22 #[.int .i64 (n : Int), .int .i64 (c : Int)] u fun e w' => e = .returned (.int .i64 (room n c : Int)) ∧ w' = u) := fun u => room_any u n c hn0 hc0
        have hrl : room n c ≤ 281474976715656 := by unfold room; omega
        clear c1 htk hb
        obtain ⟨vl, k0, k1, f0, f1, ho, hvk, hsz, hmax⟩ := kept_cells hK
        generalize hr : room n c = r at *
        clear hr
        by_cases hr0 : r = 0
        · subst hr0
          go_wp2
          go_quiet ((go_at_call 22; exact Calls.quiet_of_same (HRM.out _)))
          go_wp2
          go_roundw
          case rel => exact ⟨k + 1, its', size', by omega, by go_num, hK, HSK.out, hfr.trans (FrK.of_below (Qt.below ⟨_, rfl⟩ _)), ⟨hfe.out.1.trans (But.of_below (Qt.below ⟨_, rfl⟩ _) _), hfe.out.2⟩, hlb, hdis⟩
          case measure => simp [intOf]; omega
        · have q0 : (((r : Nat) : Int) == 0) = false := by simp; omega
          by_cases hbig : 4194304 < size' + r
          · have q1 : (4194304 : Int) < (size' : Int) + (r : Int) := by omega
            go_wp2
            go_quiet ((go_at_call 22; exact Calls.quiet_of_same (HRM.out _)))
            go_wp2
            go_roundw
            case rel => exact ⟨k + 1, its', size', by omega, by go_num, hK, HSK.out, hfr.trans (FrK.of_below (Qt.below ⟨_, rfl⟩ _)), ⟨hfe.out.1.trans (But.of_below (Qt.below ⟨_, rfl⟩ _) _), hfe.out.2⟩, hlb, hdis⟩
            case measure => simp [intOf]; omega
          · go_wp2
            go_quiet ((go_at_call 22; exact Calls.quiet_of_same (HRM.out _)))
            go_wp2
            have e2 : ((size' : Int) + (r : Int)) = ((size' + r : Nat) : Int) := by omega
            rw [e2]
            obtain ⟨w2, hw2⟩ : ∃ w2, w2 = (wr.drewN nq).setCell ⟨kb, 1, none⟩ (.int .i64 ((size' + r : Nat) : Int)) := ⟨_, rfl⟩
            have hk2 : w2.heap[kb]? = some (.cells #[vl, .int .i64 ((size' + r : Nat) : Int)] 38 (0, 0)) := by
              obtain ⟨vl', hk', _⟩ := hK
              have : vl' = vl := by simp [World.cell?, hk'] at k0; exact k0
              subst this
              rw [hw2, heap_setCell_same (wr.drewN nq) kb 1 _ _ _ hk']; simp
            have fe2 : Hid (But (fun j => j = kb ∨ vl.ownBlock = some j) wr w2 ∧ w.heap.size ≤ w2.heap.size ∧ (vl.ownBlock = rb ∨ ∀ j, vl.ownBlock = some j → w.heap.size ≤ j)) := by
              refine ⟨?_, ?_, hfe.out.2 vl k0⟩
              · rw [hw2]; exact (But.of_below (Qt.below ⟨_, rfl⟩ _) _).trans (But.of_grownBy (grown_setCell _ _ _ _) fun j e => by cases e; exact .inl rfl)
              · rw [hw2]; have := hfe.out.1.size; simpa using this
            have ho2 : w2.ownsRow base 22 1 vl its'.length (itvs its') := by rw [hw2]; exact ownsRow_setCell_other ho (by simpa using hvk) _
            have fr2 : FrK base kb wr w2 := by rw [hw2]; exact (FrK.of_below (Qt.below ⟨_, rfl⟩ _)).trans (FrK.of_set _ _ _ _ _)
            have lb2 : ∀ i (h : i < ts.length), w2.cell? ⟨lb, i, none⟩ = some (slv ts[i]) := by
              intro i hi
              rw [hw2, World.cell?_of_block (w := wr.drewN nq) (heap_setCell_other _ ⟨kb, 1, none⟩ lb _ hlk)]
              exact hlb.out i hi
            have c2 : w2.cell? ⟨lb, k, none⟩ = some (.slice (some ⟨g, 0, none⟩) n c) := by
              rw [hw2, World.cell?_of_block (w := wr.drewN nq) (heap_setCell_other _ ⟨kb, 1, none⟩ lb _ hlk)]; exact c1'
            have k02 : w2.cell? ⟨kb, 0, none⟩ = some vl := by simp [World.cell?, hk2]
            have hbz : base ≤ w2.heap.size := by have := heap_lt hk2; omega
            have hvl : vl.ownBlock ≠ some lb := hdis.out vl k0
            have LB2 : Hid (∀ i (h : i < ts.length), w2.cell? ⟨lb, i, none⟩ = some (slv ts[i])) := lb2
            rw [← hw2]
            obtain ⟨i0, hi, hz0, hz1, hz2⟩ := info_parts Try.infoSl
            obtain ⟨ao, ca, rfl⟩ := own_slice ho2
            clear hw2 lb2 e2 hlb hdis k0 k1 f0 f1 ho hK c1' HRM
            have hlbl : lb < w2.heap.size := lt_of_cell c2
            have hkbl : kb < w2.heap.size := lt_of_cell k02
            go_region_law (first | (refine step_append_lies _ rfl (.tmp 47) (.tmp 52) 36 rfl base 22 i0 (.slice none 0 0) 1 24 Try.underlying36 hi hz0 hz1 hz2 rfl (by decide) (.slice ao its'.length ca) its'.length (itvs its') (by simp [Act.eval]) (ho2.alloc _) ⟨w2.heap.size, 0, none⟩ 1 1 [.slice (some ⟨g, 0, none⟩) n c] (by simp [Act.eval]) rfl (cell_one_new _ _ _) (by simp [Value.oneCell']) (by decide) (by unfold maxLen; omega) (by omega) (by simp; omega) (w2.heap.size + 1) (by simp) ?_; intro g2 cap2 w3 hown3 hgrow3 hat hlt3; have kk3 := kb_after (w2 := w2) (by first | exact (box_below w2 _).drew | exact (box_below w2.drew _)) hk2 hgrow3 hvk; have cc3 : w3.cell? ⟨kb, 0, none⟩ = some (.slice ao its'.length ca) := (by simp [World.cell?, kk3]); have ff3 : w3.frozen? ⟨kb, 0, none⟩ = false := (by simp [World.frozen?, kk3])))
            all_goals
              have hg2k : Value.ownBlock (.slice (some ⟨g2, 0, none⟩) (its'.length + 1) cap2) ≠ some kb := own28_ne hown3 kk3
              have hg2l : g2 ≠ lb := by
                rcases hat with h | h
                · intro e; exact hvl (by rw [h, e])
                · omega
              have hKK := Kept.add (t := (g, n, c)) hk2 (kk3.trans hk2.symm) hown3 hg2k (by omega) hsz (by omega)
              have hFF := (fr2.trans (FrK.of_below (by first | exact (box_below w2 _).drew | exact (box_below w2.drew _)))).trans ((FrK.of_grown (by exact ho2.alloc _) hgrow3).trans (FrK.of_set base kb w3 0 (.slice (some ⟨g2, 0, none⟩) (its'.length + 1) cap2)))
              have hFE : FrE kb rb w (w3.setCell ⟨kb, 0, none⟩ (.slice (some ⟨g2, 0, none⟩) (its'.length + 1) cap2)) ∧ RowAt (w3.setCell ⟨kb, 0, none⟩ (.slice (some ⟨g2, 0, none⟩) (its'.length + 1) cap2)) kb rb w.heap.size := by
                refine frE_step hfe.out.1 fe2.out.1 fe2.out.2.2 (by first | exact (box_below w2 _).drew | exact (box_below w2.drew _)) hgrow3 cc3 ?_
                rcases hat with h | h
                · exact .inl h
                · have := fe2.out.2.1; exact .inr (by omega)
              have HFE : Hid _ := hFE
              have hLL : ∀ i (h : i < ts.length), (w3.setCell ⟨kb, 0, none⟩ (.slice (some ⟨g2, 0, none⟩) (its'.length + 1) cap2)).cell? ⟨lb, i, none⟩ = some (slv ts[i]) := by
                intro i hi
                rw [World.cell?_of_block (w := w3) (heap_setCell_other _ ⟨kb, 0, none⟩ lb _ hlk)]
                refine hgrow3.cell (a := ⟨lb, i, none⟩) ?_ (fun e => hvl e.symm)
                exact ((box_below w2 (.cells #[.slice (some ⟨g, 0, none⟩) n c] 22)).cell (p := ⟨lb, i, none⟩) hlbl).trans (LB2.out i hi)
              have hDD : ∀ vl, (w3.setCell ⟨kb, 0, none⟩ (.slice (some ⟨g2, 0, none⟩) (its'.length + 1) cap2)).cell? ⟨kb, 0, none⟩ = some vl → vl.ownBlock ≠ some lb := by
                intro vl' hv'
                rw [World.cell?_setCell_same _ _ _ cc3] at hv'
                simp only [Option.some.injEq] at hv'
                subst hv'
                simpa [Value.ownBlock] using hg2l
              have HSS : Hid ((its' ++ [(g, n, c)]).Sublist (its ++ somes (ts.take (k + 1)))) := by
                show List.Sublist _ _
                rw [HT.out, ← List.append_assoc]
                exact hsub.append (List.Sublist.refl _)
              have HLL : Hid _ := hLL
              have HDD : Hid _ := hDD
              clear hLL hDD hFE hown3 hgrow3 hat hlt3 kk3 cc3 ff3
              go_wp2
              go_roundw
              case rel => exact ⟨k + 1, its' ++ [(g, n, c)], size' + r, by omega, by go_num, hKK, HSS.out, hfr.trans hFF, HFE.out, HLL.out, HDD.out⟩
              case measure => simp [intOf]; omega
    · have HE : Hid (ts.take k = ts) := List.take_of_length_le (by omega)
      rw [HE.out] at hsub
      go_wp2
      go_end0
      exact ⟨rfl, its', size', hK, hsub, hfr, fun vl h => by rw [HK0.out] at h; cases h; rw [hrb.out]; exact hfe.out⟩

end Go.Proofs.Ytebhkdaefjmbnaa

/-
  A Bytes that keeps lists, by the set of its blocks; Keep of one list.
-/
namespace Go.Proofs.Ytebhkdaefjmbnaa
open Go.RowKit
set_option linter.unusedVariables false

/-- At kb lies a Bytes; C: its block, its list's row, and the lists that it keeps. -/
def Kpr (base : Nat) (W : World) (kb : Nat) (C : Nat → Prop) : Prop :=
  ∃ its size vl, Kept W base kb its size ∧ W.cell? ⟨kb, 0, none⟩ = some vl ∧ Items W base its ∧ base ≤ kb ∧ (∀ k, C k ↔ k = kb ∨ vl.ownBlock = some k ∨ ∃ t ∈ its, t.1 = k)
theorem Kept.vl {w : World} {base kb : Nat} {its : List (Nat × Nat × Nat)} {size : Nat} {vl : Value} (h : Kept w base kb its size) (hv : w.cell? ⟨kb, 0, none⟩ = some vl) : w.heap[kb]? = some (.cells #[vl, .int .i64 (size : Int)] 38 (0, 0)) ∧ w.ownsRow base 22 1 vl its.length (itvs its) := by
  obtain ⟨vl', h1, h2, _⟩ := h
  have : vl' = vl := by simp [World.cell?, h1] at hv; exact hv
  subst this
  exact ⟨h1, h2⟩
theorem Kpr.lt {base : Nat} {W : World} {kb : Nat} {C : Nat → Prop} (h : Kpr base W kb C) : ∀ k, C k → k < W.heap.size ∧ base ≤ k := by
  obtain ⟨its, size, vl, h1, h2, h3, h4, h5⟩ := h
  intro k hk
  obtain ⟨a, b⟩ := h1.vl h2
  rcases (h5 k).1 hk with rfl | e | ⟨t, ht, rfl⟩
  · exact ⟨heap_lt a, h4⟩
  · exact ⟨(b.lt k e).2, (b.lt k e).1⟩
  · obtain ⟨_, _, _, _, _, _, l⟩ := h3.1 t ht
    exact ⟨(h3.1 t ht).lt, l⟩
theorem Kpr.but {base : Nat} {W W' : World} {kb : Nat} {C X : Nat → Prop} (h : Kpr base W kb C) (hb : But X W W') (hX : ∀ k, X k → ¬ C k) : Kpr base W' kb C := by
  obtain ⟨its, size, vl, h1, h2, h3, h4, h5⟩ := h
  obtain ⟨a, b⟩ := h1.vl h2
  have a' := hb.at a fun hx => hX _ hx ((h5 _).2 (.inl rfl))
  have b' := owns_but b hb fun k hk hx => hX _ hx ((h5 _).2 (.inr (.inl hk)))
  obtain ⟨_, _, _, s1, s2⟩ := h1
  refine ⟨its, size, vl, ⟨vl, a', b', s1, s2⟩, by simp [World.cell?, a'], ⟨fun t ht => ?_, h3.2⟩, h4, h5⟩
  obtain ⟨cur, c1, c2⟩ := h3.1 t ht
  exact ⟨cur, hb.at c1 fun hx => hX _ hx ((h5 _).2 (.inr (.inr ⟨t, ht, rfl⟩))), c2⟩
theorem Kpr.apart {base : Nat} {W : World} {kb : Nat} {C : Nat → Prop} (h : Kpr base W kb C) : Calls Try.prog 15 #[.pointer (some ⟨kb, 0, none⟩)] W fun e w' => e = .returned (.bool true) ∧ Below base W w' := by
  obtain ⟨its, size, vl, h1, h2, h3, h4, h5⟩ := h
  exact apart_any W base kb its size h1 h3
theorem Kpr.apartD {base : Nat} {W : World} {kb : Nat} {C : Nat → Prop} (h : Kpr base W kb C) : Calls Try.prog 15 #[.pointer (some ⟨kb, 0, none⟩)] W fun e w' => e = .returned (.bool true) ∧ BD base W w' := by
  obtain ⟨its, size, vl, h1, h2, h3, h4, h5⟩ := h
  exact apart_anyD W base kb its size h1 h3
/-- The same from a greater base on. -/
theorem Kpr.raise {base s6 : Nat} {W : World} {kb : Nat} {C : Nat → Prop} (h : Kpr base W kb C) (hlow : ∀ k, C k → s6 ≤ k) : Kpr s6 W kb C := by
  obtain ⟨its, size, vl, h1, h2, h3, h4, h5⟩ := h
  obtain ⟨a, b⟩ := h1.vl h2
  obtain ⟨_, _, _, s1, s2⟩ := h1
  refine ⟨its, size, vl, ⟨vl, a, owns_raise b fun k hk => hlow k ((h5 k).2 (.inr (.inl hk))), s1, s2⟩, h2, ⟨fun t ht => ?_, h3.2⟩, hlow kb ((h5 kb).2 (.inl rfl)), h5⟩
  obtain ⟨cur, c1, c2, c3, c4, c5, c6⟩ := h3.1 t ht
  exact ⟨cur, c1, c2, c3, c4, c5, hlow _ ((h5 _).2 (.inr (.inr ⟨t, ht, rfl⟩)))⟩
/-- Keep of one list of its own. -/
theorem Kpr.keep {base : Nat} {W : World} {kb : Nat} {C : Nat → Prop} {v : Value} {l : List UInt8} {n : Nat} (h : Kpr base W kb C) (ho : W.ownsRow base 5 1 v n (bvals l)) (hn : l.length = n) (hl : n ≤ 281474976710656) (hv : ∀ k, v.ownBlock = some k → ¬ C k) (cc : Nat) :
    Calls Try.prog 10 #[.pointer (some ⟨kb, 0, none⟩), .slice (some ⟨W.heap.size, 0, none⟩) 1 cc] (W.alloc (.cells #[v] 22)) fun e w' => e = .returned (.tuple #[]) ∧ ∃ C', Kpr base w' kb C' ∧ But C W w' ∧ (∀ k, C' k → C k ∨ v.ownBlock = some k ∨ W.heap.size ≤ k) := by
  obtain ⟨its, size, vl, h1, h2, h3, h4, h5⟩ := h
  subst hn
  obtain ⟨t, rfl, ht⟩ := own_slv ho hl
  obtain ⟨a, b⟩ := h1.vl h2
  have hb0 := box_below W (.cells #[slv t] 22)
  have hIt : Items W base (its ++ somes [t]) := by
    cases t with
    | none => simpa [somes] using h3
    | some t =>
      refine ⟨fun x hx => ?_, ?_⟩
      · rcases List.mem_append.1 hx with hx | hx
        · exact h3.1 x hx
        · simp [somes] at hx; subst hx; exact ht _ rfl
      · rw [List.map_append, List.nodup_append]
        refine ⟨h3.2, by simp [somes], fun x hx y hy e => ?_⟩
        simp [somes] at hy
        subst hy
        subst e
        obtain ⟨t', ht', e'⟩ := List.mem_map.1 hx
        exact hv t.1 rfl ((h5 _).2 (.inr (.inr ⟨t', ht', e'⟩)))
  have hIU : Items (W.alloc (.cells #[slv t] 22)) base (its ++ somes [t]) := ⟨fun x hx => (hIt.1 x hx).below hb0, hIt.2⟩
  have hKU : Kept (W.alloc (.cells #[slv t] 22)) base kb its size := h1.below hb0
  have hvU : (W.alloc (.cells #[slv t] 22)).cell? ⟨kb, 0, none⟩ = some vl := (hb0.cell (p := ⟨kb, 0, none⟩) (heap_lt a)).trans h2
  refine (keep_any2 _ base kb W.heap.size cc its size [t] hKU h4 (fun i hi => ?_) (fun t' ht' => ?_) (by have := heap_lt a; omega) (by simp) (fun vl' hv' => ?_)).mono ?_
  · obtain rfl : i = 0 := by simpa using hi
    exact Boxed.cell (Boxed.new W 22 (slv t))
  · simp at ht'
    obtain ⟨_, _, _, _, q1, q2, _⟩ := ht t' ht'.symm
    exact ⟨q2, q1⟩
  · rw [hvU] at hv'
    simp only [Option.some.injEq] at hv'
    subst hv'
    intro e
    have := (b.lt _ e).2
    omega
  · rintro e w' ⟨rfl, its', size', k1, k2, k3, k4⟩
    obtain ⟨vl', m1, -⟩ := kept_cells k1
    obtain ⟨k5, k6⟩ := k4 vl hvU
    have hbut : But C W w' := (But.of_below hb0 _).trans (k5.mono fun k _ hk => by
      rcases hk with hk | hk
      · exact (h5 k).2 (.inl hk)
      · exact (h5 k).2 (.inr (.inl hk)))
    have hI' : Items w' base its' := Items.sub ⟨fun x hx => (hIU.1 x hx).frK (hKU.ne (hIU.1 x hx)) k3, hIU.2⟩ k2
    refine ⟨rfl, fun k => k = kb ∨ vl'.ownBlock = some k ∨ ∃ t ∈ its', t.1 = k, ⟨its', size', vl', k1, m1, hI', h4, fun k => Iff.rfl⟩, hbut, ?_⟩
    rintro k (rfl | e | ⟨x, hx, rfl⟩)
    · exact .inl ((h5 _).2 (.inl rfl))
    · rcases k6 vl' m1 with e' | e'
      · exact .inl ((h5 _).2 (.inr (.inl (by rw [← e']; exact e))))
      · have := e' k e
        simp at this
        exact .inr (.inr (by omega))
    · rcases List.mem_append.1 (k2.subset hx) with hx | hx
      · exact .inl ((h5 _).2 (.inr (.inr ⟨x, hx, rfl⟩)))
      · cases t with
        | none => simp [somes] at hx
        | some t => simp [somes] at hx; subst hx; exact .inr (.inl rfl)

end Go.Proofs.Ytebhkdaefjmbnaa

/-
  What ScanAll keeps: the records that Records answered, kept one by one.
-/
namespace Go.Proofs.Ytebhkdaefjmbnaa
open Go.RowKit
set_option linter.unusedVariables false

/-- A block of another type than a Bytes, its list's row, its lists is none of the keeper's. -/
theorem Kpr.not {base : Nat} {W : World} {kb : Nat} {C : Nat → Prop} (h : Kpr base W kb C) {b : Nat} {cs : Array Value} {T : TypeId} {fz : Nat × Nat} (hb : W.heap[b]? = some (.cells cs T fz)) (h1 : T ≠ 38) (h2 : T ≠ 22) (h3 : T ≠ 5) : ¬ C b := fun hc => by
  obtain ⟨its, size, vl, k1, k2, k3, k4, k5⟩ := h
  obtain ⟨a, o⟩ := k1.vl k2
  rcases (k5 b).1 hc with e | e | ⟨t, ht, e⟩
  · subst e; rw [hb] at a; simp at a; exact h1 a.2.1
  · exact owns_no o hb h2 e
  · obtain ⟨cur, c1, _⟩ := k3.1 t ht
    rw [e, hb] at c1
    simp at c1
    exact h3 c1.2.1
theorem Kpr.not_row {base : Nat} {W : World} {kb : Nat} {C : Nat → Prop} (h : Kpr base W kb C) {b e size n : Nat} {v : Value} {xs : List Value} (ho : W.ownsRow b e size v n xs) (h1 : e ≠ 38) (h2 : e ≠ 22) (h3 : e ≠ 5) : ∀ k, v.ownBlock = some k → ¬ C k := fun k hk => by
  rcases ho.2 with ⟨rfl, _⟩ | ⟨g, cap, cur, rfl, _, hh, _⟩
  · simp [Value.ownBlock] at hk
  · simp [Value.ownBlock] at hk
    subst hk
    exact h.not hh h1 h2 h3
/-- A new Bytes. -/
theorem Kpr.new {base : Nat} (W : World) (hb : base ≤ W.heap.size) : Kpr base (W.alloc (.cells #[.slice none 0 0, .int .i64 0] 38)) W.heap.size (fun k => k = W.heap.size) := by
  have h := heap_alloc_new W (.cells #[.slice none 0 0, .int .i64 0] 38)
  refine ⟨[], 0, .slice none 0 0, ⟨_, h, World.ownsRow_nil _ _ _ _, Nat.le_refl _, by omega⟩, by unfold World.cell?; rw [show (W.alloc (.cells #[.slice none 0 0, .int .i64 0] 38)).heap[(⟨W.heap.size, 0, none⟩ : Addr).block]? = _ from h]; rfl, ⟨by simp, by simp⟩, hb, fun k => by simp [Value.ownBlock]⟩

/-- Where the keeping stands: lists from s6 on are kept; kp holds the pointer. -/
structure KA (base s6 kb kp : Nat) (W : World) (C : Nat → Prop) : Prop where
  kpr : Kpr base W kb C
  low : ∀ k, C k → s6 ≤ k
  ptr : W.heap[kp]? = some (.cells #[.pointer (some ⟨kb, 0, none⟩)] 35 (0, 0))
theorem KA.but {base s6 kb kp : Nat} {W W' : World} {C X : Nat → Prop} (h : KA base s6 kb kp W C) (hb : But X W W') (hX : ∀ k, X k → ¬ C k ∧ k ≠ kp) : KA base s6 kb kp W' C :=
  ⟨h.kpr.but hb fun k hk => (hX k hk).1, h.low, hb.at h.ptr fun hk => (hX _ hk).2 rfl⟩
theorem KA.below {base s6 kb kp : Nat} {W W' : World} {C : Nat → Prop} (h : KA base s6 kb kp W C) (hb : Below W.heap.size W W') : KA base s6 kb kp W' C :=
  h.but (But.of_below hb fun _ => False) fun k hk => hk.elim
/-- Keep of one list, from s6 on, that is none of the keeper's. -/
theorem KA.keep {base s6 kb kp : Nat} {W : World} {C : Nat → Prop} {v : Value} {l : List UInt8} {n : Nat} (h : KA base s6 kb kp W C) (ho : W.ownsRow s6 5 1 v n (bvals l)) (hn : l.length = n) (hl : n ≤ 281474976710656) (hv : ∀ k, v.ownBlock = some k → ¬ C k) (h6 : base ≤ s6) (h7 : s6 ≤ W.heap.size) (cc : Nat) :
    Calls Try.prog 10 #[.pointer (some ⟨kb, 0, none⟩), .slice (some ⟨W.heap.size, 0, none⟩) 1 cc] (W.alloc (.cells #[v] 22)) fun e w' => e = .returned (.tuple #[]) ∧ ∃ C', KA base s6 kb kp w' C' ∧ But C W w' ∧ (∀ k, C' k → C k ∨ v.ownBlock = some k ∨ W.heap.size ≤ k) ∧ Below s6 W w' := by
  refine (h.kpr.keep (owns_lower ho h6) hn hl hv cc).mono ?_
  rintro e w' ⟨rfl, C', k1, k2, k3⟩
  refine ⟨rfl, C', ⟨k1, fun k hk => ?_, k2.at h.ptr (h.kpr.not h.ptr (by decide) (by decide) (by decide))⟩, k2, k3, k2.below h7 h.low⟩
  rcases k3 k hk with e | e | e
  · exact h.low k e
  · exact (ho.lt k e).1
  · omega

end Go.Proofs.Ytebhkdaefjmbnaa

/-
  ScanAll's first loop: the records of Records, kept one by one.
-/
namespace Go.Proofs.Ytebhkdaefjmbnaa
open Go.RowKit
set_option linter.unusedVariables false

theorem dat_len (L : List UInt8) (x : Sc) : (dat L x).length ≤ L.length := by
  unfold dat rdF
  split
  · simp only [fD, List.length_take, List.length_drop]; omega
  · simp
theorem rcells_at (ps : List (Sc × Value)) : ∀ (i : Nat) (h : i < ps.length), (rcells ps)[i * 2]? = some (.int .i64 (ps[i].1.n : Int)) ∧ (rcells ps)[i * 2 + 1]? = some ps[i].2 := by
  induction ps with
  | nil => intro i h; simp at h
  | cons p ps ih =>
    intro i h
    have e : rcells (p :: ps) = .int .i64 (p.1.n : Int) :: p.2 :: rcells ps := by simp [rcells]
    rw [e]
    cases i with
    | zero => exact ⟨by simp, by simp⟩
    | succ i =>
      obtain ⟨a, b⟩ := ih i (by simpa using h)
      rw [show (i + 1) * 2 = i * 2 + 1 + 1 from by omega]
      exact ⟨by simpa using a, by simpa using b⟩

/-- The first loop at round i: the lists from i on are none of the keeper's. -/
structure L1 (base : Nat) (wc : World) (L : List UInt8) (kb kp : Nat) (vr : Value) (qs : List (Sc × Value)) (i : Nat) (W : World) (C : Nat → Prop) : Prop where
  ka : KA base wc.heap.size kb kp W C
  bel : Below wc.heap.size wc W
  row : W.ownsRow wc.heap.size 41 2 vr qs.length (rcells qs)
  data : ∀ j (h : j < qs.length), i ≤ j → W.ownsRow wc.heap.size 5 1 qs[j].2 (dat L qs[j].1).length (bvals (dat L qs[j].1)) ∧ ∀ k, qs[j].2.ownBlock = some k → ¬ C k
theorem L1.below {base : Nat} {wc : World} {L : List UInt8} {kb kp : Nat} {vr : Value} {qs : List (Sc × Value)} {i : Nat} {W W' : World} {C : Nat → Prop} (h : L1 base wc L kb kp vr qs i W C) (hb : Below W.heap.size W W') : L1 base wc L kb kp vr qs i W' C :=
  ⟨h.ka.below hb, keepF h.bel hb, owns_but h.row (But.of_below hb fun _ => False) (fun _ _ h => h), fun j hj hi => ⟨ownsRow_below (h.data j hj hi).1 hb, (h.data j hj hi).2⟩⟩
theorem L1.start {base : Nat} {wc : World} {L : List UInt8} {w7 : World} {vr : Value} {qs : List (Sc × Value)} (h : Recs wc L w7 qs vr) (hb : base ≤ wc.heap.size) :
    L1 base wc L w7.heap.size (w7.heap.size + 1) vr qs 0 ((w7.alloc (.cells #[.slice none 0 0, .int .i64 0] 38)).alloc (.cells #[.pointer (some ⟨w7.heap.size, 0, none⟩)] 35)) (fun k => k = w7.heap.size) := by
  have h7 := h.below.size
  have k1 := Kpr.new (base := base) w7 (by omega)
  have b1 := box_below w7 (.cells #[.slice none 0 0, .int .i64 0] 38)
  have b2 := box_below (w7.alloc (.cells #[.slice none 0 0, .int .i64 0] 38)) (.cells #[.pointer (some ⟨w7.heap.size, 0, none⟩)] 35)
  have b3 := keepF b1 b2
  refine ⟨⟨k1.but (But.of_below b2 fun _ => False) (fun k hk => hk.elim), fun k hk => by omega, ?_⟩, keepF h.below b3, owns_but h.row (But.of_below b3 fun _ => False) (fun _ _ h => h), fun j hj _ => ?_⟩
  · have := heap_alloc_new (w7.alloc (.cells #[.slice none 0 0, .int .i64 0] 38)) (.cells #[.pointer (some ⟨w7.heap.size, 0, none⟩)] 35)
    rwa [World.size_alloc] at this
  · have d := h.data qs[j] (List.getElem_mem hj)
    exact ⟨ownsRow_below d b3, fun k hk => by have := (d.lt k hk).2; omega⟩
theorem nodup_own {qs : List (Sc × Value)} (h : (qs.filterMap fun p => p.2.ownBlock).Nodup) : ∀ (i j : Nat) (hi : i < qs.length) (hj : j < qs.length), i < j → ∀ k, qs[i].2.ownBlock = some k → qs[j].2.ownBlock ≠ some k := by
  induction qs with
  | nil => intro i j hi; simp at hi
  | cons p qs ih =>
    intro i j hi hj hij k e1 e2
    cases j with
    | zero => omega
    | succ j =>
      simp only [List.getElem_cons_succ] at e2
      have hm : k ∈ qs.filterMap fun p => p.2.ownBlock := List.mem_filterMap.2 ⟨_, List.getElem_mem _, e2⟩
      cases i with
      | zero =>
        simp only [List.getElem_cons_zero] at e1
        rw [List.filterMap_cons_some (by exact e1), List.nodup_cons] at h
        exact h.1 hm
      | succ i =>
        simp only [List.getElem_cons_succ] at e1
        refine ih ?_ i j (by simpa using hi) (by simpa using hj) (by omega) k e1 e2
        rw [List.filterMap_cons] at h
        split at h
        · exact h
        · exact (List.nodup_cons.1 h).2
theorem L1.keep {base : Nat} {wc : World} {L : List UInt8} {kb kp : Nat} {vr : Value} {qs : List (Sc × Value)} {i : Nat} {W : World} {C : Nat → Prop} (h : L1 base wc L kb kp vr qs i W C) (hi : i < qs.length) (hnd : (qs.filterMap fun p => p.2.ownBlock).Nodup) (hb : base ≤ wc.heap.size) (hl : (dat L qs[i].1).length ≤ 281474976710656) (cc : Nat) :
    Calls Try.prog 10 #[.pointer (some ⟨kb, 0, none⟩), .slice (some ⟨W.heap.size, 0, none⟩) 1 cc] (W.alloc (.cells #[qs[i].2] 22)) fun e w' => e = .returned (.tuple #[]) ∧ ∃ C', L1 base wc L kb kp vr qs (i + 1) w' C' := by
  obtain ⟨d, hc⟩ := h.data i hi (Nat.le_refl _)
  refine (h.ka.keep d rfl hl hc hb h.bel.size cc).mono ?_
  rintro e w' ⟨rfl, C', k1, k2, k3, k4⟩
  refine ⟨rfl, C', k1, h.bel.trans k4, owns_but h.row k2 (h.ka.kpr.not_row h.row (by decide) (by decide) (by decide)), fun j hj hij => ?_⟩
  obtain ⟨d', hc'⟩ := h.data j hj (by omega)
  refine ⟨owns_but d' k2 hc', fun k hk hC => ?_⟩
  rcases k3 k hC with e | e | e
  · exact hc' k hk e
  · exact nodup_own hnd i j hi hj (by omega) k e hk
  · have := (d'.lt k hk).2; omega
theorem L1.cells {base : Nat} {wc : World} {L : List UInt8} {kb kp : Nat} {ao : Option Addr} {N ca : Nat} {qs : List (Sc × Value)} {i : Nat} {W : World} {C : Nat → Prop} (h : L1 base wc L kb kp (.slice ao N ca) qs i W C) (hN : qs.length = N) (hp : 0 < N) : ∃ g, ao = some ⟨g, 0, none⟩ ∧ g < W.heap.size ∧ ∀ j (hj : j < qs.length), W.cell? ⟨g, j * 2, none⟩ = some (.int .i64 (qs[j].1.n : Int)) ∧ W.cell? ⟨g, j * 2 + 1, none⟩ = some qs[j].2 := by
  obtain ⟨h1, h2⟩ := h.row
  rcases h2 with ⟨e1, e2⟩ | ⟨g, cap, cur, e1, hg, hh, hnc, hcm, hcs, ht⟩
  · omega
  · simp only [Value.slice.injEq] at e1
    obtain ⟨rfl, _, rfl⟩ := e1
    refine ⟨g, rfl, heap_lt hh, fun j hj => ?_⟩
    have key : ∀ j u, (rcells qs)[j]? = some u → W.cell? ⟨g, j, none⟩ = some u := fun j u hu => by
      have hj : j < (rcells qs).length := (List.getElem?_eq_some_iff.1 hu).1
      have e2 : cur[j]? = some u := by
        rw [← ht, List.getElem?_take_of_lt (by omega)] at hu
        simpa using hu
      simp [World.cell?, hh, e2]
    obtain ⟨a, b⟩ := rcells_at qs j hj
    exact ⟨key _ _ a, key _ _ b⟩

/-- Keep of one list that was made since W. -/
theorem KA.keep_new {base s6 kb kp : Nat} {W W' : World} {C : Nat → Prop} {v : Value} {l : List UInt8} {n : Nat} (h : KA base s6 kb kp W C) (hb : Below W.heap.size W W') (ho : W'.ownsRow W.heap.size 5 1 v n (bvals l)) (hn : l.length = n) (hl : n ≤ 281474976710656) (h6 : base ≤ s6) (h7 : s6 ≤ W.heap.size) (cc : Nat) :
    Calls Try.prog 10 #[.pointer (some ⟨kb, 0, none⟩), .slice (some ⟨W'.heap.size, 0, none⟩) 1 cc] (W'.alloc (.cells #[v] 22)) fun e w' => e = .returned (.tuple #[]) ∧ ∃ C', KA base s6 kb kp w' C' ∧ Below s6 W' w' := by
  have hv : ∀ k, v.ownBlock = some k → ¬ C k := fun k hk hc => by
    have := (h.kpr.lt k hc).1
    have := (ho.lt k hk).1
    omega
  refine ((h.below hb).keep (owns_lower ho h7) hn hl hv h6 (Nat.le_trans h7 hb.size) cc).mono ?_
  rintro e w' ⟨rfl, C', k1, k2, k3, k4⟩
  exact ⟨rfl, C', k1, k4⟩

end Go.Proofs.Ytebhkdaefjmbnaa

/-
  A range within a block that its breaks leave; what ScanAll's third loop holds.
-/
namespace Go.Proofs.Ytebhkdaefjmbnaa
open Go.RowKit
set_option linter.unusedVariables false

/-- A range whose rounds break out of block b at most: what follows is shown once. -/
theorem wp_range_blk {α : Type} {P : Program} {g : Operand} {ps : Array Tmp} {assign body : Code} {K : Act → World → Prop} {Q' : Exit → Act → World → Prop} {a : Act} {w : World} {b : Nat}
    {gf : Nat} {lb : Array Value} (hg : a.eval g = .func (.func gf) #[] lb) (eg : ∀ args w, (callFunc gf args).run P w = .ok (.enter gf args) w)
    {xs : List α} {Rep : α → Array Value → World → (Nat → Prop) → Prop} {Rd : Nat → Prop} {w0 : World} (hseq : Seq P gf lb xs Rep Rd w0)
    (hsz : w0.heap.size ≤ w.heap.size) (hRd : ∀ k, Rd k → w.heap[k]? = w0.heap[k]? ∧ k < w.heap.size)
    (hps : ∀ x args W D, Rep x args W D → args.size = ps.size)
    (I Ix : List α → (Nat → Prop) → World → Prop)
    (hI : Stable w.heap.size I) (hIx : Stable w.heap.size Ix) (C0 : Nat → Prop) (hC0 : ∀ k, C0 k → ¬ Rd k ∧ k < w.heap.size) (h0 : I [] C0 w)
    (hround : ∀ (l : Nat) (pre : List α) (x : α) (rest : List α) (C1 D : Nat → Prop) (args : Array Value) (W1 : World), xs = pre ++ x :: rest → I pre C1 W1 → Rep x args W1 D → w.heap.size < W1.heap.size →
      (∀ k, D k → ¬ C1 k ∧ w.heap.size ≤ k ∧ k < W1.heap.size) → l = w.heap.size + 1 → l < W1.heap.size → ¬ C1 l → ¬ D l →
      assign.wpIn (Fence.wide.inRound l) 0 P (Exit.then (fun a1 Wa => But (fun _ => False) W1 Wa ∧ ∀ Wb, But (fun k => k = l) Wa Wb → Wb.heap.size = Wa.heap.size → body.wpIn (Fence.wide.inRound l) 0 P (itPost I (fun c pre C W => c = .exit b ∧ Ix pre C W) (pre ++ [x]) C1 D W1.heap.size Wb) a1 Wb) (fun _ _ _ => False))
        { tmps := (ps.zip args).foldl (fun t (p, v) => t.setIfInBounds p v) a.tmps, defers := [] } W1)
    (hmid : ∀ (C2 : Nat → Prop) (W : World), (I xs C2 W ∨ ∃ pre, pre <+: xs ∧ Ix pre C2 W) → W.heap[w.heap.size]? = some (.deferred (some [])) → ¬ C2 w.heap.size → K { a with defers := { target := .collected w.heap.size, args := #[] } :: a.defers } W) :
    (Code.rangeFunc g ps assign body).wp P (Exit.inBlock b (Exit.then K Q')) a w := by
  refine wp_range hg eg hseq hsz hRd hps I (fun c pre C W => c = .exit b ∧ Ix pre C W) hI ?_ C0 hC0 h0 hround ?_ ?_
  · rintro c pre C A B ⟨h1, h2⟩ hb
    exact ⟨h1, hIx _ _ _ _ h2 hb⟩
  · intro C2 W h1 h2 h3
    exact hmid C2 W (.inl h1) h2 h3
  · rintro c pre C2 W hp ⟨rfl, h1⟩ h2 h3
    refine wp_exit ?_
    have := hmid C2 W (.inr ⟨pre, hp, h1⟩) h2 h3
    simpa [Exit.inBlock, Exit.then] using this

theorem But.of_low {A B : World} {n : Nat} (h : Below n A B) : But (fun k => n ≤ k) A B := ⟨h.os, h.tape, h.output, h.size, fun k hk hx => h.block k (by omega)⟩
theorem Plc.low {base n : Nat} {L : List UInt8} {W W' : World} {ps : List (Sc × Value)} {vf : Value} (h : Plc base L W ps vf) (h1 : ∀ k, vf.ownBlock = some k → k < n) (h2 : ∀ p ∈ ps, ∀ k, p.2.ownBlock = some k → k < n) (hb : Below n W W') : Plc base L W' ps vf :=
  ⟨owns_but h.row (But.of_low hb) (fun k hk e => by have := h1 k hk; omega), fun p hp => owns_but (h.data p hp) (But.of_low hb) (fun k hk e => by have := h2 p hp k hk; omega)⟩

/-- Where the third loop's range stands behind i rounds: ib holds i. -/
structure L3 (base s6 kb kp ib : Nat) (C0 : Nat → Prop) (w0 : World) (i : Nat) (C : Nat → Prop) (W : World) : Prop where
  ka : ∃ Ck, KA base s6 kb kp W Ck ∧ (∀ k, C k ↔ Ck k ∨ k = ib)
  box : W.heap[ib]? = some (.cells #[.int .i64 (i : Int)] 3 (0, 0))
  but : But C0 w0 W
  sub : ∀ k, C k → C0 k ∨ w0.heap.size ≤ k
theorem But.cut {C0 X : Nat → Prop} {A B C : World} (h : But C0 A B) (k : But X B C) (hX : ∀ k, X k → C0 k ∨ A.heap.size ≤ k) : But C0 A C :=
  ⟨k.os.trans h.os, k.tape.trans h.tape, k.output.trans h.output, Nat.le_trans h.size k.size, fun i hi hx => (k.block i (Nat.lt_of_lt_of_le hi h.size) (fun e => by rcases hX i e with e | e; exact hx e; omega)).trans (h.block i hi hx)⟩
theorem L3.of_but {base s6 kb kp ib : Nat} {C0 : Nat → Prop} {w0 : World} {i : Nat} {C X : Nat → Prop} {W W' : World} (h : L3 base s6 kb kp ib C0 w0 i C W) (hb : But X W W') (hX : ∀ k, X k → w0.heap.size ≤ k ∧ ¬ C k) (hkp : kp < w0.heap.size) : L3 base s6 kb kp ib C0 w0 i C W' := by
  obtain ⟨Ck, k1, k2⟩ := h.ka
  exact ⟨⟨Ck, k1.but hb fun k hk => ⟨fun e => (hX k hk).2 ((k2 k).2 (.inl e)), fun e => by have := (hX k hk).1; omega⟩, k2⟩, hb.at h.box fun e => (hX _ e).2 ((k2 _).2 (.inr rfl)), h.but.cut hb fun k hk => .inr (hX k hk).1, h.sub⟩
/-- A round's Keep of the list v, and i + 1 into its box. -/
theorem L3.keep {base s6 kb kp ib : Nat} {C0 : Nat → Prop} {w0 : World} {i : Nat} {C : Nat → Prop} {W W3 : World} {v : Value} {l : List UInt8} {n : Nat} (h : L3 base s6 kb kp ib C0 w0 i C W) (hb : Below W.heap.size W W3)
    (ho : W3.ownsRow s6 5 1 v n (bvals l)) (hn : l.length = n) (hl : n ≤ 281474976710656) (hv : ∀ k, v.ownBlock = some k → ¬ C k ∧ w0.heap.size ≤ k ∧ k < W.heap.size) (h6 : base ≤ s6) (h7 : s6 ≤ w0.heap.size) (cc : Nat) :
    Calls Try.prog 10 #[.pointer (some ⟨kb, 0, none⟩), .slice (some ⟨W3.heap.size, 0, none⟩) 1 cc] (W3.alloc (.cells #[v] 22)) fun e W4 => e = .returned (.tuple #[]) ∧ But C W W4 ∧ W4.heap[ib]? = some (.cells #[.int .i64 (i : Int)] 3 (0, 0)) ∧
      ∃ C2, L3 base s6 kb kp ib C0 w0 (i + 1) C2 (W4.setCell ⟨ib, 0, none⟩ (.int .i64 ((i : Int) + 1))) ∧ But C W (W4.setCell ⟨ib, 0, none⟩ (.int .i64 ((i : Int) + 1))) ∧ ∀ k, C2 k → (C k ∨ v.ownBlock = some k ∨ W.heap.size ≤ k) ∧ k < (W4.setCell ⟨ib, 0, none⟩ (.int .i64 ((i : Int) + 1))).heap.size := by
  obtain ⟨Ck, k1, k2⟩ := h.ka
  have s1 := h.but.size
  have s2 := hb.size
  have bx3 := (hb.block ib (heap_lt h.box)).trans h.box
  have k3 := k1.below hb
  have nib := k3.kpr.not bx3 (by decide) (by decide) (by decide)
  refine (k3.keep ho hn hl (fun k hk e => (hv k hk).1 ((k2 k).2 (.inl e))) h6 (by omega) cc).mono ?_
  rintro e W4 ⟨rfl, C', q1, q2, q3, q4⟩
  have bx4 := q2.at bx3 nib
  have b1 : But C W W4 := ((But.of_below hb C).trans (q2.mono fun k _ hk => (k2 k).2 (.inl hk)))
  have b5 : But (fun k => k = ib) W4 (W4.setCell ⟨ib, 0, none⟩ (.int .i64 ((i : Int) + 1))) := But.of_grownBy (grown_setCell _ _ _ _) (fun k e => by cases e; rfl)
  have nib4 := q1.kpr.not bx4 (by decide) (by decide) (by decide)
  have nkp : ib ≠ kp := fun e => by
    have := q1.ptr
    rw [← e, bx4] at this
    simp at this
  have b2 : But C W (W4.setCell ⟨ib, 0, none⟩ (.int .i64 ((i : Int) + 1))) := b1.trans (b5.mono fun k _ e => (k2 k).2 (.inr e))
  have hsub : ∀ k, (C' k ∨ k = ib) → C k ∨ v.ownBlock = some k ∨ W.heap.size ≤ k := fun k hk => by
    rcases hk with hk | hk
    · rcases q3 k hk with e | e | e
      · exact .inl ((k2 k).2 (.inl e))
      · exact .inr (.inl e)
      · exact .inr (.inr (by omega))
    · exact .inl ((k2 k).2 (.inr hk))
  refine ⟨rfl, b1, bx4, fun k => C' k ∨ k = ib, ⟨⟨C', q1.but b5 fun k e => ⟨by rw [e]; exact nib4, by rw [e]; exact nkp⟩, fun k => Iff.rfl⟩, ?_, h.but.cut b2 h.sub, fun k hk => ?_⟩, b2, fun k hk => ⟨hsub k hk, ?_⟩⟩
  · have := Boxed.set (.int .i64 ((i : Int) + 1)) bx4
    simpa [Boxed] using this
  · rcases hsub k hk with e | e | e
    · exact h.sub k e
    · exact .inr (hv k e).2.1
    · exact .inr (by omega)
  · have z := b5.size
    rcases hk with hk | hk
    · have := (q1.kpr.lt k hk).1; omega
    · rw [hk]; have := heap_lt bx4; omega

end Go.Proofs.Ytebhkdaefjmbnaa

