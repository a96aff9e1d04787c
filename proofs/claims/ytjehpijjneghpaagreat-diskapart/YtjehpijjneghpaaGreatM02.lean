/-
  What flumelaw1's Bytes.Keep leaves alone: all blocks but the Bytes' own and its list's row.
-/
import Derived.Test.YtjehpijjneghpaaGreatM01
import Derived.Deep.RegionLaw
import Derived.Deep.AppendLies
import Derived.Deep.Slices
import Derived.Maps.OwnSet
import Derived.Maps.OwnOps
import Derived.Maps.Views
import Derived.Maps.RangeWalk
namespace Go.Proofs.YtjehpijjneghpaaGreat
open Go.RowKit
set_option linter.unusedVariables false
def RowAt (w : World) (kb : Nat) (rb : Option Nat) (s0 : Nat) : Prop := ∀ vl, w.cell? ⟨kb, 0, none⟩ = some vl → vl.ownBlock = rb ∨ (∀ k, vl.ownBlock = some k → s0 ≤ k)
def FrE (kb : Nat) (rb : Option Nat) (w w' : World) : Prop := But (fun k => k = kb ∨ rb = some k) w w'
theorem frE_step {w wr w2 wa w3 : World} {kb g2 n2 cap2 : Nat} {rb : Option Nat} {vl : Value} (h1 : FrE kb rb w wr) (h2 : But (fun j => j = kb ∨ vl.ownBlock = some j) wr w2) (h3 : vl.ownBlock = rb ∨ ∀ j, vl.ownBlock = some j → w.heap.size ≤ j) (hb : Below w2.heap.size w2 wa) (hg : wa.grownBy w3 vl.ownBlock) {c0 : Value} (hc0 : w3.cell? ⟨kb, 0, none⟩ = some c0)
    (h4 : vl.ownBlock = some g2 ∨ w.heap.size ≤ g2) : FrE kb rb w (w3.setCell ⟨kb, 0, none⟩ (.slice (some ⟨g2, 0, none⟩) n2 cap2)) ∧ RowAt (w3.setCell ⟨kb, 0, none⟩ (.slice (some ⟨g2, 0, none⟩) n2 cap2)) kb rb w.heap.size := by
  have a1 : But (fun j => j = kb ∨ vl.ownBlock = some j) wr (w3.setCell ⟨kb, 0, none⟩ (.slice (some ⟨g2, 0, none⟩) n2 cap2)) :=
    ((h2.trans (But.of_below hb _)).trans (But.of_grownBy hg fun j e => .inr e)).trans (But.of_grownBy (grown_setCell _ _ _ _) fun j e => by cases e; exact .inl rfl)
  refine ⟨⟨a1.os.trans h1.os, a1.tape.trans h1.tape, a1.output.trans h1.output, Nat.le_trans h1.size a1.size, fun k hkl hx => ?_⟩, ?_⟩
  · rw [a1.block k (Nat.lt_of_lt_of_le hkl h1.size) (fun h => ?_)]
    · exact h1.block k hkl hx
    · rcases h with h | h
      · exact hx (.inl h)
      · rcases h3 with e | e
        · exact hx (.inr (by rw [← e]; exact h))
        · have := e k h; omega
  · intro vl' hv'
    rw [World.cell?_setCell_same _ _ _ hc0] at hv'
    simp only [Option.some.injEq] at hv'
    subst hv'
    rcases h4 with e | e
    · rcases h3 with e3 | e3
      · exact .inl (by rw [← e3, e]; rfl)
      · exact .inr fun k hk' => by simp [Value.ownBlock] at hk'; subst hk'; exact e3 _ e
    · exact .inr fun k hk' => by simp [Value.ownBlock] at hk'; subst hk'; exact e
set_option maxRecDepth 100000 in
set_option maxHeartbeats 2000000 in
theorem keep_any2 (w : World) (base kb lb cc : Nat) (its : List (Nat × Nat × Nat)) (size : Nat) (ts : List (Option (Nat × Nat × Nat))) (hk : Kept w base kb its size) (hbase : base ≤ kb) (hlb : ∀ i (h : i < ts.length), w.cell? ⟨lb, i, none⟩ = some (slv ts[i]))
    (hts : ∀ t, some t ∈ ts → t.2.1 ≤ 281474976710656 ∧ t.2.2 ≤ maxLen) (hlk : lb ≠ kb) (hlen : ts.length ≤ 1000)
    (hdis : ∀ vl, w.cell? ⟨kb, 0, none⟩ = some vl → vl.ownBlock ≠ some lb) :
    Calls Tryz.prog 25 #[.pointer (some ⟨kb, 0, none⟩), .slice (some ⟨lb, 0, none⟩) ts.length cc] w fun e w' => e = .returned (.tuple #[]) ∧ ∃ its' size', Kept w' base kb its' size' ∧ its'.Sublist (its ++ somes ts) ∧ FrK base kb w w' ∧ (∀ vl, w.cell? ⟨kb, 0, none⟩ = some vl → FrE kb vl.ownBlock w w' ∧ RowAt w' kb vl.ownBlock w.heap.size) := by
  obtain ⟨vl0, kk0, -⟩ := kept_cells hk
  obtain ⟨rb, hrb⟩ : ∃ rb, Hid (vl0.ownBlock = rb) := ⟨_, rfl⟩
  have HR0 : Hid (RowAt w kb rb w.heap.size) := fun vl h => by rw [kk0] at h; cases h; exact .inl hrb.out
  have HK0 : Hid (w.cell? ⟨kb, 0, none⟩ = some vl0) := kk0
  clear kk0
  go_enter Tryz.func25, Tryz.ntmps25
  go_wp2
  go_loopw [4] (fun i wr => ∃ (k : Nat) (its' : List (Nat × Nat × Nat)) (size' : Nat), k ≤ ts.length ∧ i = .int .i64 k ∧ Kept wr base kb its' size' ∧ its'.Sublist (its ++ somes (ts.take k)) ∧ FrK base kb w wr ∧ Hid (FrE kb rb w wr ∧ RowAt wr kb rb w.heap.size) ∧ Hid (∀ i (h : i < ts.length), wr.cell? ⟨lb, i, none⟩ = some (slv ts[i])) ∧ Hid (∀ vl, wr.cell? ⟨kb, 0, none⟩ = some vl → vl.ownBlock ≠ some lb)) (fun i _ => ts.length - (intOf i).toNat)
  case atStart => exact ⟨0, its, size, Nat.zero_le _, rfl, hk, by simp [somes], FrK.refl _ _ _, ⟨But.refl _ _, HR0.out⟩, hlb, hdis⟩
  case round =>
    clear hk hlb hdis
    obtain ⟨k, its', size', hk, rfl, hK, hsub, hfr, hfe, hlb, hdis⟩ := hrel
    by_cases hlt : k < ts.length
    · have c1 := hlb.out k hlt
      cases htk : ts[k] with
      | none =>
        rw [htk] at c1
        have c1' : wr.cell? ⟨lb, k, none⟩ = some (.slice none 0 0) := c1
        have HT : Hid (somes (ts.take (k + 1)) = somes (ts.take k)) := by show _ = _; rw [List.take_succ_eq_append_getElem hlt, htk, somes_append]; simp [somes]
        clear c1 htk
        have hrm : ∀ u : World, Calls Tryz.prog 84 #[.int .i64 0, .int .i64 0] u fun e w' => e = .returned (.int .i64 0) ∧ w' = u := fun u => room_any u 0 0 (by decide) (by decide)
        have HRM : Hid (∀ u : World, Calls Tryz.prog 84 #[.int .i64 0, .int .i64 0] u fun e w' => e = .returned (.int .i64 0) ∧ w' = u) := hrm
        clear hrm
        go_wp2
        go_quiet ((go_at_call 84; exact Calls.quiet_of_same (HRM.out _)))
        go_wp2
        go_roundw
        case rel => exact ⟨k + 1, its', size', by omega, by go_num, hK, by rw [HT.out]; exact hsub, hfr.trans (FrK.of_below (Qt.below ⟨_, rfl⟩ _)), ⟨hfe.out.1.trans (But.of_below (Qt.below ⟨_, rfl⟩ _) _), hfe.out.2⟩, hlb, hdis⟩
        case measure => simp [intOf]; omega
      | some t =>
        rw [htk] at c1
        obtain ⟨g, n, c⟩ := t
        have c1' : wr.cell? ⟨lb, k, none⟩ = some (.slice (some ⟨g, 0, none⟩) n c) := c1
        have hb := hts (g, n, c) (by rw [← htk]; exact List.getElem_mem hlt)
        have hn0 : n ≤ 281474976710656 := hb.1
        have hc0 : c ≤ 9223372036854775807 := by have := hb.2; unfold maxLen at this; exact this
        have HT : Hid (somes (ts.take (k + 1)) = somes (ts.take k) ++ [(g, n, c)]) := by show _ = _; rw [List.take_succ_eq_append_getElem hlt, htk, somes_append]; simp [somes]
        have HSK : Hid (its'.Sublist (its ++ somes (ts.take (k + 1)))) := by
          show List.Sublist _ _
          rw [HT.out, ← List.append_assoc]
          exact hsub.trans (List.sublist_append_left _ _)
        have HRM : Hid (∀ u : World, Calls Tryz.prog 84 #[.int .i64 (n : Int), .int .i64 (c : Int)] u fun e w' => e = .returned (.int .i64 (room n c : Int)) ∧ w' = u) := fun u => room_any u n c hn0 hc0
        have hrl : room n c ≤ 281474976715656 := by unfold room; omega
        clear c1 htk hb
        obtain ⟨vl, k0, k1, f0, f1, ho, hvk, hsz, hmax⟩ := kept_cells hK
        generalize hr : room n c = r at *
        clear hr
        by_cases hr0 : r = 0
        · subst hr0
          go_wp2
          go_quiet ((go_at_call 84; exact Calls.quiet_of_same (HRM.out _)))
          go_wp2
          go_roundw
          case rel => exact ⟨k + 1, its', size', by omega, by go_num, hK, HSK.out, hfr.trans (FrK.of_below (Qt.below ⟨_, rfl⟩ _)), ⟨hfe.out.1.trans (But.of_below (Qt.below ⟨_, rfl⟩ _) _), hfe.out.2⟩, hlb, hdis⟩
          case measure => simp [intOf]; omega
        · have q0 : (((r : Nat) : Int) == 0) = false := by simp; omega
          by_cases hbig : 4194304 < size' + r
          · have q1 : (4194304 : Int) < (size' : Int) + (r : Int) := by omega
            go_wp2
            go_quiet ((go_at_call 84; exact Calls.quiet_of_same (HRM.out _)))
            go_wp2
            go_roundw
            case rel => exact ⟨k + 1, its', size', by omega, by go_num, hK, HSK.out, hfr.trans (FrK.of_below (Qt.below ⟨_, rfl⟩ _)), ⟨hfe.out.1.trans (But.of_below (Qt.below ⟨_, rfl⟩ _) _), hfe.out.2⟩, hlb, hdis⟩
            case measure => simp [intOf]; omega
          · go_wp2
            go_quiet ((go_at_call 84; exact Calls.quiet_of_same (HRM.out _)))
            go_wp2
            have e2 : ((size' : Int) + (r : Int)) = ((size' + r : Nat) : Int) := by omega
            rw [e2]
            obtain ⟨w2, hw2⟩ : ∃ w2, w2 = (wr.drewN nq).setCell ⟨kb, 1, none⟩ (.int .i64 ((size' + r : Nat) : Int)) := ⟨_, rfl⟩
            have hk2 : w2.heap[kb]? = some (.cells #[vl, .int .i64 ((size' + r : Nat) : Int)] 56 (0, 0)) := by
              obtain ⟨vl', hk', _⟩ := hK
              have : vl' = vl := by simp [World.cell?, hk'] at k0; exact k0
              subst this
              rw [hw2, heap_setCell_same (wr.drewN nq) kb 1 _ _ _ hk']; simp
            have fe2 : Hid (But (fun j => j = kb ∨ vl.ownBlock = some j) wr w2 ∧ w.heap.size ≤ w2.heap.size ∧ (vl.ownBlock = rb ∨ ∀ j, vl.ownBlock = some j → w.heap.size ≤ j)) := by
              refine ⟨?_, ?_, hfe.out.2 vl k0⟩
              · rw [hw2]; exact (But.of_below (Qt.below ⟨_, rfl⟩ _) _).trans (But.of_grownBy (grown_setCell _ _ _ _) fun j e => by cases e; exact .inl rfl)
              · rw [hw2]; have := hfe.out.1.size; simpa using this
            have ho2 : w2.ownsRow base 30 1 vl its'.length (itvs its') := by rw [hw2]; exact ownsRow_setCell_other ho (by simpa using hvk) _
            have fr2 : FrK base kb wr w2 := by rw [hw2]; exact (FrK.of_below (Qt.below ⟨_, rfl⟩ _)).trans (FrK.of_set _ _ _ _ _)
            have lb2 : ∀ i (h : i < ts.length), w2.cell? ⟨lb, i, none⟩ = some (slv ts[i]) := by
              intro i hi
              rw [hw2, World.cell?_of_block (w := wr.drewN nq) (heap_setCell_other _ ⟨kb, 1, none⟩ lb _ hlk)]
              exact hlb.out i hi
            have c2 : w2.cell? ⟨lb, k, none⟩ = some (.slice (some ⟨g, 0, none⟩) n c) := by
              rw [hw2, World.cell?_of_block (w := wr.drewN nq) (heap_setCell_other _ ⟨kb, 1, none⟩ lb _ hlk)]; exact c1'
            have k02 : w2.cell? ⟨kb, 0, none⟩ = some vl := by simp [World.cell?, hk2]
            have hbz : base ≤ w2.heap.size := by have := heap_lt hk2; omega
            have hvl : vl.ownBlock ≠ some lb := hdis.out vl k0
            have LB2 : Hid (∀ i (h : i < ts.length), w2.cell? ⟨lb, i, none⟩ = some (slv ts[i])) := lb2
            rw [← hw2]
            obtain ⟨i0, hi, hz0, hz1, hz2⟩ := info_parts Tryz.infoSl
            obtain ⟨ao, ca, rfl⟩ := own_slice ho2
            clear hw2 lb2 e2 hlb hdis k0 k1 f0 f1 ho hK c1' HRM
            have hlbl : lb < w2.heap.size := lt_of_cell c2
            have hkbl : kb < w2.heap.size := lt_of_cell k02
            go_region_law (first | (refine step_append_lies _ rfl (.tmp 47) (.tmp 52) 54 rfl base 30 i0 (.slice none 0 0) 1 24 Tryz.underlying54 hi hz0 hz1 hz2 rfl (by decide) (.slice ao its'.length ca) its'.length (itvs its') (by simp [Act.eval]) (ho2.alloc _) ⟨w2.heap.size, 0, none⟩ 1 1 [.slice (some ⟨g, 0, none⟩) n c] (by simp [Act.eval]) rfl (cell_one_new _ _ _) (by simp [Value.oneCell']) (by decide) (by unfold maxLen; omega) (by omega) (by simp; omega) (w2.heap.size + 1) (by simp) ?_; intro g2 cap2 w3 hown3 hgrow3 hat hlt3; have kk3 := kb_after (w2 := w2) (by first | exact (box_below w2 _).drew | exact (box_below w2.drew _)) hk2 hgrow3 hvk; have cc3 : w3.cell? ⟨kb, 0, none⟩ = some (.slice ao its'.length ca) := (by simp [World.cell?, kk3]); have ff3 : w3.frozen? ⟨kb, 0, none⟩ = false := (by simp [World.frozen?, kk3])))
            all_goals
              have hg2k : Value.ownBlock (.slice (some ⟨g2, 0, none⟩) (its'.length + 1) cap2) ≠ some kb := own28_ne hown3 kk3
              have hg2l : g2 ≠ lb := by
                rcases hat with h | h
                · intro e; exact hvl (by rw [h, e])
                · omega
              have hKK := Kept.add (t := (g, n, c)) hk2 (kk3.trans hk2.symm) hown3 hg2k (by omega) hsz (by omega)
              have hFF := (fr2.trans (FrK.of_below (by first | exact (box_below w2 _).drew | exact (box_below w2.drew _)))).trans ((FrK.of_grown (by exact ho2.alloc _) hgrow3).trans (FrK.of_set base kb w3 0 (.slice (some ⟨g2, 0, none⟩) (its'.length + 1) cap2)))
              have hFE : FrE kb rb w (w3.setCell ⟨kb, 0, none⟩ (.slice (some ⟨g2, 0, none⟩) (its'.length + 1) cap2)) ∧ RowAt (w3.setCell ⟨kb, 0, none⟩ (.slice (some ⟨g2, 0, none⟩) (its'.length + 1) cap2)) kb rb w.heap.size := by
                refine frE_step hfe.out.1 fe2.out.1 fe2.out.2.2 (by first | exact (box_below w2 _).drew | exact (box_below w2.drew _)) hgrow3 cc3 ?_
                rcases hat with h | h
                · exact .inl h
                · have := fe2.out.2.1; exact .inr (by omega)
              have HFE : Hid _ := hFE
              have hLL : ∀ i (h : i < ts.length), (w3.setCell ⟨kb, 0, none⟩ (.slice (some ⟨g2, 0, none⟩) (its'.length + 1) cap2)).cell? ⟨lb, i, none⟩ = some (slv ts[i]) := by
                intro i hi
                rw [World.cell?_of_block (w := w3) (heap_setCell_other _ ⟨kb, 0, none⟩ lb _ hlk)]
                refine hgrow3.cell (a := ⟨lb, i, none⟩) ?_ (fun e => hvl e.symm)
                exact ((box_below w2 (.cells #[.slice (some ⟨g, 0, none⟩) n c] 30)).cell (p := ⟨lb, i, none⟩) hlbl).trans (LB2.out i hi)
              have hDD : ∀ vl, (w3.setCell ⟨kb, 0, none⟩ (.slice (some ⟨g2, 0, none⟩) (its'.length + 1) cap2)).cell? ⟨kb, 0, none⟩ = some vl → vl.ownBlock ≠ some lb := by
                intro vl' hv'
                rw [World.cell?_setCell_same _ _ _ cc3] at hv'
                simp only [Option.some.injEq] at hv'
                subst hv'
                simpa [Value.ownBlock] using hg2l
              have HSS : Hid ((its' ++ [(g, n, c)]).Sublist (its ++ somes (ts.take (k + 1)))) := by
                show List.Sublist _ _
                rw [HT.out, ← List.append_assoc]
                exact hsub.append (List.Sublist.refl _)
              have HLL : Hid _ := hLL
              have HDD : Hid _ := hDD
              clear hLL hDD hFE hown3 hgrow3 hat hlt3 kk3 cc3 ff3
              go_wp2
              go_roundw
              case rel => exact ⟨k + 1, its' ++ [(g, n, c)], size' + r, by omega, by go_num, hKK, HSS.out, hfr.trans hFF, HFE.out, HLL.out, HDD.out⟩
              case measure => simp [intOf]; omega
    · have HE : Hid (ts.take k = ts) := List.take_of_length_le (by omega)
      rw [HE.out] at hsub
      go_wp2
      go_end0
      exact ⟨rfl, its', size', hK, hsub, hfr, fun vl h => by rw [HK0.out] at h; cases h; rw [hrb.out]; exact hfe.out⟩
theorem But.drewX {X : Nat → Prop} {w w' : World} (h : But X w w') : But X w w'.drew := h.trans (But.of_below (Below.refl _ _).drew _)
theorem But.drewNX {X : Nat → Prop} {w w' : World} (h : But X w w') (k : Nat) : But X w (w'.drewN k) := h.trans (But.of_below (below_drewN (Below.refl _ _) k) _)
theorem But.allocX {X : Nat → Prop} {w w' : World} (h : But X w w') (o : Obj) : But X w (w'.alloc o) := h.trans (But.alloc w' o X)
theorem But.cellX {X : Nat → Prop} {w w' : World} (h : But X w w') {p : Addr} (hb : X p.block) (v : Value) : But X w (w'.setCell p v) :=
  h.trans ⟨rfl, rfl, rfl, by simp, fun k hk hx => by
    unfold World.setCell
    simp only [Array.getElem?_modify]
    rw [if_neg (fun e => hx (by rw [← e]; exact hb))]⟩
theorem But.pushX {X : Nat → Prop} {a w : World} {b o : Nat} (h : But X a w) (hb : X b) (v : Value) : But X a (w.setCells b o [v]) := by
  rw [setCells_one]; exact h.cellX (p := ⟨b, o, none⟩) hb v
def StX (X : Nat → Prop) (w wr : World) (kb lb N lcap : Nat) (g c n : Nat → Nat) (i sc : Nat) (n0 : Nat → Nat) : Prop :=
  LS wr kb lb N lcap g c n ∧ (∀ j, j < i → Mk wr (g j) (n0 j) ((j / sc % 250 : Nat) : Int)) ∧ But X w wr
theorem StX.drew {X : Nat → Prop} {w wr : World} {kb lb N lcap i sc : Nat} {g c n n0 : Nat → Nat} (h : StX X w wr kb lb N lcap g c n i sc n0) : StX X w wr.drew kb lb N lcap g c n i sc n0 := ⟨h.1.drew, h.2.1, h.2.2.drewX⟩
theorem StX.drewN {X : Nat → Prop} {w wr : World} {kb lb N lcap i sc : Nat} {g c n n0 : Nat → Nat} (h : StX X w wr kb lb N lcap g c n i sc n0) (k : Nat) : StX X w (wr.drewN k) kb lb N lcap g c n i sc n0 := ⟨h.1.drewN k, h.2.1, h.2.2.drewNX k⟩
theorem StX.alloc {X : Nat → Prop} {w wr : World} {kb lb N lcap i sc : Nat} {g c n n0 : Nat → Nat} (h : StX X w wr kb lb N lcap g c n i sc n0) (o : Obj) : StX X w (wr.alloc o) kb lb N lcap g c n i sc n0 :=
  ⟨h.1.below (box_below wr o), fun j hj => (h.2.1 j hj).below (box_below wr o), h.2.2.allocX o⟩
theorem StX.push {X : Nat → Prop} {w wr : World} {kb lb N lcap i sc : Nat} {g c n n0 : Nat → Nat} (h : StX X w wr kb lb N lcap g c n i sc n0) (d : DJ kb lb N 0 g) (hX : X lb ∧ ∀ j, j < N → X (g j)) (hi : i < N) (o : Nat) (v : Value) : StX X w (wr.setCells (g i) o [v]) kb lb N lcap g c n i sc n0 :=
  ⟨h.1.push d hi o v, fun j hj => (h.2.1 j hj).push (d.gg i j hi (by omega) (by omega)) v, h.2.2.pushX (hX.2 i hi) v⟩
theorem StX.mark {X : Nat → Prop} {w wr : World} {kb lb N lcap i sc : Nat} {g c n n0 : Nat → Nat} (h : StX X w wr kb lb N lcap g c n i sc n0) (d : DJ kb lb N 0 g) (hX : X lb ∧ ∀ j, j < N → X (g j)) (hi : i < N) (o : Nat) (v : Value) : StX X w (wr.setCell ⟨g i, o, none⟩ v) kb lb N lcap g c n i sc n0 :=
  ⟨h.1.mark d hi o v, fun j hj => (h.2.1 j hj).other (d.gg i j hi (by omega) (by omega)) v, h.2.2.cellX (p := ⟨g i, o, none⟩) (hX.2 i hi) v⟩
theorem StX.len {X : Nat → Prop} {w wr : World} {kb lb N lcap i sc : Nat} {g c n n0 : Nat → Nat} (h : StX X w wr kb lb N lcap g c n i sc n0) (d : DJ kb lb N 0 g) (hX : X lb ∧ ∀ j, j < N → X (g j)) (hi : i < N) (m : Nat) (hm : m ≤ c i) :
    StX X w (wr.setCell ⟨lb, i, none⟩ (.slice (some ⟨g i, 0, none⟩) m (c i))) kb lb N lcap g c (updN n i m) i sc n0 :=
  ⟨h.1.len d hi m hm, fun j hj => (h.2.1 j hj).other (fun e => (d.gk j (by omega)).2 e.symm) _, h.2.2.cellX (p := ⟨lb, i, none⟩) hX.1 _⟩
set_option maxRecDepth 100000 in
set_option maxHeartbeats 4000000 in
theorem apart_posX {X : Nat → Prop} (w : World) (kb lb N lcap : Nat) (g c n0 : Nat → Nat) (h : LS w kb lb N lcap g c n0) (d : DJ kb lb N 0 g) (hXX : X lb ∧ ∀ j, j < N → X (g j)) (hNl : N ≤ lcap) (hlm : lcap ≤ 9223372036854775807) (hc : ∀ j, j < N → c j ≤ 9223372036854775807) (hn : ∀ j, j < N → n0 j ≤ 281474976710656) :
    Calls Tryz.prog 28 #[.pointer (some ⟨kb, 0, none⟩)] w fun e w' => e = .returned (.bool true) ∧ But X w w' := by
  have HC : Hid (∀ j, j < N → c j ≤ 9223372036854775807) := hc
  have DD : Hid (DJ kb lb N 0 g) := d
  have XX : Hid (X lb ∧ ∀ j, j < N → X (g j)) := hXX
  have H0 : Hid (LS w kb lb N lcap g c n0) := h
  have HN0 : Hid (∀ j, j < N → n0 j ≤ 281474976710656) := hn
  clear hc d h hn hXX
  go_enter Tryz.func28, Tryz.ntmps28
  go_wp2_with fail
  go_loopw [3] (fun vs wr => ∃ (sc : Nat) (n : Nat → Nat), vs = .int .i64 (sc : Int) ∧ (sc = 1 ∨ sc = 250 ∨ sc = 62500) ∧ Hid (LS wr kb lb N lcap g c n) ∧ Hid (∀ j, j < N → n j ≤ 281474976710656 + 40 * sc) ∧ Hid (But X w wr)) (fun s _ => 62500 - (intOf s).toNat)
  case atStart => exact ⟨1, n0, rfl, .inl rfl, H0.out, fun j hj => by have := HN0.out j hj; omega, But.refl _ _⟩
  case round =>
    obtain ⟨sc, n, rfl, hsc, hL, hn, hB⟩ := hrel
    by_cases hend : sc = 62500
    · subst hend
      go_wp2_with fail
      go_ret
      exact ⟨rfl, hB.out⟩
    · have hsc2 : 1 ≤ sc ∧ sc ≤ 250 := by omega
      obtain ⟨hs1, hs2⟩ := hsc2
      have hsI : (sc : Int) ≤ 250 := by omega
      go_wp2_with fail
      (try simp only [hsI, decide_true])
      go_loopw [4] (fun vi wr => ∃ (i : Nat) (n : Nat → Nat), i ≤ N ∧ vi = .int .i64 (i : Int) ∧ Hid (LS wr kb lb N lcap g c n) ∧ Hid (∀ j, j < N → n j ≤ 281474976710656 + 40 * sc + 5000) ∧ Hid (∀ j, i ≤ j → j < N → n j ≤ 281474976710656 + 40 * sc) ∧ Hid (∀ j, j < i → Mk wr (g j) (n j) ((j / sc % 250 : Nat) : Int)) ∧ Hid (But X w wr)) (fun i _ => N - (intOf i).toNat)
      case atStart => exact ⟨0, n, Nat.zero_le _, rfl, hL.out, fun j hj => by have := hn.out j hj; omega, fun j _ hj => hn.out j hj, fun j hj => by omega, hB.out⟩
      case round =>
        clear hL hn hB
        obtain ⟨i, n, hi, rfl, hL, hn, hnb, hM, hB⟩ := hrel
        have top := hL.out.top
        by_cases hlt : i < N
        · have hrow := (hL.out.row i hlt).1
          have hcc := HC.out i hlt
          have hnn := hnb.out i (Nat.le_refl _) hlt
          have hnc := (hL.out.each i hlt).2.1
          have hlt' : (i : Int) < (N : Int) := by omega
          obtain ⟨r, hr⟩ : ∃ r, r = room (n i) (c i) := ⟨_, rfl⟩
          have hrc : r ≤ c i := by rw [hr]; exact Nat.min_le_left _ _
          have hrn : r ≤ n i + 5000 := by rw [hr]; exact Nat.min_le_right _ _
          have HR : Hid (room (n i) (c i) = r) := hr.symm
          clear hr
          go_wp2_with fail
          go_quiet ((go_at_call 84; exact Calls.quiet_of_same (room_big _ _ _ (by omega) (by omega))))
          rw [HR.out]
          go_wp2_with fail
          have HS : Hid (StX X w (wr.drewN nq) kb lb N lcap g c n i sc n) := StX.drewN ⟨hL.out, hM.out, hB.out⟩ nq
          generalize wr.drewN nq = wd at *
          clear hM hL hB top hrow
          (try simp only [hlt', decide_true])
          go_loopw [49] (fun _ wx => ∃ (m : Nat), m ≤ c i ∧ m ≤ 281474976710656 + 40 * sc + 5000 ∧ Hid (StX X w wx kb lb N lcap g c (updN n i m) i sc n)) (fun _ wx => r - lenAt wx lb i)
          case atStart => exact ⟨n i, hnc, by omega, by show StX _ _ _ _ _ _ _ _ _ _ _ _ _; rw [updN_self]; exact HS.out⟩
          case round =>
            clear HS
            obtain ⟨m, hmc, hmb, hS⟩ := hrel
            have top := hS.out.1.top
            have hrow := (hS.out.1.row i hlt).1
            rw [updN_same] at hrow
            have HLA : Hid (lenAt wr lb i = m) := by show _ = _; rw [hS.out.1.lenAt hlt, updN_same]
            by_cases hmr : m < r
            · have hmr' : (m : Int) < (r : Int) := by omega
              have HSP : Hid ((wr.cell? ⟨g i, m, none⟩).isSome = true ∧ wr.frozen? ⟨g i, m, none⟩ = false) := (hS.out.1.each i hlt).1 m (by omega)
              have HGL : Hid (g i < wr.heap.size) := (hS.out.1.each i hlt).2.2
              have hkbl : kb < wr.heap.size := lt_of_cell top
              have hlbl : lb < wr.heap.size := lt_of_cell hrow
              obtain ⟨i0, hi0, hz0, hz1, hz2⟩ := info_parts Tryz.infoU8
              go_wp2_with fail
              go_region_law (first | (refine step_append_room rfl (.tmp 60) (.tmp 61) 30 rfl 5 i0 1 Tryz.underlying30 hi0 hz1 (g i) 0 m (c i) (by simp [Act.eval]) ⟨wr.heap.size, 0, none⟩ 1 1 [.int .u8 0] (by simp [Act.eval]) rfl (cell_one_new _ _ _) (by simp [Value.oneCell']) (by omega) (room_spare HSP.out HGL.out) ?_; generalize hw3 : World.setCells _ _ _ _ = w3; have S3 : Hid (StX X w w3 kb lb N lcap g c (updN n i m) i sc n) := (by rw [← hw3]; first | exact (hS.out.alloc _).drew.push DD.out XX.out hlt _ _ | exact (hS.out.drew.alloc _).push DD.out XX.out hlt _ _ | exact (hS.out.alloc _).push DD.out XX.out hlt _ _); clear hw3; have cc3 := (S3.out.1.row i hlt).1; have ff3 := (S3.out.1.row i hlt).2; have tt3 := S3.out.1.top))
              all_goals
                have S4 : Hid (StX X w (w3.setCell ⟨lb, i, none⟩ (.slice (some ⟨g i, 0, none⟩) (m + 1) (c i))) kb lb N lcap g c (updN n i (m + 1)) i sc n) := by
                  have := S3.out.len DD.out XX.out hlt (m + 1) (by omega)
                  rw [updN_updN] at this
                  exact this
                have HLB : Hid (lenAt (w3.setCell ⟨lb, i, none⟩ (.slice (some ⟨g i, 0, none⟩) (m + 1) (c i))) lb i = m + 1) := by show _ = _; rw [S4.out.1.lenAt hlt, updN_same]
                clear cc3 ff3 tt3 top hrow
                go_wp2_with fail
                go_roundw
                case rel => exact ⟨m + 1, by omega, by omega, S4.out⟩
                case measure => rw [HLA.out, HLB.out]; omega
            · have hmr' : ¬ ((m : Int) < (r : Int)) := by omega
              obtain ⟨n1, hn1⟩ : ∃ n1, n1 = updN n i m := ⟨_, rfl⟩
              have HN1 : Hid (n1 i = m) := by show _ = _; rw [hn1, updN_same]
              have HNo : Hid (∀ j, j ≠ i → n1 j = n j) := fun j hj => by rw [hn1, updN_other _ _ hj]
              have S5 : Hid (StX X w wr kb lb N lcap g c n1 i sc n1) := by
                refine ⟨by rw [hn1]; exact hS.out.1, fun j hj => ?_, hS.out.2.2⟩
                rw [HNo.out j (by omega)]
                exact hS.out.2.1 j hj
              clear hn1 hS
              obtain ⟨mk, hmk⟩ : ∃ mk : Nat, mk = i / sc % 250 := ⟨_, rfl⟩
              have HV : Hid ((wrap64 ((i : Int) / (sc : Int))).tmod 250 % 256 = (mk : Int)) := by rw [hmk]; exact mark_val i sc (by omega)
              have hmkl : mk < 250 := by omega
              have HMK : Hid (mk = i / sc % 250) := hmk
              have hsc0 : ¬ ((sc : Int) = 0) := by omega
              clear hmk
              go_wp2_with fail
              go_loopw [6] (fun vk wx => ∃ (k : Nat), k ≤ m ∧ vk = .int .i64 (k : Int) ∧ Hid (StX X w wx kb lb N lcap g c n1 i sc n1) ∧ Hid (Mk wx (g i) k (mk : Int))) (fun k _ => m - (intOf k).toNat)
              case atStart => exact ⟨0, Nat.zero_le _, rfl, S5.out, fun q hq => by omega⟩
              case round =>
                clear S5 top hrow
                obtain ⟨k, hk, rfl, hS, hM⟩ := hrel
                have top := hS.out.1.top
                have hrow := (hS.out.1.row i hlt).1
                rw [HN1.out] at hrow
                by_cases hkm : k < m
                · have hkm' : (k : Int) < (m : Int) := by omega
                  have HSP := (hS.out.1.each i hlt).1 k (by omega)
                  obtain ⟨hsp, hfz⟩ := HSP
                  have HSO : Hid ((wr.cell? ⟨g i, k, none⟩).isSome = true) := hsp
                  obtain ⟨ov, hov⟩ := Option.isSome_iff_exists.1 hsp
                  clear hsp
                  go_wp2_with fail
                  go_region
                  rw [HV.out]
                  have S6 : Hid (StX X w (wr.setCell ⟨g i, k, none⟩ (.int .u8 (mk : Int))).drew kb lb N lcap g c n1 i sc n1) := (hS.out.mark DD.out XX.out hlt k _).drew
                  have M6 : Hid (Mk (wr.setCell ⟨g i, k, none⟩ (.int .u8 (mk : Int))).drew (g i) (k + 1) (mk : Int)) := hM.out.more HSO.out
                  go_wp2_with fail
                  go_roundw
                  case rel => exact ⟨k + 1, by omega, by go_num, S6.out, M6.out⟩
                  case measure => simp [intOf]; omega
                · obtain rfl : k = m := by omega
                  go_wp2_with fail
                  go_roundw
                  case rel =>
                    refine ⟨i + 1, n1, by omega, by go_num, hS.out.1, fun j hj => ?_, fun j h1 h2 => ?_, fun j hj => ?_, hS.out.2.2⟩
                    · by_cases e : j = i
                      · subst e; rw [HN1.out]; exact hmb
                      · rw [HNo.out j e]; exact hn.out j hj
                    · rw [HNo.out j (by omega)]; exact hnb.out j (by omega) h2
                    · by_cases e : j = i
                      · subst e; rw [HN1.out, ← HMK.out]; exact hM.out
                      · exact hS.out.2.1 j (by omega)
                  case measure => simp [intOf]; omega
        · obtain rfl : N = i := by omega
          have hlt' : ¬ ((N : Int) < (N : Int)) := by omega
          have S7 : Hid (StX X w wr kb lb N lcap g c n N sc n) := ⟨hL.out, hM.out, hB.out⟩
          clear hL hM hB hnb
          go_wp2_with fail
          clear top
          go_loopw [7] (fun vi wx => ∃ (p : Nat), p ≤ N ∧ vi = .int .i64 (p : Int) ∧ Hid (StX X w wx kb lb N lcap g c n N sc n)) (fun i _ => N - (intOf i).toNat)
          case atStart => exact ⟨0, Nat.zero_le _, rfl, S7.out⟩
          case round =>
            clear S7
            obtain ⟨p, hp, rfl, hS⟩ := hrel
            have top := hS.out.1.top
            by_cases hpl : p < N
            · have hpl' : (p : Int) < (N : Int) := by omega
              have hcc := HC.out p hpl
              have hnc := (hS.out.1.each p hpl).2.1
              go_wp2_with fail
              (try simp only [hpl', decide_true])
              clear top
              go_loopw [8] (fun vk wx => ∃ (k : Nat), k ≤ n p ∧ vk = .int .i64 (k : Int) ∧ Hid (StX X w wx kb lb N lcap g c n N sc n)) (fun k _ => n p - (intOf k).toNat)
              case atStart => exact ⟨0, Nat.zero_le _, rfl, hS.out⟩
              case round =>
                clear hS
                obtain ⟨k, hk, rfl, hS⟩ := hrel
                have top := hS.out.1.top
                have hrow := (hS.out.1.row p hpl).1
                have hsc0 : ¬ ((sc : Int) = 0) := by omega
                by_cases hkm : k < n p
                · have hkm' : (k : Int) < ((n p : Nat) : Int) := by omega
                  have hcell := hS.out.2.1 p hpl k hkm
                  have hv : (wrap64 ((p : Int) / (sc : Int))).tmod 250 % 256 = ((p / sc % 250 : Nat) : Int) := mark_val p sc (by omega)
                  obtain ⟨mk, hmk⟩ : ∃ mk : Nat, mk = p / sc % 250 := ⟨_, rfl⟩
                  rw [← hmk] at hv hcell
                  clear hmk
                  have hne : (((mk : Nat) : Int) != ((mk : Nat) : Int)) = false := by simp
                  go_wp2_with fail
                  go_quiet (fail)
                  go_wp2_with fail
                  go_roundw
                  case rel => exact ⟨k + 1, by omega, by go_num, hS.out.drewN _⟩
                  case measure => simp [intOf]; omega
                · obtain rfl : k = n p := by omega
                  have hkm' : ¬ (((n p : Nat) : Int) < ((n p : Nat) : Int)) := by omega
                  go_wp2_with fail
                  go_roundw
                  case rel => exact ⟨p + 1, by omega, by go_num, hS.out⟩
                  case measure => simp [intOf]; omega
            · obtain rfl : N = p := by omega
              go_wp2_with fail
              go_roundw
              case rel =>
                refine ⟨sc * 250, n, by go_num, by omega, hS.out.1, fun j hj => ?_, hS.out.2.2⟩
                have := hn.out j hj
                omega
              case measure => simp [intOf]; omega
theorem apart_anyX (w : World) (base kb : Nat) (its : List (Nat × Nat × Nat)) (size : Nat) (hk : Kept w base kb its size) (hi : Items w base its) :
    Calls Tryz.prog 28 #[.pointer (some ⟨kb, 0, none⟩)] w fun e w' => e = .returned (.bool true) ∧ But (fun k => k = kb ∨ (∃ vl, w.cell? ⟨kb, 0, none⟩ = some vl ∧ vl.ownBlock = some k) ∨ ∃ t ∈ its, t.1 = k) w w' := by
  obtain ⟨vl, hkb, ho, -, -⟩ := hk
  have top : w.cell? ⟨kb, 0, none⟩ = some vl := by simp [World.cell?, hkb]
  obtain ⟨_, p⟩ := id ho
  rcases p with ⟨rfl, hn⟩ | ⟨lb, cap, cur, rfl, hlb, hh, hn, hm, hs, ht⟩
  · exact (apart_zero w kb 0 none top).mono fun e w' ⟨h1, h2⟩ => ⟨h1, by rw [h2]; exact But.refl _ _⟩
  · have hblk : ∀ j (hj : j < its.length), ∃ cur, w.heap[its[j].1]? = some (.cells cur 5 (0, 0)) ∧ cur.size = its[j].2.2 ∧ its[j].2.1 ≤ its[j].2.2 ∧ its[j].2.2 ≤ maxLen ∧ its[j].2.1 ≤ 281474976710656 ∧ base ≤ its[j].1 := fun j hj => hi.1 _ (List.getElem_mem hj)
    have ed : ∀ j, j < its.length → its.getD j (0, 0, 0) = its[j]! := fun j hj => by simp [List.getD, hj]
    have ee : ∀ j (hj : j < its.length), its.getD j (0, 0, 0) = its[j] := fun j hj => by simp [List.getD, hj]
    refine apart_posX w kb lb its.length cap (fun j => (its.getD j (0, 0, 0)).1) (fun j => (its.getD j (0, 0, 0)).2.2) (fun j => (its.getD j (0, 0, 0)).2.1) ⟨top, fun j hj => ⟨?_, ho.frozenAt j⟩, fun j hj => ?_⟩ ⟨?_, fun j hj => ?_, fun i j h1 h2 hne => ?_, Nat.zero_le _, fun j hj => Nat.zero_le _⟩ ⟨.inr (.inl ⟨_, top, rfl⟩), fun j hj => ?_⟩ hn (by unfold maxLen at hm; omega) (fun j hj => ?_) (fun j hj => ?_)
    · rw [ho.cellAt j (by omega)]
      simp only [ee j hj]
      simp [itvs, itv, hj]
    · obtain ⟨cu, h1, h2, h3, h4, h5, h6⟩ := hblk j hj
      simp only [ee j hj]
      refine ⟨fun q hq => ⟨?_, by simp [World.frozen?, h1]⟩, h3, heap_lt h1⟩
      simp only [World.cell?, h1]
      rw [Array.getElem?_eq_getElem (by omega)]; rfl
    · rintro rfl
      rw [hkb] at hh; simp at hh
    · obtain ⟨cu, h1, _⟩ := hblk j hj
      simp only [ee j hj]
      refine ⟨fun e => ?_, fun e => ?_⟩
      · rw [e, hkb] at h1; simp at h1
      · rw [e, hh] at h1; simp at h1
    · simp only [ee i h1, ee j h2]
      intro e
      have hp := List.pairwise_iff_getElem.1 hi.2
      rcases Nat.lt_or_gt_of_ne hne with hlt | hlt
      · exact hp i j (by simpa using h1) (by simpa using h2) hlt (by simpa using e)
      · exact hp j i (by simpa using h2) (by simpa using h1) hlt (by simpa using e.symm)
    · exact .inr (.inr ⟨its[j], List.getElem_mem hj, by simp only [ee j hj]⟩)
    · simp only [ee j hj]; obtain ⟨cu, h1, h2, h3, h4, h5, h6⟩ := hblk j hj; unfold maxLen at h4; omega
    · simp only [ee j hj]; obtain ⟨cu, h1, h2, h3, h4, h5, h6⟩ := hblk j hj; exact h5
end Go.Proofs.YtjehpijjneghpaaGreat
namespace Go.Proofs.YtjehpijjneghpaaGreat
open Go.ChangeShapes Go.WideShapes Go.ChangeAt Go.RowKit Go.Deep
def At (w : World) (ao : Option Addr) (vs : List Value) : Prop :=
  ∀ i (h : i < vs.length), ∃ b off, ao = some ⟨b, off, none⟩ ∧ w.cell? ⟨b, off + i, none⟩ = some vs[i]
def Row (w : World) (v : Value) (vs : List Value) : Prop :=
  ∃ ao cap, v = .slice ao vs.length cap ∧ (ao = none → vs = [] ∧ cap = 0) ∧ vs.length ≤ cap ∧ cap ≤ maxLen ∧ At w ao vs
theorem At.at {w : World} {ao : Option Addr} {vs : List Value} (h : At w ao vs) (hl : 0 < vs.length) :
    ∃ b off, ao = some ⟨b, off, none⟩ ∧ ∀ i (h : i < vs.length), w.cell? ⟨b, off + i, none⟩ = some vs[i] := by
  obtain ⟨b, off, e, _⟩ := h 0 hl
  refine ⟨b, off, e, fun i hi => ?_⟩
  obtain ⟨b', off', e', hc⟩ := h i hi
  rw [e] at e'
  simp only [Option.some.injEq, Addr.mk.injEq] at e'
  obtain ⟨rfl, rfl, _⟩ := e'
  exact hc
theorem Row.nil (w : World) : Row w (.slice none 0 0) [] := ⟨none, 0, rfl, fun _ => ⟨rfl, rfl⟩, Nat.le_refl _, Nat.zero_le _, fun i hi => by simp at hi⟩
def Sls (w : World) (vs : List Value) (ls : List (List UInt8)) : Prop := vs.length = ls.length ∧ ∀ i (h : i < vs.length) (h' : i < ls.length), Sl w vs[i] ls[i]
end Go.Proofs.YtjehpijjneghpaaGreat
namespace Go.Proofs.YtjehpijjneghpaaGreat.Dk
open Go.RowKit Go.Maps
abbrev Dr := List (List UInt8 × Nat)
def ptrR : Value → Option (DataW Unit × List MemPlace)
  | .pointer (some ⟨b, 0, none⟩) => some (.lit (.int .i64 (b : Int)), [])
  | .pointer none => some (.nil, [])
  | _ => none
theorem ptrR_some (b : Nat) : ptrR (.pointer (some ⟨b, 0, none⟩)) = some (.lit (.int .i64 (b : Int)), []) := rfl
theorem ptrR_none : ptrR (.pointer none) = some (.nil, []) := rfl
theorem ptrR_inv {v : Value} {b : Nat} {ps : List MemPlace} (h : ptrR v = some (.lit (.int .i64 (b : Int)), ps)) : v = .pointer (some ⟨b, 0, none⟩) := by
  unfold ptrR at h
  split at h
  · simp only [Option.some.injEq, Prod.mk.injEq, DataW.lit.injEq, Lit.int.injEq, true_and] at h
    have := h.1
    have e : _ = b := Int.ofNat_inj.1 this
    rw [e]
  · simp at h
  · simp at h
theorem ptrR_inv_nil {v : Value} {ps : List MemPlace} (h : ptrR v = some (.nil, ps)) : v = .pointer none := by
  unfold ptrR at h
  split at h
  · simp at h
  · rfl
  · simp at h
def dent (p : List UInt8 × Nat) : Lit × DataW Unit := (.string p.1, .lit (.int .i64 (p.2 : Int)))
def dirD (l : Dr) : DataW Unit := .map (l.map dent)
def get (l : Dr) (n : List UInt8) : Option Nat := (l.find? fun p => p.1 == n).map (·.2)
def dins (x : List UInt8 × Nat) : Dr → Dr
  | [] => [x]
  | y :: r => if bytesBefore x.1 y.1 then x :: y :: r else y :: dins x r
def ddel (l : Dr) (n : List UInt8) : Dr := l.filter fun p => !(p.1 == n)
def dput (l : Dr) (n : List UInt8) (b : Nat) : Dr := dins (n, b) (ddel l n)
theorem insert_dent (x : List UInt8 × Nat) : ∀ l : Dr, DataW.insert (dent x) (l.map dent) = (dins x l).map dent := by
  intro l
  induction l with
  | nil => rfl
  | cons y r ih =>
    simp only [List.map_cons, DataW.insert, dins]
    have e : (dent x).1.before (dent y).1 = bytesBefore x.1 y.1 := rfl
    rw [e]
    split
    · rfl
    · rw [ih]; rfl
theorem filter_dent (l : Dr) (n : List UInt8) : (l.map dent).filter (fun p => !p.1.sameKey (.string n)) = (ddel l n).map dent := by
  unfold ddel
  rw [List.filter_map]
  rfl
theorem dirD_del (l : Dr) (n : List UInt8) : (dirD l).del (.string n) = dirD (ddel l n) := by
  show DataW.map _ = DataW.map _
  rw [filter_dent]
theorem dirD_put (l : Dr) (n : List UInt8) (b : Nat) : (dirD l).put (.string n) (.lit (.int .i64 (b : Int))) = dirD (dput l n b) := by
  show DataW.map _ = DataW.map _
  rw [filter_dent]
  exact congrArg DataW.map (insert_dent (n, b) (ddel l n))
theorem find_dent (l : Dr) (n : List UInt8) : (l.map dent).find? (fun p => p.1.sameKey (.string n)) = (l.find? fun p => p.1 == n).map dent := by
  rw [List.find?_map]
  rfl
theorem dirD_at_some {l : Dr} {n : List UInt8} {b : Nat} (h : get l n = some b) : (dirD l).atKey (.string n) .nil = .lit (.int .i64 (b : Int)) := by
  unfold get at h
  unfold dirD DataW.atKey
  simp only []
  rw [find_dent]
  cases hf : l.find? fun p => p.1 == n with
  | none => rw [hf] at h; simp at h
  | some p => rw [hf] at h; simp at h; subst h; rfl
theorem dirD_at_none {l : Dr} {n : List UInt8} (h : get l n = none) : (dirD l).atKey (.string n) .nil = .nil := by
  unfold get at h
  unfold dirD DataW.atKey
  simp only []
  rw [find_dent]
  cases hf : l.find? fun p => p.1 == n with
  | none => rfl
  | some p => rw [hf] at h; simp at h
theorem dirD_has (l : Dr) (n : List UInt8) : Maps.has (dirD l) (.string n) = (get l n).isSome := by
  unfold get
  show (l.map dent).any (fun p => p.1.sameKey (.string n)) = _
  rw [List.any_map]
  induction l with
  | nil => rfl
  | cons y r ih =>
    simp only [List.any_cons, List.find?_cons]
    have e : ((fun p : Lit × DataW Unit => p.1.sameKey (.string n)) ∘ dent) y = (y.1 == n) := rfl
    rw [e]
    cases hy : (y.1 == n)
    · simp only [Bool.false_or]; exact ih
    · rfl
theorem dirD_size (l : Dr) : Maps.size (dirD l) = l.length := by simp [Maps.size, dirD]
end Go.Proofs.YtjehpijjneghpaaGreat.Dk
namespace Go.Proofs.YtjehpijjneghpaaGreat.Nm
set_option linter.unusedVariables false
def plc (c : UInt8) : Bool := (decide (97 ≤ (c.toNat : Int)) && decide ((c.toNat : Int) ≤ 122)) || (decide (48 ≤ (c.toNat : Int)) && decide ((c.toNat : Int) ≤ 57))
def okc (c : UInt8) : Bool := plc c || ((c.toNat : Int) == 46) || ((c.toNat : Int) == 45)
def may (l : List UInt8) : Bool := decide (1 ≤ l.length) && decide (l.length ≤ 64) && l.all okc && plc (l.getD 0 0) && plc (l.getD (l.length - 1) 0)
def hd (d : Nat) : UInt8 := UInt8.ofNat (if d < 10 then 48 + d else 87 + d)
end Go.Proofs.YtjehpijjneghpaaGreat.Nm
