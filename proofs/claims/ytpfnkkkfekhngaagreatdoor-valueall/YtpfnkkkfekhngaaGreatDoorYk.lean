/-
  What flumelaw4's Book.Keep does with a value that lies in memory of its own.
-/
import Derived.Test.YtpfnkkkfekhngaaGreatDoorVx
import Derived.Deep.RegionLaw
import Derived.Deep.AppendLies
import Derived.BigRegion
namespace Go.Proofs.YtpfnkkkfekhngaaGreatDoor.Va
open Go.RowKit Go.Proofs.YtpfnkkkfekhngaaGreatDoor.Rl
set_option maxRecDepth 100000
set_option linter.unusedVariables false

theorem yown_ne {w : World} {base p e T n : Nat} {vd : Value} {xs : List Value} {cs : Array Value} {fr : Nat × Nat} (ho : w.ownsRow base e 1 vd n xs) (hp : w.heap[p]? = some (.cells cs T fr)) (hT : T ≠ e) : vd.ownBlock ≠ some p := by
  intro h
  obtain ⟨_, q⟩ := ho
  rcases q with ⟨rfl, _⟩ | ⟨g, cap, cur, rfl, _, hh, _⟩
  · simp [Value.ownBlock] at h
  · simp [Value.ownBlock] at h
    subst h
    rw [hp] at hh
    simp only [Option.some.injEq, Obj.cells.injEq] at hh
    exact hT hh.2.1
theorem yown_slice {w : World} {base e n : Nat} {v : Value} {xs : List Value} (h : w.ownsRow base e 1 v n xs) : ∃ ao ca, v = .slice ao n ca := by
  obtain ⟨_, p⟩ := h
  rcases p with ⟨rfl, rfl⟩ | ⟨g, cap, cur, rfl, _⟩
  · exact ⟨_, _, rfl⟩
  · exact ⟨_, _, rfl⟩
theorem yblock_after {w2 W w3 : World} {kb : Nat} {X : Obj} {row : Option Nat} (hb : Below w2.heap.size w2 W) (hk : w2.heap[kb]? = some X) (hg : W.grownBy w3 row) (hne : row ≠ some kb) : w3.heap[kb]? = some X := by
  have hl := heap_lt hk
  rw [hg.block kb (by have := hb.size; omega) (fun e => hne e.symm), hb.block kb hl]; exact hk
theorem ybelow_set {base : Nat} {w w' : World} (hb : Below base w w') {p o : Nat} (hp : base ≤ p) (v : Value) : Below base w (w'.setCell ⟨p, o, none⟩ v) :=
  ⟨hb.os, hb.tape, hb.output, by simpa using hb.size, fun k hk => by rw [heap_setCell_other w' ⟨p, o, none⟩ k v (by simp; omega)]; exact hb.block k hk⟩
/-- A list that is kept: block, length. -/
def sv (t : Nat × Nat) : Value := .slice (some ⟨t.1, 0, none⟩) t.2 t.2
def svs (l : List (Nat × Nat)) : List Value := l.map sv
/-- The list lies there. -/
def Item (w : World) (t : Nat × Nat) : Prop := ∃ cs, w.heap[t.1]? = some (.cells cs 35 (0, 0)) ∧ cs.size = t.2 * 5 ∧ t.2 ≤ 65536 ∧ 0 < t.2
/-- At block kb lies a Book that holds these lists. -/
def Bk (w : World) (base kb : Nat) (its : List (Nat × Nat)) : Prop :=
  ∃ vl, w.heap[kb]? = some (.cells #[vl] 27 (0, 0)) ∧ w.ownsRow base 22 1 vl its.length (svs its) ∧ its.length ≤ 20000
/-- Blocks that are neither Books nor rows of lists of values are as they were. -/
def Fr (w w' : World) : Prop := ∀ (k : Nat) (cs : Array Value) (T : TypeId) (fr : Nat × Nat), T ≠ 27 → T ≠ 22 → w.heap[k]? = some (.cells cs T fr) → w'.heap[k]? = some (.cells cs T fr)
theorem Fr.refl (w : World) : Fr w w := fun _ _ _ _ _ _ h => h
theorem Fr.trans {u v w : World} (h : Fr u v) (g : Fr v w) : Fr u w := fun k cs T fr a b e => g k cs T fr a b (h k cs T fr a b e)
theorem Fr.of_below {w w' : World} (h : Below w.heap.size w w') : Fr w w' := fun k cs T fr _ _ e => by rw [h.block k (heap_lt e)]; exact e
theorem Fr.of_set {w : World} {kb o : Nat} {cs : Array Value} (hk : w.heap[kb]? = some (.cells cs 27 (0, 0))) (u : Value) : Fr w (w.setCell ⟨kb, o, none⟩ u) := fun k ds T fr h1 h2 e => by
  rw [heap_setCell_other w ⟨kb, o, none⟩ k u (fun h => by
    simp only at h
    subst h
    rw [hk] at e
    simp only [Option.some.injEq, Obj.cells.injEq] at e
    exact h1 e.2.1.symm)]
  exact e
theorem Fr.of_grown {base : Nat} {w w' : World} {vl : Value} {n : Nat} {xs : List Value} (ho : w.ownsRow base 22 1 vl n xs) (hg : w.grownBy w' vl.ownBlock) : Fr w w' := fun k cs T fr h1 h2 e => by
  rw [hg.block k (heap_lt e) (fun h => by
    obtain ⟨_, p⟩ := ho
    rcases p with ⟨rfl, _⟩ | ⟨g, cap, cur, rfl, _, hh, _⟩
    · simp [Value.ownBlock] at h
    · simp [Value.ownBlock] at h
      subst h
      rw [hh] at e
      simp only [Option.some.injEq, Obj.cells.injEq] at e
      exact h2 e.2.1.symm)]
  exact e
theorem Item.fr {w w' : World} {t : Nat × Nat} (h : Item w t) (hf : Fr w w') : Item w' t := by
  obtain ⟨cs, h1, h2⟩ := h
  exact ⟨cs, hf _ _ _ _ (by decide) (by decide) h1, h2⟩
theorem NewV.fr {w w' : World} (hf : Fr w w') (x : Val) : ∀ (lo hi : Nat) (v : Value), NewV w lo hi v x → NewV w' lo hi v x := by
  induction x using Val.ind with
  | h k n r t l ih =>
    intro lo hi v h
    rw [NewV] at h ⊢
    obtain ⟨ao, cap, e, ht, h⟩ := h
    refine ⟨ao, cap, e, ht, ?_⟩
    rcases h with h | ⟨b, cs, f, h1, h2, h3, h4, h5, h6, h7, h8, h9⟩
    · exact Or.inl h
    · have hbb := hf _ _ _ _ (by decide) (by decide) h7
      refine Or.inr ⟨b, cs, f, h1, h2, h3, h4, h5, h6, hbb, h8, newL_of l 0 fun j hj => ?_⟩
      obtain ⟨g, c0, c1, c2, c3, c4, d0, d1, d2, d3, d4, hx⟩ := NewL.get h9 j hj
      have cell : ∀ o c, w.cell? ⟨b, o, none⟩ = some c → w'.cell? ⟨b, o, none⟩ = some c := fun o c hc => (World.cell?_of_block (w := w) (a := ⟨b, o, none⟩) (hbb.trans h7.symm)).trans hc
      exact ⟨g, c0, c1, c2, c3, c4, cell _ _ d0, cell _ _ d1, cell _ _ d2, cell _ _ d3, cell _ _ d4, ih _ (List.getElem_mem hj) _ _ _ hx⟩
theorem Tryz.infoVs : (Tryz.prog.info? 22).map (fun i => (i.zero, i.size, i.bytes)) = some (some (.slice none 0 0), 1, 24) := by kernel_rfl
theorem Bk.cell {w : World} {base kb : Nat} {its : List (Nat × Nat)} (h : Bk w base kb its) : ∃ ao ca, w.cell? ⟨kb, 0, none⟩ = some (.slice ao its.length ca) ∧ w.frozen? ⟨kb, 0, none⟩ = false ∧ w.heap[kb]? = some (.cells #[.slice ao its.length ca] 27 (0, 0)) ∧ w.ownsRow base 22 1 (.slice ao its.length ca) its.length (svs its) := by
  obtain ⟨vl, hk, ho, _⟩ := h
  obtain ⟨ao, ca, rfl⟩ := yown_slice ho
  exact ⟨ao, ca, by simp [World.cell?, hk], by simp [World.frozen?, hk], hk, ho⟩
theorem Bk.below {w w' : World} {base kb : Nat} {its : List (Nat × Nat)} (h : Bk w base kb its) (hb : Below w.heap.size w w') : Bk w' base kb its := by
  obtain ⟨vl, hk, ho, hl⟩ := h
  exact ⟨vl, by rw [hb.block kb (heap_lt hk)]; exact hk, ownsRow_below ho hb, hl⟩
/-- What Keep owes. -/
def KeepP (base kb lo hi : Nat) (its : List (Nat × Nat)) (w : World) (e : Ending) (w' : World) : Prop :=
  e = .returned (.tuple #[]) ∧ ∃ new, Bk w' base kb (its ++ new) ∧ (∀ t ∈ new, lo ≤ t.1 ∧ t.1 < hi ∧ Item w' t) ∧ (new.map Prod.fst).Nodup ∧ Fr w w' ∧ Below base w w'
theorem Bk.add {w1 : World} {base kb : Nat} {its : List (Nat × Nat)} {vl v1 : Value} {t : Nat × Nat} (hk : w1.heap[kb]? = some (.cells #[vl] 27 (0, 0))) (ho : w1.ownsRow base 22 1 v1 (its.length + 1) (svs its ++ [sv t])) (hl : its.length < 20000) : Bk (w1.setCell ⟨kb, 0, none⟩ v1) base kb (its ++ [t]) := by
  refine ⟨v1, ?_, ?_, by simp; omega⟩
  · rw [heap_setCell_same w1 kb 0 _ _ _ hk]; simp
  · have := ownsRow_setCell_other ho (yown_ne ho hk (by decide)) (a := ⟨kb, 0, none⟩) v1
    simpa [svs] using this
/-- The cells of the box. -/
def Bx5 (w : World) (b : Nat) (k n : Int) (r : Nat) (t : ByteArray) (v : Value) : Prop := w.heap[b]? = some (.cells #[.int .i64 k, .int .i64 n, .float .f64 r, .string t, v] 35 (0, 0))
set_option maxHeartbeats 4000000 in
theorem bkeep_any (x : Val) : ∀ (w : World) (v : Value) (base kb lo hi : Nat) (its : List (Nat × Nat)), Bk w base kb its → base ≤ kb → NewV w lo hi v x →
    Calls Tryz.prog 19 #[.pointer (some ⟨kb, 0, none⟩), v] w fun e w' => KeepP base kb lo hi its w e w' := by
  induction x using Val.ind with
  | h k n r t l ih =>
    intro w v base kb lo hi its hB hbk hv
    rw [NewV] at hv
    obtain ⟨ao, cap, rfl, ht, hor⟩ := hv
    replace ih : Hid (∀ x ∈ l, ∀ (w : World) (v : Value) (base kb lo hi : Nat) (its : List (Nat × Nat)), Bk w base kb its → base ≤ kb → NewV w lo hi v x → Calls Tryz.prog 19 #[.pointer (some ⟨kb, 0, none⟩), v] w fun e w' => KeepP base kb lo hi its w e w') := ih
    have hkl : kb < w.heap.size := by obtain ⟨_, _, _, _, h, _⟩ := hB.cell; exact heap_lt h
    have hsb : base ≤ w.heap.size := by omega
    rcases hor with ⟨rfl, rfl, rfl⟩ | ⟨b, cs, f, rfl, rfl, hl6, hlo, hb0, hfh, hcs, hsz, hnl⟩
    · replace hB : Hid (Bk w base kb its) := hB
      have hbx : Hid (Below w.heap.size w (w.alloc (.cells #[.int .i64 k, .int .i64 n, .float .f64 r, .string (bstr t), .slice none 0 0] 35))) := box_below _ _
      go_enter Tryz.func19, Tryz.ntmps19
      go_wp2_with fail
      go_loopw [4] (fun v4 wr => v4 = .int .i64 0 ∧ wr = w.alloc (.cells #[.int .i64 k, .int .i64 n, .float .f64 r, .string (bstr t), .slice none 0 0] 35)) (fun _ _ => 0)
      case atStart => exact ⟨rfl, rfl⟩
      case round =>
        obtain ⟨rfl, rfl⟩ := hrel
        go_wp2
        go_end0
        exact ⟨rfl, [], by rw [List.append_nil]; exact hB.out.below hbx.out, fun t ht => by simp at ht, by simp, Fr.of_below hbx.out, hbx.out.mono hsb⟩
    · replace hB : Hid (Bk w base kb its) := hB
      replace hcs : Hid (w.heap[b]? = some (.cells cs 35 (0, 0))) := hcs
      replace hnl : Hid (NewL w b f 0 l) := hnl
      have hch : Hid (∀ j, j < l.length → f j ≤ f (j + 1)) := fun j hj => by have := (NewL.get hnl.out j hj).1; rwa [Nat.zero_add] at this
      obtain ⟨N, hN⟩ : ∃ N, Hid (l.length = N) := ⟨_, rfl⟩
      rw [hN.out] at hl6 hfh hsz ⊢
      obtain ⟨w1, hw1⟩ : ∃ w1, w1 = w.alloc (.cells #[.int .i64 k, .int .i64 n, .float .f64 r, .string (bstr t), .slice (some ⟨b, 0, none⟩) N N] 35) := ⟨_, rfl⟩
      have hX : Hid (Bx5 w1 w.heap.size k n r (bstr t) (.slice (some ⟨b, 0, none⟩) N N)) := by rw [hw1]; exact heap_alloc_new _ _
      have hb1 : Below w.heap.size w w1 := by rw [hw1]; exact box_below _ _
      have hB1 : Hid (Bk w1 base kb its) := hB.out.below hb1
      have hF1 : Hid (Fr w w1) := Fr.of_below hb1
      have hBl1 : Hid (Below base w w1) := hb1.mono hsb
      obtain ⟨xb, hxb⟩ : ∃ xb, Hid (w.heap.size = xb) := ⟨_, rfl⟩
      go_enter Tryz.func19, Tryz.ntmps19
      go_wp2_with fail
      rw [← hw1, hxb.out]
      rw [hxb.out] at hX
      clear hw1 hb1
      go_loopw [4] (fun v4 wr => ∃ (i : Nat) (new : List (Nat × Nat)), i ≤ N ∧ v4 = .int .i64 (i : Int) ∧ Hid (Bk wr base kb (its ++ new)) ∧ Hid (∀ t ∈ new, f 0 ≤ t.1 ∧ t.1 < f i ∧ Item wr t) ∧ Hid ((new.map Prod.fst).Nodup) ∧ Hid (Fr w wr) ∧ Hid (Below base w wr) ∧ Hid (Bx5 wr xb k n r (bstr t) (.slice (some ⟨b, 0, none⟩) N N))) (fun v _ => N - (intOf v).toNat)
      case atStart => exact ⟨0, [], by omega, rfl, by rw [List.append_nil]; exact hB1, fun t ht => by simp at ht, by show List.Nodup _; simp, hF1, hBl1, hX⟩
      case round =>
        clear hX hB1 hF1 hBl1
        obtain ⟨i, new, hi, rfl, hBr, hnew, hnd, hF, hBl, hX⟩ := hrel
        have x4 : wr.cell? ⟨xb, 4, none⟩ = some (.slice (some ⟨b, 0, none⟩) N N) := by have := hX.out; unfold Bx5 at this; simp [World.cell?, this]
        by_cases hin : i = N
        · subst hin
          have hf0 : f 0 ≤ f i := chain_le (fun j hj => hch.out j (by rw [hN.out]; omega)) i (Nat.le_refl _) 0 (by omega)
          by_cases hi0 : i = 0
          · subst hi0
            go_wp2
            go_end0
            exact ⟨rfl, new, hBr.out, fun t ht => by obtain ⟨h1, h2, h3⟩ := hnew.out t ht; exact ⟨by omega, by omega, h3⟩, hnd.out, hF.out, hBl.out⟩
          · obtain ⟨ao2, ca2, k0, kf, hkb, ho2⟩ := hBr.out.cell
            obtain ⟨L, hL⟩ : ∃ L, Hid ((its ++ new).length = L) := ⟨_, rfl⟩
            have hL2 : L ≤ 20000 := by rw [← hL.out]; obtain ⟨_, _, _, h⟩ := hBr.out; exact h
            rw [hL.out] at k0 hkb ho2
            have c0 : (0 : Int) < (i : Int) := by omega
            by_cases hfull : L = 20000
            · subst hfull
              go_wp2
              go_end0
              exact ⟨rfl, new, hBr.out, fun t ht => by obtain ⟨h1, h2, h3⟩ := hnew.out t ht; exact ⟨by omega, by omega, h3⟩, hnd.out, hF.out, hBl.out⟩
            · have c1 : (L : Int) < 20000 := by omega
              obtain ⟨i0, hif, hz0, hz1, hz2⟩ := info_parts Tryz.infoVs
              have hne : (Value.slice ao2 L ca2).ownBlock ≠ some kb := yown_ne ho2 hkb (by decide)
              have hnx : (Value.slice ao2 L ca2).ownBlock ≠ some xb := yown_ne ho2 hX.out (by decide)
              have hbz : base ≤ wr.heap.size := by have := hBl.out.size; omega
              have hkbl : kb < wr.heap.size := lt_of_cell k0
              replace hkb : Hid (wr.heap[kb]? = some (.cells #[.slice ao2 L ca2] 27 (0, 0))) := hkb
              go_wp2_with fail
              go_region_law (first | (refine step_append_lies _ rfl (.tmp 35) (.tmp 38) 25 rfl base 22 i0 (.slice none 0 0) 1 24 Tryz.underlying25 hif hz0 hz1 hz2 rfl (by decide) (.slice ao2 L ca2) L (svs (its ++ new)) (by simp [Act.eval]) (ho2.alloc _) ⟨wr.heap.size, 0, none⟩ 1 1 [.slice (some ⟨b, 0, none⟩) i i] (by simp [Act.eval]) rfl (cell_one_new _ _ _) (by simp [Value.oneCell']) (by decide) (by unfold maxLen; omega) (by omega) (by simp; omega) (wr.heap.size + 1) (by simp) ?_; intro g2 cap2 w3 hown3 hgrow3 hat hlt3; have kk3 := yblock_after (w2 := wr) (by first | exact (box_below wr _).drew | exact (box_below wr.drew _)) hkb.out hgrow3 hne; have cc3 : w3.cell? ⟨kb, 0, none⟩ = some (.slice ao2 L ca2) := (by simp [World.cell?, kk3]); have ff3 : w3.frozen? ⟨kb, 0, none⟩ = false := (by simp [World.frozen?, kk3])))
              all_goals
                have hFx : Fr wr (w3.setCell ⟨kb, 0, none⟩ (.slice (some ⟨g2, 0, none⟩) (L + 1) cap2)) := ((Fr.of_below (by first | exact (box_below wr _).drew | exact (box_below wr.drew _))).trans (Fr.of_grown (by exact ho2.alloc _) hgrow3)).trans (Fr.of_set kk3 _)
                have hBx : Below base w (w3.setCell ⟨kb, 0, none⟩ (.slice (some ⟨g2, 0, none⟩) (L + 1) cap2)) := by
                  refine ybelow_set ?_ hbk _
                  refine (hBl.out.trans (Below.mono (by first | exact (box_below wr _).drew | exact (box_below wr.drew _)) hbz)).grown hgrow3 (by simp; omega) ?_
                  intro q hq
                  exact (ho2.lt q hq).1
                have hKx : Bk (w3.setCell ⟨kb, 0, none⟩ (.slice (some ⟨g2, 0, none⟩) (L + 1) cap2)) base kb ((its ++ new) ++ [(b, i)]) := Bk.add kk3 (by rw [hL.out]; exact hown3) (by rw [hL.out]; omega)
                replace hFx : Hid (Fr wr (w3.setCell ⟨kb, 0, none⟩ (.slice (some ⟨g2, 0, none⟩) (L + 1) cap2))) := hFx
                replace hBx : Hid (Below base w (w3.setCell ⟨kb, 0, none⟩ (.slice (some ⟨g2, 0, none⟩) (L + 1) cap2))) := hBx
                replace hKx : Hid (Bk (w3.setCell ⟨kb, 0, none⟩ (.slice (some ⟨g2, 0, none⟩) (L + 1) cap2)) base kb ((its ++ new) ++ [(b, i)])) := hKx
                clear hown3 hgrow3 hat hlt3 kk3 cc3 ff3
                go_wp2
                go_end0
                refine ⟨rfl, new ++ [(b, i)], by rw [← List.append_assoc]; exact hKx.out, ?_, ?_, hF.out.trans hFx.out, hBx.out⟩
                · intro t ht
                  rcases List.mem_append.1 ht with ht | ht
                  · obtain ⟨h1, h2, h3⟩ := hnew.out t ht
                    exact ⟨by omega, by omega, h3.fr hFx.out⟩
                  · obtain rfl := List.mem_singleton.1 ht
                    exact ⟨hlo, by show b < _; omega, Item.fr ⟨cs, hF.out _ _ _ _ (by decide) (by decide) hcs.out, hsz, hl6, by show 0 < i; omega⟩ hFx.out⟩
                · rw [List.map_append, List.nodup_append]
                  refine ⟨hnd.out, by simp, ?_⟩
                  intro a ha c hc hac
                  simp only [List.map_cons, List.map_nil, List.mem_singleton] at hc
                  obtain ⟨t, ht, rfl⟩ := List.mem_map.1 ha
                  have := (hnew.out t ht).1
                  omega
        · have i1 : (i : Int) < (N : Int) := by omega
          have i2 : (0 : Int) ≤ (i : Int) := by omega
          have hil : i < l.length := by rw [hN.out]; omega
          have hbb := hF.out _ _ _ _ (by decide) (by decide) hcs.out
          obtain ⟨hff, c0, c1, c2, c3, c4, d0, d1, d2, d3, d4, hx⟩ := NewL.get hnl.out i hil
          rw [Nat.zero_add] at hff d0 d1 d2 d3 d4 hx
          have cell : ∀ o c, w.cell? ⟨b, o, none⟩ = some c → wr.cell? ⟨b, o, none⟩ = some c := fun o c hc => (World.cell?_of_block (w := w) (a := ⟨b, o, none⟩) (hbb.trans hcs.out.symm)).trans hc
          have e0 := cell _ _ d0
          have e1 := cell _ _ d1
          have e2 := cell _ _ d2
          have e3 := cell _ _ d3
          have e4 := cell _ _ d4
          have hcall : Hid (Calls Tryz.prog 19 #[.pointer (some ⟨kb, 0, none⟩), .agg #[c0, c1, c2, c3, c4]] wr fun e w' => KeepP base kb (f i) (f (i + 1)) (its ++ new) wr e w') := ih.out l[i] (List.getElem_mem hil) wr _ base kb (f i) (f (i + 1)) (its ++ new) hBr.out hbk (NewV.fr hF.out _ _ _ _ hx)
          have hf0 : f 0 ≤ f i := chain_le (fun j hj => hch.out j (by rw [hN.out]; omega)) i (Nat.le_refl _) 0 (by omega)
          clear d0 d1 d2 d3 d4 hx cell hbb
          go_wp2_with fail
          refine hcall.out.mono ?_
          rintro e w2 ⟨rfl, new2, hB2, hn2, hd2, hF2, hBl2⟩
          have hX2 : Hid (Bx5 w2 xb k n r (bstr t) (.slice (some ⟨b, 0, none⟩) N N)) := hF2 _ _ _ _ (by decide) (by decide) hX.out
          have hnew2 : Hid (∀ t ∈ new ++ new2, f 0 ≤ t.1 ∧ t.1 < f (i + 1) ∧ Item w2 t) := by
            intro t ht
            rcases List.mem_append.1 ht with ht | ht
            · obtain ⟨h1, h2, h3⟩ := hnew.out t ht
              exact ⟨h1, by omega, h3.fr hF2⟩
            · obtain ⟨h1, h2, h3⟩ := hn2 t ht
              exact ⟨by omega, h2, h3⟩
          have hnd2 : Hid (((new ++ new2).map Prod.fst).Nodup) := by
            show List.Nodup _
            rw [List.map_append, List.nodup_append]
            refine ⟨hnd.out, hd2, ?_⟩
            intro a ha c hc hac
            obtain ⟨t, ht, rfl⟩ := List.mem_map.1 ha
            obtain ⟨u, hu, rfl⟩ := List.mem_map.1 hc
            have h1 := (hnew.out t ht).2.1
            have h2 := (hn2 u hu).1
            omega
          have hBr2 : Hid (Bk w2 base kb (its ++ (new ++ new2))) := by rw [← List.append_assoc]; exact hB2
          have hFr2 : Hid (Fr w w2) := hF.out.trans hF2
          have hBl3 : Hid (Below base w w2) := hBl.out.trans hBl2
          clear hB2 hn2 hd2 hF2 hBl2 hcall e0 e1 e2 e3 e4 x4
          go_wp2_with fail
          go_roundw
          case rel => exact ⟨i + 1, new ++ new2, by omega, by go_num, hBr2, hnew2, hnd2, hFr2, hBl3, hX2⟩
          case measure => simp [intOf]; omega
#print axioms bkeep_any
end Go.Proofs.YtpfnkkkfekhngaaGreatDoor.Va
