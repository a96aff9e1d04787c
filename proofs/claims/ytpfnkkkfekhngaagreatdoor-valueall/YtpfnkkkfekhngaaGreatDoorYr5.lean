/-
  The document's own reader of values: lists, values, all.
-/
import Derived.Test.YtpfnkkkfekhngaaGreatDoorYr3
import Derived.Deep.AppendLies
namespace Go.Proofs.YtpfnkkkfekhngaaGreatDoor.Va
open Go.RowKit Go.Proofs.YtpfnkkkfekhngaaGreatDoor.Rl
set_option maxRecDepth 100000
set_option linter.unusedVariables false

/-- The value v is x, also in any world that agrees with this one on the blocks of S. -/
def FarS (S : Nat → Prop) (w : World) (v : Value) (x : Val) : Prop := ∀ w' : World, (∀ b, S b → b < w.heap.size → w'.heap[b]? = w.heap[b]?) → IsV w' v x
theorem FarS.grow {S S' : Nat → Prop} {w w' : World} {v : Value} {x : Val} (h : FarS S w v x) (hb : ∀ b, S b → b < w.heap.size → w'.heap[b]? = w.heap[b]? ∧ S' b) (hs : w.heap.size ≤ w'.heap.size) : FarS S' w' v x :=
  fun u hu => h u fun b h1 h2 => (hu b (hb b h1 h2).2 (by omega)).trans (hb b h1 h2).1
theorem yadd0 (g j : Nat) : (⟨g, 0, none⟩ : Addr).add j = ⟨g, j, none⟩ := by unfold Addr.add; split <;> simp_all
/-- Where the reading of a list stands. -/
structure YAt (w wr : World) (base q : Nat) (b : List UInt8) (d F : Nat) (R : Res) (v8 : Value) (p lf g : Nat) (acc : List Val) (xs : List Value) : Prop where
  res : R = rdL g d lf p (b.drop p) acc
  fuel : g ≤ F
  room : 2 * (b.length - p) + 3 ≤ g
  st : Rg wr base q b p lf 0
  gr : w.grownBy wr (some q)
  zr : Z5 wr w.heap.size
  vb : wr.heap[w.heap.size + 1]? = some (.cells #[.int .i64 6, .int .i64 0, .float .f64 0, .string ⟨#[]⟩, v8] 35 (0, 0))
  own : wr.ownsRow (w.heap.size + 2) 35 5 v8 acc.length xs
  sum : acc.length + lf ≤ 65536
  each : ∀ j (h : j < acc.length), ∃ c0 c1 c2 c3 c4, xs[j * 5]? = some c0 ∧ xs[j * 5 + 1]? = some c1 ∧ xs[j * 5 + 2]? = some c2 ∧ xs[j * 5 + 3]? = some c3 ∧ xs[j * 5 + 4]? = some c4 ∧ FarS (fun b => w.heap.size + 2 ≤ b ∧ v8.ownBlock ≠ some b) wr (.agg #[c0, c1, c2, c3, c4]) acc[j]
variable {w wr : World} {base q : Nat} {b : List UInt8} {d F : Nat} {R : Res} {v8 : Value} {p lf g : Nat} {acc : List Val} {xs : List Value}
/-- The list so far, as a value. -/
theorem YAt.far (h : YAt w wr base q b d F R v8 p lf g acc xs) : Far wr (w.heap.size + 2) (.agg #[.int .i64 6, .int .i64 0, .float .f64 0, .string ⟨#[]⟩, v8]) (.mk 6 0 0 [] acc) := by
  intro w' hw
  have ho := h.own
  have he := h.each
  rw [IsV]
  rcases ho.2 with ⟨rfl, h0⟩ | ⟨gb, cap, cur, rfl, a2, a3, a4, a5, a6, a7⟩
  · have : acc = [] := List.length_eq_zero_iff.1 h0
    subst this
    exact ⟨none, 0, rfl, fun _ => ⟨rfl, rfl⟩, by simp, by unfold maxLen; omega, by simp, by rw [IsL]; trivial⟩
  · refine ⟨_, cap, rfl, fun h => (by simp at h), a4, a5, by simp, isL_of acc 0 fun j hj => ?_⟩
    obtain ⟨c0, c1, c2, c3, c4, e0, e1, e2, e3, e4, hf⟩ := he j hj
    have hc : ∀ k u, xs[k]? = some u → w'.cell? ⟨gb, k, none⟩ = some u := fun k u hu => by
      have h1 := ho.cells (g := gb) rfl k u hu
      rw [yadd0] at h1
      rw [World.cell?_of_block (w := wr) (w' := w') (a := ⟨gb, k, none⟩) (hw gb a2 (heap_lt a3))]
      exact h1
    simp only [Nat.zero_add]
    exact ⟨c0, c1, c2, c3, c4, hc _ _ e0, hc _ _ e1, hc _ _ e2, hc _ _ e3, hc _ _ e4, hf w' fun b h1 h2 => hw b h1.1 h2⟩
/-- One more. -/
theorem YAt.more {w1 w3 w4 : World} (h : YAt w wr base q b d F R v8 p lf (g + 1) acc xs) (hq : q < w.heap.size) (hd : d ≤ 8) {x : Val} {p' lf' : Nat} {s' : List UInt8} (hx : rdV g d lf p (b.drop p) = .ok x p' lf' s') (hs : s' = b.drop p')
    (hne : ∀ k r, b.drop p = k :: r → k ≠ 0) (hg1 : wr.grownBy w1 (some q)) (hr1 : Rg w1 base q b p' lf' 0) {a0 a1 a2 a3 a4 : Value} (hF : Far w1 wr.heap.size (.agg #[a0, a1, a2, a3, a4]) x) (hg3 : w1.grownBy w3 none)
    {gb cap : Nat} (ho : w4.ownsRow (w.heap.size + 2) 35 5 (.slice (some ⟨gb, 0, none⟩) (acc.length + 1) cap) (acc.length + 1) (xs ++ [a0, a1, a2, a3, a4])) (hg4 : w3.grownBy w4 v8.ownBlock) (hat : v8.ownBlock = some gb ∨ gb = w3.heap.size) :
    YAt w (w4.setCell ⟨w.heap.size + 1, 4, none⟩ (.slice (some ⟨gb, 0, none⟩) (acc.length + 1) cap)) base q b d F R (.slice (some ⟨gb, 0, none⟩) (acc.length + 1) cap) p' lf' g (acc ++ [x]) (xs ++ [a0, a1, a2, a3, a4]) ∧ p < p' ∧ p' ≤ b.length := by
  obtain ⟨s1, s2, s3, s4, s5, s6⟩ := read_sound g d lf p (b.drop p) x p' lf' s' hd hx
  have hkp := key_pos x
  have hsp := szV_pos x
  have hbq : base ≤ q := by obtain ⟨_, _, _, _, _, _, _, _, _, _, h⟩ := hr1.c; exact h
  have hpl : p' ≤ b.length := by obtain ⟨_, _, _, _, _, _, _, _, h, _⟩ := hr1.c; exact h
  have hroom := h.room
  have hvl : w.heap.size + 1 < wr.heap.size := heap_lt h.vb
  have hob : ∀ k, v8.ownBlock = some k → w.heap.size + 2 ≤ k ∧ k < wr.heap.size := fun k e => h.own.lt k e
  have z1 := hg1.size
  have z3 := hg3.size
  have z4 := hg4.size
  have hgb := ho.lt gb rfl
  -- what stands
  have b5 : ∀ k, k < w4.heap.size → k ≠ w.heap.size + 1 → (w4.setCell ⟨w.heap.size + 1, 4, none⟩ (.slice (some ⟨gb, 0, none⟩) (acc.length + 1) cap)).heap[k]? = w4.heap[k]? := fun k _ hk => heap_setCell_other _ _ _ _ (by simpa using hk)
  have b1 : ∀ k, k < w1.heap.size → v8.ownBlock ≠ some k → k ≠ w.heap.size + 1 → (w4.setCell ⟨w.heap.size + 1, 4, none⟩ (.slice (some ⟨gb, 0, none⟩) (acc.length + 1) cap)).heap[k]? = w1.heap[k]? := fun k h1 h2 h3 =>
    ((b5 k (by omega) h3).trans (hg4.block k (by omega) (fun e => h2 e.symm))).trans (hg3.block k h1 (by simp))
  have br : ∀ k, k < wr.heap.size → v8.ownBlock ≠ some k → k ≠ w.heap.size + 1 → k ≠ q → (w4.setCell ⟨w.heap.size + 1, 4, none⟩ (.slice (some ⟨gb, 0, none⟩) (acc.length + 1) cap)).heap[k]? = wr.heap[k]? := fun k h1 h2 h3 h4 =>
    (b1 k (by omega) h2 h3).trans (hg1.block k h1 (by simpa using h4))
  have hgr5 : w4.grownBy (w4.setCell ⟨w.heap.size + 1, 4, none⟩ (.slice (some ⟨gb, 0, none⟩) (acc.length + 1) cap)) (some (w.heap.size + 1)) := grown_setCell _ _ _ _
  have z5 := hgr5.size
  refine ⟨⟨?_, by have := h.fuel; omega, by omega, ?_, ?_, ?_, ?_, ?_, ?_, ?_⟩, by omega, hpl⟩
  · rw [h.res]
    cases hdq : b.drop p with
    | nil => rw [hdq] at hx; cases g <;> simp [rdV] at hx
    | cons k r => rw [rdL_cons, if_neg (hne k r hdq), ← hdq, hx]; simp only; rw [hs]
  · have r3 := Rg.other hr1 hg3 (by simp) (fun k hk => by simp at hk)
    have r4 := Rg.other r3 hg4 (fun e => by have := hob q e; omega) (fun k hk => by have := hob k hk; omega)
    exact Rg.other r4 hgr5 (fun e => by simp at e; omega) (fun k hk => by simp at hk; omega)
  · refine ⟨?_, ?_, ?_, by have := h.gr.size; omega, fun k hk hkq => ?_⟩
    · rw [hgr5.os, hg4.os, hg3.os, hg1.os]; exact h.gr.os
    · rw [hgr5.tape, hg4.tape, hg3.tape, hg1.tape]; exact h.gr.tape
    · rw [hgr5.output, hg4.output, hg3.output, hg1.output]; exact h.gr.output
    · rw [br k (by omega) (fun e => by have := hob k e; omega) (by omega) (by simpa using hkq)]
      exact h.gr.block k hk hkq
  · show _ = _
    rw [br _ (by omega) (fun e => by have := hob _ e; omega) (by omega) (by omega)]
    exact h.zr
  · have e4 : w4.heap[w.heap.size + 1]? = _ := ((hg4.block _ (by omega) (fun e => by have := hob _ e.symm; omega)).trans (hg3.block _ (by omega) (by simp))).trans ((hg1.block _ (by omega) (by simp; omega)).trans h.vb)
    rw [heap_setCell_same w4 _ 4 _ _ _ e4]
    simp
  · rw [List.length_append]
    exact ho.kept hgr5 (Or.inr (by simp [Value.ownBlock]; omega))
  · have := h.sum; simp; omega
  · intro j hj
    have hxl : xs.length = acc.length * 5 := h.own.1
    have hgbb : ∀ k, k < w1.heap.size → v8.ownBlock ≠ some k → Value.ownBlock (.slice (some ⟨gb, 0, none⟩) (acc.length + 1) cap) ≠ some k := fun k h1 h2 e => by
      simp only [Value.ownBlock, Option.some.injEq] at e
      rcases hat with h3 | h3
      · exact h2 (e ▸ h3)
      · omega
    by_cases hjl : j < acc.length
    · obtain ⟨c0, c1, c2, c3, c4, e0, e1, e2, e3, e4, hf⟩ := h.each j hjl
      have ap : ∀ k u, xs[k]? = some u → (xs ++ [a0, a1, a2, a3, a4])[k]? = some u := fun k u hu => by
        rw [List.getElem?_append_left (List.getElem?_eq_some_iff.1 hu).1]; exact hu
      refine ⟨c0, c1, c2, c3, c4, ap _ _ e0, ap _ _ e1, ap _ _ e2, ap _ _ e3, ap _ _ e4, ?_⟩
      rw [List.getElem_append_left hjl]
      exact hf.grow (fun k hk hkl => ⟨br k hkl hk.2 (by have := hk.1; omega) (by have := hk.1; omega), hk.1, hgbb k (by omega) hk.2⟩) (by omega)
    · have ej : j = acc.length := by simp at hj; omega
      subst ej
      have ap : ∀ k, (xs ++ [a0, a1, a2, a3, a4])[acc.length * 5 + k]? = [a0, a1, a2, a3, a4][k]? := fun k => by
        rw [List.getElem?_append_right (by omega), hxl, Nat.add_sub_cancel_left]
      refine ⟨a0, a1, a2, a3, a4, by rw [show acc.length * 5 = acc.length * 5 + 0 from rfl, ap]; rfl, by rw [ap]; rfl, by rw [ap]; rfl, by rw [ap]; rfl, by rw [ap]; rfl, ?_⟩
      have e3 : (acc ++ [x])[acc.length]'hj = x := by simp
      rw [e3]
      intro u hu
      refine hF u fun k h1 h2 => ?_
      have hnk : v8.ownBlock ≠ some k := fun e => by have := hob k e; omega
      exact (hu k ⟨by omega, hgbb k h2 hnk⟩ (by omega)).trans (b1 k h2 hnk (by omega))
#print axioms YAt.more
end Go.Proofs.YtpfnkkkfekhngaaGreatDoor.Va
namespace Go.Proofs.YtpfnkkkfekhngaaGreatDoor.Va
open Go.RowKit Go.Proofs.YtpfnkkkfekhngaaGreatDoor.Rl
set_option maxRecDepth 100000
set_option linter.unusedVariables false

theorem infoY : (Tryz.prog.info? 35).map (fun i => (i.zero, i.size, i.bytes)) = some (some zeroA, 5, 64) := by kernel_rfl
theorem five_news (w : World) (a0 a1 a2 a3 a4 : Value) (T : TypeId) (j : Nat) (u : Value) (h : [a0, a1, a2, a3, a4][j]? = some u) : (w.alloc (.cells #[a0, a1, a2, a3, a4] T)).cell? ((⟨w.heap.size, 0, none⟩ : Addr).add j) = some u := World.news_of_block (heap_alloc_new w _) j u h
theorem five_news2 (w : World) (o : Obj) (a0 a1 a2 a3 a4 : Value) (T : TypeId) (j : Nat) (u : Value) (h : [a0, a1, a2, a3, a4][j]? = some u) : ((w.alloc o).alloc (.cells #[a0, a1, a2, a3, a4] T)).cell? ((⟨w.heap.size + 1, 0, none⟩ : Addr).add j) = some u := by
  have := five_news (w.alloc o) a0 a1 a2 a3 a4 T j u h
  rwa [World.size_alloc] at this
def yms (w : World) (q N : Nat) : Nat := if intOf ((w.cell? ⟨q, 3, none⟩).getD (.int .i64 0)) = 0 then 1 + (N - (intOf ((w.cell? ⟨q, 1, none⟩).getD (.int .i64 0))).toNat) else 0
theorem yms_ok {w : World} {base q : Nat} {b : List UInt8} {p lf : Nat} (h : Rg w base q b p lf 0) (N : Nat) : yms w q N = 1 + (N - p) := by
  obtain ⟨_, _, d0, d1, d2, d3, _⟩ := h.c
  unfold yms
  rw [d3, d1]
  simp [intOf]
theorem yms_bad {w : World} {base q : Nat} {b : List UInt8} {p lf : Nat} {er : Int} (h : Rg w base q b p lf er) (he : er ≠ 0) (N : Nat) : yms w q N = 0 := by
  obtain ⟨_, _, d0, d1, d2, d3, _⟩ := h.c
  unfold yms
  rw [d3, d1]
  simp [intOf, he]
theorem YAt.drew {w wr : World} {base q : Nat} {b : List UInt8} {d F : Nat} {R : Res} {v8 : Value} {p lf g : Nat} {acc : List Val} {xs : List Value} (h : YAt w wr base q b d F R v8 p lf g acc xs) : YAt w wr.drew base q b d F R v8 p lf g acc xs :=
  ⟨h.res, h.fuel, h.room, h.st, ygrown_drew h.gr, h.zr, h.vb, h.own, h.sum, h.each⟩
/-- At the loop's head. -/
def YLoop (w wr : World) (base q : Nat) (b : List UInt8) (d F : Nat) (R : Res) : Prop :=
  (∃ v8 p lf g acc xs, YAt w wr base q b d F R v8 p lf g acc xs) ∨ (∃ z lf er, R = .bad z er ∧ er ≠ 0 ∧ Rg wr base q b z lf er ∧ w.grownBy wr (some q) ∧ Z5 wr w.heap.size)
set_option maxHeartbeats 8000000 in
theorem ylist_of (F : Nat) (hV : ∀ g, g < F → DoesYV g) : DoesYL F := by
  intro w base q b p0 left d hr hd8 hfuel
  have ksf : ∀ (w : World) (a : Addr) (x : Nat) (m : Mode), (store a (.float .f64 x) m).run Tryz.prog w = stored Tryz.prog w a (.float .f64 x) m := fun w a x m => run_store Tryz.prog w a _ m rfl
  have hql := hr.lt
  have hbq : base ≤ q := by obtain ⟨_, _, _, _, _, _, _, _, _, _, h⟩ := hr.c; exact h
  have hl6 : left ≤ 65536 := by obtain ⟨_, _, _, _, _, _, _, _, _, h, _⟩ := hr.c; exact h
  obtain ⟨N, hN⟩ : ∃ N, Hid (b.length = N) := ⟨_, rfl⟩
  have hN2 : N ≤ 140737488355328 := by rw [← hN.out]; obtain ⟨_, _, _, _, _, _, _, h, _⟩ := hr.c; exact h
  obtain ⟨R, hR⟩ : ∃ R, Hid (rdL F d left p0 (b.drop p0) [] = R) := ⟨_, rfl⟩
  rw [hR.out]
  obtain ⟨i0, hi, hz0, hz1, hz2⟩ := info_parts infoY
  replace hi := hide hi
  replace hz0 := hide hz0
  replace hz1 := hide hz1
  replace hz2 := hide hz2
  replace hV := hide hV
  have h0 : Hid (YAt w ((w.alloc (.cells #[.int .i64 0, .int .i64 0, .float .f64 0, .string ⟨#[]⟩, .slice none 0 0] 35)).alloc (.cells #[.int .i64 6, .int .i64 0, .float .f64 0, .string ⟨#[]⟩, .slice none 0 0] 35)) base q b d F R (.slice none 0 0) p0 left F [] []) := by
    refine ⟨hR.out.symm, Nat.le_refl _, hfuel, (hr.below (box_below _ _)).below (box_below _ _), ygrown_alloc (ygrown_alloc (ygrown_refl _ _) _) _, ?_, ?_, World.ownsRow_nil _ _ _ _, by simpa using hl6, fun j h => by simp at h⟩
    · show _ = _
      rw [heap_alloc_old _ _ (by simp)]
      exact heap_alloc_new _ _
    · have := heap_alloc_new (w.alloc (.cells #[.int .i64 0, .int .i64 0, .float .f64 0, .string ⟨#[]⟩, .slice none 0 0] 35)) (.cells #[.int .i64 6, .int .i64 0, .float .f64 0, .string ⟨#[]⟩, .slice none 0 0] 35)
      rw [show (w.alloc (.cells #[.int .i64 0, .int .i64 0, .float .f64 0, .string ⟨#[]⟩, .slice none 0 0] 35)).heap.size = w.heap.size + 1 by simp] at this
      exact this
  clear hr hfuel hl6
  obtain ⟨r, hrr⟩ : ∃ r, Hid (w.heap.size = r) := ⟨_, rfl⟩
  have hqr : q ≠ r := by have := hrr.out; omega
  have hrs : w.heap.size ≤ r := by have := hrr.out; omega
  go_enter Tryz.func64, Tryz.ntmps64
  go_wp2_with fail
  rw [hrr.out]
  go_loopw [] (fun wr => Hid (YLoop w wr base q b d F R)) (fun wr => yms wr q N)
  case atStart => exact Or.inl ⟨_, _, _, _, _, _, h0.out⟩
  case round =>
    clear h0
    rcases hrel.out with ⟨v8, p, lf, g, acc, xs, hL⟩ | ⟨z, lf, er, hres, her, hr2, hg3, hz3⟩
    · obtain ⟨vo, vm, vc, rfl⟩ : ∃ vo vm vc, v8 = .slice vo vm vc := by
        rcases hL.own.2 with ⟨h, _⟩ | ⟨_, _, _, h, _⟩
        · exact ⟨_, _, _, h⟩
        · exact ⟨_, _, _, h⟩
      obtain ⟨g1, rfl⟩ : ∃ g1, g = g1 + 1 := ⟨g - 1, by have := hL.room; omega⟩
      have hms : Hid (yms wr q N = 1 + (N - p)) := yms_ok hL.st N
      have hp0 : p ≤ N := by rw [← hN.out]; obtain ⟨_, _, _, _, _, _, _, _, h, _⟩ := hL.st.c; exact h
      have hlf : lf ≤ 65536 := by obtain ⟨_, _, _, _, _, _, _, _, _, h, _⟩ := hL.st.c; exact h
      replace hL := hide hL
      clear hrel
      obtain ⟨ao, cap0, d0, d1, d2, d3, hrd, _⟩ := hL.out.st.c
      rw [hN.out] at d0
      replace hrd : Hid (YRd wr base ao b) := hrd
      go_wp2_with fail
      go_region
      replace hL : Hid (YAt w wr.drew base q b d F R (.slice vo vm vc) p lf (g1 + 1) acc xs) := hL.out.drew
      have e0 : wr.drew.cell? ⟨q, 0, none⟩ = some (.slice ao N cap0) := d0
      have e1 : wr.drew.cell? ⟨q, 1, none⟩ = some (.int .i64 (p : Int)) := d1
      have hrda : Hid (YRd wr.drew base ao b) := hrd.out
      clear d0 d1 d2 d3 hrd
      generalize wr.drew = wy at *
      have p0' : (0 : Int) ≤ (p : Int) := by omega
      by_cases hend : p = N
      · have pe : ((p : Int) == (N : Int)) = true := by simp; omega
        have hres : Hid (R = .bad p 2) := by
          show _ = _
          rw [hL.out.res, List.drop_eq_nil_of_le (by rw [hN.out]; omega), rdL_nil]
        replace hend : Hid (p = N) := hend
        have hfl : Hid (Calls Tryz.prog 60 #[.pointer (some ⟨q, 0, none⟩), .int .i64 (p : Int), .int .i64 2] wy fun e w' => e = .returned zeroA ∧ Rg w' base q b p lf 2 ∧ World.grownBy wy w' (some q)) := yfail_any _ base q b _ lf p 2 hL.out.st (by rw [hN.out]; omega)
        go_wp2_with fail
        refine hfl.out.mono ?_
        rintro e w2 ⟨rfl, hr2, hg2⟩
        have hg3 : w.grownBy w2 (some q) := grown_trans hL.out.gr hg2
        have hz3 : Z5 w2 r := Z5.grown (by rw [← hrr.out]; exact hL.out.zr) hg2 (by simpa using hqr)
        unfold zeroA
        clear hfl hg2
        obtain ⟨c0, c1, c2, c3, c4⟩ := hz3.c
        have f0 := hz3.f 0
        have f1 := hz3.f 1
        have f2 := hz3.f 2
        have f3 := hz3.f 3
        have f4 := hz3.f 4
        have hrd := ypt_reads hz3 (.int .i64 0) (.int .i64 0) (.float .f64 0) (.string ⟨#[]⟩) (.slice none 0 0)
        have hgf : Hid (w.grownBy (ypt w2 r (.int .i64 0) (.int .i64 0) (.float .f64 0) (.string ⟨#[]⟩) (.slice none 0 0)) (some q)) := ypt_grown hg3 hrs _ _ _ _ _
        have hrf : Hid (Rg (ypt w2 r (.int .i64 0) (.int .i64 0) (.float .f64 0) (.string ⟨#[]⟩) (.slice none 0 0)) base q b p lf 2) := Rg.other hr2 (ypt_block _ _ _ _ _ _ _) (by simpa using fun e => hqr e.symm) (fun k hk => by simp at hk; omega)
        replace hrd : Hid _ := hrd
        go_wp2_with fail
        show bodyPost _ _ _ _ _ (ypt w2 r (.int .i64 0) (.int .i64 0) (.float .f64 0) (.string ⟨#[]⟩) (.slice none 0 0))
        obtain ⟨w5, hw5⟩ : ∃ w5, Hid ((ypt w2 r (.int .i64 0) (.int .i64 0) (.float .f64 0) (.string ⟨#[]⟩) (.slice none 0 0)) = w5) := ⟨_, rfl⟩
        rw [hw5.out] at hrd hgf hrf ⊢
        obtain ⟨k0, k1, k2, k3, k4⟩ := hrd.out
        refine bodyPost_ret (by simp [results, Tryz.results64, go_sem, k0, k1, k2, k3, k4]; rfl) rfl ?_
        exact ⟨zeroA, rfl, by rw [hres.out]; exact ⟨rfl, _, hrf.out⟩, hgf.out⟩
      · have hlt : p < b.length := by rw [hN.out]; omega
        have pe : ((p : Int) == (N : Int)) = false := by simp; omega
        have pl : (p : Int) < (N : Int) := by omega
        have hpN : p < N := by omega
        obtain ⟨rb, off, rfl, hrb, hcell⟩ := hrda.out p hlt
        obtain ⟨c, hc⟩ : ∃ c, Hid (b[p] = c) := ⟨b[p], rfl⟩
        rw [hc.out] at hcell
        have hdr : Hid (b.drop p = c :: b.drop (p + 1)) := by show _ = _; rw [List.drop_eq_getElem_cons hlt, hc.out]
        obtain ⟨K, hK⟩ : ∃ K, Hid (c.toNat = K) := ⟨_, rfl⟩
        rw [hK.out] at hcell
        go_wp2_with fail
        go_region
        replace hL : Hid (YAt w wy.drew base q b d F R (.slice vo vm vc) p lf (g1 + 1) acc xs) := hL.out.drew
        have u0 : wy.drew.cell? ⟨q, 0, none⟩ = some (.slice (some ⟨rb, off, none⟩) N cap0) := e0
        have u1 : wy.drew.cell? ⟨q, 1, none⟩ = some (.int .i64 (p : Int)) := e1
        clear e0 e1 hrda hcell
        generalize wy.drew = wx at *
        have g1' := hL.out.st.f 1
        have hvq : w.heap.size + 1 ≠ q := by omega
        have hvq2 : q ≠ w.heap.size + 1 := by omega
        have hqr2 : r ≠ q := fun e => hqr e.symm
        have vcl : ∀ j u, #[.int .i64 6, .int .i64 0, .float .f64 0, .string ⟨#[]⟩, .slice vo vm vc][j]? = some u → wx.cell? ⟨w.heap.size + 1, j, none⟩ = some u := fun j u hu => by
          unfold World.cell?
          simp only [hL.out.vb]
          exact hu
        have v0 := vcl 0 _ rfl
        have v1 := vcl 1 _ rfl
        have v2 := vcl 2 _ rfl
        have v3 := vcl 3 _ rfl
        have v4 := vcl 4 _ rfl
        clear vcl
        rw [hrr.out] at v0 v1 v2 v3 v4 hvq hvq2
        by_cases hc0 : c = 0
        · have hK0 : ((K : Int) == 0) = true := by have := hK.out; rw [hc0] at this; simp at this; simp; omega
          have hres : Hid (R = .ok (.mk 6 0 0 [] acc) (p + 1) lf (b.drop (p + 1))) := by
            show _ = _
            rw [hL.out.res, hdr.out, rdL_cons, if_pos hc0]
          replace hc0 : Hid (c = 0) := hc0
          have hR1 : Hid (Rg (wx.setCell ⟨q, 1, none⟩ (.int .i64 ((p : Int) + 1))) base q b (p + 1) lf 0) := hL.out.st.set1 (p + 1) (by rw [hN.out]; omega)
          have hZx : Hid (Z5 wx r) := by rw [← hrr.out]; exact hL.out.zr
          have hZ1 : Hid (Z5 (wx.setCell ⟨q, 1, none⟩ (.int .i64 ((p : Int) + 1))) r) := hZx.out.grown (grown_setCell _ q 1 _) (by simpa using hqr)
          have hG1 : Hid (w.grownBy (wx.setCell ⟨q, 1, none⟩ (.int .i64 ((p : Int) + 1))) (some q)) := ygrown_set hL.out.gr _ _
          have hfa : Hid (Far (ypt (wx.setCell ⟨q, 1, none⟩ (.int .i64 ((p : Int) + 1))) r (.int .i64 6) (.int .i64 0) (.float .f64 0) (.string ⟨#[]⟩) (.slice vo vm vc)) w.heap.size (.agg #[.int .i64 6, .int .i64 0, .float .f64 0, .string ⟨#[]⟩, .slice vo vm vc]) (.mk 6 0 0 [] acc)) :=
            Far.grow hL.out.far (fun k k1 k2 => ((ypt_block (wx.setCell ⟨q, 1, none⟩ (.int .i64 ((p : Int) + 1))) r _ _ _ _ _).block k (by simpa using k2) (by have := hrr.out; simp; omega)).trans (heap_setCell_other _ _ _ _ (by have := hrr.out; simp; omega))) (by have := (ypt_block (wx.setCell ⟨q, 1, none⟩ (.int .i64 ((p : Int) + 1))) r (.int .i64 6) (.int .i64 0) (.float .f64 0) (.string ⟨#[]⟩) (.slice vo vm vc)).size; simpa using this) (by omega)
          obtain ⟨c0, c1, c2, c3, c4⟩ := hZx.out.c
          have f0 := hZx.out.f 0
          have f1 := hZx.out.f 1
          have f2 := hZx.out.f 2
          have f3 := hZx.out.f 3
          have f4 := hZx.out.f 4
          have hrd := ypt_reads hZ1.out (.int .i64 6) (.int .i64 0) (.float .f64 0) (.string ⟨#[]⟩) (.slice vo vm vc)
          have hgf : Hid (w.grownBy (ypt (wx.setCell ⟨q, 1, none⟩ (.int .i64 ((p : Int) + 1))) r (.int .i64 6) (.int .i64 0) (.float .f64 0) (.string ⟨#[]⟩) (.slice vo vm vc)) (some q)) := ypt_grown hG1.out hrs _ _ _ _ _
          have hrf : Hid (Rg (ypt (wx.setCell ⟨q, 1, none⟩ (.int .i64 ((p : Int) + 1))) r (.int .i64 6) (.int .i64 0) (.float .f64 0) (.string ⟨#[]⟩) (.slice vo vm vc)) base q b (p + 1) lf 0) := Rg.other hR1.out (ypt_block _ _ _ _ _ _ _) (by simpa using fun e => hqr e.symm) (fun k hk => by simp at hk; omega)
          replace hrd : Hid _ := hrd
          go_wp2_with fail
          show bodyPost _ _ _ _ _ (ypt (wx.setCell ⟨q, 1, none⟩ (.int .i64 ((p : Int) + 1))) r (.int .i64 6) (.int .i64 0) (.float .f64 0) (.string ⟨#[]⟩) (.slice vo vm vc))
          obtain ⟨w5, hw5⟩ : ∃ w5, Hid ((ypt (wx.setCell ⟨q, 1, none⟩ (.int .i64 ((p : Int) + 1))) r (.int .i64 6) (.int .i64 0) (.float .f64 0) (.string ⟨#[]⟩) (.slice vo vm vc)) = w5) := ⟨_, rfl⟩
          rw [hw5.out] at hrd hgf hrf hfa ⊢
          obtain ⟨k0, k1, k2, k3, k4⟩ := hrd.out
          refine bodyPost_ret (by simp [results, Tryz.results64, go_sem, k0, k1, k2, k3, k4]; rfl) rfl ?_
          refine ⟨.agg #[.int .i64 6, .int .i64 0, .float .f64 0, .string ⟨#[]⟩, .slice vo vm vc], rfl, ?_, hgf.out⟩
          rw [hres.out]
          exact ⟨hfa.out, hrf.out, rfl⟩
        · have hK0 : ((K : Int) == 0) = false := by
            have : K ≠ 0 := fun h => hc0 (UInt8.toNat_inj.1 (by rw [hK.out, h]; rfl))
            simp; omega
          replace hc0 : Hid (c ≠ 0) := hc0
          have hne : Hid (∀ k r, b.drop p = k :: r → k ≠ 0) := fun k r h => by rw [hdr.out] at h; simp only [List.cons.injEq] at h; rw [← h.1]; exact hc0.out
          obtain ⟨V, hVV⟩ : ∃ V, Hid (rdV g1 d lf p (b.drop p) = V) := ⟨_, rfl⟩
          have hcall : Hid (Calls Tryz.prog 41 #[.pointer (some ⟨q, 0, none⟩), .int .i64 (d : Int)] wx fun e w' => ∃ v, e = .returned v ∧ ResP base q b wx.heap.size V v w' ∧ wx.grownBy w' (some q)) := by
            rw [← hVV.out]
            have h1 := hL.out.fuel
            have h2 := hL.out.room
            exact hV.out g1 (by omega) wx base q b p lf d hL.out.st hd8 (by omega)
          go_wp2_with fail
          refine hcall.out.mono ?_
          rintro e w1 ⟨vv, rfl, hP, hg1⟩
          clear u0 u1 v0 v1 v2 v3 v4 hcall
          cases V with
          | bad z er =>
            obtain ⟨rfl, l9, hr1⟩ := hP
            have her : er ≠ 0 := bad_ne _ _ _ _ _ _ _ hVV.out
            have hres : Hid (R = .bad z er) := by show _ = _; rw [hL.out.res, hdr.out, rdL_cons, if_neg hc0.out, ← hdr.out, hVV.out]
            unfold zeroA
            have hd3 : w1.cell? ⟨q, 3, none⟩ = some (.int .i64 er) := by obtain ⟨_, _, _, _, _, h, _⟩ := hr1.c; exact h
            have hq1 : q < w1.heap.size := hr1.lt
            have er0 : (er == 0) = false := by simpa using her
            replace her : Hid (er ≠ 0) := her
            replace hr1 := hide hr1
            replace hg1 := hide hg1
            go_wp2_with fail
            have hr4 : Rg (w1.alloc (.cells #[.int .i64 0, .int .i64 0, .float .f64 0, .string ⟨#[]⟩, .slice none 0 0] 35)) base q b z l9 er := hr1.out.below (box_below _ _)
            have hg4 : w.grownBy (w1.alloc (.cells #[.int .i64 0, .int .i64 0, .float .f64 0, .string ⟨#[]⟩, .slice none 0 0] 35)) (some q) := ygrown_alloc (grown_trans hL.out.gr hg1.out) _
            have hz4 : Z5 (w1.alloc (.cells #[.int .i64 0, .int .i64 0, .float .f64 0, .string ⟨#[]⟩, .slice none 0 0] 35)) w.heap.size := Z5.grown (Z5.grown hL.out.zr hg1.out (by simp; omega)) (World.grownBy_alloc _ _ none) (by simp)
            exact ⟨Or.inr ⟨z, l9, er, hres.out, her.out, hr4, hg4, hz4⟩, by rw [yms_bad hr4 her.out, hms.out]; omega⟩
          | ok x z l9 s9 =>
            obtain ⟨hF, hr1, hs9⟩ := hP
            obtain ⟨xk, xn, xr, xt, xl⟩ := x
            have hX := hF.isV
            rw [IsV] at hX
            obtain ⟨xo, xc, rfl, _⟩ := hX
            have hd3 : w1.cell? ⟨q, 3, none⟩ = some (.int .i64 0) := by obtain ⟨_, _, _, _, _, h, _⟩ := hr1.c; exact h
            have hq1 : q < w1.heap.size := hr1.lt
            have hv1 : r + 1 < w1.heap.size := by have h1 : w.heap.size + 1 < wx.heap.size := heap_lt hL.out.vb; have := hg1.size; have := hrr.out; omega
            have hvb1 : Hid (w1.heap[r + 1]? = some (.cells #[.int .i64 6, .int .i64 0, .float .f64 0, .string ⟨#[]⟩, .slice vo vm vc] 35 (0, 0))) := by
              show _ = _
              have h1 : w.heap.size + 1 < wx.heap.size := heap_lt hL.out.vb
              rw [← hrr.out, hg1.block _ h1 (by simp; omega)]
              exact hL.out.vb
            have v4 : w1.cell? ⟨r + 1, 4, none⟩ = some (.slice vo vm vc) := by unfold World.cell?; simp only [hvb1.out]; rfl
            have vf : w1.frozen? ⟨r + 1, 4, none⟩ = false := by unfold World.frozen?; simp only [hvb1.out]; rfl
            have hs9' := hide hs9
            have hr1' := hide hr1
            have hg1' := hide hg1
            have hF' := hide hF
            clear hs9 hr1 hg1 hF
            have hown : Hid (w1.ownsRow (w.heap.size + 2) 35 5 (.slice vo vm vc) acc.length xs) := hL.out.own.kept hg1'.out (Or.inr fun e => by have := hL.out.own.lt q e; omega)
            have hob : Hid (∀ k, Value.ownBlock (.slice vo vm vc) = some k → w.heap.size + 2 ≤ k ∧ k < wx.heap.size) := fun k e => hL.out.own.lt k e
            have hsz1 : Hid (w.heap.size + 2 ≤ w1.heap.size) := by show _ ≤ _; have := hrr.out; omega
            have hal : Hid (acc.length ≤ 65536) := by have := hL.out.sum; show _ ≤ _; omega
            go_wp2_with (at_builtin; refine wpList_append_lies _ rfl (.tmp 57) (.tmp 59) 22 rfl (w.heap.size + 2) 35 i0 zeroA 5 64 Tryz.underlying22 hi.out hz0.out hz1.out hz2.out rfl (by decide) _ acc.length xs rfl ((hown.out.alloc _).alloc _) ⟨w1.heap.size + 1, 0, none⟩ 1 1 [.int .i64 xk, .int .i64 xn, .float .f64 xr, .string (bstr xt), .slice xo xl.length xc] rfl rfl (five_news2 w1 _ _ _ _ _ _ _) (by intro u hu; simp at hu; rcases hu with rfl | rfl | rfl | rfl | rfl <;> rfl) (by omega) (by unfold maxLen; have := hal.out; omega) (by have := hal.out; omega) (by have := hsz1.out; simp; omega) (w1.heap.size + 2) (by simp) ?_)
            intro gb cap w4 ho hg4 hat hlt
            have hg3 : w1.grownBy ((w1.alloc (.cells #[.int .i64 xk, .int .i64 xn, .float .f64 xr, .string (bstr xt), .slice xo xl.length xc] 35)).alloc (.cells #[.int .i64 xk, .int .i64 xn, .float .f64 xr, .string (bstr xt), .slice xo xl.length xc] 35)) none := (World.grownBy_alloc _ _ none).trans (World.grownBy_alloc _ _ none)
            have hvb4 : Hid (w4.heap[r + 1]? = some (.cells #[.int .i64 6, .int .i64 0, .float .f64 0, .string ⟨#[]⟩, .slice vo vm vc] 35 (0, 0))) := by
              show _ = _
              rw [hg4.block _ (by simp; omega) (fun e => by have := hob.out _ e.symm; have := hrr.out; omega), hg3.block _ hv1 (by simp)]
              exact hvb1.out
            have hmore := hide (hL.out.more hql hd8 hVV.out hs9'.out hne.out hg1'.out hr1'.out hF'.out hg3 ho hg4 (by simpa using hat))
            rw [hrr.out] at hmore
            have y4 : w4.cell? ⟨r + 1, 4, none⟩ = some (.slice vo vm vc) := by unfold World.cell?; simp only [hvb4.out]; rfl
            have yf : w4.frozen? ⟨r + 1, 4, none⟩ = false := by unfold World.frozen?; simp only [hvb4.out]; rfl
            clear ho hg4 hat hlt hg3 v4 vf hd3
            go_wp2_with fail
            have hzl := hmore.out.2
            exact ⟨Or.inl ⟨_, _, _, _, _, _, hmore.out.1⟩, by rw [yms_ok hmore.out.1.st, hms.out]; have := hN.out; omega⟩
    · have er0 : (er == 0) = false := by simpa using her
      obtain ⟨ao, cap0, d0, d1, d2, d3, hrd0, _⟩ := hr2.c
      replace hres : Hid (R = .bad z er) := hres
      replace her : Hid (er ≠ 0) := her
      rw [hrr.out] at hz3
      clear hrel hrd0
      obtain ⟨c0, c1, c2, c3, c4⟩ := hz3.c
      have f0 := hz3.f 0
      have f1 := hz3.f 1
      have f2 := hz3.f 2
      have f3 := hz3.f 3
      have f4 := hz3.f 4
      have hrd := ypt_reads hz3 (.int .i64 0) (.int .i64 0) (.float .f64 0) (.string ⟨#[]⟩) (.slice none 0 0)
      have hgf : Hid (w.grownBy (ypt wr r (.int .i64 0) (.int .i64 0) (.float .f64 0) (.string ⟨#[]⟩) (.slice none 0 0)) (some q)) := ypt_grown hg3 hrs _ _ _ _ _
      have hrf : Hid (Rg (ypt wr r (.int .i64 0) (.int .i64 0) (.float .f64 0) (.string ⟨#[]⟩) (.slice none 0 0)) base q b z lf er) := Rg.other hr2 (ypt_block _ _ _ _ _ _ _) (by simpa using fun e => hqr e.symm) (fun k hk => by simp at hk; omega)
      replace hrd : Hid _ := hrd
      go_wp2_with fail
      show bodyPost _ _ _ _ _ (ypt wr r (.int .i64 0) (.int .i64 0) (.float .f64 0) (.string ⟨#[]⟩) (.slice none 0 0))
      obtain ⟨w5, hw5⟩ : ∃ w5, Hid ((ypt wr r (.int .i64 0) (.int .i64 0) (.float .f64 0) (.string ⟨#[]⟩) (.slice none 0 0)) = w5) := ⟨_, rfl⟩
      rw [hw5.out] at hrd hgf hrf ⊢
      obtain ⟨k0, k1, k2, k3, k4⟩ := hrd.out
      refine bodyPost_ret (by simp [results, Tryz.results64, go_sem, k0, k1, k2, k3, k4]; rfl) rfl ?_
      exact ⟨zeroA, rfl, by rw [hres.out]; exact ⟨rfl, _, hrf.out⟩, hgf.out⟩
theorem yread_all (f : Nat) : DoesYV f ∧ DoesYL f := by
  induction f using Nat.strongRecOn with
  | ind f ih =>
    refine ⟨?_, ylist_of f fun g hg => (ih g hg).1⟩
    cases f with
    | zero => intro w base q b p left d _ _ h; omega
    | succ f => exact yvalue_of f (ih f (by omega)).2
#print axioms yread_all
end Go.Proofs.YtpfnkkkfekhngaaGreatDoor.Va
