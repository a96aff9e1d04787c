/-
  The document's own reader of values: the next value, if lists are read as they should be.
-/
import Derived.Test.YtpfnkkkfekhngaaGreatDoorYr2
import Derived.Test.YtpfnkkkfekhngaaGreatDoorWe
namespace Go.Proofs.YtpfnkkkfekhngaaGreatDoor.Va
open Go.RowKit Go.Proofs.YtpfnkkkfekhngaaGreatDoor.Rl
set_option maxRecDepth 100000
set_option linter.unusedVariables false

/-- The value v is x, also in any world that agrees with this one on the blocks from lo on. -/
def Far (w : World) (lo : Nat) (v : Value) (x : Val) : Prop := ∀ w' : World, (∀ b, lo ≤ b → b < w.heap.size → w'.heap[b]? = w.heap[b]?) → IsV w' v x
theorem Far.isV {w : World} {lo : Nat} {v : Value} {x : Val} (h : Far w lo v x) : IsV w v x := h w fun _ _ _ => rfl
theorem Far.grow {w w' : World} {lo lo' : Nat} {v : Value} {x : Val} (h : Far w lo v x) (hb : ∀ b, lo ≤ b → b < w.heap.size → w'.heap[b]? = w.heap[b]?) (hs : w.heap.size ≤ w'.heap.size) (hl : lo' ≤ lo) : Far w' lo' v x :=
  fun u hu => h u fun b h1 h2 => (hu b (by omega) (by omega)).trans (hb b h1 h2)
/-- What reading answers; a list lies in blocks from lo on. -/
def ResP (base q : Nat) (b : List UInt8) (lo : Nat) (R : Res) (v : Value) (w' : World) : Prop :=
  match R with
  | .bad z e => v = zeroA ∧ ∃ left, Rg w' base q b z left e
  | .ok x z left s => Far w' lo v x ∧ Rg w' base q b z left 0 ∧ s = b.drop z
def DoesYL (f : Nat) : Prop := ∀ (w : World) (base q : Nat) (b : List UInt8) (p left d : Nat), Rg w base q b p left 0 → d ≤ 8 → 2 * (b.length - p) + 3 ≤ f →
  Calls Tryz.prog 64 #[.pointer (some ⟨q, 0, none⟩), .int .i64 (d : Int)] w fun e w' => ∃ v, e = .returned v ∧ ResP base q b w.heap.size (rdL f d left p (b.drop p) []) v w' ∧ w.grownBy w' (some q)
def DoesYV (f : Nat) : Prop := ∀ (w : World) (base q : Nat) (b : List UInt8) (p left d : Nat), Rg w base q b p left 0 → d ≤ 8 → 2 * (b.length - p) + 2 ≤ f →
  Calls Tryz.prog 41 #[.pointer (some ⟨q, 0, none⟩), .int .i64 (d : Int)] w fun e w' => ∃ v, e = .returned v ∧ ResP base q b w.heap.size (rdV f d left p (b.drop p)) v w' ∧ w.grownBy w' (some q)
theorem isV_plain (w : World) (k n : Int) (r : Nat) (t : List UInt8) (ht : t.length ≤ 140737488355328) : IsV w (.agg #[.int .i64 k, .int .i64 n, .float .f64 r, .string (bstr t), .slice none 0 0]) (.mk k n r t []) := by
  rw [IsV]
  exact ⟨none, 0, rfl, fun _ => ⟨rfl, rfl⟩, by simp, by unfold maxLen; omega, ht, by rw [IsL]; trivial⟩
theorem far_plain (w : World) (lo : Nat) (k n : Int) (r : Nat) (t : List UInt8) (ht : t.length ≤ 140737488355328) : Far w lo (.agg #[.int .i64 k, .int .i64 n, .float .f64 r, .string (bstr t), .slice none 0 0]) (.mk k n r t []) := fun _ _ => isV_plain _ k n r t ht
set_option maxHeartbeats 8000000 in
theorem yvalue_of (f : Nat) (hL : DoesYL f) : DoesYV (f + 1) := by
  intro w base q b p left d hr hd8 hfuel
  have ksf : ∀ (w : World) (a : Addr) (x : Nat) (m : Mode), (store a (.float .f64 x) m).run Tryz.prog w = stored Tryz.prog w a (.float .f64 x) m := fun w a x m => run_store Tryz.prog w a _ m rfl
  have hql := hr.lt
  have hbq : base ≤ q := by obtain ⟨_, _, _, _, _, _, _, _, _, _, h⟩ := hr.c; exact h
  have hl6 : left ≤ 65536 := by obtain ⟨_, _, _, _, _, _, _, _, _, h, _⟩ := hr.c; exact h
  obtain ⟨N, hN⟩ : ∃ N, Hid (b.length = N) := ⟨_, rfl⟩
  have hN2 : N ≤ 140737488355328 := by rw [← hN.out]; obtain ⟨_, _, _, _, _, _, _, h, _⟩ := hr.c; exact h
  have hp0 : p ≤ N := by rw [← hN.out]; obtain ⟨_, _, _, _, _, _, _, _, h, _⟩ := hr.c; exact h
  rw [hN.out] at hfuel
  obtain ⟨T, hT⟩ : ∃ T, Hid (rdV (f + 1) d left p (b.drop p) = T) := ⟨_, rfl⟩
  rw [hT.out]
  replace hL : Hid (DoesYL f) := hL
  obtain ⟨r, hrr⟩ : ∃ r, Hid (w.heap.size = r) := ⟨_, rfl⟩
  have hqr : q ≠ r := by have := hrr.out; omega
  have hrs : w.heap.size ≤ r := by have := hrr.out; omega
  have hZ : Hid (Z5 (w.alloc (.cells #[.int .i64 0, .int .i64 0, .float .f64 0, .string ⟨#[]⟩, .slice none 0 0] 35)) r) := by rw [← hrr.out]; exact heap_alloc_new _ _
  have hR : Hid (Rg (w.alloc (.cells #[.int .i64 0, .int .i64 0, .float .f64 0, .string ⟨#[]⟩, .slice none 0 0] 35)) base q b p left 0) := hr.below (box_below _ _)
  have hG : Hid (w.grownBy (w.alloc (.cells #[.int .i64 0, .int .i64 0, .float .f64 0, .string ⟨#[]⟩, .slice none 0 0] 35)) (some q)) := ygrown_alloc (ygrown_refl _ _) _
  clear hr
  go_enter Tryz.func41, Tryz.ntmps41
  go_wp2_with fail
  rw [hrr.out]
  generalize w.alloc (.cells #[.int .i64 0, .int .i64 0, .float .f64 0, .string ⟨#[]⟩, .slice none 0 0] 35) = w1 at *
  obtain ⟨ao, cap, d0, d1, d2, d3, hrd, _⟩ := hR.out.c
  rw [hN.out] at d0
  replace hrd : Hid (YRd w1 base ao b) := hrd
  go_region
  have hRa : Hid (Rg w1.drew base q b p left 0) := hR.out
  have hZa : Hid (Z5 w1.drew r) := hZ.out
  have hGa : Hid (w.grownBy w1.drew (some q)) := ygrown_drew hG.out
  have e0 : w1.drew.cell? ⟨q, 0, none⟩ = some (.slice ao N cap) := d0
  have e1 : w1.drew.cell? ⟨q, 1, none⟩ = some (.int .i64 (p : Int)) := d1
  have e2 : w1.drew.cell? ⟨q, 2, none⟩ = some (.int .i64 (left : Int)) := d2
  have hrda : Hid (YRd w1.drew base ao b) := hrd.out
  clear hR hZ hG d0 d1 d2 d3 hrd
  generalize w1.drew = wa at *
  have g1 := hRa.out.f 1
  have g2 := hRa.out.f 2
  have p0 : (0 : Int) ≤ (p : Int) := by omega
  by_cases hend : p = N
  · have pe : ((p : Int) == (N : Int)) = true := by simp; omega
    have hres : Hid (T = .bad p 2) := by
      show _ = _
      rw [← hT.out, List.drop_eq_nil_of_le (by rw [hN.out]; omega), rdV_nil]
    replace hend : Hid (p = N) := hend
    have hfl : Hid (Calls Tryz.prog 60 #[.pointer (some ⟨q, 0, none⟩), .int .i64 (p : Int), .int .i64 2] wa fun e w' => e = .returned zeroA ∧ Rg w' base q b (p) (left) 2 ∧ World.grownBy wa w' (some q)) := yfail_any _ base q b _ (left) (p) 2 hRa.out (by rw [hN.out]; omega)
    go_wp2_with fail
    refine hfl.out.mono ?_
    rintro e w2 ⟨rfl, hr2, hg2⟩
    have hg3 : w.grownBy w2 (some q) := grown_trans hGa.out hg2
    have hz3 : Z5 w2 r := Z5.grown hZa.out hg2 (by simpa using hqr)
    unfold zeroA
    clear hfl hg2
    obtain ⟨c0, c1, c2, c3, c4⟩ := hz3.c
    have f0 := hz3.f 0
    have f1 := hz3.f 1
    have f2 := hz3.f 2
    have f3 := hz3.f 3
    have f4 := hz3.f 4
    have hrd := ypt_reads hz3 (.int .i64 0) (.int .i64 0) (.float .f64 0) (.string ⟨#[]⟩) (.slice none 0 0)
    have hgf : Hid (w.grownBy (ypt w2 r (.int .i64 0) (.int .i64 0) (.float .f64 0) (.string ⟨#[]⟩) (.slice none 0 0)) (some q)) := ypt_grown hg3 hrs _ _ _ _ _
    have hrf : Hid (Rg (ypt w2 r (.int .i64 0) (.int .i64 0) (.float .f64 0) (.string ⟨#[]⟩) (.slice none 0 0)) base q b (p) (left) 2) := Rg.other hr2 (ypt_block _ _ _ _ _ _ _) (by simpa using fun e => hqr e.symm) (fun k hk => by simp at hk; omega)
    replace hrd : Hid _ := hrd
    go_wp2_with fail
    show bodyPost _ _ _ _ _ (ypt w2 r (.int .i64 0) (.int .i64 0) (.float .f64 0) (.string ⟨#[]⟩) (.slice none 0 0))
    obtain ⟨w5, hw5⟩ : ∃ w5, Hid ((ypt w2 r (.int .i64 0) (.int .i64 0) (.float .f64 0) (.string ⟨#[]⟩) (.slice none 0 0)) = w5) := ⟨_, rfl⟩
    rw [hw5.out] at hrd hgf hrf ⊢
    obtain ⟨k0, k1, k2, k3, k4⟩ := hrd.out
    refine bodyPost_ret (by simp [results, Tryz.results41, go_sem, k0, k1, k2, k3, k4]; rfl) rfl ?_
    exact ⟨zeroA, rfl, by rw [hres.out]; exact ⟨rfl, _, hrf.out⟩, hgf.out⟩
  · have hlt : p < b.length := by rw [hN.out]; omega
    have pe : ((p : Int) == (N : Int)) = false := by simp; omega
    have pl : (p : Int) < (N : Int) := by omega
    have hpN : p < N := by omega
    obtain ⟨rb, off, rfl, hrb, hcell⟩ := hrda.out p hlt
    obtain ⟨c, hc⟩ : ∃ c, Hid (b[p] = c) := ⟨b[p], rfl⟩
    rw [hc.out] at hcell
    have hdr : Hid (b.drop p = c :: b.drop (p + 1)) := by show _ = _; rw [List.drop_eq_getElem_cons hlt, hc.out]
    rw [hdr.out, rdV_cons] at hT
    obtain ⟨K, hK⟩ : ∃ K, Hid (c.toNat = K) := ⟨_, rfl⟩
    rw [hK.out] at hcell hT
    have hcl : K < 256 := by rw [← hK.out]; exact UInt8.toNat_lt _
    by_cases hk1 : K < 1 ∨ 6 < K
    · have kk : ∃ B : Bool, Hid (True) ∧ B = true := ⟨true, trivial, rfl⟩
      have hres : Hid (T = .bad p 4) := by
        show _ = _
        rw [← hT.out, if_pos hk1]
      rcases hk1 with hk1 | hk1
      · have k1 : (K : Int) < 1 := by omega
        clear hk1
        have hfl : Hid (Calls Tryz.prog 60 #[.pointer (some ⟨q, 0, none⟩), .int .i64 (p : Int), .int .i64 4] wa fun e w' => e = .returned zeroA ∧ Rg w' base q b (p) (left) 4 ∧ World.grownBy wa w' (some q)) := yfail_any _ base q b _ (left) (p) 4 hRa.out (by rw [hN.out]; omega)
        go_wp2_with fail
        refine hfl.out.mono ?_
        rintro e w2 ⟨rfl, hr2, hg2⟩
        have hg3 : w.grownBy w2 (some q) := grown_trans hGa.out hg2
        have hz3 : Z5 w2 r := Z5.grown hZa.out hg2 (by simpa using hqr)
        unfold zeroA
        clear hfl hg2
        obtain ⟨c0, c1, c2, c3, c4⟩ := hz3.c
        have f0 := hz3.f 0
        have f1 := hz3.f 1
        have f2 := hz3.f 2
        have f3 := hz3.f 3
        have f4 := hz3.f 4
        have hrd := ypt_reads hz3 (.int .i64 0) (.int .i64 0) (.float .f64 0) (.string ⟨#[]⟩) (.slice none 0 0)
        have hgf : Hid (w.grownBy (ypt w2 r (.int .i64 0) (.int .i64 0) (.float .f64 0) (.string ⟨#[]⟩) (.slice none 0 0)) (some q)) := ypt_grown hg3 hrs _ _ _ _ _
        have hrf : Hid (Rg (ypt w2 r (.int .i64 0) (.int .i64 0) (.float .f64 0) (.string ⟨#[]⟩) (.slice none 0 0)) base q b (p) (left) 4) := Rg.other hr2 (ypt_block _ _ _ _ _ _ _) (by simpa using fun e => hqr e.symm) (fun k hk => by simp at hk; omega)
        replace hrd : Hid _ := hrd
        go_wp2_with fail
        show bodyPost _ _ _ _ _ (ypt w2 r (.int .i64 0) (.int .i64 0) (.float .f64 0) (.string ⟨#[]⟩) (.slice none 0 0))
        obtain ⟨w5, hw5⟩ : ∃ w5, Hid ((ypt w2 r (.int .i64 0) (.int .i64 0) (.float .f64 0) (.string ⟨#[]⟩) (.slice none 0 0)) = w5) := ⟨_, rfl⟩
        rw [hw5.out] at hrd hgf hrf ⊢
        obtain ⟨k0, k1, k2, k3, k4⟩ := hrd.out
        refine bodyPost_ret (by simp [results, Tryz.results41, go_sem, k0, k1, k2, k3, k4]; rfl) rfl ?_
        exact ⟨zeroA, rfl, by rw [hres.out]; exact ⟨rfl, _, hrf.out⟩, hgf.out⟩
      · have k1 : ¬ (K : Int) < 1 := by omega
        have k2 : (6 : Int) < (K : Int) := by omega
        clear hk1
        have hfl : Hid (Calls Tryz.prog 60 #[.pointer (some ⟨q, 0, none⟩), .int .i64 (p : Int), .int .i64 4] wa fun e w' => e = .returned zeroA ∧ Rg w' base q b (p) (left) 4 ∧ World.grownBy wa w' (some q)) := yfail_any _ base q b _ (left) (p) 4 hRa.out (by rw [hN.out]; omega)
        go_wp2_with fail
        refine hfl.out.mono ?_
        rintro e w2 ⟨rfl, hr2, hg2⟩
        have hg3 : w.grownBy w2 (some q) := grown_trans hGa.out hg2
        have hz3 : Z5 w2 r := Z5.grown hZa.out hg2 (by simpa using hqr)
        unfold zeroA
        clear hfl hg2
        obtain ⟨c0, c1, c2, c3, c4⟩ := hz3.c
        have f0 := hz3.f 0
        have f1 := hz3.f 1
        have f2 := hz3.f 2
        have f3 := hz3.f 3
        have f4 := hz3.f 4
        have hrd := ypt_reads hz3 (.int .i64 0) (.int .i64 0) (.float .f64 0) (.string ⟨#[]⟩) (.slice none 0 0)
        have hgf : Hid (w.grownBy (ypt w2 r (.int .i64 0) (.int .i64 0) (.float .f64 0) (.string ⟨#[]⟩) (.slice none 0 0)) (some q)) := ypt_grown hg3 hrs _ _ _ _ _
        have hrf : Hid (Rg (ypt w2 r (.int .i64 0) (.int .i64 0) (.float .f64 0) (.string ⟨#[]⟩) (.slice none 0 0)) base q b (p) (left) 4) := Rg.other hr2 (ypt_block _ _ _ _ _ _ _) (by simpa using fun e => hqr e.symm) (fun k hk => by simp at hk; omega)
        replace hrd : Hid _ := hrd
        go_wp2_with fail
        show bodyPost _ _ _ _ _ (ypt w2 r (.int .i64 0) (.int .i64 0) (.float .f64 0) (.string ⟨#[]⟩) (.slice none 0 0))
        obtain ⟨w5, hw5⟩ : ∃ w5, Hid ((ypt w2 r (.int .i64 0) (.int .i64 0) (.float .f64 0) (.string ⟨#[]⟩) (.slice none 0 0)) = w5) := ⟨_, rfl⟩
        rw [hw5.out] at hrd hgf hrf ⊢
        obtain ⟨k0, k1, k2, k3, k4⟩ := hrd.out
        refine bodyPost_ret (by simp [results, Tryz.results41, go_sem, k0, k1, k2, k3, k4]; rfl) rfl ?_
        exact ⟨zeroA, rfl, by rw [hres.out]; exact ⟨rfl, _, hrf.out⟩, hgf.out⟩
    · rw [if_neg hk1] at hT
      have k1 : ¬ (K : Int) < 1 := by omega
      have k2 : ¬ (6 : Int) < (K : Int) := by omega
      by_cases hk6 : K = 6 ∧ d = 8
      · have k6 : ((K : Int) == 6) = true := by simp; omega
        have k8 : ((d : Int) == 8) = true := by simp; omega
        have hres : Hid (T = .bad p 3) := by
          show _ = _
          rw [← hT.out, if_pos hk6]
        clear hk6 hk1
        have hfl : Hid (Calls Tryz.prog 60 #[.pointer (some ⟨q, 0, none⟩), .int .i64 (p : Int), .int .i64 3] wa fun e w' => e = .returned zeroA ∧ Rg w' base q b (p) (left) 3 ∧ World.grownBy wa w' (some q)) := yfail_any _ base q b _ (left) (p) 3 hRa.out (by rw [hN.out]; omega)
        go_wp2_with fail
        refine hfl.out.mono ?_
        rintro e w2 ⟨rfl, hr2, hg2⟩
        have hg3 : w.grownBy w2 (some q) := grown_trans hGa.out hg2
        have hz3 : Z5 w2 r := Z5.grown hZa.out hg2 (by simpa using hqr)
        unfold zeroA
        clear hfl hg2
        obtain ⟨c0, c1, c2, c3, c4⟩ := hz3.c
        have f0 := hz3.f 0
        have f1 := hz3.f 1
        have f2 := hz3.f 2
        have f3 := hz3.f 3
        have f4 := hz3.f 4
        have hrd := ypt_reads hz3 (.int .i64 0) (.int .i64 0) (.float .f64 0) (.string ⟨#[]⟩) (.slice none 0 0)
        have hgf : Hid (w.grownBy (ypt w2 r (.int .i64 0) (.int .i64 0) (.float .f64 0) (.string ⟨#[]⟩) (.slice none 0 0)) (some q)) := ypt_grown hg3 hrs _ _ _ _ _
        have hrf : Hid (Rg (ypt w2 r (.int .i64 0) (.int .i64 0) (.float .f64 0) (.string ⟨#[]⟩) (.slice none 0 0)) base q b (p) (left) 3) := Rg.other hr2 (ypt_block _ _ _ _ _ _ _) (by simpa using fun e => hqr e.symm) (fun k hk => by simp at hk; omega)
        replace hrd : Hid _ := hrd
        go_wp2_with fail
        show bodyPost _ _ _ _ _ (ypt w2 r (.int .i64 0) (.int .i64 0) (.float .f64 0) (.string ⟨#[]⟩) (.slice none 0 0))
        obtain ⟨w5, hw5⟩ : ∃ w5, Hid ((ypt w2 r (.int .i64 0) (.int .i64 0) (.float .f64 0) (.string ⟨#[]⟩) (.slice none 0 0)) = w5) := ⟨_, rfl⟩
        rw [hw5.out] at hrd hgf hrf ⊢
        obtain ⟨k0, k1, k2, k3, k4⟩ := hrd.out
        refine bodyPost_ret (by simp [results, Tryz.results41, go_sem, k0, k1, k2, k3, k4]; rfl) rfl ?_
        exact ⟨zeroA, rfl, by rw [hres.out]; exact ⟨rfl, _, hrf.out⟩, hgf.out⟩
      · rw [if_neg hk6] at hT
        have hR1 : Hid (Rg (wa.setCell ⟨q, 1, none⟩ (.int .i64 ((p : Int) + 1))) base q b (p + 1) left 0) := hRa.out.set1 (p + 1) (by rw [hN.out]; omega)
        have hZ1 : Hid (Z5 (wa.setCell ⟨q, 1, none⟩ (.int .i64 ((p : Int) + 1))) r) := hZa.out.grown (grown_setCell _ q 1 _) (by simpa using hqr)
        have hG1 : Hid (w.grownBy (wa.setCell ⟨q, 1, none⟩ (.int .i64 ((p : Int) + 1))) (some q)) := ygrown_set hGa.out _ _
        have k68 : (((K : Int) == 6) && ((d : Int) == 8)) = false := by
          cases h : ((K : Int) == 6)
          · rfl
          · simp at h ⊢; omega
        replace hk6 : Hid (¬ (K = 6 ∧ d = 8)) := hk6
        by_cases hk5 : K = 5
        · have k5 : ((K : Int) == 5) = true := by simp; omega
          have k6 : ((K : Int) == 6) = false := by simp; omega
          rw [if_pos hk5] at hT
          replace hk5 : Hid (K = 5) := hk5
          have htx : Hid (Calls Tryz.prog 61 #[.pointer (some ⟨q, 0, none⟩), .int .i64 (p : Int)] (wa.setCell ⟨q, 1, none⟩ (.int .i64 ((p : Int) + 1))) fun e w' => ∃ v, e = .returned v ∧ TextP base q b left p (rdT (b.drop (p + 1)) (p + 1) []) v w' ∧ World.grownBy (wa.setCell ⟨q, 1, none⟩ (.int .i64 ((p : Int) + 1))) w' (some q)) := ytext_any _ base q b (p + 1) left p hR1.out (by rw [hN.out]; omega)
          clear k68 hk1
          go_wp2_with fail
          refine htx.out.mono ?_
          rintro e w2 ⟨v2, rfl, hP, hg2⟩
          have hg3 : w.grownBy w2 (some q) := grown_trans hG1.out hg2
          have hz3 : Z5 w2 r := hZ1.out.grown hg2 (by simpa using hqr)
          clear htx hg2
          cases hrt : rdT (b.drop (p + 1)) (p + 1) [] with
          | short =>
            rw [hrt] at hP hT
            obtain ⟨rfl, hr2⟩ := hP
            have hres : Hid (T = .bad N 2) := by show _ = _; rw [← hT.out]; simp only [List.length_drop]; congr 1; rw [hN.out]; omega
            rw [hN.out] at hr2
            unfold zeroA
            clear hrt
            obtain ⟨c0, c1, c2, c3, c4⟩ := hz3.c
            have f0 := hz3.f 0
            have f1 := hz3.f 1
            have f2 := hz3.f 2
            have f3 := hz3.f 3
            have f4 := hz3.f 4
            have hrd := ypt_reads hz3 (.int .i64 0) (.int .i64 0) (.float .f64 0) (.string ⟨#[]⟩) (.slice none 0 0)
            have hgf : Hid (w.grownBy (ypt w2 r (.int .i64 0) (.int .i64 0) (.float .f64 0) (.string ⟨#[]⟩) (.slice none 0 0)) (some q)) := ypt_grown hg3 hrs _ _ _ _ _
            have hrf : Hid (Rg (ypt w2 r (.int .i64 0) (.int .i64 0) (.float .f64 0) (.string ⟨#[]⟩) (.slice none 0 0)) base q b N left 2) := Rg.other hr2 (ypt_block _ _ _ _ _ _ _) (by simpa using fun e => hqr e.symm) (fun k hk => by simp at hk; omega)
            replace hrd : Hid _ := hrd
            go_wp2_with fail
            show bodyPost _ _ _ _ _ (ypt w2 r (.int .i64 0) (.int .i64 0) (.float .f64 0) (.string ⟨#[]⟩) (.slice none 0 0))
            obtain ⟨w5, hw5⟩ : ∃ w5, Hid ((ypt w2 r (.int .i64 0) (.int .i64 0) (.float .f64 0) (.string ⟨#[]⟩) (.slice none 0 0)) = w5) := ⟨_, rfl⟩
            rw [hw5.out] at hrd hgf hrf ⊢
            obtain ⟨k0, k1, k2, k3, k4⟩ := hrd.out
            refine bodyPost_ret (by simp [results, Tryz.results41, go_sem, k0, k1, k2, k3, k4]; rfl) rfl ?_
            exact ⟨zeroA, rfl, by rw [hres.out]; exact ⟨rfl, _, hrf.out⟩, hgf.out⟩
          | form z =>
            rw [hrt] at hP hT
            obtain ⟨rfl, hr2⟩ := hP
            have hres : Hid (T = .bad z 4) := hT.out.symm
            unfold zeroA
            clear hrt
            obtain ⟨c0, c1, c2, c3, c4⟩ := hz3.c
            have f0 := hz3.f 0
            have f1 := hz3.f 1
            have f2 := hz3.f 2
            have f3 := hz3.f 3
            have f4 := hz3.f 4
            have hrd := ypt_reads hz3 (.int .i64 0) (.int .i64 0) (.float .f64 0) (.string ⟨#[]⟩) (.slice none 0 0)
            have hgf : Hid (w.grownBy (ypt w2 r (.int .i64 0) (.int .i64 0) (.float .f64 0) (.string ⟨#[]⟩) (.slice none 0 0)) (some q)) := ypt_grown hg3 hrs _ _ _ _ _
            have hrf : Hid (Rg (ypt w2 r (.int .i64 0) (.int .i64 0) (.float .f64 0) (.string ⟨#[]⟩) (.slice none 0 0)) base q b z left 4) := Rg.other hr2 (ypt_block _ _ _ _ _ _ _) (by simpa using fun e => hqr e.symm) (fun k hk => by simp at hk; omega)
            replace hrd : Hid _ := hrd
            go_wp2_with fail
            show bodyPost _ _ _ _ _ (ypt w2 r (.int .i64 0) (.int .i64 0) (.float .f64 0) (.string ⟨#[]⟩) (.slice none 0 0))
            obtain ⟨w5, hw5⟩ : ∃ w5, Hid ((ypt w2 r (.int .i64 0) (.int .i64 0) (.float .f64 0) (.string ⟨#[]⟩) (.slice none 0 0)) = w5) := ⟨_, rfl⟩
            rw [hw5.out] at hrd hgf hrf ⊢
            obtain ⟨k0, k1, k2, k3, k4⟩ := hrd.out
            refine bodyPost_ret (by simp [results, Tryz.results41, go_sem, k0, k1, k2, k3, k4]; rfl) rfl ?_
            exact ⟨zeroA, rfl, by rw [hres.out]; exact ⟨rfl, _, hrf.out⟩, hgf.out⟩
          | done t z s2 =>
            rw [hrt] at hP hT
            unfold TextP at hP
            simp only at hP
            by_cases hlt2 : left < 1 + t.length
            · rw [if_pos hlt2] at hP
              obtain ⟨rfl, hr2⟩ := hP
              have hres : Hid (T = .bad p 3) := by have := hT.out; simp only at this; rw [if_pos hlt2] at this; exact this.symm
              unfold zeroA
              replace hlt2 : Hid (left < 1 + t.length) := hlt2
              clear hrt
              obtain ⟨c0, c1, c2, c3, c4⟩ := hz3.c
              have f0 := hz3.f 0
              have f1 := hz3.f 1
              have f2 := hz3.f 2
              have f3 := hz3.f 3
              have f4 := hz3.f 4
              have hrd := ypt_reads hz3 (.int .i64 0) (.int .i64 0) (.float .f64 0) (.string ⟨#[]⟩) (.slice none 0 0)
              have hgf : Hid (w.grownBy (ypt w2 r (.int .i64 0) (.int .i64 0) (.float .f64 0) (.string ⟨#[]⟩) (.slice none 0 0)) (some q)) := ypt_grown hg3 hrs _ _ _ _ _
              have hrf : Hid (Rg (ypt w2 r (.int .i64 0) (.int .i64 0) (.float .f64 0) (.string ⟨#[]⟩) (.slice none 0 0)) base q b p left 3) := Rg.other hr2 (ypt_block _ _ _ _ _ _ _) (by simpa using fun e => hqr e.symm) (fun k hk => by simp at hk; omega)
              replace hrd : Hid _ := hrd
              go_wp2_with fail
              show bodyPost _ _ _ _ _ (ypt w2 r (.int .i64 0) (.int .i64 0) (.float .f64 0) (.string ⟨#[]⟩) (.slice none 0 0))
              obtain ⟨w5, hw5⟩ : ∃ w5, Hid ((ypt w2 r (.int .i64 0) (.int .i64 0) (.float .f64 0) (.string ⟨#[]⟩) (.slice none 0 0)) = w5) := ⟨_, rfl⟩
              rw [hw5.out] at hrd hgf hrf ⊢
              obtain ⟨k0, k1, k2, k3, k4⟩ := hrd.out
              refine bodyPost_ret (by simp [results, Tryz.results41, go_sem, k0, k1, k2, k3, k4]; rfl) rfl ?_
              exact ⟨zeroA, rfl, by rw [hres.out]; exact ⟨rfl, _, hrf.out⟩, hgf.out⟩
            · rw [if_neg hlt2] at hP
              obtain ⟨rfl, hr2, hs2, htl⟩ := hP
              have hres : Hid (T = .ok (.mk 5 0 0 t []) z (left - 1 - t.length) s2) := by have := hT.out; simp only at this; rw [if_neg hlt2] at this; exact this.symm
              replace hlt2 : Hid (¬ left < 1 + t.length) := hlt2
              replace htl : Hid (t.length ≤ 140737488355328) := htl
              clear hrt
              obtain ⟨c0, c1, c2, c3, c4⟩ := hz3.c
              have f0 := hz3.f 0
              have f1 := hz3.f 1
              have f2 := hz3.f 2
              have f3 := hz3.f 3
              have f4 := hz3.f 4
              have hrd := ypt_reads hz3 (.int .i64 5) (.int .i64 0) (.float .f64 0) (.string (bstr t)) (.slice none 0 0)
              have hgf : Hid (w.grownBy (ypt w2 r (.int .i64 5) (.int .i64 0) (.float .f64 0) (.string (bstr t)) (.slice none 0 0)) (some q)) := ypt_grown hg3 hrs _ _ _ _ _
              have hrf : Hid (Rg (ypt w2 r (.int .i64 5) (.int .i64 0) (.float .f64 0) (.string (bstr t)) (.slice none 0 0)) base q b z (left - 1 - t.length) 0) := Rg.other hr2 (ypt_block _ _ _ _ _ _ _) (by simpa using fun e => hqr e.symm) (fun k hk => by simp at hk; omega)
              replace hrd : Hid _ := hrd
              go_wp2_with fail
              show bodyPost _ _ _ _ _ (ypt w2 r (.int .i64 5) (.int .i64 0) (.float .f64 0) (.string (bstr t)) (.slice none 0 0))
              obtain ⟨w5, hw5⟩ : ∃ w5, Hid ((ypt w2 r (.int .i64 5) (.int .i64 0) (.float .f64 0) (.string (bstr t)) (.slice none 0 0)) = w5) := ⟨_, rfl⟩
              rw [hw5.out] at hrd hgf hrf ⊢
              obtain ⟨k0, k1, k2, k3, k4⟩ := hrd.out
              refine bodyPost_ret (by simp [results, Tryz.results41, go_sem, k0, k1, k2, k3, k4]; rfl) rfl ?_
              refine ⟨.agg #[.int .i64 5, .int .i64 0, .float .f64 0, .string (bstr t), .slice none 0 0], rfl, ?_, hgf.out⟩
              rw [hres.out]
              exact ⟨far_plain _ _ 5 0 0 t htl.out, hrf.out, hs2⟩
        · have k5 : ((K : Int) == 5) = false := by simp; omega
          rw [if_neg hk5] at hT
          replace hk5 : Hid (K ≠ 5) := hk5
          by_cases hl1 : left < 1
          · have l1 : (left : Int) < 1 := by omega
            rw [if_pos hl1] at hT
            have hres : Hid (T = .bad p 3) := hT.out.symm
            replace hl1 : Hid (left < 1) := hl1
            by_cases hk66 : K = 6
            · have k6 : ((K : Int) == 6) = true := by simp; omega
              have k8 : ((d : Int) == 8) = false := by have := hk6.out; simp; omega
              clear k68 hk1 hk66
              have hfl : Hid (Calls Tryz.prog 60 #[.pointer (some ⟨q, 0, none⟩), .int .i64 (p : Int), .int .i64 3] (wa.setCell ⟨q, 1, none⟩ (.int .i64 ((p : Int) + 1))) fun e w' => e = .returned zeroA ∧ Rg w' base q b (p) (left) 3 ∧ World.grownBy (wa.setCell ⟨q, 1, none⟩ (.int .i64 ((p : Int) + 1))) w' (some q)) := yfail_any _ base q b _ (left) (p) 3 hR1.out (by rw [hN.out]; omega)
              go_wp2_with fail
              refine hfl.out.mono ?_
              rintro e w2 ⟨rfl, hr2, hg2⟩
              have hg3 : w.grownBy w2 (some q) := grown_trans hG1.out hg2
              have hz3 : Z5 w2 r := Z5.grown hZ1.out hg2 (by simpa using hqr)
              unfold zeroA
              clear hfl hg2
              obtain ⟨c0, c1, c2, c3, c4⟩ := hz3.c
              have f0 := hz3.f 0
              have f1 := hz3.f 1
              have f2 := hz3.f 2
              have f3 := hz3.f 3
              have f4 := hz3.f 4
              have hrd := ypt_reads hz3 (.int .i64 0) (.int .i64 0) (.float .f64 0) (.string ⟨#[]⟩) (.slice none 0 0)
              have hgf : Hid (w.grownBy (ypt w2 r (.int .i64 0) (.int .i64 0) (.float .f64 0) (.string ⟨#[]⟩) (.slice none 0 0)) (some q)) := ypt_grown hg3 hrs _ _ _ _ _
              have hrf : Hid (Rg (ypt w2 r (.int .i64 0) (.int .i64 0) (.float .f64 0) (.string ⟨#[]⟩) (.slice none 0 0)) base q b (p) (left) 3) := Rg.other hr2 (ypt_block _ _ _ _ _ _ _) (by simpa using fun e => hqr e.symm) (fun k hk => by simp at hk; omega)
              replace hrd : Hid _ := hrd
              go_wp2_with fail
              show bodyPost _ _ _ _ _ (ypt w2 r (.int .i64 0) (.int .i64 0) (.float .f64 0) (.string ⟨#[]⟩) (.slice none 0 0))
              obtain ⟨w5, hw5⟩ : ∃ w5, Hid ((ypt w2 r (.int .i64 0) (.int .i64 0) (.float .f64 0) (.string ⟨#[]⟩) (.slice none 0 0)) = w5) := ⟨_, rfl⟩
              rw [hw5.out] at hrd hgf hrf ⊢
              obtain ⟨k0, k1, k2, k3, k4⟩ := hrd.out
              refine bodyPost_ret (by simp [results, Tryz.results41, go_sem, k0, k1, k2, k3, k4]; rfl) rfl ?_
              exact ⟨zeroA, rfl, by rw [hres.out]; exact ⟨rfl, _, hrf.out⟩, hgf.out⟩
            · have k6 : ((K : Int) == 6) = false := by simp; omega
              clear k68 hk1 hk66
              have hfl : Hid (Calls Tryz.prog 60 #[.pointer (some ⟨q, 0, none⟩), .int .i64 (p : Int), .int .i64 3] (wa.setCell ⟨q, 1, none⟩ (.int .i64 ((p : Int) + 1))) fun e w' => e = .returned zeroA ∧ Rg w' base q b (p) (left) 3 ∧ World.grownBy (wa.setCell ⟨q, 1, none⟩ (.int .i64 ((p : Int) + 1))) w' (some q)) := yfail_any _ base q b _ (left) (p) 3 hR1.out (by rw [hN.out]; omega)
              go_wp2_with fail
              refine hfl.out.mono ?_
              rintro e w2 ⟨rfl, hr2, hg2⟩
              have hg3 : w.grownBy w2 (some q) := grown_trans hG1.out hg2
              have hz3 : Z5 w2 r := Z5.grown hZ1.out hg2 (by simpa using hqr)
              unfold zeroA
              clear hfl hg2
              obtain ⟨c0, c1, c2, c3, c4⟩ := hz3.c
              have f0 := hz3.f 0
              have f1 := hz3.f 1
              have f2 := hz3.f 2
              have f3 := hz3.f 3
              have f4 := hz3.f 4
              have hrd := ypt_reads hz3 (.int .i64 0) (.int .i64 0) (.float .f64 0) (.string ⟨#[]⟩) (.slice none 0 0)
              have hgf : Hid (w.grownBy (ypt w2 r (.int .i64 0) (.int .i64 0) (.float .f64 0) (.string ⟨#[]⟩) (.slice none 0 0)) (some q)) := ypt_grown hg3 hrs _ _ _ _ _
              have hrf : Hid (Rg (ypt w2 r (.int .i64 0) (.int .i64 0) (.float .f64 0) (.string ⟨#[]⟩) (.slice none 0 0)) base q b (p) (left) 3) := Rg.other hr2 (ypt_block _ _ _ _ _ _ _) (by simpa using fun e => hqr e.symm) (fun k hk => by simp at hk; omega)
              replace hrd : Hid _ := hrd
              go_wp2_with fail
              show bodyPost _ _ _ _ _ (ypt w2 r (.int .i64 0) (.int .i64 0) (.float .f64 0) (.string ⟨#[]⟩) (.slice none 0 0))
              obtain ⟨w5, hw5⟩ : ∃ w5, Hid ((ypt w2 r (.int .i64 0) (.int .i64 0) (.float .f64 0) (.string ⟨#[]⟩) (.slice none 0 0)) = w5) := ⟨_, rfl⟩
              rw [hw5.out] at hrd hgf hrf ⊢
              obtain ⟨k0, k1, k2, k3, k4⟩ := hrd.out
              refine bodyPost_ret (by simp [results, Tryz.results41, go_sem, k0, k1, k2, k3, k4]; rfl) rfl ?_
              exact ⟨zeroA, rfl, by rw [hres.out]; exact ⟨rfl, _, hrf.out⟩, hgf.out⟩
          · rw [if_neg hl1] at hT
            have l1 : ¬ (left : Int) < 1 := by omega
            have hR2 : Hid (Rg ((wa.setCell ⟨q, 1, none⟩ (.int .i64 ((p : Int) + 1))).setCell ⟨q, 2, none⟩ (.int .i64 ((left : Int) - 1))) base q b (p + 1) (left - 1) 0) := by
              have h := hR1.out.set2 (left - 1) (by omega)
              rw [show ((left - 1 : Nat) : Int) = (left : Int) - 1 by omega] at h
              exact h
            have hZ2 : Hid (Z5 ((wa.setCell ⟨q, 1, none⟩ (.int .i64 ((p : Int) + 1))).setCell ⟨q, 2, none⟩ (.int .i64 ((left : Int) - 1))) r) := hZ1.out.grown (grown_setCell _ q 2 _) (by simpa using hqr)
            have hG2 : Hid (w.grownBy ((wa.setCell ⟨q, 1, none⟩ (.int .i64 ((p : Int) + 1))).setCell ⟨q, 2, none⟩ (.int .i64 ((left : Int) - 1))) (some q)) := ygrown_set hG1.out _ _
            replace hl1 : Hid (¬ left < 1) := hl1
            by_cases hk2 : K = 2
            · skip
              have k2t : ((K : Int) == 2) = true := by simp; omega
              have k6 : ((K : Int) == 6) = false := by simp; omega
              rw [if_pos hk2] at hT
              replace hk2 : Hid (K = 2) := hk2
              clear k68 hk1
              go_wp2_with fail
              clear hR1 hZ1 hG1 hRa hZa hGa
              generalize ((wa.setCell ⟨q, 1, none⟩ (.int .i64 ((p : Int) + 1))).setCell ⟨q, 2, none⟩ (.int .i64 ((left : Int) - 1))) = wb at *
              clear e0 e1 e2 hcell g1 g2 hrda pe pl hrb
              obtain ⟨P, hP⟩ : ∃ P, Hid (p + 1 = P) := ⟨_, rfl⟩
              rw [hP.out] at hR2 hT
              have hPN : P ≤ N := by have := hP.out; omega
              obtain ⟨ao, cap, d0, d1, d2, d3, hrd, _⟩ := hR2.out.c
              rw [hN.out] at d0
              replace hrd : Hid (YRd wb base ao b) := hrd
              go_region
              have hRb : Hid (Rg wb.drew base q b P (left - 1) 0) := hR2.out
              have hZb : Hid (Z5 wb.drew r) := hZ2.out
              have hGb : Hid (w.grownBy wb.drew (some q)) := ygrown_drew hG2.out
              have e0 : wb.drew.cell? ⟨q, 0, none⟩ = some (.slice ao N cap) := d0
              have e1 : wb.drew.cell? ⟨q, 1, none⟩ = some (.int .i64 (P : Int)) := d1
              have hrdb : Hid (YRd wb.drew base ao b) := hrd.out
              clear hR2 hZ2 hG2 d0 d1 d2 d3 hrd
              generalize wb.drew = wc at *
              by_cases hend : P = N
              · have pe : ((P : Int) == (N : Int)) = true := by simp; omega
                have hres : Hid (T = .bad P 2) := by
                  show _ = _
                  rw [← hT.out, List.drop_eq_nil_of_le (by rw [hN.out]; omega)]
                clear hT
                replace hend : Hid (P = N) := hend
                have hfl : Hid (Calls Tryz.prog 60 #[.pointer (some ⟨q, 0, none⟩), .int .i64 (P : Int), .int .i64 2] wc fun e w' => e = .returned zeroA ∧ Rg w' base q b (P) (left - 1) 2 ∧ World.grownBy wc w' (some q)) := yfail_any _ base q b _ (left - 1) (P) 2 hRb.out (by rw [hN.out]; omega)
                go_wp2_with fail
                refine hfl.out.mono ?_
                rintro e w2 ⟨rfl, hr2, hg2⟩
                have hg3 : w.grownBy w2 (some q) := grown_trans hGb.out hg2
                have hz3 : Z5 w2 r := Z5.grown hZb.out hg2 (by simpa using hqr)
                unfold zeroA
                clear hfl hg2
                obtain ⟨c0, c1, c2, c3, c4⟩ := hz3.c
                have f0 := hz3.f 0
                have f1 := hz3.f 1
                have f2 := hz3.f 2
                have f3 := hz3.f 3
                have f4 := hz3.f 4
                have hrd := ypt_reads hz3 (.int .i64 0) (.int .i64 0) (.float .f64 0) (.string ⟨#[]⟩) (.slice none 0 0)
                have hgf : Hid (w.grownBy (ypt w2 r (.int .i64 0) (.int .i64 0) (.float .f64 0) (.string ⟨#[]⟩) (.slice none 0 0)) (some q)) := ypt_grown hg3 hrs _ _ _ _ _
                have hrf : Hid (Rg (ypt w2 r (.int .i64 0) (.int .i64 0) (.float .f64 0) (.string ⟨#[]⟩) (.slice none 0 0)) base q b (P) (left - 1) 2) := Rg.other hr2 (ypt_block _ _ _ _ _ _ _) (by simpa using fun e => hqr e.symm) (fun k hk => by simp at hk; omega)
                replace hrd : Hid _ := hrd
                go_wp2_with fail
                show bodyPost _ _ _ _ _ (ypt w2 r (.int .i64 0) (.int .i64 0) (.float .f64 0) (.string ⟨#[]⟩) (.slice none 0 0))
                obtain ⟨w5, hw5⟩ : ∃ w5, Hid ((ypt w2 r (.int .i64 0) (.int .i64 0) (.float .f64 0) (.string ⟨#[]⟩) (.slice none 0 0)) = w5) := ⟨_, rfl⟩
                rw [hw5.out] at hrd hgf hrf ⊢
                obtain ⟨k0, k1, k2, k3, k4⟩ := hrd.out
                refine bodyPost_ret (by simp [results, Tryz.results41, go_sem, k0, k1, k2, k3, k4]; rfl) rfl ?_
                exact ⟨zeroA, rfl, by rw [hres.out]; exact ⟨rfl, _, hrf.out⟩, hgf.out⟩
              · have hlt2 : P < b.length := by rw [hN.out]; omega
                have pe : ((P : Int) == (N : Int)) = false := by simp; omega
                have pl : (P : Int) < (N : Int) := by omega
                have p0' : (0 : Int) ≤ (P : Int) := by omega
                obtain ⟨rb2, off2, rfl, hrb2, hcell2⟩ := hrdb.out P hlt2
                obtain ⟨c2, hc2⟩ : ∃ c2, Hid (b[P] = c2) := ⟨b[P], rfl⟩
                rw [hc2.out] at hcell2
                obtain ⟨M, hM⟩ : ∃ M, Hid (c2.toNat = M) := ⟨_, rfl⟩
                rw [hM.out] at hcell2
                have hT2 : Hid ((if 1 < M then Res.bad P 4 else .ok (.mk 2 (M : Int) 0 [] []) (P + 1) (left - 1) (b.drop (P + 1))) = T) := by
                  show _ = _
                  rw [← hT.out, List.drop_eq_getElem_cons hlt2, hc2.out]
                  simp only [hM.out]
                  rw [show p + 2 = P + 1 by have := hP.out; omega]
                have hM2 : M < 256 := by rw [← hM.out]; exact UInt8.toNat_lt _
                clear hT
                go_wp2_with fail
                go_region
                have hRd : Hid (Rg wc.drew base q b P (left - 1) 0) := hRb.out
                have hZd : Hid (Z5 wc.drew r) := hZb.out
                have hGd : Hid (w.grownBy wc.drew (some q)) := ygrown_drew hGb.out
                have u0 : wc.drew.cell? ⟨q, 0, none⟩ = some (.slice (some ⟨rb2, off2, none⟩) N cap) := e0
                have u1 : wc.drew.cell? ⟨q, 1, none⟩ = some (.int .i64 (P : Int)) := e1
                have u2 : wc.drew.cell? ⟨rb2, off2 + P, none⟩ = some (.int .u8 (M : Int)) := hcell2
                have g1 := hRd.out.f 1
                have hbqq : rb2 ≠ q := by omega
                clear hRb hZb hGb e0 e1 hrdb hcell2
                generalize wc.drew = wd at *
                by_cases hM1 : 1 < M
                · have m1 : (1 : Int) < (M : Int) := by omega
                  rw [if_pos hM1] at hT2
                  have hres : Hid (T = .bad P 4) := hT2.out.symm
                  clear hT2 hM1
                  have hfl : Hid (Calls Tryz.prog 60 #[.pointer (some ⟨q, 0, none⟩), .int .i64 (P : Int), .int .i64 4] wd fun e w' => e = .returned zeroA ∧ Rg w' base q b (P) (left - 1) 4 ∧ World.grownBy wd w' (some q)) := yfail_any _ base q b _ (left - 1) (P) 4 hRd.out (by rw [hN.out]; omega)
                  go_wp2_with fail
                  refine hfl.out.mono ?_
                  rintro e w2 ⟨rfl, hr2, hg2⟩
                  have hg3 : w.grownBy w2 (some q) := grown_trans hGd.out hg2
                  have hz3 : Z5 w2 r := Z5.grown hZd.out hg2 (by simpa using hqr)
                  unfold zeroA
                  clear hfl hg2
                  obtain ⟨c0, c1, c2, c3, c4⟩ := hz3.c
                  have f0 := hz3.f 0
                  have f1 := hz3.f 1
                  have f2 := hz3.f 2
                  have f3 := hz3.f 3
                  have f4 := hz3.f 4
                  have hrd := ypt_reads hz3 (.int .i64 0) (.int .i64 0) (.float .f64 0) (.string ⟨#[]⟩) (.slice none 0 0)
                  have hgf : Hid (w.grownBy (ypt w2 r (.int .i64 0) (.int .i64 0) (.float .f64 0) (.string ⟨#[]⟩) (.slice none 0 0)) (some q)) := ypt_grown hg3 hrs _ _ _ _ _
                  have hrf : Hid (Rg (ypt w2 r (.int .i64 0) (.int .i64 0) (.float .f64 0) (.string ⟨#[]⟩) (.slice none 0 0)) base q b (P) (left - 1) 4) := Rg.other hr2 (ypt_block _ _ _ _ _ _ _) (by simpa using fun e => hqr e.symm) (fun k hk => by simp at hk; omega)
                  replace hrd : Hid _ := hrd
                  go_wp2_with fail
                  show bodyPost _ _ _ _ _ (ypt w2 r (.int .i64 0) (.int .i64 0) (.float .f64 0) (.string ⟨#[]⟩) (.slice none 0 0))
                  obtain ⟨w5, hw5⟩ : ∃ w5, Hid ((ypt w2 r (.int .i64 0) (.int .i64 0) (.float .f64 0) (.string ⟨#[]⟩) (.slice none 0 0)) = w5) := ⟨_, rfl⟩
                  rw [hw5.out] at hrd hgf hrf ⊢
                  obtain ⟨k0, k1, k2, k3, k4⟩ := hrd.out
                  refine bodyPost_ret (by simp [results, Tryz.results41, go_sem, k0, k1, k2, k3, k4]; rfl) rfl ?_
                  exact ⟨zeroA, rfl, by rw [hres.out]; exact ⟨rfl, _, hrf.out⟩, hgf.out⟩
                · have m1 : ¬ (1 : Int) < (M : Int) := by omega
                  rw [if_neg hM1] at hT2
                  have hres : Hid (T = .ok (.mk 2 (M : Int) 0 [] []) (P + 1) (left - 1) (b.drop (P + 1))) := hT2.out.symm
                  clear hT2 hM1
                  have hRe : Hid (Rg (wd.setCell ⟨q, 1, none⟩ (.int .i64 ((P : Int) + 1))) base q b (P + 1) (left - 1) 0) := hRd.out.set1 (P + 1) (by rw [hN.out]; omega)
                  have hZe : Hid (Z5 (wd.setCell ⟨q, 1, none⟩ (.int .i64 ((P : Int) + 1))) r) := hZd.out.grown (grown_setCell _ q 1 _) (by simpa using hqr)
                  have hGe : Hid (w.grownBy (wd.setCell ⟨q, 1, none⟩ (.int .i64 ((P : Int) + 1))) (some q)) := ygrown_set hGd.out _ _
                  have y0 : (wd.setCell ⟨q, 1, none⟩ (.int .i64 ((P : Int) + 1))).cell? ⟨q, 0, none⟩ = some (.slice (some ⟨rb2, off2, none⟩) N cap) := (World.cell?_setCell_other _ _ _ _ (by simp)).trans u0
                  have y1 : (wd.setCell ⟨q, 1, none⟩ (.int .i64 ((P : Int) + 1))).cell? ⟨q, 1, none⟩ = some (.int .i64 ((P : Int) + 1)) := World.cell?_setCell_same _ _ _ u1
                  have y2 : (wd.setCell ⟨q, 1, none⟩ (.int .i64 ((P : Int) + 1))).cell? ⟨rb2, off2 + P, none⟩ = some (.int .u8 (M : Int)) := (World.cell?_setCell_other _ _ _ _ (by simp)).trans u2
                  go_wp2_with fail
                  clear hRd hZd hGd u0 u1 u2 g1
                  generalize (wd.setCell ⟨q, 1, none⟩ (.int .i64 ((P : Int) + 1))) = we at *
                  obtain ⟨c0, c1, c2', c3, c4⟩ := hZe.out.c
                  have f0 := hZe.out.f 0
                  have f1 := hZe.out.f 1
                  have f2 := hZe.out.f 2
                  have f3 := hZe.out.f 3
                  have f4 := hZe.out.f 4
                  go_region
                  have hrd := ypt_reads hZe.out (.int .i64 (K : Int)) (.int .i64 (M : Int)) (.float .f64 0) (.string ⟨#[]⟩) (.slice none 0 0)
                  have hgf : Hid (w.grownBy (World.drew (ypt we r (.int .i64 (K : Int)) (.int .i64 (M : Int)) (.float .f64 0) (.string ⟨#[]⟩) (.slice none 0 0))) (some q)) := ygrown_drew (ypt_grown hGe.out hrs _ _ _ _ _)
                  have hrf : Hid (Rg (World.drew (ypt we r (.int .i64 (K : Int)) (.int .i64 (M : Int)) (.float .f64 0) (.string ⟨#[]⟩) (.slice none 0 0))) base q b (P + 1) (left - 1) 0) := Rg.drew (Rg.other hRe.out (ypt_block _ _ _ _ _ _ _) (by simpa using fun e => hqr e.symm) (fun k hk => by simp at hk; omega))
                  replace hrd : Hid _ := hrd
                  go_wp2_with fail
                  show bodyPost _ _ _ _ _ (World.drew (ypt we r (.int .i64 (K : Int)) (.int .i64 (M : Int)) (.float .f64 0) (.string ⟨#[]⟩) (.slice none 0 0)))
                  obtain ⟨w5, hw5⟩ : ∃ w5, Hid ((ypt we r (.int .i64 (K : Int)) (.int .i64 (M : Int)) (.float .f64 0) (.string ⟨#[]⟩) (.slice none 0 0)) = w5) := ⟨_, rfl⟩
                  rw [hw5.out] at hrd hgf hrf ⊢
                  obtain ⟨k0, k1, k2, k3, k4⟩ := hrd.out
                  refine bodyPost_ret (by simp [results, Tryz.results41, go_sem, k0, k1, k2, k3, k4]; rfl) rfl ?_
                  refine ⟨.agg #[.int .i64 (K : Int), .int .i64 (M : Int), .float .f64 0, .string ⟨#[]⟩, .slice none 0 0], rfl, ?_, hgf.out⟩
                  rw [hres.out, hk2.out]
                  exact ⟨far_plain _ _ 2 _ 0 [] (by simp), hrf.out, rfl⟩
            · rw [if_neg hk2] at hT
              have k2 : ((K : Int) == 2) = false := by simp; omega
              by_cases hk3 : K = 3
              · skip
                have k3 : ((K : Int) == 3) = true := by simp; omega
                have k6 : ((K : Int) == 6) = false := by simp; omega
                rw [if_pos hk3] at hT
                replace hk3 : Hid (K = 3) := hk3
                have hei : Hid (Calls Tryz.prog 62 #[.pointer (some ⟨q, 0, none⟩)] ((wa.setCell ⟨q, 1, none⟩ (.int .i64 ((p : Int) + 1))).setCell ⟨q, 2, none⟩ (.int .i64 ((left : Int) - 1))) fun e w' => ((b.length - (p + 1) < 8 ∧ e = .returned (.tuple #[.int .u64 0, .bool false]) ∧ Rg w' base q b b.length (left - 1) 2) ∨ (8 ≤ b.length - (p + 1) ∧ e = .returned (.tuple #[.int .u64 ((ofBig ((b.drop (p + 1)).take 8) : Nat) : Int), .bool true]) ∧ Rg w' base q b (p + 1 + 8) (left - 1) 0)) ∧ World.grownBy ((wa.setCell ⟨q, 1, none⟩ (.int .i64 ((p : Int) + 1))).setCell ⟨q, 2, none⟩ (.int .i64 ((left : Int) - 1))) w' (some q)) := yeight_any _ base q b (p + 1) (left - 1) hR2.out
                have hx := int_back (ofBig ((b.drop (p + 1)).take 8)) big8
                have hm64 : ofBig ((b.drop (p + 1)).take 8) < 18446744073709551616 := big8
                obtain ⟨m, hm⟩ : ∃ m, Hid (ofBig ((b.drop (p + 1)).take 8) = m) := ⟨_, rfl⟩
                rw [hm.out] at hei hx hT hm64
                clear k68 hk1
                go_wp2_with fail
                refine hei.out.mono ?_
                rintro e w2 ⟨⟨h8, rfl, hr2⟩ | ⟨h8, rfl, hr2⟩, hg2⟩
                · have hg3 : w.grownBy w2 (some q) := grown_trans hG2.out hg2
                  have hz3 : Z5 w2 r := Z5.grown hZ2.out hg2 (by simpa using hqr)
                  clear hei hg2
                  have hres : Hid (T = .bad b.length 2) := by
                    show _ = _
                    rw [← hT.out, if_pos (by rw [List.length_drop]; omega), List.length_drop, show p + 1 + (b.length - (p + 1)) = b.length by omega]
                  replace h8 : Hid (b.length - (p + 1) < 8) := h8
                  rw [hN.out] at hr2 hres
                  obtain ⟨c0, c1, c2, c3, c4⟩ := hz3.c
                  have f0 := hz3.f 0
                  have f1 := hz3.f 1
                  have f2 := hz3.f 2
                  have f3 := hz3.f 3
                  have f4 := hz3.f 4
                  have hrd := ypt_reads hz3 (.int .i64 0) (.int .i64 0) (.float .f64 0) (.string ⟨#[]⟩) (.slice none 0 0)
                  have hgf : Hid (w.grownBy (ypt w2 r (.int .i64 0) (.int .i64 0) (.float .f64 0) (.string ⟨#[]⟩) (.slice none 0 0)) (some q)) := ypt_grown hg3 hrs _ _ _ _ _
                  have hrf : Hid (Rg (ypt w2 r (.int .i64 0) (.int .i64 0) (.float .f64 0) (.string ⟨#[]⟩) (.slice none 0 0)) base q b N (left - 1) 2) := Rg.other hr2 (ypt_block _ _ _ _ _ _ _) (by simpa using fun e => hqr e.symm) (fun k hk => by simp at hk; omega)
                  replace hrd : Hid _ := hrd
                  go_wp2_with fail
                  show bodyPost _ _ _ _ _ (ypt w2 r (.int .i64 0) (.int .i64 0) (.float .f64 0) (.string ⟨#[]⟩) (.slice none 0 0))
                  obtain ⟨w5, hw5⟩ : ∃ w5, Hid ((ypt w2 r (.int .i64 0) (.int .i64 0) (.float .f64 0) (.string ⟨#[]⟩) (.slice none 0 0)) = w5) := ⟨_, rfl⟩
                  rw [hw5.out] at hrd hgf hrf ⊢
                  obtain ⟨k0, k1, k2, k3, k4⟩ := hrd.out
                  refine bodyPost_ret (by simp [results, Tryz.results41, go_sem, k0, k1, k2, k3, k4]; rfl) rfl ?_
                  exact ⟨zeroA, rfl, by rw [hres.out]; exact ⟨rfl, _, hrf.out⟩, hgf.out⟩
                · have hg3 : w.grownBy w2 (some q) := grown_trans hG2.out hg2
                  have hz3 : Z5 w2 r := Z5.grown hZ2.out hg2 (by simpa using hqr)
                  clear hei hg2
                  have hres : Hid (T = .ok (.mk 3 ((m : Int) - 9223372036854775808) 0 [] []) (p + 9) (left - 1) (b.drop (p + 9))) := by
                    show _ = _
                    rw [← hT.out, if_neg (by rw [List.length_drop]; omega), List.drop_drop]
                  replace h8 : Hid (8 ≤ b.length - (p + 1)) := h8
                  obtain ⟨c0, c1, c2, c3, c4⟩ := hz3.c
                  have f0 := hz3.f 0
                  have f1 := hz3.f 1
                  have f2 := hz3.f 2
                  have f3 := hz3.f 3
                  have f4 := hz3.f 4
                  have hrd := ypt_reads hz3 (.int .i64 (K : Int)) (.int .i64 ((m : Int) - 9223372036854775808)) (.float .f64 0) (.string ⟨#[]⟩) (.slice none 0 0)
                  have hgf : Hid (w.grownBy (ypt w2 r (.int .i64 (K : Int)) (.int .i64 ((m : Int) - 9223372036854775808)) (.float .f64 0) (.string ⟨#[]⟩) (.slice none 0 0)) (some q)) := ypt_grown hg3 hrs _ _ _ _ _
                  have hrf : Hid (Rg (ypt w2 r (.int .i64 (K : Int)) (.int .i64 ((m : Int) - 9223372036854775808)) (.float .f64 0) (.string ⟨#[]⟩) (.slice none 0 0)) base q b (p + 9) (left - 1) 0) := Rg.other hr2 (ypt_block _ _ _ _ _ _ _) (by simpa using fun e => hqr e.symm) (fun k hk => by simp at hk; omega)
                  replace hrd : Hid _ := hrd
                  go_wp2_with fail
                  show bodyPost _ _ _ _ _ (ypt w2 r (.int .i64 (K : Int)) (.int .i64 ((m : Int) - 9223372036854775808)) (.float .f64 0) (.string ⟨#[]⟩) (.slice none 0 0))
                  obtain ⟨w5, hw5⟩ : ∃ w5, Hid ((ypt w2 r (.int .i64 (K : Int)) (.int .i64 ((m : Int) - 9223372036854775808)) (.float .f64 0) (.string ⟨#[]⟩) (.slice none 0 0)) = w5) := ⟨_, rfl⟩
                  rw [hw5.out] at hrd hgf hrf ⊢
                  obtain ⟨k0, k1, k2, k3, k4⟩ := hrd.out
                  refine bodyPost_ret (by simp [results, Tryz.results41, go_sem, k0, k1, k2, k3, k4]; rfl) rfl ?_
                  refine ⟨.agg #[.int .i64 (K : Int), .int .i64 ((m : Int) - 9223372036854775808), .float .f64 0, .string ⟨#[]⟩, .slice none 0 0], rfl, ?_, hgf.out⟩
                  rw [hres.out, hk3.out]
                  exact ⟨far_plain _ _ 3 _ 0 [] (by simp), hrf.out, rfl⟩
              · rw [if_neg hk3] at hT
                have k3 : ((K : Int) == 3) = false := by simp; omega
                by_cases hk4 : K = 4
                · skip
                  have k4 : ((K : Int) == 4) = true := by simp; omega
                  have k6 : ((K : Int) == 6) = false := by simp; omega
                  rw [if_pos hk4] at hT
                  replace hk4 : Hid (K = 4) := hk4
                  have hei : Hid (Calls Tryz.prog 62 #[.pointer (some ⟨q, 0, none⟩)] ((wa.setCell ⟨q, 1, none⟩ (.int .i64 ((p : Int) + 1))).setCell ⟨q, 2, none⟩ (.int .i64 ((left : Int) - 1))) fun e w' => ((b.length - (p + 1) < 8 ∧ e = .returned (.tuple #[.int .u64 0, .bool false]) ∧ Rg w' base q b b.length (left - 1) 2) ∨ (8 ≤ b.length - (p + 1) ∧ e = .returned (.tuple #[.int .u64 ((ofBig ((b.drop (p + 1)).take 8) : Nat) : Int), .bool true]) ∧ Rg w' base q b (p + 1 + 8) (left - 1) 0)) ∧ World.grownBy ((wa.setCell ⟨q, 1, none⟩ (.int .i64 ((p : Int) + 1))).setCell ⟨q, 2, none⟩ (.int .i64 ((left : Int) - 1))) w' (some q)) := yeight_any _ base q b (p + 1) (left - 1) hR2.out
                  have hx := int_back (ofBig ((b.drop (p + 1)).take 8)) big8
                  have hm64 : ofBig ((b.drop (p + 1)).take 8) < 18446744073709551616 := big8
                  obtain ⟨m, hm⟩ : ∃ m, Hid (ofBig ((b.drop (p + 1)).take 8) = m) := ⟨_, rfl⟩
                  rw [hm.out] at hei hx hT hm64
                  clear k68 hk1
                  go_wp2_with fail
                  refine hei.out.mono ?_
                  rintro e w2 ⟨⟨h8, rfl, hr2⟩ | ⟨h8, rfl, hr2⟩, hg2⟩
                  · have hg3 : w.grownBy w2 (some q) := grown_trans hG2.out hg2
                    have hz3 : Z5 w2 r := Z5.grown hZ2.out hg2 (by simpa using hqr)
                    clear hei hg2
                    have hres : Hid (T = .bad b.length 2) := by
                      show _ = _
                      rw [← hT.out, if_pos (by rw [List.length_drop]; omega), List.length_drop, show p + 1 + (b.length - (p + 1)) = b.length by omega]
                    replace h8 : Hid (b.length - (p + 1) < 8) := h8
                    rw [hN.out] at hr2 hres
                    obtain ⟨c0, c1, c2, c3, c4⟩ := hz3.c
                    have f0 := hz3.f 0
                    have f1 := hz3.f 1
                    have f2 := hz3.f 2
                    have f3 := hz3.f 3
                    have f4 := hz3.f 4
                    have hrd := ypt_reads hz3 (.int .i64 0) (.int .i64 0) (.float .f64 0) (.string ⟨#[]⟩) (.slice none 0 0)
                    have hgf : Hid (w.grownBy (ypt w2 r (.int .i64 0) (.int .i64 0) (.float .f64 0) (.string ⟨#[]⟩) (.slice none 0 0)) (some q)) := ypt_grown hg3 hrs _ _ _ _ _
                    have hrf : Hid (Rg (ypt w2 r (.int .i64 0) (.int .i64 0) (.float .f64 0) (.string ⟨#[]⟩) (.slice none 0 0)) base q b N (left - 1) 2) := Rg.other hr2 (ypt_block _ _ _ _ _ _ _) (by simpa using fun e => hqr e.symm) (fun k hk => by simp at hk; omega)
                    replace hrd : Hid _ := hrd
                    go_wp2_with fail
                    show bodyPost _ _ _ _ _ (ypt w2 r (.int .i64 0) (.int .i64 0) (.float .f64 0) (.string ⟨#[]⟩) (.slice none 0 0))
                    obtain ⟨w5, hw5⟩ : ∃ w5, Hid ((ypt w2 r (.int .i64 0) (.int .i64 0) (.float .f64 0) (.string ⟨#[]⟩) (.slice none 0 0)) = w5) := ⟨_, rfl⟩
                    rw [hw5.out] at hrd hgf hrf ⊢
                    obtain ⟨k0, k1, k2, k3, k4⟩ := hrd.out
                    refine bodyPost_ret (by simp [results, Tryz.results41, go_sem, k0, k1, k2, k3, k4]; rfl) rfl ?_
                    exact ⟨zeroA, rfl, by rw [hres.out]; exact ⟨rfl, _, hrf.out⟩, hgf.out⟩
                  · have hg3 : w.grownBy w2 (some q) := grown_trans hG2.out hg2
                    have hz3 : Z5 w2 r := Z5.grown hZ2.out hg2 (by simpa using hqr)
                    clear hei hg2
                    rw [if_neg (by rw [List.length_drop]; omega), List.drop_drop] at hT
                    replace h8 : Hid (8 ≤ b.length - (p + 1)) := h8
                    have hun : Hid (Calls Tryz.prog 63 #[.int .u64 (m : Int)] w2 fun e w' => e = .returned (.tuple #[.float .f64 (unkeyB m), .bool (isKey m)]) ∧ w' = w2) := refUnkey_any w2 m hm64
                    obtain ⟨Y, hY⟩ : ∃ Y, Hid (isKey m = Y) := ⟨_, rfl⟩
                    rw [hY.out] at hun hT
                    go_wp2_with fail
                    refine hun.out.mono ?_
                    rintro e w3 ⟨rfl, hw3⟩
                    subst w3
                    clear hun
                    cases Y
                    · have hres : Hid (T = .bad (p + 1) 4) := hT.out.symm
                      clear hT
                      have hfl : Hid (Calls Tryz.prog 60 #[.pointer (some ⟨q, 0, none⟩), .int .i64 ((p : Int) + 1), .int .i64 4] w2 fun e w' => e = .returned zeroA ∧ Rg w' base q b (p + 1) (left - 1) 4 ∧ World.grownBy w2 w' (some q)) := yfail_any _ base q b _ (left - 1) (p + 1) 4 hr2 (by rw [hN.out]; omega)
                      go_wp2_with fail
                      refine hfl.out.mono ?_
                      rintro e w4 ⟨rfl, hr4, hg2⟩
                      have hg4 : w.grownBy w4 (some q) := grown_trans hg3 hg2
                      have hz4 : Z5 w4 r := Z5.grown hz3 hg2 (by simpa using hqr)
                      unfold zeroA
                      clear hfl hg2
                      obtain ⟨c0, c1, c2, c3, c4⟩ := hz4.c
                      have f0 := hz4.f 0
                      have f1 := hz4.f 1
                      have f2 := hz4.f 2
                      have f3 := hz4.f 3
                      have f4 := hz4.f 4
                      have hrd := ypt_reads hz4 (.int .i64 0) (.int .i64 0) (.float .f64 0) (.string ⟨#[]⟩) (.slice none 0 0)
                      have hgf : Hid (w.grownBy (ypt w4 r (.int .i64 0) (.int .i64 0) (.float .f64 0) (.string ⟨#[]⟩) (.slice none 0 0)) (some q)) := ypt_grown hg4 hrs _ _ _ _ _
                      have hrf : Hid (Rg (ypt w4 r (.int .i64 0) (.int .i64 0) (.float .f64 0) (.string ⟨#[]⟩) (.slice none 0 0)) base q b (p + 1) (left - 1) 4) := Rg.other hr4 (ypt_block _ _ _ _ _ _ _) (by simpa using fun e => hqr e.symm) (fun k hk => by simp at hk; omega)
                      replace hrd : Hid _ := hrd
                      go_wp2_with fail
                      show bodyPost _ _ _ _ _ (ypt w4 r (.int .i64 0) (.int .i64 0) (.float .f64 0) (.string ⟨#[]⟩) (.slice none 0 0))
                      obtain ⟨w5, hw5⟩ : ∃ w5, Hid ((ypt w4 r (.int .i64 0) (.int .i64 0) (.float .f64 0) (.string ⟨#[]⟩) (.slice none 0 0)) = w5) := ⟨_, rfl⟩
                      rw [hw5.out] at hrd hgf hrf ⊢
                      obtain ⟨k0, k1, k2, k3, k4⟩ := hrd.out
                      refine bodyPost_ret (by simp [results, Tryz.results41, go_sem, k0, k1, k2, k3, k4]; rfl) rfl ?_
                      exact ⟨zeroA, rfl, by rw [hres.out]; exact ⟨rfl, _, hrf.out⟩, hgf.out⟩
                    · have hres : Hid (T = .ok (.mk 4 0 (unkeyB m) [] []) (p + 9) (left - 1) (b.drop (p + 9))) := hT.out.symm
                      clear hT
                      obtain ⟨c0, c1, c2, c3, c4⟩ := hz3.c
                      have f0 := hz3.f 0
                      have f1 := hz3.f 1
                      have f2 := hz3.f 2
                      have f3 := hz3.f 3
                      have f4 := hz3.f 4
                      have hrd := ypt_reads hz3 (.int .i64 (K : Int)) (.int .i64 0) (.float .f64 (unkeyB m)) (.string ⟨#[]⟩) (.slice none 0 0)
                      have hgf : Hid (w.grownBy (ypt w2 r (.int .i64 (K : Int)) (.int .i64 0) (.float .f64 (unkeyB m)) (.string ⟨#[]⟩) (.slice none 0 0)) (some q)) := ypt_grown hg3 hrs _ _ _ _ _
                      have hrf : Hid (Rg (ypt w2 r (.int .i64 (K : Int)) (.int .i64 0) (.float .f64 (unkeyB m)) (.string ⟨#[]⟩) (.slice none 0 0)) base q b (p + 9) (left - 1) 0) := Rg.other hr2 (ypt_block _ _ _ _ _ _ _) (by simpa using fun e => hqr e.symm) (fun k hk => by simp at hk; omega)
                      replace hrd : Hid _ := hrd
                      go_wp2_with fail
                      show bodyPost _ _ _ _ _ (ypt w2 r (.int .i64 (K : Int)) (.int .i64 0) (.float .f64 (unkeyB m)) (.string ⟨#[]⟩) (.slice none 0 0))
                      obtain ⟨w5, hw5⟩ : ∃ w5, Hid ((ypt w2 r (.int .i64 (K : Int)) (.int .i64 0) (.float .f64 (unkeyB m)) (.string ⟨#[]⟩) (.slice none 0 0)) = w5) := ⟨_, rfl⟩
                      rw [hw5.out] at hrd hgf hrf ⊢
                      obtain ⟨k0, k1, k2, k3, k4⟩ := hrd.out
                      refine bodyPost_ret (by simp [results, Tryz.results41, go_sem, k0, k1, k2, k3, k4]; rfl) rfl ?_
                      refine ⟨.agg #[.int .i64 (K : Int), .int .i64 0, .float .f64 (unkeyB m), .string ⟨#[]⟩, .slice none 0 0], rfl, ?_, hgf.out⟩
                      rw [hres.out, hk4.out]
                      exact ⟨far_plain _ _ 4 0 _ [] (by simp), hrf.out, rfl⟩
                · rw [if_neg hk4] at hT
                  have k4 : ((K : Int) == 4) = false := by simp; omega
                  by_cases hk66 : K = 6
                  · skip
                    have k6 : ((K : Int) == 6) = true := by simp; omega
                    have k8 : ((d : Int) == 8) = false := by have := hk6.out; simp; omega
                    rw [if_pos hk66] at hT
                    have hli : Hid (Calls Tryz.prog 64 #[.pointer (some ⟨q, 0, none⟩), .int .i64 ((d : Int) + 1)] ((wa.setCell ⟨q, 1, none⟩ (.int .i64 ((p : Int) + 1))).setCell ⟨q, 2, none⟩ (.int .i64 ((left : Int) - 1))) fun e w' => ∃ v, e = .returned v ∧ ResP base q b ((wa.setCell ⟨q, 1, none⟩ (.int .i64 ((p : Int) + 1))).setCell ⟨q, 2, none⟩ (.int .i64 ((left : Int) - 1))).heap.size (rdL f (d + 1) (left - 1) (p + 1) (b.drop (p + 1)) []) v w' ∧ World.grownBy ((wa.setCell ⟨q, 1, none⟩ (.int .i64 ((p : Int) + 1))).setCell ⟨q, 2, none⟩ (.int .i64 ((left : Int) - 1))) w' (some q)) := hL.out _ base q b (p + 1) (left - 1) (d + 1) hR2.out (by have := hk6.out; omega) (by rw [hN.out]; omega)
                    have hrl : Hid (r < ((wa.setCell ⟨q, 1, none⟩ (.int .i64 ((p : Int) + 1))).setCell ⟨q, 2, none⟩ (.int .i64 ((left : Int) - 1))).heap.size) := heap_lt hZ2.out
                    rw [hT.out] at hli
                    replace hk66 : Hid (K = 6) := hk66
                    clear k68 hk1
                    go_wp2_with fail
                    refine hli.out.mono ?_
                    rintro e w2 ⟨v2, rfl, hP, hg2⟩
                    have hg3 : w.grownBy w2 (some q) := grown_trans hG2.out hg2
                    have hz3 : Z5 w2 r := Z5.grown hZ2.out hg2 (by simpa using hqr)
                    clear hli
                    cases T with
                    | bad z er =>
                      obtain ⟨rfl, l9, hr2⟩ := hP
                      unfold zeroA
                      clear hg2
                      obtain ⟨c0, c1, c2, c3, c4⟩ := hz3.c
                      have f0 := hz3.f 0
                      have f1 := hz3.f 1
                      have f2 := hz3.f 2
                      have f3 := hz3.f 3
                      have f4 := hz3.f 4
                      have hrd := ypt_reads hz3 (.int .i64 0) (.int .i64 0) (.float .f64 0) (.string ⟨#[]⟩) (.slice none 0 0)
                      have hgf : Hid (w.grownBy (ypt w2 r (.int .i64 0) (.int .i64 0) (.float .f64 0) (.string ⟨#[]⟩) (.slice none 0 0)) (some q)) := ypt_grown hg3 hrs _ _ _ _ _
                      have hrf : Hid (Rg (ypt w2 r (.int .i64 0) (.int .i64 0) (.float .f64 0) (.string ⟨#[]⟩) (.slice none 0 0)) base q b z l9 er) := Rg.other hr2 (ypt_block _ _ _ _ _ _ _) (by simpa using fun e => hqr e.symm) (fun k hk => by simp at hk; omega)
                      replace hrd : Hid _ := hrd
                      go_wp2_with fail
                      show bodyPost _ _ _ _ _ (ypt w2 r (.int .i64 0) (.int .i64 0) (.float .f64 0) (.string ⟨#[]⟩) (.slice none 0 0))
                      obtain ⟨w5, hw5⟩ : ∃ w5, Hid ((ypt w2 r (.int .i64 0) (.int .i64 0) (.float .f64 0) (.string ⟨#[]⟩) (.slice none 0 0)) = w5) := ⟨_, rfl⟩
                      rw [hw5.out] at hrd hgf hrf ⊢
                      obtain ⟨k0, k1, k2, k3, k4⟩ := hrd.out
                      refine bodyPost_ret (by simp [results, Tryz.results41, go_sem, k0, k1, k2, k3, k4]; rfl) rfl ?_
                      exact ⟨zeroA, rfl, ⟨rfl, _, hrf.out⟩, hgf.out⟩
                    | ok x z l9 s9 =>
                      obtain ⟨hF, hr2, hs9⟩ := hP
                      obtain ⟨xk, xn, xr, xt, xl⟩ := x
                      have hX := hF.isV
                      rw [IsV] at hX
                      obtain ⟨xo, xc, rfl, _⟩ := hX
                      have hfa : Hid (Far (ypt w2 r (.int .i64 xk) (.int .i64 xn) (.float .f64 xr) (.string (bstr xt)) (.slice xo xl.length xc)) w.heap.size (.agg #[.int .i64 xk, .int .i64 xn, .float .f64 xr, .string (bstr xt), .slice xo xl.length xc]) (.mk xk xn xr xt xl)) :=
                        Far.grow hF (fun b b1 b2 => (ypt_block w2 r _ _ _ _ _).block b b2 (by have := hrl.out; simp; omega)) (ypt_block w2 r _ _ _ _ _).size (by have := hrl.out; have := hrr.out; omega)
                      replace hs9 : Hid (s9 = b.drop z) := hs9
                      clear hF hg2
                      obtain ⟨c0, c1, c2, c3, c4⟩ := hz3.c
                      have f0 := hz3.f 0
                      have f1 := hz3.f 1
                      have f2 := hz3.f 2
                      have f3 := hz3.f 3
                      have f4 := hz3.f 4
                      have hrd := ypt_reads hz3 (.int .i64 xk) (.int .i64 xn) (.float .f64 xr) (.string (bstr xt)) (.slice xo xl.length xc)
                      have hgf : Hid (w.grownBy (ypt w2 r (.int .i64 xk) (.int .i64 xn) (.float .f64 xr) (.string (bstr xt)) (.slice xo xl.length xc)) (some q)) := ypt_grown hg3 hrs _ _ _ _ _
                      have hrf : Hid (Rg (ypt w2 r (.int .i64 xk) (.int .i64 xn) (.float .f64 xr) (.string (bstr xt)) (.slice xo xl.length xc)) base q b z l9 0) := Rg.other hr2 (ypt_block _ _ _ _ _ _ _) (by simpa using fun e => hqr e.symm) (fun k hk => by simp at hk; omega)
                      replace hrd : Hid _ := hrd
                      go_wp2_with fail
                      show bodyPost _ _ _ _ _ (ypt w2 r (.int .i64 xk) (.int .i64 xn) (.float .f64 xr) (.string (bstr xt)) (.slice xo xl.length xc))
                      obtain ⟨w5, hw5⟩ : ∃ w5, Hid ((ypt w2 r (.int .i64 xk) (.int .i64 xn) (.float .f64 xr) (.string (bstr xt)) (.slice xo xl.length xc)) = w5) := ⟨_, rfl⟩
                      rw [hw5.out] at hrd hgf hrf hfa ⊢
                      obtain ⟨k0, k1, k2, k3, k4⟩ := hrd.out
                      refine bodyPost_ret (by simp [results, Tryz.results41, go_sem, k0, k1, k2, k3, k4]; rfl) rfl ?_
                      exact ⟨_, rfl, ⟨hfa.out, hrf.out, hs9.out⟩, hgf.out⟩
                  · skip
                    have hk11 : Hid (K = 1) := by show _ = _; have := hk5.out; omega
                    have k4 : ((K : Int) == 4) = false := by simp; omega
                    have k6 : ((K : Int) == 6) = false := by simp; omega
                    rw [if_neg hk66] at hT
                    have hres : Hid (T = .ok (.mk 1 0 0 [] []) (p + 1) (left - 1) (b.drop (p + 1))) := hT.out.symm
                    clear k68 hk1 hk66 hk4 hk3 hk2 hk6
                    have hqr2 : r ≠ q := fun e => hqr e.symm
                    obtain ⟨c0, c1, c2, c3, c4⟩ := hZa.out.c
                    have f0 := hZa.out.f 0
                    have f1 := hZa.out.f 1
                    have f2 := hZa.out.f 2
                    have f3 := hZa.out.f 3
                    have f4 := hZa.out.f 4
                    have hrd := ypt_reads hZ2.out (.int .i64 (K : Int)) (.int .i64 0) (.float .f64 0) (.string ⟨#[]⟩) (.slice none 0 0)
                    have hgf : Hid (w.grownBy (ypt ((wa.setCell ⟨q, 1, none⟩ (.int .i64 ((p : Int) + 1))).setCell ⟨q, 2, none⟩ (.int .i64 ((left : Int) - 1))) r (.int .i64 (K : Int)) (.int .i64 0) (.float .f64 0) (.string ⟨#[]⟩) (.slice none 0 0)) (some q)) := ypt_grown hG2.out hrs _ _ _ _ _
                    have hrf : Hid (Rg (ypt ((wa.setCell ⟨q, 1, none⟩ (.int .i64 ((p : Int) + 1))).setCell ⟨q, 2, none⟩ (.int .i64 ((left : Int) - 1))) r (.int .i64 (K : Int)) (.int .i64 0) (.float .f64 0) (.string ⟨#[]⟩) (.slice none 0 0)) base q b (p + 1) (left - 1) 0) := Rg.other hR2.out (ypt_block _ _ _ _ _ _ _) (by simpa using fun e => hqr e.symm) (fun k hk => by simp at hk; omega)
                    replace hrd : Hid _ := hrd
                    go_wp2_with fail
                    show bodyPost _ _ _ _ _ (ypt ((wa.setCell ⟨q, 1, none⟩ (.int .i64 ((p : Int) + 1))).setCell ⟨q, 2, none⟩ (.int .i64 ((left : Int) - 1))) r (.int .i64 (K : Int)) (.int .i64 0) (.float .f64 0) (.string ⟨#[]⟩) (.slice none 0 0))
                    obtain ⟨w5, hw5⟩ : ∃ w5, Hid ((ypt ((wa.setCell ⟨q, 1, none⟩ (.int .i64 ((p : Int) + 1))).setCell ⟨q, 2, none⟩ (.int .i64 ((left : Int) - 1))) r (.int .i64 (K : Int)) (.int .i64 0) (.float .f64 0) (.string ⟨#[]⟩) (.slice none 0 0)) = w5) := ⟨_, rfl⟩
                    rw [hw5.out] at hrd hgf hrf ⊢
                    obtain ⟨k0, k1, k2, k3, k4⟩ := hrd.out
                    refine bodyPost_ret (by simp [results, Tryz.results41, go_sem, k0, k1, k2, k3, k4]; rfl) rfl ?_
                    refine ⟨.agg #[.int .i64 (K : Int), .int .i64 0, .float .f64 0, .string ⟨#[]⟩, .slice none 0 0], rfl, ?_, hgf.out⟩
                    rw [hres.out, hk11.out]
                    exact ⟨far_plain _ _ 1 0 0 [] (by simp), hrf.out, rfl⟩
#print axioms yvalue_of
end Go.Proofs.YtpfnkkkfekhngaaGreatDoor.Va
