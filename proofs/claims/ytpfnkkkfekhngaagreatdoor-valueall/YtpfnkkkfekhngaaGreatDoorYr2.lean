/-
  The document's own reader of values: a text.
-/
import Derived.Test.YtpfnkkkfekhngaaGreatDoorYr1
import Derived.Test.YtpfnkkkfekhngaaGreatDoorWc
namespace Go.Proofs.YtpfnkkkfekhngaaGreatDoor.Va
open Go.RowKit Go.Proofs.YtpfnkkkfekhngaaGreatDoor.Rl
set_option maxRecDepth 100000
set_option linter.unusedVariables false

theorem yconv_any (w : World) (v : Value) (t : List UInt8) (h : Sl w v t) : (convert 40 9 v).run Tryz.prog w = .ok (.string (bstr t)) w := by
  obtain ⟨ao, c, rfl, h1, h2, h3, h4⟩ := h
  cases ao with
  | none =>
    obtain ⟨rfl, rfl⟩ := h1 rfl
    exact Lib.run_convert_nil_bytes w 40 9 5 0 Tryz.underlying40 Tryz.underlying5 Tryz.underlying9
  | some ad =>
    by_cases h0 : t.length = 0
    · have : t = [] := List.length_eq_zero_iff.1 h0
      subst this
      show (convert 40 9 (.slice (some ad) 0 c)).run Tryz.prog w = _
      rw [run_convert_bytes_string w 40 9 5 (some ad) 0 c Tryz.underlying40 Tryz.underlying5 Tryz.underlying9]
      simp [Conv.bytesToString, loadCells, bstr]
      rfl
    · obtain ⟨b, off, e, _⟩ := h4 0 (by omega)
      simp only [Option.some.injEq] at e
      subst e
      have hb : Lib.Bytes w b off (bstr t) := fun i hi => by
        obtain ⟨b', off', e', hc⟩ := h4 i hi
        simp only [Option.some.injEq, Addr.mk.injEq] at e'
        obtain ⟨rfl, rfl, _⟩ := e'
        rw [hc]
        rfl
      have := Lib.run_convert_window w 40 5 9 Tryz.underlying40 Tryz.underlying5 Tryz.underlying9 b off (bstr t) hb 0 t.length c (by show 0 + t.length ≤ t.length; omega)
      rw [Nat.add_zero] at this
      rw [this]
      congr 2
      apply ByteArray.ext
      simp [bstr]

theorem ygrown_row {w w' w'' : World} {q : Nat} {row : Option Nat} (h : w.grownBy w' (some q)) (hg : w'.grownBy w'' row) (hr : ∀ k, row = some k → w.heap.size ≤ k) : w.grownBy w'' (some q) :=
  ⟨hg.os.trans h.os, hg.tape.trans h.tape, hg.output.trans h.output, Nat.le_trans h.size hg.size, fun k hk hne => (hg.block k (Nat.lt_of_lt_of_le hk h.size) (fun e => by have := hr k e.symm; omega)).trans (h.block k hk hne)⟩
/-- What reading a text answers. -/
def TextP (base q : Nat) (b : List UInt8) (left frm : Nat) (T : TRes) (v : Value) (w' : World) : Prop :=
  match T with
  | .short => v = zeroA ∧ Rg w' base q b b.length left 2
  | .form z => v = zeroA ∧ Rg w' base q b z left 4
  | .done t z s' => if left < 1 + t.length then v = zeroA ∧ Rg w' base q b frm left 3 else v = .agg #[.int .i64 5, .int .i64 0, .float .f64 0, .string (bstr t), .slice none 0 0] ∧ Rg w' base q b z (left - 1 - t.length) 0 ∧ s' = b.drop z ∧ t.length ≤ 140737488355328
set_option maxHeartbeats 8000000 in
theorem ytext_any (w : World) (base q : Nat) (b : List UInt8) (p left frm : Nat) (hr : Rg w base q b p left 0) (hfr : frm ≤ b.length) :
    Calls Tryz.prog 61 #[.pointer (some ⟨q, 0, none⟩), .int .i64 (frm : Int)] w fun e w' => ∃ v, e = .returned v ∧ TextP base q b left frm (rdT (b.drop p) p []) v w' ∧ w.grownBy w' (some q) := by
  have ksf : ∀ (w : World) (a : Addr) (x : Nat) (m : Mode), (store a (.float .f64 x) m).run Tryz.prog w = stored Tryz.prog w a (.float .f64 x) m := fun w a x m => run_store Tryz.prog w a _ m rfl
  obtain ⟨i0, hif, hi0, hi1, hi2⟩ := info_parts Tryz.infoU8
  have hql := hr.lt
  have hbq : base ≤ q := by obtain ⟨_, _, _, _, _, _, _, _, _, _, h⟩ := hr.c; exact h
  have hl6 : left ≤ 65536 := by obtain ⟨_, _, _, _, _, _, _, _, _, h, _⟩ := hr.c; exact h
  obtain ⟨N, hN⟩ : ∃ N, Hid (b.length = N) := ⟨_, rfl⟩
  have hN2 : N ≤ 140737488355328 := by rw [← hN.out]; obtain ⟨_, _, _, _, _, _, _, h, _⟩ := hr.c; exact h
  have hp0 : p ≤ N := by rw [← hN.out]; obtain ⟨_, _, _, _, _, _, _, _, h, _⟩ := hr.c; exact h
  rw [hN.out] at hfr
  obtain ⟨T, hT⟩ : ∃ T, Hid (rdT (b.drop p) p [] = T) := ⟨_, rfl⟩
  rw [hT.out]
  obtain ⟨r, hrr⟩ : ∃ r, Hid (w.heap.size = r) := ⟨_, rfl⟩
  have hqr : q ≠ r := by have := hrr.out; omega
  have hrs : w.heap.size ≤ r := by have := hrr.out; omega
  have hz1 : Hid (Z5 (w.alloc (.cells #[.int .i64 0, .int .i64 0, .float .f64 0, .string ⟨#[]⟩, .slice none 0 0] 35)) r) := by rw [← hrr.out]; exact heap_alloc_new _ _
  have hr1 : Hid (Rg (w.alloc (.cells #[.int .i64 0, .int .i64 0, .float .f64 0, .string ⟨#[]⟩, .slice none 0 0] 35)) base q b p left 0) := hr.below (box_below _ _)
  have hg1 : Hid (w.grownBy (w.alloc (.cells #[.int .i64 0, .int .i64 0, .float .f64 0, .string ⟨#[]⟩, .slice none 0 0] 35)) (some q)) := ygrown_alloc (ygrown_refl _ _) _
  clear hr
  go_enter Tryz.func61, Tryz.ntmps61
  go_wp2_with fail
  rw [hrr.out]
  generalize w.alloc (.cells #[.int .i64 0, .int .i64 0, .float .f64 0, .string ⟨#[]⟩, .slice none 0 0] 35) = w1 at *
  go_loopw [5] (fun vs wr => ∃ (pi : Nat) (acc : List UInt8), pi ≤ N ∧ acc.length ≤ pi ∧ Hid (rdT (b.drop pi) pi acc = T) ∧ Hid (Rg wr base q b pi left 0) ∧ Hid (Z5 wr r) ∧ Hid (w.grownBy wr (some q)) ∧ wr.ownsRow w.heap.size 5 1 vs acc.length (bvals acc)) (fun _ wr => N - (match wr.cell? ⟨q, 1, none⟩ with | some v => (intOf v).toNat | none => 0))
  case atStart => exact ⟨p, [], hp0, by simp, hT, hr1, hz1, hg1, World.ownsRow_nil _ _ _ _⟩
  case round =>
    clear hr1 hz1 hg1
    obtain ⟨pi, acc, hpi, hacc, hTi, hR, hZ, hG, ho⟩ := hrel
    obtain ⟨ao, cap, d0, d1, d2, d3, hrd, _⟩ := hR.out.c
    have g1 := hR.out.f 1
    rw [hN.out] at d0
    replace hrd : Hid (YRd wr base ao b) := hrd
    have p0 : (0 : Int) ≤ (pi : Int) := by omega
    by_cases hend : pi = N
    · have hsh : T = .short := by rw [← hTi.out, List.drop_eq_nil_of_le (by rw [hN.out]; omega), rdT]
      have hRd : Hid (Rg wr.drew base q b pi left 0) := hR.out.drew
      have hGd : Hid (w.grownBy wr.drew (some q)) := ygrown_drew hG.out
      have hZd : Hid (Z5 wr.drew r) := hZ.out
      have pe : ¬ (pi : Int) < (N : Int) := by omega
      subst hsh
      clear ho
      go_wp2_with fail
      go_region
      have hfl : Hid (Calls Tryz.prog 60 #[.pointer (some ⟨q, 0, none⟩), .int .i64 (N : Int), .int .i64 2] wr.drew fun e w' => e = .returned zeroA ∧ Rg w' base q b N left 2 ∧ wr.drew.grownBy w' (some q)) := yfail_any _ base q b _ left N 2 hRd.out (by rw [hN.out]; exact Nat.le_refl _)
      go_wp2_with fail
      refine hfl.out.mono ?_
      rintro e w2 ⟨rfl, hr2, hg2⟩
      have hg3 : w.grownBy w2 (some q) := grown_trans hGd.out hg2
      have hz3 : Z5 w2 r := hZd.out.grown hg2 (by simpa using hqr)
      unfold zeroA
      clear hfl hg2
      obtain ⟨c0, c1, c2, c3, c4⟩ := hz3.c
      have f0 := hz3.f 0
      have f1 := hz3.f 1
      have f2 := hz3.f 2
      have f3 := hz3.f 3
      have f4 := hz3.f 4
      have hrd := ypt_reads hz3 (.int .i64 0) (.int .i64 0) (.float .f64 0) (.string ⟨#[]⟩) (.slice none 0 0)
      have hgf : Hid (w.grownBy (ypt w2 r (.int .i64 0) (.int .i64 0) (.float .f64 0) (.string ⟨#[]⟩) (.slice none 0 0)) (some q)) := ypt_grown hg3 hrs _ _ _ _ _
      have hrf : Hid (Rg (ypt w2 r (.int .i64 0) (.int .i64 0) (.float .f64 0) (.string ⟨#[]⟩) (.slice none 0 0)) base q b N left 2) := Rg.other hr2 (ypt_block _ _ _ _ _ _ _) (by simpa using fun e => hqr e.symm) (fun k hk => by simp at hk; omega)
      replace hrd : Hid _ := hrd
      go_wp2_with fail
      show bodyPost _ _ _ _ _ (ypt w2 r (.int .i64 0) (.int .i64 0) (.float .f64 0) (.string ⟨#[]⟩) (.slice none 0 0))
      obtain ⟨w5, hw5⟩ : ∃ w5, Hid ((ypt w2 r (.int .i64 0) (.int .i64 0) (.float .f64 0) (.string ⟨#[]⟩) (.slice none 0 0)) = w5) := ⟨_, rfl⟩
      rw [hw5.out] at hrd hgf hrf ⊢
      obtain ⟨k0, k1, k2, k3, k4⟩ := hrd.out
      refine bodyPost_ret (by simp [results, Tryz.results61, go_sem, k0, k1, k2, k3, k4]; rfl) rfl ?_
      exact ⟨zeroA, rfl, ⟨rfl, by rw [hN.out]; exact hrf.out⟩, hgf.out⟩
    · have hlt : pi < b.length := by rw [hN.out]; omega
      have pl : (pi : Int) < (N : Int) := by omega
      have hpN : pi < N := by omega
      obtain ⟨rb, off, rfl, hrb, hcell⟩ := hrd.out pi hlt
      obtain ⟨c, hc⟩ : ∃ c, Hid (b[pi] = c) := ⟨b[pi], rfl⟩
      rw [hc.out] at hcell
      have hdr : Hid (b.drop pi = c :: b.drop (pi + 1)) := by show _ = _; rw [List.drop_eq_getElem_cons hlt, hc.out]
      have hm0 := d1
      have hcl := c.toNat_lt
      obtain ⟨C, hC⟩ : ∃ C, Hid (c.toNat = C) := ⟨_, rfl⟩
      rw [hC.out] at hcell hcl
      go_wp2_with fail
      go_region
      go_wp2_with fail
      go_region
      have hRa : Hid (Rg wr.drew.drew base q b pi left 0) := hR.out
      have hZa : Hid (Z5 wr.drew.drew r) := hZ.out
      have hGa : Hid (w.grownBy wr.drew.drew (some q)) := ygrown_drew (ygrown_drew hG.out)
      have hoa : wr.drew.drew.ownsRow w.heap.size 5 1 u5 acc.length (bvals acc) := ho
      have hda : wr.drew.drew.cell? ⟨q, 1, none⟩ = some (.int .i64 (pi : Int)) := d1
      have hda0 : wr.drew.drew.cell? ⟨q, 0, none⟩ = some (.slice (some ⟨rb, off, none⟩) N cap) := d0
      have hrda : Hid (YRd wr.drew.drew base (some ⟨rb, off, none⟩) b) := hrd.out
      clear hR hZ hG ho hrd d0 d1 d2 d3 g1 hcell
      generalize wr.drew.drew = wa at *
      have ga := hRa.out.f 1
      obtain ⟨aoq, capq, hhq, _⟩ := hRa.out
      have hoq := yown_ne hoa hhq (by decide)
      clear hhq
      have hG1 : Hid (w.grownBy (wa.setCell ⟨q, 1, none⟩ (.int .i64 ((pi : Int) + 1))) (some q)) := ygrown_set hGa.out _ _
      have hR1 : Hid (Rg (wa.setCell ⟨q, 1, none⟩ (.int .i64 ((pi : Int) + 1))) base q b (pi + 1) left 0) := hRa.out.set1 (pi + 1) (by rw [hN.out]; omega)
      have hZ1 : Hid (Z5 (wa.setCell ⟨q, 1, none⟩ (.int .i64 ((pi : Int) + 1))) r) := hZa.out.grown (grown_setCell _ q 1 _) (by simpa using hqr)
      have ho1 : (wa.setCell ⟨q, 1, none⟩ (.int .i64 ((pi : Int) + 1))).ownsRow w.heap.size 5 1 u5 acc.length (bvals acc) := ownsRow_setCell_other hoa (by simpa using hoq) _
      have hws := hG1.out.size
      clear hoa
      by_cases hc0 : C = 0
      · have hc00 : c = 0 := UInt8.toNat_inj.1 (by rw [hC.out, hc0]; rfl)
        have hcz : ((C : Int) != 0) = false := by simp; omega
        subst hc00
        replace hc0 : Hid (C = 0) := hc0
        by_cases he2 : pi + 1 = N
        · have hsh : T = .short := by rw [← hTi.out, hdr.out, List.drop_eq_nil_of_le (by rw [hN.out]; omega)]; simp [rdT]
          subst hsh
          have pe : ((pi : Int) + 1 == (N : Int)) = true := by simp; omega
          have hRd : Hid (Rg (wa.setCell ⟨q, 1, none⟩ (.int .i64 ((pi : Int) + 1))).drew base q b (pi + 1) left 0) := hR1.out
          have hGd : Hid (w.grownBy (wa.setCell ⟨q, 1, none⟩ (.int .i64 ((pi : Int) + 1))).drew (some q)) := ygrown_drew hG1.out
          have hZd : Hid (Z5 (wa.setCell ⟨q, 1, none⟩ (.int .i64 ((pi : Int) + 1))).drew r) := hZ1.out
          clear ho1
          go_wp2_with fail
          go_region
          have hfl : Hid (Calls Tryz.prog 60 #[.pointer (some ⟨q, 0, none⟩), .int .i64 (N : Int), .int .i64 2] (wa.setCell ⟨q, 1, none⟩ (.int .i64 ((pi : Int) + 1))).drew fun e w' => e = .returned zeroA ∧ Rg w' base q b N left 2 ∧ (wa.setCell ⟨q, 1, none⟩ (.int .i64 ((pi : Int) + 1))).drew.grownBy w' (some q)) := yfail_any _ base q b _ left N 2 hRd.out (by rw [hN.out]; exact Nat.le_refl _)
          go_wp2_with fail
          refine hfl.out.mono ?_
          rintro e w2 ⟨rfl, hr2, hg2⟩
          have hg3 : w.grownBy w2 (some q) := grown_trans hGd.out hg2
          have hz3 : Z5 w2 r := hZd.out.grown hg2 (by simpa using hqr)
          unfold zeroA
          clear hfl hg2
          obtain ⟨c0, c1, c2, c3, c4⟩ := hz3.c
          have f0 := hz3.f 0
          have f1 := hz3.f 1
          have f2 := hz3.f 2
          have f3 := hz3.f 3
          have f4 := hz3.f 4
          have hrd := ypt_reads hz3 (.int .i64 0) (.int .i64 0) (.float .f64 0) (.string ⟨#[]⟩) (.slice none 0 0)
          have hgf : Hid (w.grownBy (ypt w2 r (.int .i64 0) (.int .i64 0) (.float .f64 0) (.string ⟨#[]⟩) (.slice none 0 0)) (some q)) := ypt_grown hg3 hrs _ _ _ _ _
          have hrf : Hid (Rg (ypt w2 r (.int .i64 0) (.int .i64 0) (.float .f64 0) (.string ⟨#[]⟩) (.slice none 0 0)) base q b N left 2) := Rg.other hr2 (ypt_block _ _ _ _ _ _ _) (by simpa using fun e => hqr e.symm) (fun k hk => by simp at hk; omega)
          replace hrd : Hid _ := hrd
          go_wp2_with fail
          show bodyPost _ _ _ _ _ (ypt w2 r (.int .i64 0) (.int .i64 0) (.float .f64 0) (.string ⟨#[]⟩) (.slice none 0 0))
          obtain ⟨w5, hw5⟩ : ∃ w5, Hid ((ypt w2 r (.int .i64 0) (.int .i64 0) (.float .f64 0) (.string ⟨#[]⟩) (.slice none 0 0)) = w5) := ⟨_, rfl⟩
          rw [hw5.out] at hrd hgf hrf ⊢
          obtain ⟨k0, k1, k2, k3, k4⟩ := hrd.out
          refine bodyPost_ret (by simp [results, Tryz.results61, go_sem, k0, k1, k2, k3, k4]; rfl) rfl ?_
          exact ⟨zeroA, rfl, ⟨rfl, by rw [hN.out]; exact hrf.out⟩, hgf.out⟩
        · have hlt2 : pi + 1 < b.length := by rw [hN.out]; omega
          have pe : ((pi : Int) + 1 == (N : Int)) = false := by simp; omega
          have pl2 : (pi : Int) + 1 < (N : Int) := by omega
          have pl0 : (0 : Int) ≤ (pi : Int) + 1 := by omega
          obtain ⟨rb2, off2, hrr2, _, hcell2⟩ := hrda.out (pi + 1) hlt2
          simp only [Option.some.injEq, Addr.mk.injEq, and_true] at hrr2
          obtain ⟨rfl, rfl⟩ := hrr2
          obtain ⟨d, hd⟩ : ∃ d, Hid (b[pi + 1] = d) := ⟨b[pi + 1], rfl⟩
          rw [hd.out] at hcell2
          have hdr2 : Hid (b.drop (pi + 1) = d :: b.drop (pi + 2)) := by show _ = _; rw [List.drop_eq_getElem_cons hlt2, hd.out]
          have hTd : Hid ((if d = 255 then rdT (b.drop (pi + 2)) (pi + 2) (acc ++ [0]) else if d = 1 then .done acc (pi + 2) (b.drop (pi + 2)) else .form (pi + 1)) = T) := by
            have := hTi.out
            rwa [hdr.out, hdr2.out, rdT_zero] at this
          have hrbq : rb ≠ q := by omega
          obtain ⟨D, hD⟩ : ∃ D, Hid (d.toNat = D) := ⟨_, rfl⟩
          rw [hD.out] at hcell2
          have hcell3 : (wa.setCell ⟨q, 1, none⟩ (.int .i64 ((pi : Int) + 1))).cell? ⟨rb, off + (pi + 1), none⟩ = some (.int .u8 (D : Int)) := by rw [World.cell?_of_block (w := wa) (heap_setCell_other wa ⟨q, 1, none⟩ rb _ hrbq)]; exact hcell2
          clear hcell2
          have hdl := d.toNat_lt
          rw [hD.out] at hdl
          go_wp2_with fail
          go_region
          go_wp2_with fail
          go_region
          have hRb : Hid (Rg (wa.setCell ⟨q, 1, none⟩ (.int .i64 ((pi : Int) + 1))).drew.drew base q b (pi + 1) left 0) := hR1.out
          have hZb : Hid (Z5 (wa.setCell ⟨q, 1, none⟩ (.int .i64 ((pi : Int) + 1))).drew.drew r) := hZ1.out
          have hGb : Hid (w.grownBy (wa.setCell ⟨q, 1, none⟩ (.int .i64 ((pi : Int) + 1))).drew.drew (some q)) := ygrown_drew (ygrown_drew hG1.out)
          have hob : (wa.setCell ⟨q, 1, none⟩ (.int .i64 ((pi : Int) + 1))).drew.drew.ownsRow w.heap.size 5 1 u5 acc.length (bvals acc) := ho1
          clear hR1 hZ1 hG1 ho1 hcell3 hRa hZa hGa hrda hda ga hda0
          generalize (wa.setCell ⟨q, 1, none⟩ (.int .i64 ((pi : Int) + 1))).drew.drew = wb at *
          obtain ⟨_, _, _, e1, e2, _⟩ := hRb.out.c
          have gb := hRb.out.f 1
          have gb2 := hRb.out.f 2
          have hwb := hGb.out.size
          by_cases hd255 : D = 255
          · have hdd : d = 255 := UInt8.toNat_inj.1 (by rw [hD.out, hd255]; rfl)
            have hTe : Hid (rdT (b.drop (pi + 2)) (pi + 2) (acc ++ [0]) = T) := by have := hTd.out; rwa [if_pos hdd] at this
            have hz255 : ((D : Int) == 255) = true := by simp; omega
            have hh1 : ∀ u ∈ [Value.int .u8 0], u.oneCell' = true := by simp [Value.oneCell']
            have hh2 : acc.length + 1 ≤ maxLen := by unfold maxLen; omega
            have hh3 : (acc.length + 1) * 1 ≤ 140737488355328 := by omega
            replace hd255 : Hid (D = 255) := hd255
            go_wp2_with (at_builtin; refine wpList_append_own _ rfl (.tmp 70) (.tmp 71) 40 rfl w.heap.size 5 i0 (.int .u8 0) 1 1 Tryz.underlying40 hif hi0 hi1 hi2 rfl (by decide) _ _ _ rfl (hob.alloc _) ⟨wb.heap.size, 0, none⟩ 1 1 [.int .u8 0] rfl rfl (cell_one_new _ _ _) hh1 hh2 hh3 (by simp; omega) ?_)
            intro v3 w3 ho3 hg3 _
            have hnr : u5.ownBlock ≠ some r := yown_ne hob hZb.out (by decide)
            have hRc : Rg w3 base q b (pi + 1) left 0 := (hRb.out.below (box_below _ _)).other hg3 hoq (fun k hk => by have := (hob.lt k hk).1; omega)
            have hZc : Z5 w3 r := (hZb.out.grown (ygrown_alloc (ygrown_refl _ none) _) (by simp)).grown hg3 hnr
            have hGc : w.grownBy w3 (some q) := ygrown_row (ygrown_alloc hGb.out _) hg3 (fun k hk => (hob.lt k hk).1)
            have hoc : w3.ownsRow w.heap.size 5 1 v3 (acc ++ [0]).length (bvals (acc ++ [0])) := by
              have h8 : Value.int .u8 0 = bval 0 := rfl
              rw [h8, bvals_one] at ho3
              simpa using ho3
            obtain ⟨_, _, _, e3, _⟩ := hRc.c
            have gc := hRc.f 1
            obtain ⟨aoq2, capq2, hhq2, _⟩ := id hRc
            have hoq2 := yown_ne hoc hhq2 (by decide)
            have hRd : Hid (Rg (w3.setCell ⟨q, 1, none⟩ (.int .i64 ((pi : Int) + 1 + 1))) base q b (pi + 2) left 0) := by
              have := hRc.set1 (pi + 2) (by rw [hN.out]; omega)
              rwa [show ((pi + 2 : Nat) : Int) = (pi : Int) + 1 + 1 by omega] at this
            have hZd : Hid (Z5 (w3.setCell ⟨q, 1, none⟩ (.int .i64 ((pi : Int) + 1 + 1))) r) := hZc.grown (grown_setCell _ q 1 _) (by simpa using hqr)
            have hGd : Hid (w.grownBy (w3.setCell ⟨q, 1, none⟩ (.int .i64 ((pi : Int) + 1 + 1))) (some q)) := ygrown_set hGc _ _
            have hod : Hid ((w3.setCell ⟨q, 1, none⟩ (.int .i64 ((pi : Int) + 1 + 1))).ownsRow w.heap.size 5 1 v3 (acc ++ [0]).length (bvals (acc ++ [0]))) := ownsRow_setCell_other hoc (by simpa using hoq2) _
            obtain ⟨_, _, _, m1, _⟩ := hRd.out.c
            have hle : (acc ++ [0]).length ≤ pi + 2 := by rw [List.length_append]; simp; omega
            obtain ⟨wc, hwc⟩ : ∃ wc, wc = w3.setCell ⟨q, 1, none⟩ (.int .i64 ((pi : Int) + 1 + 1)) := ⟨_, rfl⟩
            rw [← hwc] at hRd hZd hGd hod m1
            clear hob ho3 hg3 hRb hZb hGb hRc hZc hGc hoc hhq2
            go_wp2_with fail
            go_roundw
            case rel =>
              rw [← hwc]
              exact ⟨pi + 2, acc ++ [0], by omega, hle, hTe, hRd, hZd, hGd, hod.out⟩
            case measure =>
              rw [← hwc]
              simp only [hm0, m1, intOf, Int.toNat_natCast]; exact (by omega : N - (pi + 2) < N - pi)
          · have hz255 : ((D : Int) == 255) = false := by simp; omega
            have hdd : d ≠ 255 := by rintro rfl; exact hd255 (by rw [← hD.out]; rfl)
            replace hd255 : Hid (D ≠ 255) := hd255
            by_cases hd1 : D = 1
            · have hdd1 : d = 1 := UInt8.toNat_inj.1 (by rw [hD.out, hd1]; rfl)
              have hTf : T = .done acc (pi + 2) (b.drop (pi + 2)) := by rw [← hTd.out, if_neg hdd, if_pos hdd1]
              subst hTf
              have hz1 : ((D : Int) == 1) = true := by simp; omega
              replace hd1 : Hid (D = 1) := hd1
              obtain ⟨ao5, ca5, hv5⟩ := yown_slice hob
              have hsl : Sl wb u5 acc := Sl.of_owns hob
              subst hv5
              have hR2 : Rg (wb.setCell ⟨q, 1, none⟩ (.int .i64 ((pi : Int) + 1 + 1))) base q b (pi + 2) left 0 := by
                have := hRb.out.set1 (pi + 2) (by rw [hN.out]; omega)
                rwa [show ((pi + 2 : Nat) : Int) = (pi : Int) + 1 + 1 by omega] at this
              have hZ2 : Z5 (wb.setCell ⟨q, 1, none⟩ (.int .i64 ((pi : Int) + 1 + 1))) r := hZb.out.grown (grown_setCell _ q 1 _) (by simpa using hqr)
              have hG2 : w.grownBy (wb.setCell ⟨q, 1, none⟩ (.int .i64 ((pi : Int) + 1 + 1))) (some q) := ygrown_set hGb.out _ _
              have ho2 : (wb.setCell ⟨q, 1, none⟩ (.int .i64 ((pi : Int) + 1 + 1))).ownsRow w.heap.size 5 1 (.slice ao5 acc.length ca5) acc.length (bvals acc) := ownsRow_setCell_other hob (by simpa using hoq) _
              obtain ⟨A, hA⟩ : ∃ A, Hid (acc.length = A) := ⟨_, rfl⟩
              have hA2 : A ≤ 140737488355328 := by rw [← hA.out]; omega
              by_cases hlo : left < 1 + A
              · have hl2 : (left : Int) < 1 + (A : Int) := by omega
                have hfl : Hid (Calls Tryz.prog 60 #[.pointer (some ⟨q, 0, none⟩), .int .i64 (frm : Int), .int .i64 3] (wb.setCell ⟨q, 1, none⟩ (.int .i64 ((pi : Int) + 1 + 1))) fun e w' => e = .returned zeroA ∧ Rg w' base q b frm left 3 ∧ World.grownBy (wb.setCell ⟨q, 1, none⟩ (.int .i64 ((pi : Int) + 1 + 1))) w' (some q)) := yfail_any _ base q b _ left frm 3 hR2 (by rw [hN.out]; exact hfr)
                rw [hA.out]
                clear hob hsl ho2
                go_wp2_with fail
                refine hfl.out.mono ?_
                rintro e w2 ⟨rfl, hr2, hg2⟩
                have hg3 : w.grownBy w2 (some q) := grown_trans hG2 hg2
                have hz3 : Z5 w2 r := hZ2.grown hg2 (by simpa using hqr)
                unfold zeroA
                clear hfl hg2
                obtain ⟨c0, c1, c2, c3, c4⟩ := hz3.c
                have f0 := hz3.f 0
                have f1 := hz3.f 1
                have f2 := hz3.f 2
                have f3 := hz3.f 3
                have f4 := hz3.f 4
                have hrd := ypt_reads hz3 (.int .i64 0) (.int .i64 0) (.float .f64 0) (.string ⟨#[]⟩) (.slice none 0 0)
                have hgf : Hid (w.grownBy (ypt w2 r (.int .i64 0) (.int .i64 0) (.float .f64 0) (.string ⟨#[]⟩) (.slice none 0 0)) (some q)) := ypt_grown hg3 hrs _ _ _ _ _
                have hrf : Hid (Rg (ypt w2 r (.int .i64 0) (.int .i64 0) (.float .f64 0) (.string ⟨#[]⟩) (.slice none 0 0)) base q b frm left 3) := Rg.other hr2 (ypt_block _ _ _ _ _ _ _) (by simpa using fun e => hqr e.symm) (fun k hk => by simp at hk; omega)
                replace hrd : Hid _ := hrd
                go_wp2_with fail
                show bodyPost _ _ _ _ _ (ypt w2 r (.int .i64 0) (.int .i64 0) (.float .f64 0) (.string ⟨#[]⟩) (.slice none 0 0))
                obtain ⟨w5, hw5⟩ : ∃ w5, Hid ((ypt w2 r (.int .i64 0) (.int .i64 0) (.float .f64 0) (.string ⟨#[]⟩) (.slice none 0 0)) = w5) := ⟨_, rfl⟩
                rw [hw5.out] at hrd hgf hrf ⊢
                obtain ⟨k0, k1, k2, k3, k4⟩ := hrd.out
                refine bodyPost_ret (by simp [results, Tryz.results61, go_sem, k0, k1, k2, k3, k4]; rfl) rfl ?_
                refine ⟨zeroA, rfl, ?_, hgf.out⟩
                show ite _ _ _
                rw [hA.out, if_pos hlo]
                exact ⟨rfl, hrf.out⟩
              · have hl2 : ¬ (left : Int) < 1 + (A : Int) := by omega
                have hR3 : Rg ((wb.setCell ⟨q, 1, none⟩ (.int .i64 ((pi : Int) + 1 + 1))).setCell ⟨q, 2, none⟩ (.int .i64 ((left : Int) - 1 - (acc.length : Int)))) base q b (pi + 2) (left - 1 - A) 0 := by
                  have := hR2.set2 (left - 1 - A) (by omega)
                  rwa [show ((left - 1 - A : Nat) : Int) = (left : Int) - 1 - (acc.length : Int) by have := hA.out; omega] at this
                have hZ3 : Z5 ((wb.setCell ⟨q, 1, none⟩ (.int .i64 ((pi : Int) + 1 + 1))).setCell ⟨q, 2, none⟩ (.int .i64 ((left : Int) - 1 - (acc.length : Int)))) r := hZ2.grown (grown_setCell _ q 2 _) (by simpa using hqr)
                have hG3 : w.grownBy ((wb.setCell ⟨q, 1, none⟩ (.int .i64 ((pi : Int) + 1 + 1))).setCell ⟨q, 2, none⟩ (.int .i64 ((left : Int) - 1 - (acc.length : Int)))) (some q) := ygrown_set hG2 _ _
                have hsl3 : Sl ((wb.setCell ⟨q, 1, none⟩ (.int .i64 ((pi : Int) + 1 + 1))).setCell ⟨q, 2, none⟩ (.int .i64 ((left : Int) - 1 - (acc.length : Int)))) (.slice ao5 acc.length ca5) acc := Sl.of_owns (ownsRow_setCell_other ho2 (by simpa using hoq) _)
                have hcv := yconv_any _ _ acc hsl3
                rw [hA.out] at hcv hR3 hZ3 hG3 ⊢
                have hlA : Hid (acc.length ≤ 140737488355328) := by show _ ≤ _; omega
                obtain ⟨S, hS⟩ : ∃ S, Hid (bstr acc = S) := ⟨_, rfl⟩
                rw [hS.out] at hcv
                clear hob hsl ho2 hsl3 hR2 hZ2 hG2
                obtain ⟨c0, c1, c2, c3, c4⟩ := hZ3.c
                have f0 := hZ3.f 0
                have f1 := hZ3.f 1
                have f2 := hZ3.f 2
                have f3 := hZ3.f 3
                have f4 := hZ3.f 4
                have hrd := ypt_reads hZ3 (.int .i64 5) (.int .i64 0) (.float .f64 0) (.string S) (.slice none 0 0)
                have hgf : Hid (w.grownBy (ypt ((wb.setCell ⟨q, 1, none⟩ (.int .i64 ((pi : Int) + 1 + 1))).setCell ⟨q, 2, none⟩ (.int .i64 ((left : Int) - 1 - (A : Int)))) r (.int .i64 5) (.int .i64 0) (.float .f64 0) (.string S) (.slice none 0 0)) (some q)) := ypt_grown hG3 hrs _ _ _ _ _
                have hrf : Hid (Rg (ypt ((wb.setCell ⟨q, 1, none⟩ (.int .i64 ((pi : Int) + 1 + 1))).setCell ⟨q, 2, none⟩ (.int .i64 ((left : Int) - 1 - (A : Int)))) r (.int .i64 5) (.int .i64 0) (.float .f64 0) (.string S) (.slice none 0 0)) base q b (pi + 2) (left - 1 - A) 0) := Rg.other hR3 (ypt_block _ _ _ _ _ _ _) (by simpa using fun e => hqr e.symm) (fun k hk => by simp at hk; omega)
                replace hrd : Hid _ := hrd
                go_wp2_with fail
                show bodyPost _ _ _ _ _ (ypt ((wb.setCell ⟨q, 1, none⟩ (.int .i64 ((pi : Int) + 1 + 1))).setCell ⟨q, 2, none⟩ (.int .i64 ((left : Int) - 1 - (A : Int)))) r (.int .i64 5) (.int .i64 0) (.float .f64 0) (.string S) (.slice none 0 0))
                obtain ⟨w5, hw5⟩ : ∃ w5, Hid ((ypt ((wb.setCell ⟨q, 1, none⟩ (.int .i64 ((pi : Int) + 1 + 1))).setCell ⟨q, 2, none⟩ (.int .i64 ((left : Int) - 1 - (A : Int)))) r (.int .i64 5) (.int .i64 0) (.float .f64 0) (.string S) (.slice none 0 0)) = w5) := ⟨_, rfl⟩
                rw [hw5.out] at hrd hgf hrf ⊢
                obtain ⟨k0, k1, k2, k3, k4⟩ := hrd.out
                refine bodyPost_ret (by simp [results, Tryz.results61, go_sem, k0, k1, k2, k3, k4]; rfl) rfl ?_
                refine ⟨.agg #[.int .i64 5, .int .i64 0, .float .f64 0, .string S, .slice none 0 0], rfl, ?_, hgf.out⟩
                show ite _ _ _
                rw [hA.out, if_neg hlo, hS.out]
                exact ⟨rfl, hrf.out, rfl, by rw [← hA.out]; exact hlA.out⟩
            · have hd1' : d ≠ 1 := by rintro rfl; exact hd1 (by rw [← hD.out]; rfl)
              have hz1 : ((D : Int) == 1) = false := by simp; omega
              have hTf : T = .form (pi + 1) := by rw [← hTd.out, if_neg hdd, if_neg hd1']
              subst hTf
              have hfl : Hid (Calls Tryz.prog 60 #[.pointer (some ⟨q, 0, none⟩), .int .i64 ((pi : Int) + 1), .int .i64 4] wb fun e w' => e = .returned zeroA ∧ Rg w' base q b (pi + 1) left 4 ∧ wb.grownBy w' (some q)) := yfail_any wb base q b _ left (pi + 1) 4 hRb.out (by rw [hN.out]; omega)
              replace hd1 : Hid (D ≠ 1) := hd1
              clear hob
              go_wp2_with fail
              refine hfl.out.mono ?_
              rintro e w2 ⟨rfl, hr2, hg2⟩
              have hg3 : w.grownBy w2 (some q) := grown_trans hGb.out hg2
              have hz3 : Z5 w2 r := hZb.out.grown hg2 (by simpa using hqr)
              unfold zeroA
              clear hfl hg2
              obtain ⟨c0, c1, c2, c3, c4⟩ := hz3.c
              have f0 := hz3.f 0
              have f1 := hz3.f 1
              have f2 := hz3.f 2
              have f3 := hz3.f 3
              have f4 := hz3.f 4
              have hrd := ypt_reads hz3 (.int .i64 0) (.int .i64 0) (.float .f64 0) (.string ⟨#[]⟩) (.slice none 0 0)
              have hgf : Hid (w.grownBy (ypt w2 r (.int .i64 0) (.int .i64 0) (.float .f64 0) (.string ⟨#[]⟩) (.slice none 0 0)) (some q)) := ypt_grown hg3 hrs _ _ _ _ _
              have hrf : Hid (Rg (ypt w2 r (.int .i64 0) (.int .i64 0) (.float .f64 0) (.string ⟨#[]⟩) (.slice none 0 0)) base q b (pi + 1) left 4) := Rg.other hr2 (ypt_block _ _ _ _ _ _ _) (by simpa using fun e => hqr e.symm) (fun k hk => by simp at hk; omega)
              replace hrd : Hid _ := hrd
              go_wp2_with fail
              show bodyPost _ _ _ _ _ (ypt w2 r (.int .i64 0) (.int .i64 0) (.float .f64 0) (.string ⟨#[]⟩) (.slice none 0 0))
              obtain ⟨w5, hw5⟩ : ∃ w5, Hid ((ypt w2 r (.int .i64 0) (.int .i64 0) (.float .f64 0) (.string ⟨#[]⟩) (.slice none 0 0)) = w5) := ⟨_, rfl⟩
              rw [hw5.out] at hrd hgf hrf ⊢
              obtain ⟨k0, k1, k2, k3, k4⟩ := hrd.out
              refine bodyPost_ret (by simp [results, Tryz.results61, go_sem, k0, k1, k2, k3, k4]; rfl) rfl ?_
              exact ⟨zeroA, rfl, ⟨rfl, hrf.out⟩, hgf.out⟩
      · have hcne : c ≠ 0 := by rintro rfl; exact hc0 (by rw [← hC.out]; rfl)
        have hTn : Hid (rdT (b.drop (pi + 1)) (pi + 1) (acc ++ [c]) = T) := by
          have := hTi.out
          rwa [hdr.out, rdT_ne hcne] at this
        have hcz : ((C : Int) != 0) = true := by simp; omega
        have hh1 : ∀ u ∈ [Value.int .u8 (C : Int)], u.oneCell' = true := by simp [Value.oneCell']
        have hh2 : acc.length + 1 ≤ maxLen := by unfold maxLen; omega
        have hh3 : (acc.length + 1) * 1 ≤ 140737488355328 := by omega
        go_wp2_with (at_builtin; refine wpList_append_own _ rfl (.tmp 37) (.tmp 39) 40 rfl w.heap.size 5 i0 (.int .u8 0) 1 1 Tryz.underlying40 hif hi0 hi1 hi2 rfl (by decide) _ _ _ rfl (ho1.alloc _) ⟨wa.heap.size, 0, none⟩ 1 1 [.int .u8 (C : Int)] rfl rfl (by simpa using cell_one_new (wa.setCell ⟨q, 1, none⟩ (.int .i64 ((pi : Int) + 1))) _ _) hh1 hh2 hh3 (by simp at hws ⊢; omega) ?_)
        intro v3 w3 ho3 hg3 _
        have hRb : Hid (Rg w3 base q b (pi + 1) left 0) := (hR1.out.below (box_below _ _)).other hg3 hoq (fun k hk => by have := (ho1.lt k hk).1; omega)
        have hnr : u5.ownBlock ≠ some r := yown_ne ho1 hZ1.out (by decide)
        have hZb : Hid (Z5 w3 r) := (hZ1.out.grown (ygrown_alloc (ygrown_refl _ none) _) (by simp)).grown hg3 hnr
        have hGb : Hid (w.grownBy w3 (some q)) := ygrown_row (ygrown_alloc hG1.out _) hg3 (fun k hk => (ho1.lt k hk).1)
        have hob : Hid (w3.ownsRow w.heap.size 5 1 v3 (acc ++ [c]).length (bvals (acc ++ [c]))) := by
          show World.ownsRow _ _ _ _ _ _ _
          have h8 : Value.int .u8 (C : Int) = bval c := by rw [← hC.out]; rfl
          rw [h8, bvals_one] at ho3
          simpa using ho3
        obtain ⟨_, _, _, m1, _⟩ := hRb.out.c
        have hle : (acc ++ [c]).length ≤ pi + 1 := by rw [List.length_append]; simpa using hacc
        clear ho1 ho3 hg3 hR1 hZ1 hG1 hRa hZa hGa
        go_wp2_with fail
        go_roundw
        case rel => exact ⟨pi + 1, acc ++ [c], by omega, hle, hTn, hRb, hZb, hGb, hob.out⟩
        case measure => simp only [hm0, m1, intOf, Int.toNat_natCast]; exact (by omega : N - (pi + 1) < N - pi)
#print axioms ytext_any
end Go.Proofs.YtpfnkkkfekhngaaGreatDoor.Va
