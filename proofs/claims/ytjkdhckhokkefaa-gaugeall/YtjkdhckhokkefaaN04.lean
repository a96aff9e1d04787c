/-
  The document's Put. (gen_GrB.py)
-/
import Derived.Test.YtjkdhckhokkefaaN03
namespace Go.Proofs.Ytjkdhckhokkefaa.Gg
open Go.RowKit Rl
set_option linter.unusedVariables false
set_option maxRecDepth 100000
/-- The least and the greatest are numbers. -/
def Nn (l : L) : Prop := nanB l.lo = false ∧ nanB l.hi = false
theorem key_nanc : keyB 9221120237041090561 = 18446744073709551615 := by decide +kernel
theorem key_le {b : Nat} (hb : b < 18446744073709551616) : keyB b ≤ 18446744073709551615 := by
  unfold keyB
  split
  · omega
  · split <;> omega
theorem key_num {b : Nat} (hb : b < 18446744073709551616) (h : nanB b = false) : keyB b < 18446744073709551615 := by
  have h1 := keyB_nan b hb
  have h2 := key_le hb
  rw [h] at h1
  rcases Nat.lt_or_eq_of_le h2 with q | q
  · exact q
  · exact absurd (h1.1 q) (by simp)
theorem min_num {a b : Nat} (ha : a < 18446744073709551616) (hn : nanB a = false) : minB [a, b] = if cmpB b a < 0 then b else a := by
  rw [min_pair]
  have : minStep 9221120237041090561 a = a := by
    unfold minStep
    rw [if_pos ((cmpB_neg _ _).2 (by rw [key_nanc]; exact key_num ha hn))]
  rw [this]
  rfl
theorem max_num {a b : Nat} (hn : nanB a = false) (hb : nanB b = false) : maxB [a, b] = if 0 < cmpB b a then b else a := by
  rw [max_pair]
  have : maxStep 9221120237041090561 a = a := by
    unfold maxStep
    rw [hn, nan_c]
    rfl
  rw [this]
  unfold maxStep
  rw [hb, hn]
  simp
theorem ends_num {l : L} {x : Nat} (h : Nn l) (h1 : l.lo < 18446744073709551616) (hx : nanB x = false) : endsF l ⟨1, 0, x, x, 0⟩ = if l.n = 0 then (x, x) else (if cmpB x l.lo < 0 then x else l.lo, if 0 < cmpB x l.hi then x else l.hi) := by
  unfold endsF
  simp only
  rw [min_num h1 h.1, max_num h.2 hx]
  split
  · rfl
  · rw [if_neg (by omega)]
theorem nn_ends {a b : L} (ha : Nn a) (hb : Nn b) (h1 : a.lo < 18446744073709551616) : nanB (endsF a b).1 = false ∧ nanB (endsF a b).2 = false := by
  unfold endsF
  rw [min_num h1 ha.1, max_num ha.2 hb.2]
  split
  · exact hb
  · split
    · exact ha
    · simp only
      refine ⟨?_, ?_⟩
      · split
        · exact hb.1
        · exact ha.1
      · split
        · exact hb.2
        · exact ha.2
theorem Nn.put {g : G} (h : Nn g.l) (h1 : g.l.lo < 18446744073709551616) (x : Nat) : Nn (putF g x).l := by
  unfold putF
  cases hx : nanB x
  · rw [if_neg (by simp)]
    exact nn_ends h ⟨hx, hx⟩ h1
  · rw [if_pos rfl]
    exact h
theorem Nn.merge {g o : G} (h : Nn g.l) (k : Nn o.l) (h1 : g.l.lo < 18446744073709551616) : Nn (mgF g o).l := nn_ends h k h1
theorem nn0 (l : List Nat) : Nn (g0 l).l := ⟨show nanB 0 = false by decide, show nanB 0 = false by decide⟩
theorem cmpB_pos (a b : Nat) : 0 < cmpB a b ↔ keyB b < keyB a := by
  unfold cmpB cmpZ
  split
  · constructor <;> intro <;> omega
  · split <;> (constructor <;> intro <;> omega)
set_option maxHeartbeats 2000000 in
theorem rput_any (w : World) (b : Nat) (g : G) (vb vc : Value) (M : Int) (x : Nat) (h : At 66 w b g vb vc) (ok : Ok M g) (nn : Nn g.l) (hM : M ≤ 1000000000) (hx : x < 18446744073709551616) :
    Calls Try.prog 13 #[.pointer (some ⟨b, 0, none⟩), .float .f64 x] w fun e w' => e = .returned (.tuple #[]) ∧ At 66 w' b (putF g x) vb vc ∧ But (Tur b vc) w w' := by
  have hcl : 0 < g.cs.length := by rw [ok.cl]; omega
  have hn := fun u => refNaN_any u x hx
  have HA := hide h
  obtain ⟨z1, z2⟩ := ok.n
  obtain ⟨z3, z4⟩ := ok.na
  have sf : ∀ (W : World) (a : Addr) (x : Nat), (store a (.float .f64 x)).run Try.prog W = stored Try.prog W a (.float .f64 x) .plain := fun W a x => run_store _ W a _ _ rfl
  cases hnx : nanB x
  · have hix := ix_le g.bs x
    have hil : ixB g.bs x < g.cs.length := by rw [ok.cl]; omega
    have hcv := ok.cs _ (getI_mem hil)
    have hen := ends_num nn ok.lo hnx
    have hp : Hid (putF g x = ⟨g.bs, g.cs.set (ixB g.bs x) (g.cs.getD (ixB g.bs x) 0 + 1), cntF g.l x⟩) := hide (by unfold putF; rw [if_neg (by simp [hnx])])
    obtain ⟨cb, ca, rfl, p1, p2⟩ := Iw.form h.rc hcl
    obtain ⟨ao, cab, rfl, q1, hrd⟩ := Fw.reads h.rb
    have HRD := hide hrd
    obtain ⟨c0, c1, c2, c3, c4, c5, c6⟩ := h.cells
    have HC := hide (h.cell _ hil)
    have hfr := hide (h.cfrozen (ixB g.bs x))
    have HLo := hide (ix_low g.bs x)
    have HAt := hide (ix_at g.bs x)
    have HBd := hide (fun j (hj : j < g.bs.length) => ok.bs _ (getD_mem hj))
    have hb64 := ok.len
    have hC1 := fun u => refCompare_any u x g.l.lo hx ok.lo
    have hC2 := fun u => refCompare_any u x g.l.hi hx ok.hi
    rw [hnx] at hn
    rw [hp.out]
    obtain ⟨i0, hi0⟩ : ∃ i, Hid (ixB g.bs x = i) := ⟨_, rfl⟩
    obtain ⟨N, hN⟩ : ∃ N, Hid (g.bs.length = N) := ⟨_, rfl⟩
    obtain ⟨K, hK⟩ : ∃ K, Hid (g.cs.length = K) := ⟨_, rfl⟩
    obtain ⟨cv, hcvv⟩ : ∃ cv, Hid (g.cs.getD (ixB g.bs x) 0 = cv) := ⟨_, rfl⟩
    rw [hcvv.out] at hcv HC ⊢
    rw [hi0.out] at HC hfr HLo HAt hix hil ⊢
    rw [hN.out] at hix HRD HAt HBd c0 hb64 HA h
    rw [hK.out] at hil c1 p2 HA h
    rw [hN.out, hK.out]
    have F5 := hide (h.cset (by decide) i0 (cv + 1))
    have F5b : Hid (But (Tur b (.slice (some ⟨cb, 0, none⟩) K ca)) w (w.setCell ⟨cb, i0, none⟩ (.int .i64 (cv + 1)))) := hide (but_cell _ _ _ _ (.inr rfl))
    have k9 : IntKind.i64.wrap (cv + 1) = cv + 1 := by simp [IntKind.wrap, IntKind.bits, IntKind.signed]; omega
    have k8 : IntKind.i64.wrap (g.l.n + 1) = g.l.n + 1 := by simp [IntKind.wrap, IntKind.bits, IntKind.signed]; omega
    clear ok hp hcl h hcvv hrd
    go_enter Try.func13, Try.ntmps13
    go_wp2_with (go_at_call 31; refine (hn _).mono ?_; rintro e w' ⟨rfl, hw⟩; rw [hw]; clear hw w')
    go_loopw [4] (fun v4 wr => ∃ i : Nat, i ≤ i0 ∧ v4 = .int .i64 (i : Int) ∧ wr = w) (fun v _ => i0 - (intOf v).toNat)
    case atStart => exact ⟨0, by omega, rfl, rfl⟩
    case round =>
      obtain ⟨i, hi, rfl, hwr⟩ := hrel
      subst hwr
      by_cases hlt : i < i0
      · have hiN : i < N := by omega
        obtain ⟨bb, rfl, hcx⟩ := HRD.out i hiN
        have hkey := HLo.out i hlt
        have hy := HBd.out i hiN
        obtain ⟨y, hyy⟩ : ∃ y, Hid (g.bs.getD i 0 = y) := ⟨_, rfl⟩
        rw [hyy.out] at hcx hkey hy
        have hcp : 0 < cmpB x y := (cmpB_pos _ _).2 hkey
        have hC := fun u => refCompare_any u x y hx hy
        generalize cmpB x y = z at *
        have j1 : (i : Int) < (N : Int) := by omega
        have j2 : (0 : Int) ≤ (i : Int) := by omega
        go_wp2_with (go_at_call 23; refine (hC _).mono ?_; rintro e w' ⟨rfl, hw⟩; rw [hw]; clear hw w')
        go_roundw
        case rel => exact ⟨i + 1, by omega, by go_num, by trivial⟩
        case measure => simp [intOf]; omega
      · obtain rfl : i = i0 := by omega
        have j2 : (0 : Int) ≤ (i : Int) := by omega
        have j3 : (i : Int) < (K : Int) := by omega
        have hcell := HC.out
        have hfr' := hfr.out
        by_cases hiN : i < N
        · obtain ⟨bb, rfl, hcx⟩ := HRD.out i hiN
          have hkey := HAt.out hiN
          have hy := HBd.out i hiN
          obtain ⟨y, hyy⟩ : ∃ y, Hid (g.bs.getD i 0 = y) := ⟨_, rfl⟩
          rw [hyy.out] at hcx hkey hy
          have hcp : ¬ 0 < cmpB x y := fun h => hkey ((cmpB_pos _ _).1 h)
          have hC := fun u => refCompare_any u x y hx hy
          generalize cmpB x y = z at *
          have j1 : (i : Int) < (N : Int) := by omega
          go_upto_region 6 with (go_at_call 23; refine (hC _).mono ?_; rintro e w' ⟨rfl, hw⟩; rw [hw]; clear hw w')
          clear hcx hC hcp hkey
          clear c0 c1 c2 c3 c4 c5 c6 hcell hfr' hfr HC
          have A := F5
          have B := F5b
          clear F5 F5b
          generalize wr.setCell ⟨cb, i, none⟩ (.int .i64 (cv + 1)) = w5 at *
          (try simp only at A)
          obtain ⟨c0, c1, c2, c3, c4, c5, c6⟩ := A.out.cells
          (try simp only at c0 c1 c2 c3 c4 c5 c6)
          by_cases hn0 : g.l.n = 0
          · have HEN : Hid (endsF g.l ⟨1, 0, x, x, 0⟩ = (x, x)) := hide (by rw [hen, if_pos hn0])
            clear hen
            have hne : (g.l.n == 0) = true := by simp [hn0]
            replace hn0 := hide hn0
            have y4 := A.out.frozen 4
            have A' := hide (A.out.set4 (by decide) (by decide) x)
            have B' : Hid (But (Tur b (.slice (some ⟨cb, 0, none⟩) K ca)) wr (w5.setCell ⟨b, 4, none⟩ (.float .f64 x))) := hide (B.out.trans (but_cell _ _ _ _ (.inl rfl)))
            go_upto_region 8 with fail
            clear c0 c1 c2 c3 c4 c5 c6 y4 A B
            have A := A'
            have B := B'
            clear A' B'
            generalize w5.setCell ⟨b, 4, none⟩ (.float .f64 x) = w6 at *
            (try simp only at A)
            obtain ⟨c0, c1, c2, c3, c4, c5, c6⟩ := A.out.cells
            (try simp only at c0 c1 c2 c3 c4 c5 c6)
            have y5 := A.out.frozen 5
            have A' := hide (A.out.set5 (by decide) (by decide) x)
            have B' : Hid (But (Tur b (.slice (some ⟨cb, 0, none⟩) K ca)) wr (w6.setCell ⟨b, 5, none⟩ (.float .f64 x))) := hide (B.out.trans (but_cell _ _ _ _ (.inl rfl)))
            go_upto_region 10 with fail
            clear c0 c1 c2 c3 c4 c5 c6 y5 A B
            have A := A'
            have B := B'
            clear A' B'
            generalize w6.setCell ⟨b, 5, none⟩ (.float .f64 x) = w7 at *
            (try simp only at A)
            obtain ⟨c0, c1, c2, c3, c4, c5, c6⟩ := A.out.cells
            (try simp only at c0 c1 c2 c3 c4 c5 c6)
            have y2 := A.out.frozen 2
            have A' := hide (A.out.set2 (by decide) (by decide) (g.l.n + 1))
            have B' : Hid (But (Tur b (.slice (some ⟨cb, 0, none⟩) K ca)) wr (w7.setCell ⟨b, 2, none⟩ (.int .i64 (g.l.n + 1)))) := hide (B.out.trans (but_cell _ _ _ _ (.inl rfl)))
            go_upto_region 11 with fail
            clear c0 c1 c2 c3 c4 c5 c6 y2 A B
            have A := A'
            have B := B'
            clear A' B'
            generalize w7.setCell ⟨b, 2, none⟩ (.int .i64 (g.l.n + 1)) = w8 at *
            (try simp only at A)
            obtain ⟨c0, c1, c2, c3, c4, c5, c6⟩ := A.out.cells
            (try simp only at c0 c1 c2 c3 c4 c5 c6)
            obtain ⟨d, n1, e1, i1⟩ := sub2 x g.l.me w8
            obtain ⟨m, n2, e2, i2⟩ := div2 d (nfB (g.l.n + 1)) (w8.drewN n1)
            rw [World.drewN_drewN] at e2
            obtain ⟨s, n3, e3, i3⟩ := add2 g.l.me m (w8.drewN (n1 + n2))
            rw [World.drewN_drewN] at e3
            have hcvt := conv_f (g.l.n + 1)
            have hD := fun u => refCanon_any u s i3.lt
            have hs : Hid (canonB s = meF g.l.me x (g.l.n + 1)) := hide (i3.add (i2.div i1))
            rw [hs.out] at hD
            clear i1 i2 i3
            have A' := A.out.below (below_drewN (Below.refl _ _) (n1 + n2 + n3))
            have y6 := A'.frozen 6
            have FIN := hide (A'.set6 (by decide) (by decide) (meF g.l.me x (g.l.n + 1)))
            have FB : Hid (But (Tur b (.slice (some ⟨cb, 0, none⟩) K ca)) wr ((w8.drewN (n1 + n2 + n3)).setCell ⟨b, 6, none⟩ (.float .f64 (meF g.l.me x (g.l.n + 1))))) := hide ((B.out.trans (But.of_below (below_drewN (Below.refl _ _) (n1 + n2 + n3)) _)).trans (but_cell _ _ _ _ (.inl rfl)))
            obtain ⟨a0, a1, a2, a3, a4, a5, a6⟩ := A'.cells
            (try simp only at a0 a1 a2 a3 a4 a5 a6)
            (try simp only at FIN)
            clear A' A B
            go_wp2_with (go_at_call 37; refine (hD _).mono ?_; rintro e w' ⟨rfl, hw⟩; rw [hw]; clear hw w')
            go_end0
            have e9 : cntF g.l x = ⟨g.l.n + 1, g.l.na, x, x, meF g.l.me x (g.l.n + 1)⟩ := by unfold cntF; rw [HEN.out]
            rw [e9]
            exact ⟨rfl, FIN.out, FB.out⟩
          · have hne : (g.l.n == 0) = false := by simp [hn0]
            by_cases hc1 : cmpB x g.l.lo < 0
            · by_cases hc2 : 0 < cmpB x g.l.hi
              · have HEN : Hid (endsF g.l ⟨1, 0, x, x, 0⟩ = (x, x)) := hide (by rw [hen, if_neg hn0, if_pos hc1, if_pos hc2])
                clear hen
                obtain ⟨s1, hs1⟩ : ∃ s, Hid (cmpB x g.l.lo = s) := ⟨_, rfl⟩
                rw [hs1.out] at hC1 hc1
                obtain ⟨s2, hs2⟩ : ∃ s, Hid (cmpB x g.l.hi = s) := ⟨_, rfl⟩
                rw [hs2.out] at hC2 hc2
                clear hs1 hs2
                have y4 := A.out.frozen 4
                have A' := hide (A.out.set4 (by decide) (by decide) x)
                have B' : Hid (But (Tur b (.slice (some ⟨cb, 0, none⟩) K ca)) wr (w5.setCell ⟨b, 4, none⟩ (.float .f64 x))) := hide (B.out.trans (but_cell _ _ _ _ (.inl rfl)))
                go_upto_region 8 with (go_at_call 23; refine (hC1 _).mono ?_; rintro e w' ⟨rfl, hw⟩; rw [hw]; clear hw w')
                clear c0 c1 c2 c3 c4 c5 c6 y4 A B
                have A := A'
                have B := B'
                clear A' B'
                generalize w5.setCell ⟨b, 4, none⟩ (.float .f64 x) = w6 at *
                (try simp only at A)
                obtain ⟨c0, c1, c2, c3, c4, c5, c6⟩ := A.out.cells
                (try simp only at c0 c1 c2 c3 c4 c5 c6)
                have y5 := A.out.frozen 5
                have A' := hide (A.out.set5 (by decide) (by decide) x)
                have B' : Hid (But (Tur b (.slice (some ⟨cb, 0, none⟩) K ca)) wr (w6.setCell ⟨b, 5, none⟩ (.float .f64 x))) := hide (B.out.trans (but_cell _ _ _ _ (.inl rfl)))
                go_upto_region 10 with (go_at_call 23; refine (hC2 _).mono ?_; rintro e w' ⟨rfl, hw⟩; rw [hw]; clear hw w')
                clear c0 c1 c2 c3 c4 c5 c6 y5 A B
                have A := A'
                have B := B'
                clear A' B'
                generalize w6.setCell ⟨b, 5, none⟩ (.float .f64 x) = w7 at *
                (try simp only at A)
                obtain ⟨c0, c1, c2, c3, c4, c5, c6⟩ := A.out.cells
                (try simp only at c0 c1 c2 c3 c4 c5 c6)
                have y2 := A.out.frozen 2
                have A' := hide (A.out.set2 (by decide) (by decide) (g.l.n + 1))
                have B' : Hid (But (Tur b (.slice (some ⟨cb, 0, none⟩) K ca)) wr (w7.setCell ⟨b, 2, none⟩ (.int .i64 (g.l.n + 1)))) := hide (B.out.trans (but_cell _ _ _ _ (.inl rfl)))
                go_upto_region 11 with fail
                clear c0 c1 c2 c3 c4 c5 c6 y2 A B
                have A := A'
                have B := B'
                clear A' B'
                generalize w7.setCell ⟨b, 2, none⟩ (.int .i64 (g.l.n + 1)) = w8 at *
                (try simp only at A)
                obtain ⟨c0, c1, c2, c3, c4, c5, c6⟩ := A.out.cells
                (try simp only at c0 c1 c2 c3 c4 c5 c6)
                obtain ⟨d, n1, e1, i1⟩ := sub2 x g.l.me w8
                obtain ⟨m, n2, e2, i2⟩ := div2 d (nfB (g.l.n + 1)) (w8.drewN n1)
                rw [World.drewN_drewN] at e2
                obtain ⟨s, n3, e3, i3⟩ := add2 g.l.me m (w8.drewN (n1 + n2))
                rw [World.drewN_drewN] at e3
                have hcvt := conv_f (g.l.n + 1)
                have hD := fun u => refCanon_any u s i3.lt
                have hs : Hid (canonB s = meF g.l.me x (g.l.n + 1)) := hide (i3.add (i2.div i1))
                rw [hs.out] at hD
                clear i1 i2 i3
                have A' := A.out.below (below_drewN (Below.refl _ _) (n1 + n2 + n3))
                have y6 := A'.frozen 6
                have FIN := hide (A'.set6 (by decide) (by decide) (meF g.l.me x (g.l.n + 1)))
                have FB : Hid (But (Tur b (.slice (some ⟨cb, 0, none⟩) K ca)) wr ((w8.drewN (n1 + n2 + n3)).setCell ⟨b, 6, none⟩ (.float .f64 (meF g.l.me x (g.l.n + 1))))) := hide ((B.out.trans (But.of_below (below_drewN (Below.refl _ _) (n1 + n2 + n3)) _)).trans (but_cell _ _ _ _ (.inl rfl)))
                obtain ⟨a0, a1, a2, a3, a4, a5, a6⟩ := A'.cells
                (try simp only at a0 a1 a2 a3 a4 a5 a6)
                (try simp only at FIN)
                clear A' A B
                go_wp2_with (go_at_call 37; refine (hD _).mono ?_; rintro e w' ⟨rfl, hw⟩; rw [hw]; clear hw w')
                go_end0
                have e9 : cntF g.l x = ⟨g.l.n + 1, g.l.na, x, x, meF g.l.me x (g.l.n + 1)⟩ := by unfold cntF; rw [HEN.out]
                rw [e9]
                exact ⟨rfl, FIN.out, FB.out⟩
              · have HEN : Hid (endsF g.l ⟨1, 0, x, x, 0⟩ = (x, g.l.hi)) := hide (by rw [hen, if_neg hn0, if_pos hc1, if_neg hc2])
                clear hen
                obtain ⟨s1, hs1⟩ : ∃ s, Hid (cmpB x g.l.lo = s) := ⟨_, rfl⟩
                rw [hs1.out] at hC1 hc1
                obtain ⟨s2, hs2⟩ : ∃ s, Hid (cmpB x g.l.hi = s) := ⟨_, rfl⟩
                rw [hs2.out] at hC2 hc2
                clear hs1 hs2
                have y4 := A.out.frozen 4
                have A' := hide (A.out.set4 (by decide) (by decide) x)
                have B' : Hid (But (Tur b (.slice (some ⟨cb, 0, none⟩) K ca)) wr (w5.setCell ⟨b, 4, none⟩ (.float .f64 x))) := hide (B.out.trans (but_cell _ _ _ _ (.inl rfl)))
                go_upto_region 8 with (go_at_call 23; refine (hC1 _).mono ?_; rintro e w' ⟨rfl, hw⟩; rw [hw]; clear hw w')
                clear c0 c1 c2 c3 c4 c5 c6 y4 A B
                have A := A'
                have B := B'
                clear A' B'
                generalize w5.setCell ⟨b, 4, none⟩ (.float .f64 x) = w6 at *
                (try simp only at A)
                obtain ⟨c0, c1, c2, c3, c4, c5, c6⟩ := A.out.cells
                (try simp only at c0 c1 c2 c3 c4 c5 c6)
                go_upto_region 10 with (go_at_call 23; refine (hC2 _).mono ?_; rintro e w' ⟨rfl, hw⟩; rw [hw]; clear hw w')
                have y2 := A.out.frozen 2
                have A' := hide (A.out.set2 (by decide) (by decide) (g.l.n + 1))
                have B' : Hid (But (Tur b (.slice (some ⟨cb, 0, none⟩) K ca)) wr (w6.setCell ⟨b, 2, none⟩ (.int .i64 (g.l.n + 1)))) := hide (B.out.trans (but_cell _ _ _ _ (.inl rfl)))
                go_upto_region 11 with fail
                clear c0 c1 c2 c3 c4 c5 c6 y2 A B
                have A := A'
                have B := B'
                clear A' B'
                generalize w6.setCell ⟨b, 2, none⟩ (.int .i64 (g.l.n + 1)) = w8 at *
                (try simp only at A)
                obtain ⟨c0, c1, c2, c3, c4, c5, c6⟩ := A.out.cells
                (try simp only at c0 c1 c2 c3 c4 c5 c6)
                obtain ⟨d, n1, e1, i1⟩ := sub2 x g.l.me w8
                obtain ⟨m, n2, e2, i2⟩ := div2 d (nfB (g.l.n + 1)) (w8.drewN n1)
                rw [World.drewN_drewN] at e2
                obtain ⟨s, n3, e3, i3⟩ := add2 g.l.me m (w8.drewN (n1 + n2))
                rw [World.drewN_drewN] at e3
                have hcvt := conv_f (g.l.n + 1)
                have hD := fun u => refCanon_any u s i3.lt
                have hs : Hid (canonB s = meF g.l.me x (g.l.n + 1)) := hide (i3.add (i2.div i1))
                rw [hs.out] at hD
                clear i1 i2 i3
                have A' := A.out.below (below_drewN (Below.refl _ _) (n1 + n2 + n3))
                have y6 := A'.frozen 6
                have FIN := hide (A'.set6 (by decide) (by decide) (meF g.l.me x (g.l.n + 1)))
                have FB : Hid (But (Tur b (.slice (some ⟨cb, 0, none⟩) K ca)) wr ((w8.drewN (n1 + n2 + n3)).setCell ⟨b, 6, none⟩ (.float .f64 (meF g.l.me x (g.l.n + 1))))) := hide ((B.out.trans (But.of_below (below_drewN (Below.refl _ _) (n1 + n2 + n3)) _)).trans (but_cell _ _ _ _ (.inl rfl)))
                obtain ⟨a0, a1, a2, a3, a4, a5, a6⟩ := A'.cells
                (try simp only at a0 a1 a2 a3 a4 a5 a6)
                (try simp only at FIN)
                clear A' A B
                go_wp2_with (go_at_call 37; refine (hD _).mono ?_; rintro e w' ⟨rfl, hw⟩; rw [hw]; clear hw w')
                go_end0
                have e9 : cntF g.l x = ⟨g.l.n + 1, g.l.na, x, g.l.hi, meF g.l.me x (g.l.n + 1)⟩ := by unfold cntF; rw [HEN.out]
                rw [e9]
                exact ⟨rfl, FIN.out, FB.out⟩
            · by_cases hc2 : 0 < cmpB x g.l.hi
              · have HEN : Hid (endsF g.l ⟨1, 0, x, x, 0⟩ = (g.l.lo, x)) := hide (by rw [hen, if_neg hn0, if_neg hc1, if_pos hc2])
                clear hen
                obtain ⟨s1, hs1⟩ : ∃ s, Hid (cmpB x g.l.lo = s) := ⟨_, rfl⟩
                rw [hs1.out] at hC1 hc1
                obtain ⟨s2, hs2⟩ : ∃ s, Hid (cmpB x g.l.hi = s) := ⟨_, rfl⟩
                rw [hs2.out] at hC2 hc2
                clear hs1 hs2
                go_upto_region 8 with (go_at_call 23; refine (hC1 _).mono ?_; rintro e w' ⟨rfl, hw⟩; rw [hw]; clear hw w')
                have y5 := A.out.frozen 5
                have A' := hide (A.out.set5 (by decide) (by decide) x)
                have B' : Hid (But (Tur b (.slice (some ⟨cb, 0, none⟩) K ca)) wr (w5.setCell ⟨b, 5, none⟩ (.float .f64 x))) := hide (B.out.trans (but_cell _ _ _ _ (.inl rfl)))
                go_upto_region 10 with (go_at_call 23; refine (hC2 _).mono ?_; rintro e w' ⟨rfl, hw⟩; rw [hw]; clear hw w')
                clear c0 c1 c2 c3 c4 c5 c6 y5 A B
                have A := A'
                have B := B'
                clear A' B'
                generalize w5.setCell ⟨b, 5, none⟩ (.float .f64 x) = w7 at *
                (try simp only at A)
                obtain ⟨c0, c1, c2, c3, c4, c5, c6⟩ := A.out.cells
                (try simp only at c0 c1 c2 c3 c4 c5 c6)
                have y2 := A.out.frozen 2
                have A' := hide (A.out.set2 (by decide) (by decide) (g.l.n + 1))
                have B' : Hid (But (Tur b (.slice (some ⟨cb, 0, none⟩) K ca)) wr (w7.setCell ⟨b, 2, none⟩ (.int .i64 (g.l.n + 1)))) := hide (B.out.trans (but_cell _ _ _ _ (.inl rfl)))
                go_upto_region 11 with fail
                clear c0 c1 c2 c3 c4 c5 c6 y2 A B
                have A := A'
                have B := B'
                clear A' B'
                generalize w7.setCell ⟨b, 2, none⟩ (.int .i64 (g.l.n + 1)) = w8 at *
                (try simp only at A)
                obtain ⟨c0, c1, c2, c3, c4, c5, c6⟩ := A.out.cells
                (try simp only at c0 c1 c2 c3 c4 c5 c6)
                obtain ⟨d, n1, e1, i1⟩ := sub2 x g.l.me w8
                obtain ⟨m, n2, e2, i2⟩ := div2 d (nfB (g.l.n + 1)) (w8.drewN n1)
                rw [World.drewN_drewN] at e2
                obtain ⟨s, n3, e3, i3⟩ := add2 g.l.me m (w8.drewN (n1 + n2))
                rw [World.drewN_drewN] at e3
                have hcvt := conv_f (g.l.n + 1)
                have hD := fun u => refCanon_any u s i3.lt
                have hs : Hid (canonB s = meF g.l.me x (g.l.n + 1)) := hide (i3.add (i2.div i1))
                rw [hs.out] at hD
                clear i1 i2 i3
                have A' := A.out.below (below_drewN (Below.refl _ _) (n1 + n2 + n3))
                have y6 := A'.frozen 6
                have FIN := hide (A'.set6 (by decide) (by decide) (meF g.l.me x (g.l.n + 1)))
                have FB : Hid (But (Tur b (.slice (some ⟨cb, 0, none⟩) K ca)) wr ((w8.drewN (n1 + n2 + n3)).setCell ⟨b, 6, none⟩ (.float .f64 (meF g.l.me x (g.l.n + 1))))) := hide ((B.out.trans (But.of_below (below_drewN (Below.refl _ _) (n1 + n2 + n3)) _)).trans (but_cell _ _ _ _ (.inl rfl)))
                obtain ⟨a0, a1, a2, a3, a4, a5, a6⟩ := A'.cells
                (try simp only at a0 a1 a2 a3 a4 a5 a6)
                (try simp only at FIN)
                clear A' A B
                go_wp2_with (go_at_call 37; refine (hD _).mono ?_; rintro e w' ⟨rfl, hw⟩; rw [hw]; clear hw w')
                go_end0
                have e9 : cntF g.l x = ⟨g.l.n + 1, g.l.na, g.l.lo, x, meF g.l.me x (g.l.n + 1)⟩ := by unfold cntF; rw [HEN.out]
                rw [e9]
                exact ⟨rfl, FIN.out, FB.out⟩
              · have HEN : Hid (endsF g.l ⟨1, 0, x, x, 0⟩ = (g.l.lo, g.l.hi)) := hide (by rw [hen, if_neg hn0, if_neg hc1, if_neg hc2])
                clear hen
                obtain ⟨s1, hs1⟩ : ∃ s, Hid (cmpB x g.l.lo = s) := ⟨_, rfl⟩
                rw [hs1.out] at hC1 hc1
                obtain ⟨s2, hs2⟩ : ∃ s, Hid (cmpB x g.l.hi = s) := ⟨_, rfl⟩
                rw [hs2.out] at hC2 hc2
                clear hs1 hs2
                go_upto_region 8 with (go_at_call 23; refine (hC1 _).mono ?_; rintro e w' ⟨rfl, hw⟩; rw [hw]; clear hw w')
                go_upto_region 10 with (go_at_call 23; refine (hC2 _).mono ?_; rintro e w' ⟨rfl, hw⟩; rw [hw]; clear hw w')
                have y2 := A.out.frozen 2
                have A' := hide (A.out.set2 (by decide) (by decide) (g.l.n + 1))
                have B' : Hid (But (Tur b (.slice (some ⟨cb, 0, none⟩) K ca)) wr (w5.setCell ⟨b, 2, none⟩ (.int .i64 (g.l.n + 1)))) := hide (B.out.trans (but_cell _ _ _ _ (.inl rfl)))
                go_upto_region 11 with fail
                clear c0 c1 c2 c3 c4 c5 c6 y2 A B
                have A := A'
                have B := B'
                clear A' B'
                generalize w5.setCell ⟨b, 2, none⟩ (.int .i64 (g.l.n + 1)) = w8 at *
                (try simp only at A)
                obtain ⟨c0, c1, c2, c3, c4, c5, c6⟩ := A.out.cells
                (try simp only at c0 c1 c2 c3 c4 c5 c6)
                obtain ⟨d, n1, e1, i1⟩ := sub2 x g.l.me w8
                obtain ⟨m, n2, e2, i2⟩ := div2 d (nfB (g.l.n + 1)) (w8.drewN n1)
                rw [World.drewN_drewN] at e2
                obtain ⟨s, n3, e3, i3⟩ := add2 g.l.me m (w8.drewN (n1 + n2))
                rw [World.drewN_drewN] at e3
                have hcvt := conv_f (g.l.n + 1)
                have hD := fun u => refCanon_any u s i3.lt
                have hs : Hid (canonB s = meF g.l.me x (g.l.n + 1)) := hide (i3.add (i2.div i1))
                rw [hs.out] at hD
                clear i1 i2 i3
                have A' := A.out.below (below_drewN (Below.refl _ _) (n1 + n2 + n3))
                have y6 := A'.frozen 6
                have FIN := hide (A'.set6 (by decide) (by decide) (meF g.l.me x (g.l.n + 1)))
                have FB : Hid (But (Tur b (.slice (some ⟨cb, 0, none⟩) K ca)) wr ((w8.drewN (n1 + n2 + n3)).setCell ⟨b, 6, none⟩ (.float .f64 (meF g.l.me x (g.l.n + 1))))) := hide ((B.out.trans (But.of_below (below_drewN (Below.refl _ _) (n1 + n2 + n3)) _)).trans (but_cell _ _ _ _ (.inl rfl)))
                obtain ⟨a0, a1, a2, a3, a4, a5, a6⟩ := A'.cells
                (try simp only at a0 a1 a2 a3 a4 a5 a6)
                (try simp only at FIN)
                clear A' A B
                go_wp2_with (go_at_call 37; refine (hD _).mono ?_; rintro e w' ⟨rfl, hw⟩; rw [hw]; clear hw w')
                go_end0
                have e9 : cntF g.l x = ⟨g.l.n + 1, g.l.na, g.l.lo, g.l.hi, meF g.l.me x (g.l.n + 1)⟩ := by unfold cntF; rw [HEN.out]
                rw [e9]
                exact ⟨rfl, FIN.out, FB.out⟩
        · obtain rfl : i = N := by omega
          go_upto_region 6 with fail
          clear c0 c1 c2 c3 c4 c5 c6 hcell hfr' hfr HC
          have A := F5
          have B := F5b
          clear F5 F5b
          generalize wr.setCell ⟨cb, i, none⟩ (.int .i64 (cv + 1)) = w5 at *
          (try simp only at A)
          obtain ⟨c0, c1, c2, c3, c4, c5, c6⟩ := A.out.cells
          (try simp only at c0 c1 c2 c3 c4 c5 c6)
          by_cases hn0 : g.l.n = 0
          · have HEN : Hid (endsF g.l ⟨1, 0, x, x, 0⟩ = (x, x)) := hide (by rw [hen, if_pos hn0])
            clear hen
            have hne : (g.l.n == 0) = true := by simp [hn0]
            replace hn0 := hide hn0
            have y4 := A.out.frozen 4
            have A' := hide (A.out.set4 (by decide) (by decide) x)
            have B' : Hid (But (Tur b (.slice (some ⟨cb, 0, none⟩) K ca)) wr (w5.setCell ⟨b, 4, none⟩ (.float .f64 x))) := hide (B.out.trans (but_cell _ _ _ _ (.inl rfl)))
            go_upto_region 8 with fail
            clear c0 c1 c2 c3 c4 c5 c6 y4 A B
            have A := A'
            have B := B'
            clear A' B'
            generalize w5.setCell ⟨b, 4, none⟩ (.float .f64 x) = w6 at *
            (try simp only at A)
            obtain ⟨c0, c1, c2, c3, c4, c5, c6⟩ := A.out.cells
            (try simp only at c0 c1 c2 c3 c4 c5 c6)
            have y5 := A.out.frozen 5
            have A' := hide (A.out.set5 (by decide) (by decide) x)
            have B' : Hid (But (Tur b (.slice (some ⟨cb, 0, none⟩) K ca)) wr (w6.setCell ⟨b, 5, none⟩ (.float .f64 x))) := hide (B.out.trans (but_cell _ _ _ _ (.inl rfl)))
            go_upto_region 10 with fail
            clear c0 c1 c2 c3 c4 c5 c6 y5 A B
            have A := A'
            have B := B'
            clear A' B'
            generalize w6.setCell ⟨b, 5, none⟩ (.float .f64 x) = w7 at *
            (try simp only at A)
            obtain ⟨c0, c1, c2, c3, c4, c5, c6⟩ := A.out.cells
            (try simp only at c0 c1 c2 c3 c4 c5 c6)
            have y2 := A.out.frozen 2
            have A' := hide (A.out.set2 (by decide) (by decide) (g.l.n + 1))
            have B' : Hid (But (Tur b (.slice (some ⟨cb, 0, none⟩) K ca)) wr (w7.setCell ⟨b, 2, none⟩ (.int .i64 (g.l.n + 1)))) := hide (B.out.trans (but_cell _ _ _ _ (.inl rfl)))
            go_upto_region 11 with fail
            clear c0 c1 c2 c3 c4 c5 c6 y2 A B
            have A := A'
            have B := B'
            clear A' B'
            generalize w7.setCell ⟨b, 2, none⟩ (.int .i64 (g.l.n + 1)) = w8 at *
            (try simp only at A)
            obtain ⟨c0, c1, c2, c3, c4, c5, c6⟩ := A.out.cells
            (try simp only at c0 c1 c2 c3 c4 c5 c6)
            obtain ⟨d, n1, e1, i1⟩ := sub2 x g.l.me w8
            obtain ⟨m, n2, e2, i2⟩ := div2 d (nfB (g.l.n + 1)) (w8.drewN n1)
            rw [World.drewN_drewN] at e2
            obtain ⟨s, n3, e3, i3⟩ := add2 g.l.me m (w8.drewN (n1 + n2))
            rw [World.drewN_drewN] at e3
            have hcvt := conv_f (g.l.n + 1)
            have hD := fun u => refCanon_any u s i3.lt
            have hs : Hid (canonB s = meF g.l.me x (g.l.n + 1)) := hide (i3.add (i2.div i1))
            rw [hs.out] at hD
            clear i1 i2 i3
            have A' := A.out.below (below_drewN (Below.refl _ _) (n1 + n2 + n3))
            have y6 := A'.frozen 6
            have FIN := hide (A'.set6 (by decide) (by decide) (meF g.l.me x (g.l.n + 1)))
            have FB : Hid (But (Tur b (.slice (some ⟨cb, 0, none⟩) K ca)) wr ((w8.drewN (n1 + n2 + n3)).setCell ⟨b, 6, none⟩ (.float .f64 (meF g.l.me x (g.l.n + 1))))) := hide ((B.out.trans (But.of_below (below_drewN (Below.refl _ _) (n1 + n2 + n3)) _)).trans (but_cell _ _ _ _ (.inl rfl)))
            obtain ⟨a0, a1, a2, a3, a4, a5, a6⟩ := A'.cells
            (try simp only at a0 a1 a2 a3 a4 a5 a6)
            (try simp only at FIN)
            clear A' A B
            go_wp2_with (go_at_call 37; refine (hD _).mono ?_; rintro e w' ⟨rfl, hw⟩; rw [hw]; clear hw w')
            go_end0
            have e9 : cntF g.l x = ⟨g.l.n + 1, g.l.na, x, x, meF g.l.me x (g.l.n + 1)⟩ := by unfold cntF; rw [HEN.out]
            rw [e9]
            exact ⟨rfl, FIN.out, FB.out⟩
          · have hne : (g.l.n == 0) = false := by simp [hn0]
            by_cases hc1 : cmpB x g.l.lo < 0
            · by_cases hc2 : 0 < cmpB x g.l.hi
              · have HEN : Hid (endsF g.l ⟨1, 0, x, x, 0⟩ = (x, x)) := hide (by rw [hen, if_neg hn0, if_pos hc1, if_pos hc2])
                clear hen
                obtain ⟨s1, hs1⟩ : ∃ s, Hid (cmpB x g.l.lo = s) := ⟨_, rfl⟩
                rw [hs1.out] at hC1 hc1
                obtain ⟨s2, hs2⟩ : ∃ s, Hid (cmpB x g.l.hi = s) := ⟨_, rfl⟩
                rw [hs2.out] at hC2 hc2
                clear hs1 hs2
                have y4 := A.out.frozen 4
                have A' := hide (A.out.set4 (by decide) (by decide) x)
                have B' : Hid (But (Tur b (.slice (some ⟨cb, 0, none⟩) K ca)) wr (w5.setCell ⟨b, 4, none⟩ (.float .f64 x))) := hide (B.out.trans (but_cell _ _ _ _ (.inl rfl)))
                go_upto_region 8 with (go_at_call 23; refine (hC1 _).mono ?_; rintro e w' ⟨rfl, hw⟩; rw [hw]; clear hw w')
                clear c0 c1 c2 c3 c4 c5 c6 y4 A B
                have A := A'
                have B := B'
                clear A' B'
                generalize w5.setCell ⟨b, 4, none⟩ (.float .f64 x) = w6 at *
                (try simp only at A)
                obtain ⟨c0, c1, c2, c3, c4, c5, c6⟩ := A.out.cells
                (try simp only at c0 c1 c2 c3 c4 c5 c6)
                have y5 := A.out.frozen 5
                have A' := hide (A.out.set5 (by decide) (by decide) x)
                have B' : Hid (But (Tur b (.slice (some ⟨cb, 0, none⟩) K ca)) wr (w6.setCell ⟨b, 5, none⟩ (.float .f64 x))) := hide (B.out.trans (but_cell _ _ _ _ (.inl rfl)))
                go_upto_region 10 with (go_at_call 23; refine (hC2 _).mono ?_; rintro e w' ⟨rfl, hw⟩; rw [hw]; clear hw w')
                clear c0 c1 c2 c3 c4 c5 c6 y5 A B
                have A := A'
                have B := B'
                clear A' B'
                generalize w6.setCell ⟨b, 5, none⟩ (.float .f64 x) = w7 at *
                (try simp only at A)
                obtain ⟨c0, c1, c2, c3, c4, c5, c6⟩ := A.out.cells
                (try simp only at c0 c1 c2 c3 c4 c5 c6)
                have y2 := A.out.frozen 2
                have A' := hide (A.out.set2 (by decide) (by decide) (g.l.n + 1))
                have B' : Hid (But (Tur b (.slice (some ⟨cb, 0, none⟩) K ca)) wr (w7.setCell ⟨b, 2, none⟩ (.int .i64 (g.l.n + 1)))) := hide (B.out.trans (but_cell _ _ _ _ (.inl rfl)))
                go_upto_region 11 with fail
                clear c0 c1 c2 c3 c4 c5 c6 y2 A B
                have A := A'
                have B := B'
                clear A' B'
                generalize w7.setCell ⟨b, 2, none⟩ (.int .i64 (g.l.n + 1)) = w8 at *
                (try simp only at A)
                obtain ⟨c0, c1, c2, c3, c4, c5, c6⟩ := A.out.cells
                (try simp only at c0 c1 c2 c3 c4 c5 c6)
                obtain ⟨d, n1, e1, i1⟩ := sub2 x g.l.me w8
                obtain ⟨m, n2, e2, i2⟩ := div2 d (nfB (g.l.n + 1)) (w8.drewN n1)
                rw [World.drewN_drewN] at e2
                obtain ⟨s, n3, e3, i3⟩ := add2 g.l.me m (w8.drewN (n1 + n2))
                rw [World.drewN_drewN] at e3
                have hcvt := conv_f (g.l.n + 1)
                have hD := fun u => refCanon_any u s i3.lt
                have hs : Hid (canonB s = meF g.l.me x (g.l.n + 1)) := hide (i3.add (i2.div i1))
                rw [hs.out] at hD
                clear i1 i2 i3
                have A' := A.out.below (below_drewN (Below.refl _ _) (n1 + n2 + n3))
                have y6 := A'.frozen 6
                have FIN := hide (A'.set6 (by decide) (by decide) (meF g.l.me x (g.l.n + 1)))
                have FB : Hid (But (Tur b (.slice (some ⟨cb, 0, none⟩) K ca)) wr ((w8.drewN (n1 + n2 + n3)).setCell ⟨b, 6, none⟩ (.float .f64 (meF g.l.me x (g.l.n + 1))))) := hide ((B.out.trans (But.of_below (below_drewN (Below.refl _ _) (n1 + n2 + n3)) _)).trans (but_cell _ _ _ _ (.inl rfl)))
                obtain ⟨a0, a1, a2, a3, a4, a5, a6⟩ := A'.cells
                (try simp only at a0 a1 a2 a3 a4 a5 a6)
                (try simp only at FIN)
                clear A' A B
                go_wp2_with (go_at_call 37; refine (hD _).mono ?_; rintro e w' ⟨rfl, hw⟩; rw [hw]; clear hw w')
                go_end0
                have e9 : cntF g.l x = ⟨g.l.n + 1, g.l.na, x, x, meF g.l.me x (g.l.n + 1)⟩ := by unfold cntF; rw [HEN.out]
                rw [e9]
                exact ⟨rfl, FIN.out, FB.out⟩
              · have HEN : Hid (endsF g.l ⟨1, 0, x, x, 0⟩ = (x, g.l.hi)) := hide (by rw [hen, if_neg hn0, if_pos hc1, if_neg hc2])
                clear hen
                obtain ⟨s1, hs1⟩ : ∃ s, Hid (cmpB x g.l.lo = s) := ⟨_, rfl⟩
                rw [hs1.out] at hC1 hc1
                obtain ⟨s2, hs2⟩ : ∃ s, Hid (cmpB x g.l.hi = s) := ⟨_, rfl⟩
                rw [hs2.out] at hC2 hc2
                clear hs1 hs2
                have y4 := A.out.frozen 4
                have A' := hide (A.out.set4 (by decide) (by decide) x)
                have B' : Hid (But (Tur b (.slice (some ⟨cb, 0, none⟩) K ca)) wr (w5.setCell ⟨b, 4, none⟩ (.float .f64 x))) := hide (B.out.trans (but_cell _ _ _ _ (.inl rfl)))
                go_upto_region 8 with (go_at_call 23; refine (hC1 _).mono ?_; rintro e w' ⟨rfl, hw⟩; rw [hw]; clear hw w')
                clear c0 c1 c2 c3 c4 c5 c6 y4 A B
                have A := A'
                have B := B'
                clear A' B'
                generalize w5.setCell ⟨b, 4, none⟩ (.float .f64 x) = w6 at *
                (try simp only at A)
                obtain ⟨c0, c1, c2, c3, c4, c5, c6⟩ := A.out.cells
                (try simp only at c0 c1 c2 c3 c4 c5 c6)
                go_upto_region 10 with (go_at_call 23; refine (hC2 _).mono ?_; rintro e w' ⟨rfl, hw⟩; rw [hw]; clear hw w')
                have y2 := A.out.frozen 2
                have A' := hide (A.out.set2 (by decide) (by decide) (g.l.n + 1))
                have B' : Hid (But (Tur b (.slice (some ⟨cb, 0, none⟩) K ca)) wr (w6.setCell ⟨b, 2, none⟩ (.int .i64 (g.l.n + 1)))) := hide (B.out.trans (but_cell _ _ _ _ (.inl rfl)))
                go_upto_region 11 with fail
                clear c0 c1 c2 c3 c4 c5 c6 y2 A B
                have A := A'
                have B := B'
                clear A' B'
                generalize w6.setCell ⟨b, 2, none⟩ (.int .i64 (g.l.n + 1)) = w8 at *
                (try simp only at A)
                obtain ⟨c0, c1, c2, c3, c4, c5, c6⟩ := A.out.cells
                (try simp only at c0 c1 c2 c3 c4 c5 c6)
                obtain ⟨d, n1, e1, i1⟩ := sub2 x g.l.me w8
                obtain ⟨m, n2, e2, i2⟩ := div2 d (nfB (g.l.n + 1)) (w8.drewN n1)
                rw [World.drewN_drewN] at e2
                obtain ⟨s, n3, e3, i3⟩ := add2 g.l.me m (w8.drewN (n1 + n2))
                rw [World.drewN_drewN] at e3
                have hcvt := conv_f (g.l.n + 1)
                have hD := fun u => refCanon_any u s i3.lt
                have hs : Hid (canonB s = meF g.l.me x (g.l.n + 1)) := hide (i3.add (i2.div i1))
                rw [hs.out] at hD
                clear i1 i2 i3
                have A' := A.out.below (below_drewN (Below.refl _ _) (n1 + n2 + n3))
                have y6 := A'.frozen 6
                have FIN := hide (A'.set6 (by decide) (by decide) (meF g.l.me x (g.l.n + 1)))
                have FB : Hid (But (Tur b (.slice (some ⟨cb, 0, none⟩) K ca)) wr ((w8.drewN (n1 + n2 + n3)).setCell ⟨b, 6, none⟩ (.float .f64 (meF g.l.me x (g.l.n + 1))))) := hide ((B.out.trans (But.of_below (below_drewN (Below.refl _ _) (n1 + n2 + n3)) _)).trans (but_cell _ _ _ _ (.inl rfl)))
                obtain ⟨a0, a1, a2, a3, a4, a5, a6⟩ := A'.cells
                (try simp only at a0 a1 a2 a3 a4 a5 a6)
                (try simp only at FIN)
                clear A' A B
                go_wp2_with (go_at_call 37; refine (hD _).mono ?_; rintro e w' ⟨rfl, hw⟩; rw [hw]; clear hw w')
                go_end0
                have e9 : cntF g.l x = ⟨g.l.n + 1, g.l.na, x, g.l.hi, meF g.l.me x (g.l.n + 1)⟩ := by unfold cntF; rw [HEN.out]
                rw [e9]
                exact ⟨rfl, FIN.out, FB.out⟩
            · by_cases hc2 : 0 < cmpB x g.l.hi
              · have HEN : Hid (endsF g.l ⟨1, 0, x, x, 0⟩ = (g.l.lo, x)) := hide (by rw [hen, if_neg hn0, if_neg hc1, if_pos hc2])
                clear hen
                obtain ⟨s1, hs1⟩ : ∃ s, Hid (cmpB x g.l.lo = s) := ⟨_, rfl⟩
                rw [hs1.out] at hC1 hc1
                obtain ⟨s2, hs2⟩ : ∃ s, Hid (cmpB x g.l.hi = s) := ⟨_, rfl⟩
                rw [hs2.out] at hC2 hc2
                clear hs1 hs2
                go_upto_region 8 with (go_at_call 23; refine (hC1 _).mono ?_; rintro e w' ⟨rfl, hw⟩; rw [hw]; clear hw w')
                have y5 := A.out.frozen 5
                have A' := hide (A.out.set5 (by decide) (by decide) x)
                have B' : Hid (But (Tur b (.slice (some ⟨cb, 0, none⟩) K ca)) wr (w5.setCell ⟨b, 5, none⟩ (.float .f64 x))) := hide (B.out.trans (but_cell _ _ _ _ (.inl rfl)))
                go_upto_region 10 with (go_at_call 23; refine (hC2 _).mono ?_; rintro e w' ⟨rfl, hw⟩; rw [hw]; clear hw w')
                clear c0 c1 c2 c3 c4 c5 c6 y5 A B
                have A := A'
                have B := B'
                clear A' B'
                generalize w5.setCell ⟨b, 5, none⟩ (.float .f64 x) = w7 at *
                (try simp only at A)
                obtain ⟨c0, c1, c2, c3, c4, c5, c6⟩ := A.out.cells
                (try simp only at c0 c1 c2 c3 c4 c5 c6)
                have y2 := A.out.frozen 2
                have A' := hide (A.out.set2 (by decide) (by decide) (g.l.n + 1))
                have B' : Hid (But (Tur b (.slice (some ⟨cb, 0, none⟩) K ca)) wr (w7.setCell ⟨b, 2, none⟩ (.int .i64 (g.l.n + 1)))) := hide (B.out.trans (but_cell _ _ _ _ (.inl rfl)))
                go_upto_region 11 with fail
                clear c0 c1 c2 c3 c4 c5 c6 y2 A B
                have A := A'
                have B := B'
                clear A' B'
                generalize w7.setCell ⟨b, 2, none⟩ (.int .i64 (g.l.n + 1)) = w8 at *
                (try simp only at A)
                obtain ⟨c0, c1, c2, c3, c4, c5, c6⟩ := A.out.cells
                (try simp only at c0 c1 c2 c3 c4 c5 c6)
                obtain ⟨d, n1, e1, i1⟩ := sub2 x g.l.me w8
                obtain ⟨m, n2, e2, i2⟩ := div2 d (nfB (g.l.n + 1)) (w8.drewN n1)
                rw [World.drewN_drewN] at e2
                obtain ⟨s, n3, e3, i3⟩ := add2 g.l.me m (w8.drewN (n1 + n2))
                rw [World.drewN_drewN] at e3
                have hcvt := conv_f (g.l.n + 1)
                have hD := fun u => refCanon_any u s i3.lt
                have hs : Hid (canonB s = meF g.l.me x (g.l.n + 1)) := hide (i3.add (i2.div i1))
                rw [hs.out] at hD
                clear i1 i2 i3
                have A' := A.out.below (below_drewN (Below.refl _ _) (n1 + n2 + n3))
                have y6 := A'.frozen 6
                have FIN := hide (A'.set6 (by decide) (by decide) (meF g.l.me x (g.l.n + 1)))
                have FB : Hid (But (Tur b (.slice (some ⟨cb, 0, none⟩) K ca)) wr ((w8.drewN (n1 + n2 + n3)).setCell ⟨b, 6, none⟩ (.float .f64 (meF g.l.me x (g.l.n + 1))))) := hide ((B.out.trans (But.of_below (below_drewN (Below.refl _ _) (n1 + n2 + n3)) _)).trans (but_cell _ _ _ _ (.inl rfl)))
                obtain ⟨a0, a1, a2, a3, a4, a5, a6⟩ := A'.cells
                (try simp only at a0 a1 a2 a3 a4 a5 a6)
                (try simp only at FIN)
                clear A' A B
                go_wp2_with (go_at_call 37; refine (hD _).mono ?_; rintro e w' ⟨rfl, hw⟩; rw [hw]; clear hw w')
                go_end0
                have e9 : cntF g.l x = ⟨g.l.n + 1, g.l.na, g.l.lo, x, meF g.l.me x (g.l.n + 1)⟩ := by unfold cntF; rw [HEN.out]
                rw [e9]
                exact ⟨rfl, FIN.out, FB.out⟩
              · have HEN : Hid (endsF g.l ⟨1, 0, x, x, 0⟩ = (g.l.lo, g.l.hi)) := hide (by rw [hen, if_neg hn0, if_neg hc1, if_neg hc2])
                clear hen
                obtain ⟨s1, hs1⟩ : ∃ s, Hid (cmpB x g.l.lo = s) := ⟨_, rfl⟩
                rw [hs1.out] at hC1 hc1
                obtain ⟨s2, hs2⟩ : ∃ s, Hid (cmpB x g.l.hi = s) := ⟨_, rfl⟩
                rw [hs2.out] at hC2 hc2
                clear hs1 hs2
                go_upto_region 8 with (go_at_call 23; refine (hC1 _).mono ?_; rintro e w' ⟨rfl, hw⟩; rw [hw]; clear hw w')
                go_upto_region 10 with (go_at_call 23; refine (hC2 _).mono ?_; rintro e w' ⟨rfl, hw⟩; rw [hw]; clear hw w')
                have y2 := A.out.frozen 2
                have A' := hide (A.out.set2 (by decide) (by decide) (g.l.n + 1))
                have B' : Hid (But (Tur b (.slice (some ⟨cb, 0, none⟩) K ca)) wr (w5.setCell ⟨b, 2, none⟩ (.int .i64 (g.l.n + 1)))) := hide (B.out.trans (but_cell _ _ _ _ (.inl rfl)))
                go_upto_region 11 with fail
                clear c0 c1 c2 c3 c4 c5 c6 y2 A B
                have A := A'
                have B := B'
                clear A' B'
                generalize w5.setCell ⟨b, 2, none⟩ (.int .i64 (g.l.n + 1)) = w8 at *
                (try simp only at A)
                obtain ⟨c0, c1, c2, c3, c4, c5, c6⟩ := A.out.cells
                (try simp only at c0 c1 c2 c3 c4 c5 c6)
                obtain ⟨d, n1, e1, i1⟩ := sub2 x g.l.me w8
                obtain ⟨m, n2, e2, i2⟩ := div2 d (nfB (g.l.n + 1)) (w8.drewN n1)
                rw [World.drewN_drewN] at e2
                obtain ⟨s, n3, e3, i3⟩ := add2 g.l.me m (w8.drewN (n1 + n2))
                rw [World.drewN_drewN] at e3
                have hcvt := conv_f (g.l.n + 1)
                have hD := fun u => refCanon_any u s i3.lt
                have hs : Hid (canonB s = meF g.l.me x (g.l.n + 1)) := hide (i3.add (i2.div i1))
                rw [hs.out] at hD
                clear i1 i2 i3
                have A' := A.out.below (below_drewN (Below.refl _ _) (n1 + n2 + n3))
                have y6 := A'.frozen 6
                have FIN := hide (A'.set6 (by decide) (by decide) (meF g.l.me x (g.l.n + 1)))
                have FB : Hid (But (Tur b (.slice (some ⟨cb, 0, none⟩) K ca)) wr ((w8.drewN (n1 + n2 + n3)).setCell ⟨b, 6, none⟩ (.float .f64 (meF g.l.me x (g.l.n + 1))))) := hide ((B.out.trans (But.of_below (below_drewN (Below.refl _ _) (n1 + n2 + n3)) _)).trans (but_cell _ _ _ _ (.inl rfl)))
                obtain ⟨a0, a1, a2, a3, a4, a5, a6⟩ := A'.cells
                (try simp only at a0 a1 a2 a3 a4 a5 a6)
                (try simp only at FIN)
                clear A' A B
                go_wp2_with (go_at_call 37; refine (hD _).mono ?_; rintro e w' ⟨rfl, hw⟩; rw [hw]; clear hw w')
                go_end0
                have e9 : cntF g.l x = ⟨g.l.n + 1, g.l.na, g.l.lo, g.l.hi, meF g.l.me x (g.l.n + 1)⟩ := by unfold cntF; rw [HEN.out]
                rw [e9]
                exact ⟨rfl, FIN.out, FB.out⟩
  · have hp : Hid (putF g x = ⟨g.bs, g.cs, ⟨g.l.n, g.l.na + 1, g.l.lo, g.l.hi, g.l.me⟩⟩) := hide (by unfold putF; rw [if_pos hnx])
    rw [hp.out]
    rw [hnx] at hn
    obtain ⟨c0, c1, c2, c3, c4, c5, c6⟩ := h.cells
    have y3 := h.frozen 3
    have FIN := hide (h.set3 (by decide) (by decide) (g.l.na + 1))
    have k9 : IntKind.i64.wrap (g.l.na + 1) = g.l.na + 1 := by simp [IntKind.wrap, IntKind.bits, IntKind.signed]; omega
    clear h ok hp HA
    go_enter Try.func13, Try.ntmps13
    go_wp2_with (go_at_call 31; refine (hn _).mono ?_; rintro e w' ⟨rfl, hw⟩; rw [hw]; clear hw w')
    go_returns
    exact ⟨rfl, FIN.out, but_cell _ _ _ _ (.inl rfl)⟩
end Go.Proofs.Ytjkdhckhokkefaa.Gg

/-
  The document's Quantile.
-/
namespace Go.Proofs.Ytjkdhckhokkefaa.Gg
open Go.RowKit Rl
set_option linter.unusedVariables false
set_option maxRecDepth 100000
/-- Rounded down, then one more where something is left. -/
theorem down_up {P : Nat} (hP : P < 9218868437227405312) (hf : magB P / 2 ^ 1074 < 9007199254740992) : (FloatKind.f64.nearest ((magB P / 2 ^ 1074 : Nat) : Int) < P ∧ upU (magB P) = magB P / 2 ^ 1074 + 1) ∨ (¬ FloatKind.f64.nearest ((magB P / 2 ^ 1074 : Nat) : Int) < P ∧ upU (magB P) = magB P / 2 ^ 1074) := by
  have hm := nf_mag hf
  have hU := Nat.two_pow_pos 1074
  have hd := Nat.div_add_mod (magB P) (2 ^ 1074)
  unfold upU
  generalize FloatKind.f64.nearest ((magB P / 2 ^ 1074 : Nat) : Int) = R at *
  generalize 2 ^ 1074 = U at *
  by_cases h0 : magB P % U = 0
  · right
    rw [h0]
    refine ⟨fun hlt => ?_, rfl⟩
    have := mag_mono hlt
    rw [hm] at this
    rw [h0, Nat.mul_comm] at hd
    omega
  · left
    have e : (magB P % U != 0) = true := by simp [h0]
    rw [e]
    refine ⟨?_, rfl⟩
    rcases Nat.lt_or_ge R P with q | q
    · exact q
    · have := mag_le q
      rw [hm] at this
      rw [Nat.mul_comm] at hd
      omega
theorem down_le {V n : Nat} (h : V ≤ n * 2 ^ 1074) : V / 2 ^ 1074 ≤ n := by
  have hU := Nat.two_pow_pos 1074
  generalize 2 ^ 1074 = U at *
  exact Nat.div_le_of_le_mul (by rw [Nat.mul_comm]; exact h)
theorem nf_inf {n : Nat} (hn : n < 9007199254740992) : FloatKind.f64.nearest (n : Int) < 9218868437227405312 := by rw [nf_eq]; exact round_lt_inf hn
/-- What the document comes to, step by step: the product, the whole number below, whether something is left. -/
theorem steps {q n : Nat} (hq : qB q = true) (h1 : 1 ≤ n) (hn : n ≤ 1000000000) : ∃ X c : Nat, Ieee.double.mul q (FloatKind.f64.nearest (n : Int)) = some X ∧ (∀ u, (convert 26 2 (.float .f64 X)).run Try.prog u = .ok (.int .i64 (c : Int)) u) ∧ c ≤ n ∧ ((FloatKind.f64.format.order (FloatKind.f64.nearest (c : Int)) X == some .lt) = true ∧ c + 1 ≤ n ∧ rkF q n = c + 1 ∨ (FloatKind.f64.format.order (FloatKind.f64.nearest (c : Int)) X == some .lt) = false ∧ rkF q n = max c 1) := by
  have hn' : n < 9007199254740992 := by omega
  rcases q_cases hq with ⟨c1, c2, c3⟩ | rfl
  · have hmul := mul_n (a := q) (n := n) (by rw [c2]; omega) hn'
    rw [c3, word_eq, if_neg (by decide)] at hmul
    change _ = some (prB q n) at hmul
    have hinf := pr_inf hq hn'
    have hmg := pr_mag hq hn'
    have hle := down_le hmg
    have hup := rk_le hq hn'
    have hR : rkF q n = max (upU (magB (prB q n))) 1 := rfl
    have hdu := down_up hinf (by omega)
    have hti := toInt_read hinf
    have hni := nf_inf (n := magB (prB q n) / 2 ^ 1074) (by omega)
    generalize magB (prB q n) / 2 ^ 1074 = c at *
    refine ⟨prB q n, c, hmul, fun u => conv_i hti (by omega) u, hle, ?_⟩
    rcases hdu with ⟨a, b⟩ | ⟨a, b⟩
    · left
      rw [ord_pos (by omega) (by omega), Nat.compare_eq_lt.2 a]
      refine ⟨rfl, by omega, by rw [hR, b]; omega⟩
    · right
      rw [ord_pos (by omega) (by omega)]
      refine ⟨?_, by rw [hR, b]⟩
      rcases Nat.lt_or_eq_of_le (Nat.le_of_not_lt a) with e | e
      · rw [Nat.compare_eq_gt.2 e]; rfl
      · rw [Nat.compare_eq_eq.2 e.symm]; rfl
  · have hmul := mul_n (a := 9223372036854775808) (n := n) (by decide) hn'
    have z0 : magB (9223372036854775808 % 9223372036854775808) = 0 := by decide
    rw [z0, Nat.zero_mul, round_zero, show sgnB 9223372036854775808 = true by decide, word_eq, if_pos rfl, Nat.add_zero] at hmul
    have hR : rkF 9223372036854775808 n = 1 := by
      unfold rkF prB
      rw [z0, Nat.zero_mul, round_zero, mag_zero, up_zero]
      rfl
    refine ⟨_, 0, hmul, fun u => conv_i (by decide +kernel) (by omega) u, by omega, .inr ⟨by decide +kernel, by rw [hR]; rfl⟩⟩
set_option maxHeartbeats 2000000 in
theorem rquantile_any (w : World) (b : Nat) (g : G) (vb vc : Value) (M : Int) (q : Nat) (h : At 66 w b g vb vc) (ok : Ok M g) (hM : M ≤ 1000000000) (hq : q < 18446744073709551616) :
    Calls Try.prog 39 #[.pointer (some ⟨b, 0, none⟩), .float .f64 q] w fun e w' => e = .returned (.tuple #[.float .f64 (qtF g q).1, .int .i64 (qtF g q).2]) ∧ w' = w := by
  have hcl : 0 < g.cs.length := by rw [ok.cl]; omega
  obtain ⟨c0, c1, c2, c3, c4, c5, c6⟩ := h.cells
  obtain ⟨z1, z2⟩ := ok.n
  rcases q_order hq with ⟨hqb, o1, o2⟩ | ⟨hqb, o1⟩
  · by_cases hn0 : g.l.n = 0
    · have hE : qtF g q = (0, 6) := by unfold qtF; rw [if_neg (by simp [hqb]), if_pos hn0]
      rw [hE]
      rw [hn0] at c2
      unfold ordZ ordO at *
      go_enter Try.func39, Try.ntmps39
      go_wp2_with fail
      go_ret2
      exact ⟨rfl, rfl⟩
    · obtain ⟨n, hn⟩ : ∃ n : Nat, g.l.n = (n : Int) := ⟨g.l.n.toNat, by omega⟩
      have hn1 : 1 ≤ n := by omega
      have hE : Hid (qtF g q = (pick g.bs g.cs 0 ((rkF q n : Nat) : Int) g.l.hi, 0)) := hide (by unfold qtF; rw [if_neg (by simp [hqb]), if_neg hn0, hn]; rfl)
      obtain ⟨X, c, hmul, hcv, hcn, hcase⟩ := steps hqb hn1 (by omega : n ≤ 1000000000)
      have hm := fun u => mul_some_run hmul u
      have hnf := conv_f (n : Int)
      have hnc := conv_f (c : Int)
      unfold nfB at hnf hnc
      have hne : ((n : Int) == 0) = false := by simp; omega
      have hrk1 : 1 ≤ rkF q n ∧ rkF q n ≤ n := by
        refine ⟨by unfold rkF; omega, ?_⟩
        rcases hcase with h | h <;> omega
      have HRK := hide hrk1
      obtain ⟨r, hr⟩ : ∃ r, Hid (((rkF q n : Nat) : Int) = r) := ⟨_, rfl⟩
      rw [hr.out] at hE
      rw [hE.out]
      obtain ⟨PK, hPK⟩ : ∃ PK, Hid (pick g.bs g.cs 0 r g.l.hi = PK) := ⟨_, rfl⟩
      rw [hPK.out]
      rw [hn] at c2
      obtain ⟨cb, ca, rfl, p1, p2⟩ := Iw.form h.rc hcl
      have HC := hide (fun i hi => h.cell i hi)
      have HCS := hide (fun i (hi : i < g.cs.length) => ok.cs _ (getI_mem hi))
      have hbl : g.bs.length < g.cs.length := by rw [ok.cl]; omega
      have hl64 := ok.len
      obtain ⟨ao, cab, rfl, _, hrd⟩ := Fw.reads h.rb
      have HB := hide hrd
      have HP1 := hide (fun i (h1 : i < g.bs.length) acc => pick_drop (bs := g.bs) (cs := g.cs) h1 (by omega) acc r g.l.hi)
      have HP2 := hide (fun acc => pick_end (bs := g.bs) (cs := g.cs) (Nat.le_refl _) acc r g.l.hi)
      obtain ⟨N, hN⟩ : ∃ N, Hid (g.bs.length = N) := ⟨_, rfl⟩
      obtain ⟨K, hK⟩ : ∃ K, Hid (g.cs.length = K) := ⟨_, rfl⟩
      rw [hN.out, hK.out] at hbl
      rw [hN.out] at hl64 HB HP1 HP2 c0
      rw [hK.out] at HC HCS c1 p2
      unfold ordZ ordO at *
      clear h ok hE hcl hrd
      have kw : IntKind.i64.wrap ((c : Int) + 1) = (c : Int) + 1 := by simp [IntKind.wrap, IntKind.bits, IntKind.signed]; omega
      rcases hcase with ⟨a, b', d⟩ | ⟨a, d⟩
      · by_cases hc0 : c = 0
        · obtain rfl : r = 1 := by rw [← hr.out, d, hc0]; rfl
          have k1 : ¬ ((n : Int) < (c : Int) + 1) := by omega
          have k2 : ¬ ((1 : Int) < (c : Int) + 1) := by omega
          have k3 : ¬ (0 < c) := by omega
          replace hc0 := hide hc0
          clear d hr
          go_enter Try.func39, Try.ntmps39
          go_wp2_with fail
          go_loopw [8, 9] (fun v8 v9 wr => ∃ (i : Nat) (acc : Int), i ≤ N ∧ v9 = .int .i64 (i : Int) ∧ v8 = .int .i64 acc ∧ 0 ≤ acc ∧ acc ≤ (i : Int) * 1000000000 ∧ Hid (PK = pick (g.bs.drop i) (g.cs.drop i) acc 1 g.l.hi) ∧ wr = w) (fun _ v _ => N - (intOf v).toNat)
          case atStart => exact ⟨0, 0, by omega, rfl, rfl, by omega, by omega, by show _ = _; rw [← hPK.out]; rfl, rfl⟩
          case round =>
            obtain ⟨i, acc, hi, rfl, rfl, ha1, ha2, hpk, hwr⟩ := hrel
            subst hwr
            by_cases hin : i = N
            · subst hin
              have he : Hid (PK = g.l.hi) := hide (by rw [hpk.out, HP2.out])
              go_wp2_with fail
              go_ret2
              exact ⟨by rw [he.out]; rfl, rfl⟩
            · have hil : i < N := by omega
              obtain ⟨bb, rfl, hcb⟩ := HB.out i hil
              have hcc := HC.out i (by omega)
              obtain ⟨q1, q2⟩ := HCS.out i (by omega)
              have hst := HP1.out i hil acc
              rw [← hpk.out] at hst
              obtain ⟨y, hy⟩ : ∃ y, Hid (g.bs.getD i 0 = y) := ⟨_, rfl⟩
              obtain ⟨cc, hc⟩ : ∃ c, Hid (g.cs.getD i 0 = c) := ⟨_, rfl⟩
              rw [hc.out] at hcc q1 q2 hst
              rw [hy.out] at hcb hst
              have i1 : (i : Int) < (N : Int) := by omega
              have i2 : (0 : Int) ≤ (i : Int) := by omega
              have i3 : (i : Int) < (K : Int) := by omega
              have kw2 : IntKind.i64.wrap (acc + cc) = acc + cc := by simp [IntKind.wrap, IntKind.bits, IntKind.signed]; omega
              by_cases hge : 1 ≤ acc + cc
              · rw [if_pos hge] at hst
                have he : Hid (PK = y) := hide hst
                clear hst
                go_wp2_with fail
                go_ret2
                exact ⟨by rw [he.out]; rfl, rfl⟩
              · rw [if_neg hge] at hst
                have he := hide hst
                clear hst
                go_wp2_with fail
                go_roundw
                case rel => exact ⟨i + 1, acc + cc, by omega, by go_num, rfl, by omega, by omega, he.out, by trivial⟩
                case measure => simp [intOf]; omega
        · obtain rfl : r = (c : Int) + 1 := by rw [← hr.out, d]; omega
          have k1 : ¬ ((n : Int) < (c : Int) + 1) := by omega
          have k2 : (1 : Int) < (c : Int) + 1 := by omega
          have k3 : 0 < c := by omega
          clear d hr
          go_enter Try.func39, Try.ntmps39
          go_wp2_with fail
          go_loopw [8, 9] (fun v8 v9 wr => ∃ (i : Nat) (acc : Int), i ≤ N ∧ v9 = .int .i64 (i : Int) ∧ v8 = .int .i64 acc ∧ 0 ≤ acc ∧ acc ≤ (i : Int) * 1000000000 ∧ Hid (PK = pick (g.bs.drop i) (g.cs.drop i) acc ((c : Int) + 1) g.l.hi) ∧ wr = w) (fun _ v _ => N - (intOf v).toNat)
          case atStart => exact ⟨0, 0, by omega, rfl, rfl, by omega, by omega, by show _ = _; rw [← hPK.out]; rfl, rfl⟩
          case round =>
            obtain ⟨i, acc, hi, rfl, rfl, ha1, ha2, hpk, hwr⟩ := hrel
            subst hwr
            by_cases hin : i = N
            · subst hin
              have he : Hid (PK = g.l.hi) := hide (by rw [hpk.out, HP2.out])
              go_wp2_with fail
              go_ret2
              exact ⟨by rw [he.out]; rfl, rfl⟩
            · have hil : i < N := by omega
              obtain ⟨bb, rfl, hcb⟩ := HB.out i hil
              have hcc := HC.out i (by omega)
              obtain ⟨q1, q2⟩ := HCS.out i (by omega)
              have hst := HP1.out i hil acc
              rw [← hpk.out] at hst
              obtain ⟨y, hy⟩ : ∃ y, Hid (g.bs.getD i 0 = y) := ⟨_, rfl⟩
              obtain ⟨cc, hc⟩ : ∃ c, Hid (g.cs.getD i 0 = c) := ⟨_, rfl⟩
              rw [hc.out] at hcc q1 q2 hst
              rw [hy.out] at hcb hst
              have i1 : (i : Int) < (N : Int) := by omega
              have i2 : (0 : Int) ≤ (i : Int) := by omega
              have i3 : (i : Int) < (K : Int) := by omega
              have kw2 : IntKind.i64.wrap (acc + cc) = acc + cc := by simp [IntKind.wrap, IntKind.bits, IntKind.signed]; omega
              by_cases hge : ((c : Int) + 1) ≤ acc + cc
              · rw [if_pos hge] at hst
                have he : Hid (PK = y) := hide hst
                clear hst
                go_wp2_with fail
                go_ret2
                exact ⟨by rw [he.out]; rfl, rfl⟩
              · rw [if_neg hge] at hst
                have he := hide hst
                clear hst
                go_wp2_with fail
                go_roundw
                case rel => exact ⟨i + 1, acc + cc, by omega, by go_num, rfl, by omega, by omega, he.out, by trivial⟩
                case measure => simp [intOf]; omega
      · by_cases hc0 : c ≤ 1
        · obtain rfl : r = 1 := by rw [← hr.out, d]; omega
          have k1 : ¬ ((n : Int) < (c : Int)) := by omega
          have k2 : ¬ ((1 : Int) < (c : Int)) := by omega
          have k3 : ¬ (1 < c) := by omega
          clear d hr
          go_enter Try.func39, Try.ntmps39
          go_wp2_with fail
          go_loopw [8, 9] (fun v8 v9 wr => ∃ (i : Nat) (acc : Int), i ≤ N ∧ v9 = .int .i64 (i : Int) ∧ v8 = .int .i64 acc ∧ 0 ≤ acc ∧ acc ≤ (i : Int) * 1000000000 ∧ Hid (PK = pick (g.bs.drop i) (g.cs.drop i) acc 1 g.l.hi) ∧ wr = w) (fun _ v _ => N - (intOf v).toNat)
          case atStart => exact ⟨0, 0, by omega, rfl, rfl, by omega, by omega, by show _ = _; rw [← hPK.out]; rfl, rfl⟩
          case round =>
            obtain ⟨i, acc, hi, rfl, rfl, ha1, ha2, hpk, hwr⟩ := hrel
            subst hwr
            by_cases hin : i = N
            · subst hin
              have he : Hid (PK = g.l.hi) := hide (by rw [hpk.out, HP2.out])
              go_wp2_with fail
              go_ret2
              exact ⟨by rw [he.out]; rfl, rfl⟩
            · have hil : i < N := by omega
              obtain ⟨bb, rfl, hcb⟩ := HB.out i hil
              have hcc := HC.out i (by omega)
              obtain ⟨q1, q2⟩ := HCS.out i (by omega)
              have hst := HP1.out i hil acc
              rw [← hpk.out] at hst
              obtain ⟨y, hy⟩ : ∃ y, Hid (g.bs.getD i 0 = y) := ⟨_, rfl⟩
              obtain ⟨cc, hc⟩ : ∃ c, Hid (g.cs.getD i 0 = c) := ⟨_, rfl⟩
              rw [hc.out] at hcc q1 q2 hst
              rw [hy.out] at hcb hst
              have i1 : (i : Int) < (N : Int) := by omega
              have i2 : (0 : Int) ≤ (i : Int) := by omega
              have i3 : (i : Int) < (K : Int) := by omega
              have kw2 : IntKind.i64.wrap (acc + cc) = acc + cc := by simp [IntKind.wrap, IntKind.bits, IntKind.signed]; omega
              by_cases hge : 1 ≤ acc + cc
              · rw [if_pos hge] at hst
                have he : Hid (PK = y) := hide hst
                clear hst
                go_wp2_with fail
                go_ret2
                exact ⟨by rw [he.out]; rfl, rfl⟩
              · rw [if_neg hge] at hst
                have he := hide hst
                clear hst
                go_wp2_with fail
                go_roundw
                case rel => exact ⟨i + 1, acc + cc, by omega, by go_num, rfl, by omega, by omega, he.out, by trivial⟩
                case measure => simp [intOf]; omega
        · obtain rfl : r = (c : Int) := by rw [← hr.out, d]; omega
          have k1 : ¬ ((n : Int) < (c : Int)) := by omega
          have k2 : (1 : Int) < (c : Int) := by omega
          have k3 : 1 < c := by omega
          clear d hr
          go_enter Try.func39, Try.ntmps39
          go_wp2_with fail
          go_loopw [8, 9] (fun v8 v9 wr => ∃ (i : Nat) (acc : Int), i ≤ N ∧ v9 = .int .i64 (i : Int) ∧ v8 = .int .i64 acc ∧ 0 ≤ acc ∧ acc ≤ (i : Int) * 1000000000 ∧ Hid (PK = pick (g.bs.drop i) (g.cs.drop i) acc (c : Int) g.l.hi) ∧ wr = w) (fun _ v _ => N - (intOf v).toNat)
          case atStart => exact ⟨0, 0, by omega, rfl, rfl, by omega, by omega, by show _ = _; rw [← hPK.out]; rfl, rfl⟩
          case round =>
            obtain ⟨i, acc, hi, rfl, rfl, ha1, ha2, hpk, hwr⟩ := hrel
            subst hwr
            by_cases hin : i = N
            · subst hin
              have he : Hid (PK = g.l.hi) := hide (by rw [hpk.out, HP2.out])
              go_wp2_with fail
              go_ret2
              exact ⟨by rw [he.out]; rfl, rfl⟩
            · have hil : i < N := by omega
              obtain ⟨bb, rfl, hcb⟩ := HB.out i hil
              have hcc := HC.out i (by omega)
              obtain ⟨q1, q2⟩ := HCS.out i (by omega)
              have hst := HP1.out i hil acc
              rw [← hpk.out] at hst
              obtain ⟨y, hy⟩ : ∃ y, Hid (g.bs.getD i 0 = y) := ⟨_, rfl⟩
              obtain ⟨cc, hc⟩ : ∃ c, Hid (g.cs.getD i 0 = c) := ⟨_, rfl⟩
              rw [hc.out] at hcc q1 q2 hst
              rw [hy.out] at hcb hst
              have i1 : (i : Int) < (N : Int) := by omega
              have i2 : (0 : Int) ≤ (i : Int) := by omega
              have i3 : (i : Int) < (K : Int) := by omega
              have kw2 : IntKind.i64.wrap (acc + cc) = acc + cc := by simp [IntKind.wrap, IntKind.bits, IntKind.signed]; omega
              by_cases hge : (c : Int) ≤ acc + cc
              · rw [if_pos hge] at hst
                have he : Hid (PK = y) := hide hst
                clear hst
                go_wp2_with fail
                go_ret2
                exact ⟨by rw [he.out]; rfl, rfl⟩
              · rw [if_neg hge] at hst
                have he := hide hst
                clear hst
                go_wp2_with fail
                go_roundw
                case rel => exact ⟨i + 1, acc + cc, by omega, by go_num, rfl, by omega, by omega, he.out, by trivial⟩
                case measure => simp [intOf]; omega
  · have hE : qtF g q = (0, 1) := by unfold qtF; rw [if_pos hqb]
    rw [hE]
    unfold ordZ ordO at *
    rcases o1 with o1 | o1
    · go_enter Try.func39, Try.ntmps39
      go_wp2_with fail
      go_ret2
      exact ⟨rfl, rfl⟩
    · by_cases h3 : (FloatKind.f64.format.order q 0 == some .gt || FloatKind.f64.format.order q 0 == some .eq) = true
      · go_enter Try.func39, Try.ntmps39
        go_wp2_with fail
        go_ret2
        exact ⟨rfl, rfl⟩
      · go_enter Try.func39, Try.ntmps39
        go_wp2_with fail
        go_ret2
        exact ⟨rfl, rfl⟩
end Go.Proofs.Ytjkdhckhokkefaa.Gg

