/-
  Things read: the walk.
-/
import Derived.Test.YtpfnkkkfekhngaaGreatDoorWe
namespace Go.Proofs.YtpfnkkkfekhngaaGreatDoor.Va
open Go.RowKit Go.Proofs.YtpfnkkkfekhngaaGreatDoor.Rl
set_option maxRecDepth 100000

theorem RdRes.from {rb : Nat} {bv : Value} {w w2 w' : World} {res : Res} {e : Ending} (hb : But rb w w2) (h : RdRes rb bv w2 res e w') : RdRes rb bv w res e w' := by
  obtain ⟨h1, h2⟩ := h
  refine ⟨hb.trans h1, ?_⟩
  cases res with
  | bad q er => exact h2
  | ok x q left s =>
    obtain ⟨tv, e1, e2, e3⟩ := h2
    exact ⟨tv, e1, e2.down fun b hS _ => by have hS' : w2.heap.size ≤ b := hS; have := hb.size; omega, e3⟩
theorem RdRes.shape {rb : Nat} {bv : Value} {w w' : World} {res : Res} {e : Ending} (h : RdRes rb bv w res e w') : ∃ a ok, e = .returned (.tuple #[a, .bool ok]) := by
  obtain ⟨_, h2⟩ := h
  cases res with
  | bad q er => exact ⟨_, _, h2.1⟩
  | ok x q left s =>
    obtain ⟨tv, e1, _⟩ := h2
    exact ⟨_, _, e1⟩
theorem list_nine (w : World) (rb : Nat) (bv : Value) (p L : Int) (front : Nat) (hr : Rst w rb bv p 0 L) :
    Calls Tryz.prog 59 #[.pointer (some ⟨rb, 0, none⟩), .int .i64 (front : Int), .int .i64 9] w (RdRes rb bv w (.bad front 3)) := by
  have hst := hide (stop_any w rb bv p 0 L front 3 hr)
  clear hr
  go_enter Tryz.func59, Tryz.ntmps59
  go_wp2_with fail
  refine hst.out.mono ?_
  rintro e w1 ⟨rfl, hr, hb⟩
  have h1 := hide hr
  have h2 := hide hb
  clear hr hb
  go_wp2_with fail
  go_returns
  exact RdRes.bad h2.out h1.out
set_option maxHeartbeats 4000000 in
theorem thing_read (F : Nat) (ih : ∀ g, g < F → DoesR g) : DoesR F := by
  intro w0 w rb ao B c p left d hs hl hcm hr hp hleft hd hm hmr hf
  obtain ⟨f, rfl⟩ : ∃ f, F = f + 1 := ⟨F - 1, by omega⟩
  obtain ⟨R, hR⟩ : ∃ R, Hid (rdV (f + 1) d left p (B.drop p) = R) := ⟨_, rfl⟩
  rw [hR.out]
  obtain ⟨n, hn⟩ : ∃ n, Hid (B.length = n) := ⟨_, rfl⟩
  obtain ⟨c0, c1, c2, c3⟩ := hr.cells
  have hmx : n ≤ 9223372036854775807 := by rw [← hn.out]; unfold maxLen at hcm; omega
  by_cases hpe : p = n
  · have hR2 : Hid (R = .bad n 2) := by show _ = _; rw [← hR.out, List.drop_of_length_le (by rw [hn.out, hpe]; exact Nat.le_refl _), rdV_nil, hpe]
    have hcall := hide (next_end w rb ao n c 0 left (by rw [hn.out, hpe] at hr; exact hr))
    rw [hn.out]
    rw [hn.out] at c0
    clear hs hl hcm hr hp hm hmr hf ih hd
    go_enter Tryz.func40, Tryz.ntmps40
    go_wp2_with fail
    refine hcall.out.mono ?_
    rintro e w1 ⟨rfl, hr, hb⟩
    have h1 := hide hr
    have h2 := hide hb
    clear hr hb c0 c1 c2 c3
    go_wp2_with fail
    go_returns
    rw [hR2.out]
    exact RdRes.bad h2.out h1.out
  · have hpn : p < n := by have := hn.out; omega
    have hpl : p < B.length := by rw [hn.out]; exact hpn
    obtain ⟨b, off, rfl, _⟩ := hs.rd p hpl
    have hcall := next_ok w0 w rb (some ⟨b, off, none⟩) B c p 0 left hs (by omega) hr hpl
    obtain ⟨k, hk⟩ : ∃ u, Hid (B[p] = u) := ⟨B[p], rfl⟩
    obtain ⟨K, hK⟩ : ∃ U : Nat, Hid (k.toNat = U) := ⟨_, rfl⟩
    have hK256 : K < 256 := by rw [← hK.out]; exact k.toNat_lt
    rw [hk.out, hK.out] at hcall
    have hRv : Hid (R = rdV (f + 1) d left p (k :: B.drop (p + 1))) := by show _ = _; rw [← hR.out, List.drop_eq_getElem_cons hpl, hk.out]
    have hRr : Hid (R = if K < 1 ∨ 6 < K then .bad p 4 else if K = 6 ∧ d = 8 then .bad p 3 else if K = 5 then textR p left (p + 1) (B.drop (p + 1)) else if left < 1 then .bad p 3 else if K = 2 then truthR (p + 1) (left - 1) (B.drop (p + 1)) else if K = 3 then wholeR (p + 1) (left - 1) (B.drop (p + 1)) else if K = 4 then realR (p + 1) (left - 1) (B.drop (p + 1)) else if K = 6 then rdL f (d + 1) (left - 1) (p + 1) (B.drop (p + 1)) [] else .ok (.mk 1 0 0 [] []) (p + 1) (left - 1) (B.drop (p + 1))) := by
      show _ = _
      rw [hRv.out, rdV_cons, hK.out]
      unfold textR truthR wholeR realR
      rfl
    replace hcall := hide hcall
    have hsub := hide (fun (q : World) (hb : But rb w q) => (show Src w0 q rb (some ⟨b, off, none⟩) B ∧ Mx q from ⟨hs.but hb, by
      obtain ⟨m, hm'⟩ := hm
      exact ⟨m, hb.cell hm' (by show 1 ≠ rb; omega)⟩⟩))
    have hlm : B.length ≤ maxLen := by omega
    have hP := hide (show B.length ≤ c ∧ c ≤ maxLen ∧ p + 1 ≤ B.length ∧ left ≤ 65536 ∧ 1 < rb ∧ B.length ≤ maxLen ∧ 2 * (B.length - p) + 1 ≤ f + 1 ∧ d ≤ 8 from ⟨hl, hcm, by omega, hleft, hmr, hlm, hf, hd⟩)
    replace ih := hide ih
    clear hs hl hcm hr hp hm hmr hf hd hlm
    rw [hn.out] at c0 hcall ⊢
    go_enter Tryz.func40, Tryz.ntmps40
    go_wp2_with fail
    refine hcall.out.mono ?_
    rintro e w1 ⟨rfl, hr1, hb1⟩
    have hr1' := hide hr1
    have hb1' := hide hb1
    clear hr1 hb1 c0 c1 c2 c3
    by_cases hk16 : K < 1 ∨ 6 < K
    · have hR2 : Hid (R = .bad p 4) := by show _ = _; rw [hRr.out, if_pos hk16]
      have hst := hide (stop_any w1 rb (.slice (some ⟨b, off, none⟩) n c) _ 0 left p 4 hr1'.out)
      rcases hk16 with h | h
      · go_wp2_with fail
        refine hst.out.mono ?_
        rintro e w2 ⟨rfl, hr, hb⟩
        have h1 := hide hr
        have h2 := hide (hb1'.out.trans hb)
        clear hr hb
        go_wp2_with fail
        go_returns
        rw [hR2.out]
        exact RdRes.bad h2.out h1.out
      · have h' : ¬ K < 1 := by omega
        go_wp2_with fail
        refine hst.out.mono ?_
        rintro e w2 ⟨rfl, hr, hb⟩
        have h1 := hide hr
        have h2 := hide (hb1'.out.trans hb)
        clear hr hb
        go_wp2_with fail
        go_returns
        rw [hR2.out]
        exact RdRes.bad h2.out h1.out
    · have hRr2 : Hid (R = if K = 6 ∧ d = 8 then .bad p 3 else if K = 5 then textR p left (p + 1) (B.drop (p + 1)) else if left < 1 then .bad p 3 else if K = 2 then truthR (p + 1) (left - 1) (B.drop (p + 1)) else if K = 3 then wholeR (p + 1) (left - 1) (B.drop (p + 1)) else if K = 4 then realR (p + 1) (left - 1) (B.drop (p + 1)) else if K = 6 then rdL f (d + 1) (left - 1) (p + 1) (B.drop (p + 1)) [] else .ok (.mk 1 0 0 [] []) (p + 1) (left - 1) (B.drop (p + 1))) := by show _ = _; rw [hRr.out, if_neg hk16]
      have hcases : K = 5 ∨ K = 1 ∨ K = 2 ∨ K = 3 ∨ K = 4 ∨ K = 6 := by omega
      clear hk16 hRr hRv
      have hr1B : Hid (Rst w1 rb (.slice (some ⟨b, off, none⟩) B.length c) ((p + 1 : Nat) : Int) 0 left) := by rw [hn.out]; exact hr1'.out
      rcases hcases with rfl | hcases
      · have hR2 : Hid (R = textR p left (p + 1) (B.drop (p + 1))) := by show _ = _; rw [hRr2.out, if_neg (by omega), if_pos rfl]
        obtain ⟨h1, h2, h3, h4, h5, h6, h7, h8⟩ := hP.out
        have htx := text_any w0 w1 rb b off B c p left (hsub.out w1 hb1'.out).1 h1 h2 hr1B.out (by omega) h4 (hsub.out w1 hb1'.out).2 h5
        rw [hn.out, ← hR2.out] at htx
        replace htx := hide htx
        clear h1 h2 h3 h4 h5 h6 h7 h8
        go_wp2_with fail
        refine htx.out.mono ?_
        rintro e w2 hres
        obtain ⟨a, ok, rfl⟩ := hres.shape
        have hres2 := hide (RdRes.from hb1'.out hres)
        clear hres
        go_wp2_with fail
        go_returns
        exact hres2.out
      · have hK5 : K ≠ 5 := by omega
        have hK5' : ((K : Int) != 5) = true := by simp; omega
        by_cases hl1 : left < 1
        · have hR2 : Hid (R = .bad p 3) := by
            show _ = _
            rw [hRr2.out]
            by_cases h68 : K = 6 ∧ d = 8
            · rw [if_pos h68]
            · rw [if_neg h68, if_neg hK5, if_pos hl1]
          have hsp := hide (spend_no w1 rb 3 left 1 hr1'.out.num (by omega))
          have hst := hide (stop_any w1 rb (.slice (some ⟨b, off, none⟩) n c) _ 0 left p 3 hr1'.out)
          have hKn : ¬ (K : Int) < 1 := by omega
          have hKm : ¬ (6 : Int) < (K : Int) := by omega
          clear hcases
          go_wp2_with fail
          refine hsp.out.mono ?_
          rintro e _ ⟨rfl, rfl⟩
          go_wp2_with fail
          refine hst.out.mono ?_
          rintro e w2 ⟨rfl, hr, hb⟩
          have h1 := hide hr
          have h2 := hide (hb1'.out.trans hb)
          clear hr hb
          go_wp2_with fail
          go_returns
          rw [hR2.out]
          exact RdRes.bad h2.out h1.out
        · have hsp := hide (spend_yes w1 rb 3 left 1 hr1'.out.num (by omega) (by have := hP.out.2.2.2.1; omega) (by omega))
          obtain ⟨w2, hw2⟩ : ∃ w2, Hid (w1.setCell ⟨rb, 3, none⟩ (.int .i64 ((left : Int) - 1)) = w2) := ⟨_, rfl⟩
          have hr2 : Hid (Rst w2 rb (.slice (some ⟨b, off, none⟩) B.length c) ((p + 1 : Nat) : Int) 0 ((left - 1 : Nat) : Int)) := by
            rw [← hw2.out, show ((left - 1 : Nat) : Int) = (left : Int) - 1 by omega]
            exact hr1B.out.left _
          have hb2 : Hid (But rb w w2) := by rw [← hw2.out]; exact hb1'.out.trans (But.set _ _ _ _)
          rw [hw2.out] at hsp
          have hRr3 : Hid (R = if K = 6 ∧ d = 8 then .bad p 3 else if K = 2 then truthR (p + 1) (left - 1) (B.drop (p + 1)) else if K = 3 then wholeR (p + 1) (left - 1) (B.drop (p + 1)) else if K = 4 then realR (p + 1) (left - 1) (B.drop (p + 1)) else if K = 6 then rdL f (d + 1) (left - 1) (p + 1) (B.drop (p + 1)) [] else .ok (.mk 1 0 0 [] []) (p + 1) (left - 1) (B.drop (p + 1))) := by show _ = _; rw [hRr2.out, if_neg hK5, if_neg hl1]
          clear hRr2 hK5 hl1
          obtain ⟨hS2, hM2⟩ := hsub.out w2 hb2.out
          replace hS2 := hide hS2
          replace hM2 := hide hM2
          rcases hcases with rfl | rfl | rfl | rfl | rfl
          · have hR2 : Hid (R = .ok (.mk 1 0 0 [] []) (p + 1) (left - 1) (B.drop (p + 1))) := by show _ = _; rw [hRr3.out, if_neg (by omega), if_neg (by omega), if_neg (by omega), if_neg (by omega), if_neg (by omega)]
            have hr3 : Hid (Rst w2 rb (.slice (some ⟨b, off, none⟩) n c) ((p + 1 : Nat) : Int) 0 ((left - 1 : Nat) : Int)) := by rw [← hn.out]; exact hr2.out
            go_wp2_with fail
            refine hsp.out.mono ?_
            rintro e w2' ⟨rfl, hw'⟩
            subst hw'
            go_wp2_with fail
            go_returns
            rw [hR2.out]
            refine RdRes.ok hb2.out ?_ hr3.out
            rw [IsT]
            exact Or.inl ⟨rfl, rfl⟩
          · have hR2 : Hid (R = truthR (p + 1) (left - 1) (B.drop (p + 1))) := by show _ = _; rw [hRr3.out, if_neg (by omega), if_pos rfl]
            obtain ⟨h1, h2, h3, h4, h5, h6, h7, h8⟩ := hP.out
            have hsubc := truth_any w0 w2 rb (some ⟨b, off, none⟩) B c (p + 1) (left - 1) hS2.out h6 hr2.out h3
            rw [hn.out, ← hR2.out] at hsubc
            replace hsubc := hide hsubc
            clear h1 h2 h3 h4 h5 h6 h7 h8
            go_wp2_with fail
            refine hsp.out.mono ?_
            rintro e w2' ⟨rfl, hw'⟩
            subst hw'
            go_wp2_with fail
            refine hsubc.out.mono ?_
            rintro e w3 hres
            obtain ⟨a, ok, rfl⟩ := hres.shape
            have hres2 := hide (RdRes.from hb2.out hres)
            clear hres
            go_wp2_with fail
            go_returns
            exact hres2.out
          · have hR2 : Hid (R = wholeR (p + 1) (left - 1) (B.drop (p + 1))) := by show _ = _; rw [hRr3.out, if_neg (by omega), if_neg (by omega), if_pos rfl]
            obtain ⟨h1, h2, h3, h4, h5, h6, h7, h8⟩ := hP.out
            have hsubc := whole_any w0 w2 rb (some ⟨b, off, none⟩) B c (p + 1) (left - 1) hS2.out h6 hr2.out h3
            rw [hn.out, ← hR2.out] at hsubc
            replace hsubc := hide hsubc
            clear h1 h2 h3 h4 h5 h6 h7 h8
            go_wp2_with fail
            refine hsp.out.mono ?_
            rintro e w2' ⟨rfl, hw'⟩
            subst hw'
            go_wp2_with fail
            refine hsubc.out.mono ?_
            rintro e w3 hres
            obtain ⟨a, ok, rfl⟩ := hres.shape
            have hres2 := hide (RdRes.from hb2.out hres)
            clear hres
            go_wp2_with fail
            go_returns
            exact hres2.out
          · have hR2 : Hid (R = realR (p + 1) (left - 1) (B.drop (p + 1))) := by show _ = _; rw [hRr3.out, if_neg (by omega), if_neg (by omega), if_neg (by omega), if_pos rfl]
            obtain ⟨h1, h2, h3, h4, h5, h6, h7, h8⟩ := hP.out
            have hsubc := floating_any w0 w2 rb (some ⟨b, off, none⟩) B c (p + 1) (left - 1) hS2.out h6 hr2.out h3
            rw [hn.out, ← hR2.out] at hsubc
            replace hsubc := hide hsubc
            clear h1 h2 h3 h4 h5 h6 h7 h8
            go_wp2_with fail
            refine hsp.out.mono ?_
            rintro e w2' ⟨rfl, hw'⟩
            subst hw'
            go_wp2_with fail
            refine hsubc.out.mono ?_
            rintro e w3 hres
            obtain ⟨a, ok, rfl⟩ := hres.shape
            have hres2 := hide (RdRes.from hb2.out hres)
            clear hres
            go_wp2_with fail
            go_returns
            exact hres2.out
          · obtain ⟨h1, h2, h3, h4, h5, h6, h7, h8⟩ := hP.out
            by_cases hd8 : d = 8
            · subst hd8
              have hR2 : Hid (R = .bad p 3) := by show _ = _; rw [hRr3.out, if_pos ⟨rfl, rfl⟩]
              have hsubc := list_nine w2 rb (.slice (some ⟨b, off, none⟩) B.length c) _ _ p hr2.out
              rw [hn.out, ← hR2.out] at hsubc
              replace hsubc := hide hsubc
              clear h1 h2 h3 h4 h5 h6 h7 h8
              go_wp2_with fail
              refine hsp.out.mono ?_
              rintro e w2' ⟨rfl, hw'⟩
              subst hw'
              go_wp2_with fail
              refine hsubc.out.mono ?_
              rintro e w3 hres
              obtain ⟨a, ok, rfl⟩ := hres.shape
              have hres2 := hide (RdRes.from hb2.out hres)
              clear hres
              go_wp2_with fail
              go_returns
              exact hres2.out
            · have hR2 : Hid (R = rdL f (d + 1) (left - 1) (p + 1) (B.drop (p + 1)) []) := by show _ = _; rw [hRr3.out, if_neg (by omega), if_neg (by omega), if_neg (by omega), if_neg (by omega), if_pos rfl]
              have hsubc := list_read (f + 1) ih.out w0 w2 rb b off B c (p + 1) (left - 1) (d + 1) p f hS2.out h1 h2 hr2.out h3 (by omega) (by omega) hM2.out h5 (by omega) (by omega)
              rw [hn.out, ← hR2.out] at hsubc
              have hsubd : Hid (Calls Tryz.prog 59 #[.pointer (some ⟨rb, 0, none⟩), .int .i64 (p : Int), .int .i64 ((d : Int) + 1)] w2 (RdRes rb (.slice (some ⟨b, off, none⟩) n c) w2 R)) := hsubc
              have hdb : (d : Int) ≤ 8 := by omega
              clear hsubc h1 h2 h3 h4 h5 h6 h7 h8
              go_wp2_with fail
              refine hsp.out.mono ?_
              rintro e w2' ⟨rfl, hw'⟩
              subst hw'
              go_wp2_with fail
              refine hsubd.out.mono ?_
              rintro e w3 hres
              obtain ⟨a, ok, rfl⟩ := hres.shape
              have hres2 := hide (RdRes.from hb2.out hres)
              clear hres
              go_wp2_with fail
              go_returns
              exact hres2.out
theorem read_all (f : Nat) : DoesR f := by
  induction f using Nat.strongRecOn with
  | ind f ih => exact thing_read f ih
#print axioms read_all
end Go.Proofs.YtpfnkkkfekhngaaGreatDoor.Va
