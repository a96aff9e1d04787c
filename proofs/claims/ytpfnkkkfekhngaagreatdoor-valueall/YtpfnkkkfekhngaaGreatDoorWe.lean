/-
  Lists of things, read: the walk.
-/
import Derived.Test.YtpfnkkkfekhngaaGreatDoorWd
namespace Go.Proofs.YtpfnkkkfekhngaaGreatDoor.Va
open Go.RowKit Go.Proofs.YtpfnkkkfekhngaaGreatDoor.Rl
set_option maxRecDepth 100000

theorem one_news (w : World) (tv : Value) (T : TypeId) (j : Nat) (u : Value) (h : [tv][j]? = some u) : (w.alloc (.cells #[tv] T)).cell? ((⟨w.heap.size, 0, none⟩ : Addr).add j) = some u := by
  have hj : j = 0 := by have := (List.getElem?_eq_some_iff.1 h).1; simp at this; omega
  subst hj
  rw [add0, Nat.add_zero]
  exact box_cell w _ T 0 u (by simpa using h)
theorem rdV_nil (f d left p : Nat) : rdV (f + 1) d left p [] = .bad p 2 := by rw [rdV]
theorem rdL_nil (f d left p : Nat) (acc : List Val) : rdL (f + 1) d left p [] acc = .bad p 2 := by rw [rdL]
/-- A list's own slice, as a thing. -/
theorem LstAt.thing {w wr : World} {rb : Nat} {ao : Option Addr} {B : List UInt8} {c left d F : Nat} {R : Res} {v8 : Value} {q lf g : Nat} {acc : List Val} {tvs : List Value} (h : LstAt w wr rb ao B c left d F R v8 q lf g acc tvs) {w' : World} (hrb : rb < w.heap.size) (hb : But rb wr w') : IsT (fun b => w.heap.size ≤ b) w' (.iface 109 v8) (.mk 6 0 0 [] acc) := by
  obtain ⟨ho, he⟩ := h.move hrb hb
  rw [IsT]
  refine Or.inr (Or.inr (Or.inr (Or.inr (Or.inr ⟨rfl, ?_⟩))))
  have hlen := h.len
  have ho' := ho
  obtain ⟨_, h2⟩ := ho
  rcases h2 with ⟨rfl, h0⟩ | ⟨gb, cap, cur, rfl, a2, a3, a4, a5, a6, a7⟩
  · have : acc = [] := List.length_eq_zero_iff.1 (by omega)
    subst this
    exact ⟨none, 0, rfl, Nat.le_refl _, Nat.zero_le _, by rw [IsTL]; trivial⟩
  · refine ⟨_, cap, by rw [hlen], by omega, a5, isTL_of acc 0 fun j hj => ⟨gb, 0, tvs[j]'(by omega), rfl, a2, ?_, (he j (by omega) hj).down fun b hS _ => hS.1⟩⟩
    rw [Nat.zero_add, Nat.zero_add, ho'.cellAt j (by omega), List.getElem?_eq_getElem (by omega)]
set_option maxHeartbeats 4000000 in
theorem list_read (F : Nat) (ih : ∀ g, g < F → DoesR g) (w0 w : World) (rb b off : Nat) (B : List UInt8) (c p left d front g0 : Nat) (hs : Src w0 w rb (some ⟨b, off, none⟩) B) (hl : B.length ≤ c) (hcm : c ≤ maxLen) (hr : Rst w rb (.slice (some ⟨b, off, none⟩) B.length c) p 0 left) (hp : p ≤ B.length) (hleft : left ≤ 65536) (hd : d ≤ 8) (hm : Mx w) (hmr : 1 < rb) (hg : g0 ≤ F) (hf : 2 * (B.length - p) + 2 ≤ g0) :
    Calls Tryz.prog 59 #[.pointer (some ⟨rb, 0, none⟩), .int .i64 (front : Int), .int .i64 (d : Int)] w (RdRes rb (.slice (some ⟨b, off, none⟩) B.length c) w (rdL g0 d left p (B.drop p) [])) := by
  obtain ⟨R, hR⟩ : ∃ R, Hid (rdL g0 d left p (B.drop p) [] = R) := ⟨_, rfl⟩
  rw [hR.out]
  have hrb := hide hr.lt
  have h0 : Hid (LstAt w w rb (some ⟨b, off, none⟩) B c left d F R (.slice none 0 0) p left g0 [] []) := ⟨hR.out.symm, hg, hf, hp, hr, But.refl _ _, ⟨rfl, Or.inl ⟨rfl, rfl⟩⟩, rfl, by simp, fun j h _ => by simp at h⟩
  obtain ⟨i0, hi, hz0, hz1, hz2⟩ := info_parts infoT
  replace hi := hide hi
  replace hz0 := hide hz0
  replace hz1 := hide hz1
  replace hz2 := hide hz2
  obtain ⟨n, hn⟩ : ∃ n, Hid (B.length = n) := ⟨_, rfl⟩
  have hmx : n ≤ 9223372036854775807 := by rw [← hn.out]; unfold maxLen at hcm; omega
  replace hs := hide hs
  replace hl := hide hl
  replace hcm := hide hcm
  replace hleft := hide hleft
  replace hm := hide hm
  replace hmr := hide hmr
  replace ih := hide ih
  have hd8 : (d : Int) ≤ 8 := by omega
  clear hr hp hg hf
  rw [hn.out]
  go_enter Tryz.func59, Tryz.ntmps59
  go_wp2_with fail
  go_loopw [8] (fun v8 wr => Hid (∃ q lf g acc tvs, LstAt w wr rb (some ⟨b, off, none⟩) B c left d F R v8 q lf g acc tvs)) (fun _ wr => n + 1 - atOf rb wr)
  case atStart => exact ⟨p, left, g0, [], [], h0.out⟩
  case round =>
    obtain ⟨q, lf, g, acc, tvs, hL⟩ := hrel.out
    clear hrel
    obtain ⟨g1, rfl⟩ : ∃ g1, g = g1 + 1 := ⟨g - 1, by have := hL.room; omega⟩
    have hq : q ≤ n := by rw [← hn.out]; exact hL.le
    have hat := hide (atOf_is hL.st)
    obtain ⟨c0, c1, c2, c3⟩ := hL.st.cells
    rw [hn.out] at c0
    have fz : ∀ k, (wr.drewN k).frozen? ⟨rb, 1, none⟩ = false := fun k => hL.st.free 1
    have hlf : lf ≤ 65536 := by have := hL.sum; have := hleft.out; omega
    replace hL := hide hL
    have hthing := hide (fun k : Nat => (show Calls Tryz.prog 40 #[.pointer (some ⟨rb, 0, none⟩), .int .i64 (d : Int)] (wr.drewN k) (RdRes rb (.slice (some ⟨b, off, none⟩) n c) (wr.drewN k) (rdV g1 d lf q (B.drop q))) by
      have h1 := hL.out
      have h2 := h1.fuel
      have h3 := h1.room
      have h4 := ih.out g1 (by omega) w0 (wr.drewN k) rb (some ⟨b, off, none⟩) B c q lf d (hs.out.but (But.drewN h1.but k)) hl.out hcm.out (h1.st.drewN k) h1.le (by omega) hd (by
        obtain ⟨m, hm'⟩ := hm.out
        exact ⟨m, (But.drewN h1.but k).cell hm' (by have := hmr.out; show 1 ≠ rb; omega)⟩) hmr.out (by omega)
      rw [hn.out] at h4
      exact h4))
    -- what follows where a thing is read
    by_cases hqe : q = n
    · have hdr : B.drop q = [] := List.drop_of_length_le (by rw [hn.out]; omega)
      have hg1 : 0 < g1 := by have := hL.out.room; omega
      obtain ⟨g2, rfl⟩ : ∃ g2, g1 = g2 + 1 := ⟨g1 - 1, by omega⟩
      have hR2 : Hid (R = .bad q 2) := by show _ = _; rw [hL.out.res, hdr, rdL_nil]
      rw [hdr, rdV_nil] at hthing
      have i0' : ¬ (q : Int) < (n : Int) := by omega
      go_wp2_with fail
      go_quiet (fail)
      go_wp2_with fail
      refine (hthing.out _).mono ?_
      rintro e w1 ⟨hb, rfl, L', hr⟩
      have hb2 := hide ((But.drewN hL.out.but _).trans hb)
      have hr2 := hide hr
      clear hb hr c0 c1 c2 c3 fz
      go_wp2_with fail
      go_returns
      rw [hR2.out]
      exact RdRes.bad hb2.out hr2.out
    · have hqn : q < n := by omega
      have hql : q < B.length := by rw [hn.out]; exact hqn
      obtain ⟨b', off', e', hcb⟩ := (hs.out.but hL.out.but).rd q hql
      simp only [Option.some.injEq, Addr.mk.injEq] at e'
      obtain ⟨rfl, rfl, _⟩ := e'
      obtain ⟨u, hu⟩ : ∃ u, Hid (B[q] = u) := ⟨B[q], rfl⟩
      obtain ⟨U, hU⟩ : ∃ U : Nat, Hid (u.toNat = U) := ⟨_, rfl⟩
      rw [hu.out, hU.out] at hcb
      have hdr : Hid (B.drop q = u :: B.drop (q + 1)) := by show _ = _; rw [List.drop_eq_getElem_cons hql, hu.out]
      have i1 : (q : Int) < (n : Int) := by omega
      have i2 : (0 : Int) ≤ (q : Int) := by omega
      by_cases hu0 : u = 0
      case pos =>
        subst hu0
        have hU0 : U = 0 := by rw [← hU.out]; rfl
        subst hU0
        have hR2 : Hid (R = .ok (.mk 6 0 0 [] acc) (q + 1) lf (B.drop (q + 1))) := by show _ = _; rw [hL.out.res, hdr.out, rdL_cons, if_pos rfl]
        have hw1 : (q : Int) + 1 ≤ 9223372036854775807 := by omega
        have hfin := hide (fun k : Nat => (show RdRes rb (.slice (some ⟨b, off, none⟩) n c) w (.ok (.mk 6 0 0 [] acc) (q + 1) lf (B.drop (q + 1))) (.returned (.tuple #[.iface 109 u8, .bool true])) ((wr.drewN k).setCell ⟨rb, 1, none⟩ (.int .i64 ((q : Int) + 1))) from
          RdRes.ok (hL.out.but.trans ((But.drewN (But.refl _ _) k).trans (But.set _ _ _ _))) (hL.out.thing hrb.out ((But.drewN (But.refl _ _) k).trans (But.set _ _ _ _))) (by have h1 := (hL.out.st.drewN k).at ((q : Int) + 1); rw [hn.out] at h1; exact h1)))
        clear hthing
        go_wp2_with fail
        go_quiet (fail)
        go_wp2_with fail
        go_returns
        rw [hR2.out]
        exact hfin.out _
      case neg =>
        have hU0 : ((U : Int) == 0) = false := by
          have : U ≠ 0 := fun h => hu0 (UInt8.toNat_inj.1 (by rw [hU.out, h]; rfl))
          simp; omega
        have hne := hide hu0
        clear hu0
        obtain ⟨V, hV⟩ : ∃ V, Hid (rdV g1 d lf q (B.drop q) = V) := ⟨_, rfl⟩
        rw [hV.out] at hthing
        have hR1 : Hid (∀ q' er, V = .bad q' er → R = .bad q' er) := fun q' er h => by
          rw [hL.out.res, hdr.out, rdL_cons, if_neg hne.out, ← hdr.out, hV.out, h]
        go_wp2_with fail
        go_quiet (fail)
        go_wp2_with fail
        refine (hthing.out _).mono ?_
        rintro e w1 ⟨hb, hres⟩
        clear c0 c1 c2 c3 fz hcb
        cases V with
        | bad q' er =>
          obtain ⟨rfl, L', hr⟩ := hres
          have hR2 : Hid (R = .bad q' er) := hR1.out q' er rfl
          have hb2 := hide ((But.drewN hL.out.but _).trans hb)
          have hr2 := hide hr
          clear hb hr
          go_wp2_with fail
          go_returns
          rw [hR2.out]
          exact RdRes.bad hb2.out hr2.out
        | ok x q' lf' s' =>
          obtain ⟨tv, rfl, ht, hr⟩ := hres
          obtain ⟨T1, u1, rfl⟩ := ht.shape
          have hb0 : Hid (But rb wr w1) := (But.drewN (But.refl rb wr) _).trans hb
          have hr2 := hide hr
          have ht2 : Hid (IsT (fun b => wr.heap.size ≤ b) w1 (.iface T1 u1) x) := ht
          have hown := hide (owns_but hL.out.own hb0.out hrb.out)
          have hsz1 : w.heap.size ≤ w1.heap.size := by have := hL.out.but.size; have := hb0.out.size; omega
          have htl : tvs.length ≤ 65536 := by have h1 := hL.out.len; have h2 := hL.out.sum; have := hleft.out; omega
          have htl' := hide htl
          clear hb hr ht
          go_wp2_with (at_builtin; refine wpList_append_lies _ rfl (.tmp 58) (.tmp 60) 109 rfl w.heap.size 56 i0 .nilIface 1 16 Tryz.underlying109 hi.out hz0.out hz1.out hz2.out rfl (by decide) _ tvs.length tvs rfl (hown.out.alloc _) ⟨w1.heap.size, 0, none⟩ 1 1 [.iface T1 u1] rfl rfl (one_news w1 _ _) (by intro u hu; simp at hu; subst hu; rfl) (by omega) (by unfold maxLen; have := htl'.out; omega) (by have := htl'.out; omega) (by simp; omega) (w1.heap.size + 1) (by simp) ?_)
          intro gb cap w2 ho hg hat2 hlt
          have hmore := hide (hL.out.more hrb.out hb0.out hV.out hd (fun k r h => by rw [hdr.out] at h; simp only [List.cons.injEq] at h; rw [← h.1]; exact hne.out) ht2.out (by rw [hn.out]; exact hr2.out) ho hg hat2)
          have hat3 := hide (atOf_is hmore.out.1.st)
          have hq'n : q' ≤ n := by rw [← hn.out]; exact hmore.out.1.le
          have hqq := hmore.out.2
          clear ho hg hat2 hlt
          go_wp2_with fail
          go_roundw
          case rel => exact ⟨q', lf', g1, _, _, hmore.out.1⟩
          case measure =>
            have h1 := hat.out
            have h2 := hat3.out
            rw [h1, h2]
            omega
#print axioms list_read
end Go.Proofs.YtpfnkkkfekhngaaGreatDoor.Va
