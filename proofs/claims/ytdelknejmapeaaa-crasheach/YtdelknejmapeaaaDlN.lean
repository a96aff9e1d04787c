/-
  Sync.
-/
import Derived.Test.YtdelknejmapeaaaDlM
namespace Go.Proofs.Ytdelknejmapeaaa.Dk
open Go.RowKit Go.Maps Go.Sort Go.Shelf Go.Proofs.Ytdelknejmapeaaa.Nm

def spF (f : Fl) : Fl := ⟨f.by_, f.la, f.by_.length - f.la.length⟩
/-- Sync, by data. -/
def DS.sync (S : DS) (s : ByteArray) : DS × Int :=
  match S.find s with
  | (none, e) => (S, e)
  | (some p, _) =>
    if S.flt.2.1 = 1 then ({ S.beg 2 with F := upd S.F p (spF (S.F p)) }, 20)
    else if S.flt.2.1 = 3 then ((S.beg 2).str 3, 22)
    else ({ S.beg 2 with F := upd S.F p (syF (S.F p)) }, 0)
set_option maxRecDepth 100000 in
set_option maxHeartbeats 1000000 in
theorem syncF_any {w : World} {b : Nat} {S : DS} {O : Nat → Prop} {f g : Nat} {pd : Value} {am : Option Nat} {VB VL : Nat → Value} (h : Dsk w b S O f g pd am VB VL) (s : ByteArray) (hs : s.size ≤ maxLen) (hc : S.c7 < 900000000) :
    Calls Try.prog 12 #[.pointer (some ⟨b, 0, none⟩), .string s] w (Does w b O (S.sync s)) := by
  have hF := dsk_find h s hs
  by_cases h0 : (S.find s).2 = 0
  · obtain ⟨p, e, hg, hr, hp⟩ := find_ok h0
    rw [e] at hF
    simp only [Option.map_some] at hF
    have hR : Hid (S.sync s = if S.flt.2.1 = 1 then ({ S.beg 2 with F := upd S.F p (spF (S.F p)) }, 20) else if S.flt.2.1 = 3 then ((S.beg 2).str 3, 22) else ({ S.beg 2 with F := upd S.F p (syF (S.F p)) }, 0)) := by show _ = _; unfold DS.sync; rw [e]
    have hb : Hid (∀ u, Dsk u b S O f g pd am VB VL → _) := fun u hu => dsk_begin hu 2 (by omega) (by omega)
    have hft := h.ok.flt
    have hsz := hide (h.ok.sz p hp)
    have H := hide h
    obtain ⟨t, ht⟩ : ∃ t, Hid (S.flt = t) := ⟨_, rfl⟩
    rw [ht.out] at hb hft hR
    unfold fv at hb
    obtain ⟨ta, tk, tp⟩ := t
    dsimp only at hb hft hR
    clear h e hr h0 hg
    have hsp : Hid (∀ u, Dsk u b (S.beg 2) O f g pd am VB VL → Calls Try.prog 42 #[.pointer (some ⟨p, 0, none⟩)] u fun e w' => e = .returned (.tuple #[]) ∧ ∃ O', Dsk w' b { S.beg 2 with F := upd S.F p (spF (S.F p)) } O' f g pd am (upd VB p (VB p)) (upd VL p (VL p)) ∧ Sgo u w' O O' ∧ But (fun k => k = p) u w') := fun u hu => by
      refine (spoil_any u p (S.F p) (VB p) (VL p) (hu.fs.at_ p hp)).mono ?_
      rintro e w' ⟨rfl, hf, hB⟩
      obtain ⟨O', k1, k2⟩ := hu.one (t := spF (S.F p)) hp hf (hB.mono fun k _ e => .inl e) (fun k hk => .inl hk) hsz.out
      exact ⟨rfl, O', k1, k2, hB⟩
    have hsy : Hid (∀ u, Dsk u b (S.beg 2) O f g pd am VB VL → Calls Try.prog 44 #[.pointer (some ⟨p, 0, none⟩)] u fun e w' => e = .returned (.tuple #[]) ∧ ∃ O', DskE w' b { S.beg 2 with F := upd S.F p (syF (S.F p)) } O' ∧ Sgo u w' O O') := fun u hu => by
      refine (sync_any u p (S.F p) (VB p) (VL p) (hu.fs.at_ p hp)).mono ?_
      rintro e w' ⟨rfl, vl', hf, hB, ho⟩
      obtain ⟨O', k1, k2⟩ := hu.one (t := syF (S.F p)) hp hf hB ho hsz.out
      exact ⟨rfl, O', k1.e, k2⟩
    have hpO : Hid (O p) := H.out.of p hp p (.inl rfl)
    by_cases k1 : tk = 1
    · subst k1
      have hR2 : Hid (S.sync s = ({ S.beg 2 with F := upd S.F p (spF (S.F p)) }, 20)) := by show _ = _; rw [hR.out, if_pos rfl]
      rw [hR2.out]
      clear hR hft hsy
      have hst : Hid (∀ u O' VB' VL', Dsk u b { S.beg 2 with F := upd S.F p (spF (S.F p)) } O' f g pd am VB' VL' → Calls Try.prog 43 #[.pointer (some ⟨b, 0, none⟩), .agg #[.int .i64 ta, .int .i64 1, .int .i64 tp]] u fun e w' => e = .returned (.int .i64 20) ∧ Dsk w' b { S.beg 2 with F := upd S.F p (spF (S.F p)) } O' f g pd am VB' VL' ∧ Sgo u w' O' O') := fun u O' VB' VL' hu => dsk_strikeR hu (ta, 1, tp) (by show (1 : Int) ≠ 4; decide)
      go_enter Try.func12, Try.ntmps12
      go_upto_region 5 with (first
        | (go_at_call 29; refine hF.mono ?_; rintro e w1 ⟨rfl, B1⟩; replace B1 := hide B1; have D1 := hide (H.out.below B1.out))
        | (go_at_call 30; refine (hb.out _ D1.out).mono ?_; rintro e w2 ⟨rfl, D2, G2⟩; replace D2 := hide D2; replace G2 := hide G2))
      have B3 := hide (box_below w2 (.cells #[.int .i64 ta, .int .i64 1, .int .i64 tp] 77))
      have N3 := hide (heap_alloc_new w2 (.cells #[.int .i64 ta, .int .i64 1, .int .i64 tp] 77))
      have D3 := hide (D2.out.below B3.out)
      have hne : Hid (¬ O w2.heap.size) := fun c => Nat.lt_irrefl _ (D2.out.lt _ c)
      have T3 := hide ((Sgo.of_below (O := O) B1.out).trans (G2.out.trans (Sgo.of_below B3.out)))
      generalize w2.alloc (.cells #[.int .i64 ta, .int .i64 1, .int .i64 tp] 77) = w3 at *
      obtain ⟨x0, x1, x2⟩ := cells3 N3.out
      go_wp2_with (first
        | (go_at_call 42; refine (hsp.out _ D3.out).mono ?_; rintro e w4 ⟨rfl, O4, D4, G4, U4⟩; replace D4 := hide D4; replace G4 := hide G4; have N4 := hide (U4.at N3.out (fun e => hne.out (by rw [e]; exact hpO.out))); clear U4; obtain ⟨y0, y1, y2⟩ := cells3 N4.out)
        | (go_at_call 43; refine (hst.out _ _ _ _ D4.out).mono ?_; rintro e w5 ⟨rfl, D5, G5⟩; replace D5 := hide D5; replace G5 := hide G5))
      go_ret
      exact ⟨rfl, O4, D5.out.e, T3.out.trans (G4.out.trans G5.out)⟩
    · have k1' : (tk == 1) = false := by simpa using k1
      have k4' : (tk == 4) = false := by simp; omega
      by_cases k3 : tk = 3
      · subst k3
        have hR2 : Hid (S.sync s = ((S.beg 2).str 3, 22)) := by show _ = _; rw [hR.out, if_neg (by decide), if_pos rfl]
        rw [hR2.out]
        clear hR hft hsy hsp
        have hst : Hid (∀ u, Dsk u b (S.beg 2) O f g pd am VB VL → Calls Try.prog 43 #[.pointer (some ⟨b, 0, none⟩), .agg #[.int .i64 ta, .int .i64 3, .int .i64 tp]] u fun e w' => e = .returned (.int .i64 22) ∧ Dsk w' b ((S.beg 2).str 3) O f g pd am VB VL ∧ Sgo u w' O O) := fun u hu => dsk_strikeR hu (ta, 3, tp) (by show (3 : Int) ≠ 4; decide)
        go_enter Try.func12, Try.ntmps12
        go_upto_region 5 with (first
          | (go_at_call 29; refine hF.mono ?_; rintro e w1 ⟨rfl, B1⟩; replace B1 := hide B1; have D1 := hide (H.out.below B1.out))
          | (go_at_call 30; refine (hb.out _ D1.out).mono ?_; rintro e w2 ⟨rfl, D2, G2⟩; replace D2 := hide D2; replace G2 := hide G2))
        have B3 := hide (box_below w2 (.cells #[.int .i64 ta, .int .i64 3, .int .i64 tp] 77))
        have N3 := hide (heap_alloc_new w2 (.cells #[.int .i64 ta, .int .i64 3, .int .i64 tp] 77))
        have D3 := hide (D2.out.below B3.out)
        have T3 := hide ((Sgo.of_below (O := O) B1.out).trans (G2.out.trans (Sgo.of_below B3.out)))
        generalize w2.alloc (.cells #[.int .i64 ta, .int .i64 3, .int .i64 tp] 77) = w3 at *
        obtain ⟨x0, x1, x2⟩ := cells3 N3.out
        go_wp2_with (go_at_call 43; refine (hst.out _ D3.out).mono ?_; rintro e w5 ⟨rfl, D5, G5⟩; replace D5 := hide D5; replace G5 := hide G5)
        go_ret
        exact ⟨rfl, O, D5.out.e, T3.out.trans G5.out⟩
      · have hR2 : Hid (S.sync s = ({ S.beg 2 with F := upd S.F p (syF (S.F p)) }, 0)) := by show _ = _; rw [hR.out, if_neg k1, if_neg k3]
        rw [hR2.out]
        have hst : Hid (∀ u, Dsk u b (S.beg 2) O f g pd am VB VL → Calls Try.prog 43 #[.pointer (some ⟨b, 0, none⟩), .agg #[.int .i64 ta, .int .i64 tk, .int .i64 tp]] u fun e w' => e = .returned (.int .i64 0) ∧ Dsk w' b (S.beg 2) O f g pd am VB VL ∧ Sgo u w' O O) := fun u hu => by
          have := dsk_strikeR hu (ta, tk, tp) (by show tk ≠ 4; omega)
          have e1 : strR tk = 0 := by unfold strR strF; by_cases c : tk = 2 <;> simp [c, k1, k3]
          have e2 : (S.beg 2).str tk = S.beg 2 := by unfold DS.str; rw [if_neg k3]
          dsimp only at this
          rw [e1, e2] at this
          exact this
        clear hR hft hsp k1 k3
        go_enter Try.func12, Try.ntmps12
        go_upto_region 5 with (first
          | (go_at_call 29; refine hF.mono ?_; rintro e w1 ⟨rfl, B1⟩; replace B1 := hide B1; have D1 := hide (H.out.below B1.out))
          | (go_at_call 30; refine (hb.out _ D1.out).mono ?_; rintro e w2 ⟨rfl, D2, G2⟩; replace D2 := hide D2; replace G2 := hide G2))
        have B3 := hide (box_below w2 (.cells #[.int .i64 ta, .int .i64 tk, .int .i64 tp] 77))
        have N3 := hide (heap_alloc_new w2 (.cells #[.int .i64 ta, .int .i64 tk, .int .i64 tp] 77))
        have D3 := hide (D2.out.below B3.out)
        have T3 := hide ((Sgo.of_below (O := O) B1.out).trans (G2.out.trans (Sgo.of_below B3.out)))
        generalize w2.alloc (.cells #[.int .i64 ta, .int .i64 tk, .int .i64 tp] 77) = w3 at *
        obtain ⟨x0, x1, x2⟩ := cells3 N3.out
        go_wp2_with (first
          | (go_at_call 43; refine (hst.out _ D3.out).mono ?_; rintro e w5 ⟨rfl, D5, G5⟩; replace D5 := hide D5; replace G5 := hide G5)
          | (go_at_call 44; refine (hsy.out _ D5.out).mono ?_; rintro e w6 ⟨rfl, O6, D6, G6⟩; replace D6 := hide D6; replace G6 := hide G6))
        go_ret
        exact ⟨rfl, O6, D6.out, T3.out.trans (G5.out.trans G6.out)⟩
  · have hR : Hid (S.sync s = (S, (S.find s).2)) := by
      show _ = _
      have q := find_no h0
      unfold DS.sync
      cases hq : S.find s with
      | mk a c => rw [hq] at q; dsimp only at q; subst q; rfl
    rw [hR.out]
    have q := find_no h0
    rw [q] at hF
    simp only [Option.map_none] at hF
    generalize (S.find s).2 = r at *
    have h0' : (r != 0) = true := by simpa using h0
    have H := hide h
    clear h h0 q hR
    go_enter Try.func12, Try.ntmps12
    go_wp2_with (go_at_call 29; refine hF.mono ?_; rintro e w1 ⟨rfl, B1⟩; replace B1 := hide B1)
    go_ret
    exact ⟨rfl, O, (H.out.below B1.out).e, Sgo.of_below B1.out⟩
#print axioms syncF_any
end Go.Proofs.Ytdelknejmapeaaa.Dk
