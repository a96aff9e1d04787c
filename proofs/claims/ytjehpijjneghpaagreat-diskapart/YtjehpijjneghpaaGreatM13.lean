/-
  Sync.
-/
import Derived.Test.YtjehpijjneghpaaGreatM12
import Derived.Test.YtjehpijjneghpaaGreatProg
import Derived.Test.YtjehpijjneghpaaGreatM01
namespace Go.Proofs.YtjehpijjneghpaaGreat.Dk
open Go.RowKit Go.Maps Go.Sort Go.Shelf Go.Proofs.YtjehpijjneghpaaGreat.Nm
def spF (f : Fl) : Fl := ⟨f.by_, f.la, f.by_.length - f.la.length⟩
def DS.sync (S : DS) (s : ByteArray) : DS × Int :=
  match S.find s with
  | (none, e) => (S, e)
  | (some p, _) =>
    if S.flt.2.1 = 1 then ({ S.beg 2 with F := upd S.F p (spF (S.F p)) }, 20)
    else if S.flt.2.1 = 3 then ((S.beg 2).str 3, 22)
    else ({ S.beg 2 with F := upd S.F p (syF (S.F p)) }, 0)
set_option maxRecDepth 100000 in
set_option maxHeartbeats 1000000 in
theorem syncF_any {w : World} {b : Nat} {S : DS} {O : Nat → Prop} {f g : Nat} {pd : Value} {am : Option Nat} {VB VL : Nat → Value} (h : Dsk w b S O f g pd am VB VL) (s : ByteArray) (hs : s.size ≤ maxLen) (hc : S.c7 < 900000000) :
    Calls Tryz.prog 17 #[.pointer (some ⟨b, 0, none⟩), .string s] w (Does w b O (S.sync s)) := by
  have hF := dsk_find h s hs
  by_cases h0 : (S.find s).2 = 0
  · obtain ⟨p, e, hg, hr, hp⟩ := find_ok h0
    rw [e] at hF
    simp only [Option.map_some] at hF
    have hR : Hid (S.sync s = if S.flt.2.1 = 1 then ({ S.beg 2 with F := upd S.F p (spF (S.F p)) }, 20) else if S.flt.2.1 = 3 then ((S.beg 2).str 3, 22) else ({ S.beg 2 with F := upd S.F p (syF (S.F p)) }, 0)) := by show _ = _; unfold DS.sync; rw [e]
    have hb : Hid (∀ u, Dsk u b S O f g pd am VB VL → _) := fun u hu => dsk_begin hu 2 (by omega) (by omega)
    have hft := h.ok.flt
    have hsz := hide (h.ok.sz p hp)
    have H := hide h
    obtain ⟨t, ht⟩ : ∃ t, Hid (S.flt = t) := ⟨_, rfl⟩
    rw [ht.out] at hb hft hR
    unfold fv at hb
    obtain ⟨ta, tk, tp⟩ := t
    dsimp only at hb hft hR
    clear h e hr h0 hg
    have hsp : Hid (∀ u, Dsk u b (S.beg 2) O f g pd am VB VL → Calls Tryz.prog 77 #[.pointer (some ⟨p, 0, none⟩)] u fun e w' => e = .returned (.tuple #[]) ∧ ∃ O', Dsk w' b { S.beg 2 with F := upd S.F p (spF (S.F p)) } O' f g pd am (upd VB p (VB p)) (upd VL p (VL p)) ∧ Sgo u w' O O' ∧ But (fun k => k = p) u w') := fun u hu => by
      refine (spoil_any u p (S.F p) (VB p) (VL p) (hu.fs.at_ p hp)).mono ?_
      rintro e w' ⟨rfl, hf, hB⟩
      obtain ⟨O', k1, k2⟩ := hu.one (t := spF (S.F p)) hp hf (hB.mono fun k _ e => .inl e) (fun k hk => .inl hk) hsz.out
      exact ⟨rfl, O', k1, k2, hB⟩
    have hsy : Hid (∀ u, Dsk u b (S.beg 2) O f g pd am VB VL → Calls Tryz.prog 78 #[.pointer (some ⟨p, 0, none⟩)] u fun e w' => e = .returned (.tuple #[]) ∧ ∃ O', DskE w' b { S.beg 2 with F := upd S.F p (syF (S.F p)) } O' ∧ Sgo u w' O O') := fun u hu => by
      refine (sync_any u p (S.F p) (VB p) (VL p) (hu.fs.at_ p hp)).mono ?_
      rintro e w' ⟨rfl, vl', hf, hB, ho⟩
      obtain ⟨O', k1, k2⟩ := hu.one (t := syF (S.F p)) hp hf hB ho hsz.out
      exact ⟨rfl, O', k1.e, k2⟩
    have hpO : Hid (O p) := H.out.of p hp p (.inl rfl)
    by_cases k1 : tk = 1
    · subst k1
      have hR2 : Hid (S.sync s = ({ S.beg 2 with F := upd S.F p (spF (S.F p)) }, 20)) := by show _ = _; rw [hR.out, if_pos rfl]
      rw [hR2.out]
      clear hR hft hsy
      have hst : Hid (∀ u O' VB' VL', Dsk u b { S.beg 2 with F := upd S.F p (spF (S.F p)) } O' f g pd am VB' VL' → Calls Tryz.prog 73 #[.pointer (some ⟨b, 0, none⟩), .agg #[.int .i64 ta, .int .i64 1, .int .i64 tp]] u fun e w' => e = .returned (.int .i64 20) ∧ Dsk w' b { S.beg 2 with F := upd S.F p (spF (S.F p)) } O' f g pd am VB' VL' ∧ Sgo u w' O' O') := fun u O' VB' VL' hu => dsk_strikeR hu (ta, 1, tp) (by show (1 : Int) ≠ 4; decide)
      go_enter Tryz.func17, Tryz.ntmps17
      go_upto_region 5 with (first
        | (go_at_call 75; refine hF.mono ?_; rintro e w1 ⟨rfl, B1⟩; replace B1 := hide B1; have D1 := hide (H.out.below B1.out))
        | (go_at_call 70; refine (hb.out _ D1.out).mono ?_; rintro e w2 ⟨rfl, D2, G2⟩; replace D2 := hide D2; replace G2 := hide G2))
      have B3 := hide (box_below w2 (.cells #[.int .i64 ta, .int .i64 1, .int .i64 tp] 118))
      have N3 := hide (heap_alloc_new w2 (.cells #[.int .i64 ta, .int .i64 1, .int .i64 tp] 118))
      have D3 := hide (D2.out.below B3.out)
      have hne : Hid (¬ O w2.heap.size) := fun c => Nat.lt_irrefl _ (D2.out.lt _ c)
      have T3 := hide ((Sgo.of_below (O := O) B1.out).trans (G2.out.trans (Sgo.of_below B3.out)))
      generalize w2.alloc (.cells #[.int .i64 ta, .int .i64 1, .int .i64 tp] 118) = w3 at *
      obtain ⟨x0, x1, x2⟩ := cells3 N3.out
      go_wp2_with (first
        | (go_at_call 77; refine (hsp.out _ D3.out).mono ?_; rintro e w4 ⟨rfl, O4, D4, G4, U4⟩; replace D4 := hide D4; replace G4 := hide G4; have N4 := hide (U4.at N3.out (fun e => hne.out (by rw [e]; exact hpO.out))); clear U4; obtain ⟨y0, y1, y2⟩ := cells3 N4.out)
        | (go_at_call 73; refine (hst.out _ _ _ _ D4.out).mono ?_; rintro e w5 ⟨rfl, D5, G5⟩; replace D5 := hide D5; replace G5 := hide G5))
      go_ret
      exact ⟨rfl, O4, D5.out.e, T3.out.trans (G4.out.trans G5.out)⟩
    · have k1' : (tk == 1) = false := by simpa using k1
      have k4' : (tk == 4) = false := by simp; omega
      by_cases k3 : tk = 3
      · subst k3
        have hR2 : Hid (S.sync s = ((S.beg 2).str 3, 22)) := by show _ = _; rw [hR.out, if_neg (by decide), if_pos rfl]
        rw [hR2.out]
        clear hR hft hsy hsp
        have hst : Hid (∀ u, Dsk u b (S.beg 2) O f g pd am VB VL → Calls Tryz.prog 73 #[.pointer (some ⟨b, 0, none⟩), .agg #[.int .i64 ta, .int .i64 3, .int .i64 tp]] u fun e w' => e = .returned (.int .i64 22) ∧ Dsk w' b ((S.beg 2).str 3) O f g pd am VB VL ∧ Sgo u w' O O) := fun u hu => dsk_strikeR hu (ta, 3, tp) (by show (3 : Int) ≠ 4; decide)
        go_enter Tryz.func17, Tryz.ntmps17
        go_upto_region 5 with (first
          | (go_at_call 75; refine hF.mono ?_; rintro e w1 ⟨rfl, B1⟩; replace B1 := hide B1; have D1 := hide (H.out.below B1.out))
          | (go_at_call 70; refine (hb.out _ D1.out).mono ?_; rintro e w2 ⟨rfl, D2, G2⟩; replace D2 := hide D2; replace G2 := hide G2))
        have B3 := hide (box_below w2 (.cells #[.int .i64 ta, .int .i64 3, .int .i64 tp] 118))
        have N3 := hide (heap_alloc_new w2 (.cells #[.int .i64 ta, .int .i64 3, .int .i64 tp] 118))
        have D3 := hide (D2.out.below B3.out)
        have T3 := hide ((Sgo.of_below (O := O) B1.out).trans (G2.out.trans (Sgo.of_below B3.out)))
        generalize w2.alloc (.cells #[.int .i64 ta, .int .i64 3, .int .i64 tp] 118) = w3 at *
        obtain ⟨x0, x1, x2⟩ := cells3 N3.out
        go_wp2_with (go_at_call 73; refine (hst.out _ D3.out).mono ?_; rintro e w5 ⟨rfl, D5, G5⟩; replace D5 := hide D5; replace G5 := hide G5)
        go_ret
        exact ⟨rfl, O, D5.out.e, T3.out.trans G5.out⟩
      · have hR2 : Hid (S.sync s = ({ S.beg 2 with F := upd S.F p (syF (S.F p)) }, 0)) := by show _ = _; rw [hR.out, if_neg k1, if_neg k3]
        rw [hR2.out]
        have hst : Hid (∀ u, Dsk u b (S.beg 2) O f g pd am VB VL → Calls Tryz.prog 73 #[.pointer (some ⟨b, 0, none⟩), .agg #[.int .i64 ta, .int .i64 tk, .int .i64 tp]] u fun e w' => e = .returned (.int .i64 0) ∧ Dsk w' b (S.beg 2) O f g pd am VB VL ∧ Sgo u w' O O) := fun u hu => by
          have := dsk_strikeR hu (ta, tk, tp) (by show tk ≠ 4; omega)
          have e1 : strR tk = 0 := by unfold strR strF; by_cases c : tk = 2 <;> simp [c, k1, k3]
          have e2 : (S.beg 2).str tk = S.beg 2 := by unfold DS.str; rw [if_neg k3]
          dsimp only at this
          rw [e1, e2] at this
          exact this
        clear hR hft hsp k1 k3
        go_enter Tryz.func17, Tryz.ntmps17
        go_upto_region 5 with (first
          | (go_at_call 75; refine hF.mono ?_; rintro e w1 ⟨rfl, B1⟩; replace B1 := hide B1; have D1 := hide (H.out.below B1.out))
          | (go_at_call 70; refine (hb.out _ D1.out).mono ?_; rintro e w2 ⟨rfl, D2, G2⟩; replace D2 := hide D2; replace G2 := hide G2))
        have B3 := hide (box_below w2 (.cells #[.int .i64 ta, .int .i64 tk, .int .i64 tp] 118))
        have N3 := hide (heap_alloc_new w2 (.cells #[.int .i64 ta, .int .i64 tk, .int .i64 tp] 118))
        have D3 := hide (D2.out.below B3.out)
        have T3 := hide ((Sgo.of_below (O := O) B1.out).trans (G2.out.trans (Sgo.of_below B3.out)))
        generalize w2.alloc (.cells #[.int .i64 ta, .int .i64 tk, .int .i64 tp] 118) = w3 at *
        obtain ⟨x0, x1, x2⟩ := cells3 N3.out
        go_wp2_with (first
          | (go_at_call 73; refine (hst.out _ D3.out).mono ?_; rintro e w5 ⟨rfl, D5, G5⟩; replace D5 := hide D5; replace G5 := hide G5)
          | (go_at_call 78; refine (hsy.out _ D5.out).mono ?_; rintro e w6 ⟨rfl, O6, D6, G6⟩; replace D6 := hide D6; replace G6 := hide G6))
        go_ret
        exact ⟨rfl, O6, D6.out, T3.out.trans (G5.out.trans G6.out)⟩
  · have hR : Hid (S.sync s = (S, (S.find s).2)) := by
      show _ = _
      have q := find_no h0
      unfold DS.sync
      cases hq : S.find s with
      | mk a c => rw [hq] at q; dsimp only at q; subst q; rfl
    rw [hR.out]
    have q := find_no h0
    rw [q] at hF
    simp only [Option.map_none] at hF
    generalize (S.find s).2 = r at *
    have h0' : (r != 0) = true := by simpa using h0
    have H := hide h
    clear h h0 q hR
    go_enter Tryz.func17, Tryz.ntmps17
    go_wp2_with (go_at_call 75; refine hF.mono ?_; rintro e w1 ⟨rfl, B1⟩; replace B1 := hide B1)
    go_ret
    exact ⟨rfl, O, (H.out.below B1.out).e, Sgo.of_below B1.out⟩
def mayF (f : Ft) : Bool := decide (1 ≤ f.1) && decide (f.1 ≤ 4294967296) && decide (1 ≤ f.2.1) && decide (f.2.1 ≤ 4) && decide (0 ≤ f.2.2)
def armL (c : Int) : List Ft → Ar → Option Ar
  | [], l => some l
  | f :: r, l => if mayF f = true ∧ aget l (c + f.1) = none then armL c r (aput l (c + f.1) f) else none
theorem armL_snoc (c : Int) (A : List Ft) (f : Ft) (l : Ar) : armL c (A ++ [f]) l = match armL c A l with | none => none | some m => if mayF f = true ∧ aget m (c + f.1) = none then some (aput m (c + f.1) f) else none := by
  induction A generalizing l with
  | nil => rfl
  | cons a r ih =>
    simp only [List.cons_append, armL]
    split
    · exact ih _
    · rfl
theorem armL_none (c : Int) (A B : List Ft) (l : Ar) (h : armL c A l = none) : armL c (A ++ B) l = none := by
  induction A generalizing l with
  | nil => simp [armL] at h
  | cons a r ih =>
    simp only [List.cons_append, armL] at h ⊢
    split
    · rename_i q
      rw [if_pos q] at h
      exact ih _ h
    · rfl
def DS.arm (S : DS) (fs : List Ft) : DS × Int :=
  if 64 < fs.length then (S, 1)
  else match armL S.c7 fs [] with
    | none => (S, 1)
    | some l => ({ S with al := l }, 0)
theorem ains_mem {x e : Int × Ft} {l : Ar} (h : e ∈ ains x l) : e = x ∨ e ∈ l := by
  induction l with
  | nil => simp [ains] at h; exact .inl h
  | cons y r ih =>
    unfold ains at h
    split at h
    · rcases List.mem_cons.1 h with q | q
      · exact .inl q
      · exact .inr q
    · rcases List.mem_cons.1 h with q | q
      · exact .inr (by rw [q]; simp)
      · rcases ih q with z | z
        · exact .inl z
        · exact .inr (by simp [z])
theorem armL_mem {c : Int} : ∀ {fs : List Ft} {l m : Ar}, armL c fs l = some m → ∀ e ∈ m, e ∈ l ∨ (e.2 ∈ fs ∧ mayF e.2 = true) := by
  intro fs
  induction fs with
  | nil => intro l m h e he; simp [armL] at h; subst h; exact .inl he
  | cons f r ih =>
    intro l m h e he
    simp only [armL] at h
    split at h
    · rename_i q
      rcases ih h e he with z | z
      · rcases ains_mem z with y | y
        · rw [y]; exact .inr ⟨by simp, q.1⟩
        · exact .inl (List.mem_filter.1 y).1
      · exact .inr ⟨by simp [z.1], z.2⟩
    · cases h
theorem ains_len (x : Int × Ft) (l : Ar) : (ains x l).length = l.length + 1 := by
  induction l with
  | nil => rfl
  | cons y r ih => unfold ains; split <;> simp [ih]
theorem aput_len (l : Ar) (n : Int) (f : Ft) : (aput l n f).length ≤ l.length + 1 := by
  have : (adel l n).length ≤ l.length := List.length_filter_le _ _
  rw [aput, ains_len]
  omega
theorem armL_len {c : Int} : ∀ {fs : List Ft} {l m : Ar}, armL c fs l = some m → m.length ≤ l.length + fs.length := by
  intro fs
  induction fs with
  | nil => intro l m h; simp [armL] at h; subst h; simp
  | cons f r ih =>
    intro l m h
    simp only [armL] at h
    split at h
    · have h1 := ih h
      have h2 := aput_len l (c + f.1) f
      simp only [List.length_cons]
      omega
    · cases h
def Fts (w : World) (v : Value) (fs : List Ft) : Prop :=
  ∃ ao cap, v = .slice ao fs.length cap ∧ fs.length ≤ cap ∧ cap ≤ maxLen ∧ ∀ i (h : i < fs.length), ∃ b off, ao = some ⟨b, off, none⟩ ∧ w.cell? ⟨b, off + i * 3, none⟩ = some (.int .i64 fs[i].1) ∧ w.cell? ⟨b, off + i * 3 + 1, none⟩ = some (.int .i64 fs[i].2.1) ∧ w.cell? ⟨b, off + i * 3 + 2, none⟩ = some (.int .i64 fs[i].2.2)
theorem Fts.below {w w' : World} {v : Value} {fs : List Ft} (h : Fts w v fs) (hb : Below w.heap.size w w') : Fts w' v fs := by
  obtain ⟨ao, cap, e, h1, h2, h3⟩ := h
  refine ⟨ao, cap, e, h1, h2, fun i hi => ?_⟩
  obtain ⟨b, off, e1, c1, c2, c3⟩ := h3 i hi
  exact ⟨b, off, e1, by rw [hb.cell (lt_of_cell c1)]; exact c1, by rw [hb.cell (lt_of_cell c2)]; exact c2, by rw [hb.cell (lt_of_cell c3)]; exact c3⟩
set_option maxRecDepth 100000 in
theorem mayBefall_any (w : World) (f : Ft) : Calls Tryz.prog 102 #[.agg #[.int .i64 f.1, .int .i64 f.2.1, .int .i64 f.2.2]] w fun e w' => e = .returned (.bool (mayF f)) ∧ Below w.heap.size w w' := by
  obtain ⟨a, k, p⟩ := f
  dsimp only
  have hB := hide (box_below w (.cells #[.int .i64 a, .int .i64 k, .int .i64 p] 118))
  obtain ⟨E, hE⟩ : ∃ E, Hid (mayF (a, k, p) = E) := ⟨_, rfl⟩
  rw [hE.out]
  by_cases c1 : 1 ≤ a
  · by_cases c2 : a ≤ 4294967296
    · by_cases c3 : 1 ≤ k
      · by_cases c4 : k ≤ 4
        · by_cases c5 : 0 ≤ p
          · have q : Hid (E = true) := by show _ = _; rw [← hE.out]; simp [mayF, c1, c2, c3, c4, c5]
            go_enter Tryz.func102, Tryz.ntmps102
            go_wp2_with fail
            go_ret
            exact ⟨by rw [q.out]; rfl, hB.out⟩
          · have q : Hid (E = false) := by show _ = _; rw [← hE.out]; simp [mayF, c5]
            go_enter Tryz.func102, Tryz.ntmps102
            go_wp2_with fail
            go_ret
            exact ⟨by rw [q.out]; rfl, hB.out⟩
        · have q : Hid (E = false) := by show _ = _; rw [← hE.out]; simp [mayF, c4]
          go_enter Tryz.func102, Tryz.ntmps102
          go_wp2_with fail
          go_ret
          exact ⟨by rw [q.out]; rfl, hB.out⟩
      · have q : Hid (E = false) := by show _ = _; rw [← hE.out]; simp [mayF, c3]
        go_enter Tryz.func102, Tryz.ntmps102
        go_wp2_with fail
        go_ret
        exact ⟨by rw [q.out]; rfl, hB.out⟩
    · have q : Hid (E = false) := by show _ = _; rw [← hE.out]; simp [mayF, c2]
      go_enter Tryz.func102, Tryz.ntmps102
      go_wp2_with fail
      go_ret
      exact ⟨by rw [q.out]; rfl, hB.out⟩
  · have q : Hid (E = false) := by show _ = _; rw [← hE.out]; simp [mayF, c1]
    go_enter Tryz.func102, Tryz.ntmps102
    go_wp2_with fail
    go_ret
    exact ⟨by rw [q.out]; rfl, hB.out⟩
theorem Dsk.armed {w w1 : World} {b m : Nat} {S : DS} {O : Nat → Prop} {f g : Nat} {pd : Value} {am : Option Nat} {VB VL : Nat → Value} {l : Ar} (h : Dsk w b S O f g pd am VB VL) (hB : Below w.heap.size w w1) (hm : Am w1 m l) (hn : w.heap.size ≤ m) (hcl : ∀ e ∈ l, (1 ≤ e.2.2.1 ∧ e.2.2.1 ≤ 3) ∧ 0 ≤ e.2.2.2) :
    ∃ O', Dsk (w1.setCell ⟨b, 5, none⟩ (.map (some m))) b { S with al := l } O' f g pd (some m) VB VL ∧ Sgo w (w1.setCell ⟨b, 5, none⟩ (.map (some m))) O O' := by
  have h1 := h.below hB
  obtain ⟨n1, n2, n3, n4⟩ := h1.dk.noB
  have hG := But.of_grownBy (X := fun k => k = b) (grown_setCell w1 b 5 (.map (some m))) fun k e => by cases e; rfl
  have hbm : m ≠ b := fun e => hm.ne h1.dk.cells e.symm
  have hx := heap_setCell_same w1 b 5 _ _ (.map (some m)) h1.dk.cells
  have hOl : ∀ k, Own b (S.dc f g pd am) k → k < w.heap.size := fun k hk => h.lt k (h.ow k hk)
  refine ⟨fun k => O k ∨ (w.heap.size ≤ k ∧ k < (w1.setCell ⟨b, 5, none⟩ (.map (some m))).heap.size), ⟨⟨hx, rfl, rfl, h1.dk.mf.but hG n1, h1.dk.mg.but hG n2, h1.dk.fg, h1.dk.pd.but hG n4, ?_, (fun e => by cases e), h1.dk.run, h1.dk.can, h1.dk.ok, h1.dk.c0, h1.dk.c1⟩, ?_, ?_, ?_, ?_, ?_⟩, ?_⟩
  · intro m' e
    simp only [DS.dc, Option.some.injEq] at e
    subst e
    refine ⟨hm.but hG hbm, fun e => ?_, fun e => ?_⟩
    · have := hOl f (.inr (.inl rfl)); omega
    · have := hOl g (.inr (.inr (.inl rfl))); omega
  · have k1 := h1.fs.but hG (fun p hp k hk e => h1.fs.no p hp k hk (.inl e))
    refine ⟨k1.at_, k1.ap, fun p hp k hk c => ?_⟩
    have hk2 := h.fs.lt hp k hk
    rcases c with c | c | c | c | c
    · exact k1.no p hp k hk (.inl c)
    · exact k1.no p hp k hk (.inr (.inl c))
    · exact k1.no p hp k hk (.inr (.inr (.inl c)))
    · exact k1.no p hp k hk (.inr (.inr (.inr (.inl c))))
    · simp only [DS.dc, Option.some.injEq] at c; omega
  · intro k hk
    rcases hk with c | c | c | c | c
    · exact .inl (h.ow k (.inl c))
    · exact .inl (h.ow k (.inr (.inl c)))
    · exact .inl (h.ow k (.inr (.inr (.inl c))))
    · exact .inl (h.ow k (.inr (.inr (.inr (.inl c)))))
    · simp only [DS.dc, Option.some.injEq] at c; subst c; exact .inr ⟨hn, Nat.lt_of_lt_of_le hm.lt hG.size⟩
  · exact fun p hp k hk => .inl (h.of p hp k hk)
  · rintro k (q | q)
    · exact Nat.lt_of_lt_of_le (h1.lt k q) hG.size
    · exact q.2
  · exact ⟨h.ok.most, h.ok.sz, h.ok.cnt, hcl, h.ok.by8⟩
  · refine ⟨(But.of_below hB _).trans (hG.mono fun k _ e => by rw [e]; exact h.ow b (.inl rfl)), ?_⟩
    rintro k (q | q)
    · exact .inl q
    · exact .inr q.1
set_option maxRecDepth 100000 in
set_option maxHeartbeats 2000000 in
theorem arm_any {w : World} {b : Nat} {S : DS} {O : Nat → Prop} {f g : Nat} {pd : Value} {am : Option Nat} {VB VL : Nat → Value} (h : Dsk w b S O f g pd am VB VL) (hc : S.c7 < 900000000) (v : Value) (fs : List Ft) (hv : Fts w v fs) (h4 : ∀ t ∈ fs, t.2.1 ≠ 4) :
    Calls Tryz.prog 59 #[.pointer (some ⟨b, 0, none⟩), v] w (Does w b O (S.arm fs)) := by
  have hM := made_any w _ _ h.dk.dp
  rw [show madeD (some (S.dc f g pd am)) = true from rfl] at hM
  have H := hide h
  obtain ⟨ao, ca, rfl, q1, q2, q3⟩ := hv
  have q2' : (ca : Int) ≤ 9223372036854775807 := by unfold maxLen at q2; omega
  replace q3 := hide q3
  obtain ⟨N, hN⟩ : ∃ N, Hid (fs.length = N) := ⟨_, rfl⟩
  rw [hN.out] at q1 ⊢
  have hc7 : Hid (∀ q, Below w.heap.size w q → q.cell? ⟨b, 13, none⟩ = some (.int .i64 S.c7)) := fun q hq => (H.out.below hq).dk.box.all.1
  have hc70 : 0 ≤ S.c7 := by have := h.dk.c0; exact this.2.2.2.2.2.2.2
  clear h
  by_cases c64 : 64 < N
  · have hR : Hid (S.arm fs = (S, 1)) := by show _ = _; unfold DS.arm; rw [if_pos (by rw [hN.out]; exact c64)]
    rw [hR.out]
    have i1 : (64 : Int) < (N : Int) := by omega
    go_enter Tryz.func59, Tryz.ntmps59
    go_wp2_with (go_at_call 79; refine hM.mono ?_; rintro e w1 ⟨rfl, e1⟩; subst w1)
    go_ret
    exact ⟨rfl, O, H.out.e, Sgo.refl _ _⟩
  · have i1 : ¬ (64 : Int) < (N : Int) := by omega
    have hmm := @run_makeMap Tryz.prog
    obtain ⟨m, hm0⟩ : ∃ m, Hid (w.heap.size = m) := ⟨_, rfl⟩
    have A0 : Hid (Am (w.alloc (.map #[] 0)) m []) := by show Am _ _ _; rw [← hm0.out]; exact Am.of (l := []) (World.ownsMap_made w _ _ _)
    have B0 := hide (box_below w (.map #[] 0))
    have h4' := hide h4
    clear h4
    go_enter Tryz.func59, Tryz.ntmps59
    go_wp2_with (go_at_call 79; refine hM.mono ?_; rintro e w1 ⟨rfl, e1⟩; subst w1)
    rw [hm0.out]
    clear hmm hM
    go_loopw [20] (fun i wr => ∃ k : Nat, i = .int .i64 k ∧ k ≤ N ∧ ∃ l : Ar, Hid (armL S.c7 (fs.take k) [] = some l) ∧ Hid (Am wr m l ∧ Below m w wr)) (fun i _ => N - (intOf i).toNat)
    case atStart => exact ⟨0, rfl, Nat.zero_le _, [], rfl, A0.out, by rw [← hm0.out]; exact B0.out⟩
    case round =>
      obtain ⟨k, rfl, hk, l, hl, hI⟩ := hrel
      by_cases hlt : k < N
      · have i2 : (k : Int) < (N : Int) := by omega
        have hkl : k < fs.length := by rw [hN.out]; exact hlt
        obtain ⟨gb, off, rfl, f1, f2, f3⟩ := q3.out k hkl
        have hsn : Hid (fs.take (k + 1) = fs.take k ++ [fs[k]]) := List.take_succ_eq_append_getElem hkl
        have hdrop : Hid (fs = fs.take (k + 1) ++ fs.drop (k + 1)) := (List.take_append_drop _ _).symm
        have hll := armL_len hl.out
        rw [List.length_take] at hll
        simp only [List.length_nil, Nat.zero_add] at hll
        have Bw := hI.out.2
        rw [← hm0.out] at Bw
        have f1' := (Bw.cell (p := ⟨gb, off + k * 3, none⟩) (lt_of_cell f1)).trans f1
        have f2' := (Bw.cell (p := ⟨gb, off + k * 3 + 1, none⟩) (lt_of_cell f2)).trans f2
        have f3' := (Bw.cell (p := ⟨gb, off + k * 3 + 2, none⟩) (lt_of_cell f3)).trans f3
        replace Bw := hide Bw
        clear f1 f2 f3
        generalize fs[k] = t at *
        clear hkl
        obtain ⟨ta, tk, tp⟩ := t
        dsimp only at f1' f2' f3'
        obtain ⟨w1, hw1⟩ : ∃ w1, Hid (wr.alloc (.cells #[.int .i64 ta, .int .i64 tk, .int .i64 tp] 118) = w1) := ⟨_, rfl⟩
        have B1 : Hid (Below wr.heap.size wr w1) := by show Below _ _ _; rw [← hw1.out]; exact box_below wr _
        have N1 : Hid (w1.heap[wr.heap.size]? = some (.cells #[.int .i64 ta, .int .i64 tk, .int .i64 tp] 118 (0, 0))) := by show _ = _; rw [← hw1.out]; exact heap_alloc_new wr _
        have hMay := mayBefall_any w1 (ta, tk, tp)
        dsimp only at hMay
        have A1 : Hid (Am w1 m l) := hI.out.1.heap (B1.out.block m hI.out.1.lt)
        obtain ⟨x0, x1, x2⟩ := cells3 N1.out
        have zm : Hid (m < wr.heap.size) := hI.out.1.lt
        by_cases cm : mayF (ta, tk, tp) = true
        · rw [cm] at hMay
          have ha1 : 1 ≤ ta ∧ ta ≤ 4294967296 := by simp [mayF] at cm; omega
          have hww : IntKind.i64.wrap (S.c7 + ta) = S.c7 + ta := by rw [IntKind.wrap_i64]; omega
          have k0 : -9223372036854775808 ≤ S.c7 + ta := by omega
          have k1 : S.c7 + ta ≤ 9223372036854775807 := by omega
          have hlook : Hid (∀ q, Am q m l → _) := fun q hq => hq.look_ok (n := S.c7 + ta) k0 k1
          unfold TA fv at hlook
          cases hg : aget l (S.c7 + ta) with
          | some u =>
            rw [hg] at hlook
            simp only [Option.getD_some, Option.isSome_some] at hlook
            obtain ⟨ua, uk, up⟩ := u
            dsimp only at hlook
            have hR : Hid (S.arm fs = (S, 1)) := by
              show _ = _
              unfold DS.arm
              rw [if_neg (by rw [hN.out]; omega)]
              have : armL S.c7 fs [] = none := by
                rw [hdrop.out]
                refine armL_none _ _ _ _ ?_
                rw [hsn.out, armL_snoc, hl.out]
                simp [hg]
              rw [this]
            rw [hR.out]
            go_upto_region 9 with fail
            rw [hw1.out]
            go_upto_region 11 with (go_at_call 102; refine hMay.mono ?_; rintro e w2 ⟨rfl, B2⟩; replace B2 := hide B2; have N2 : Hid (w2.heap[wr.heap.size]? = some (.cells #[.int .i64 ta, .int .i64 tk, .int .i64 tp] 118 (0, 0))) := (B2.out.block _ (heap_lt N1.out)).trans N1.out)
            obtain ⟨y0, y1, y2⟩ := cells3 N2.out
            have E2 : Hid (Below w.heap.size w w2) := Bw.out.trans ((B1.out.trans (B2.out.mono B1.out.size)).mono Bw.out.size)
            have y3 := hc7.out w2 E2.out
            go_quiet (fail)
            have A2 : Hid (Am (w2.drewN nq) m l) := A1.out.heap (B2.out.block m A1.out.lt)
            have hL2 := hlook.out _ A2.out
            have E3 : Hid (Below w.heap.size w (w2.drewN nq)) := E2.out.trans (Qt.below ⟨nq, rfl⟩ _)
            generalize w2.drewN nq = w3 at *
            clear y0 y1 y2 y3 x0 x1 x2 f1' f2' f3' hlook
            go_wp2_with fail
            go_ret
            have B4 := E3.out.trans ((box_below w3 (.cells #[.int .i64 ua, .int .i64 uk, .int .i64 up] 118)).mono E3.out.size)
            exact ⟨rfl, O, (H.out.below B4).e, Sgo.of_below B4⟩
          | none =>
            rw [hg] at hlook
            simp only [Option.getD_none, Option.isSome_none] at hlook
            unfold zf at hlook
            dsimp only at hlook
            have hl2 : Hid (armL S.c7 (fs.take (k + 1)) [] = some (aput l (S.c7 + ta) (ta, tk, tp))) := by
              show _ = _
              rw [hsn.out, armL_snoc, hl.out]
              simp [cm, hg]
            go_upto_region 9 with fail
            rw [hw1.out]
            go_upto_region 11 with (go_at_call 102; refine hMay.mono ?_; rintro e w2 ⟨rfl, B2⟩; replace B2 := hide B2; have N2 : Hid (w2.heap[wr.heap.size]? = some (.cells #[.int .i64 ta, .int .i64 tk, .int .i64 tp] 118 (0, 0))) := (B2.out.block _ (heap_lt N1.out)).trans N1.out)
            obtain ⟨y0, y1, y2⟩ := cells3 N2.out
            have E2 : Hid (Below w.heap.size w w2) := Bw.out.trans ((B1.out.trans (B2.out.mono B1.out.size)).mono Bw.out.size)
            have y3 := hc7.out w2 E2.out
            go_quiet (fail)
            have A2 : Hid (Am (w2.drewN nq) m l) := A1.out.heap (B2.out.block m A1.out.lt)
            have hL2 := hlook.out _ A2.out
            have E3 : Hid (Below w.heap.size w (w2.drewN nq)) := E2.out.trans (Qt.below ⟨nq, rfl⟩ _)
            replace N2 : Hid ((w2.drewN nq).heap[wr.heap.size]? = some (.cells #[.int .i64 ta, .int .i64 tk, .int .i64 tp] 118 (0, 0))) := N2.out
            generalize w2.drewN nq = w3 at *
            clear y0 y1 y2 y3 x0 x1 x2 f1' f2' f3' hlook
            obtain ⟨w4, hw4⟩ : ∃ w4, Hid (w3.alloc (.cells #[.int .i64 0, .int .i64 0, .int .i64 0] 118) = w4) := ⟨_, rfl⟩
            have B4 : Hid (Below w3.heap.size w3 w4) := by show Below _ _ _; rw [← hw4.out]; exact box_below w3 _
            have A4 : Hid (Am w4 m l) := A2.out.heap (B4.out.block m A2.out.lt)
            have N4 : Hid (w4.heap[wr.heap.size]? = some (.cells #[.int .i64 ta, .int .i64 tk, .int .i64 tp] 118 (0, 0))) := (B4.out.block _ (heap_lt N2.out)).trans N2.out
            obtain ⟨y0, y1, y2⟩ := cells3 N4.out
            obtain ⟨w5, hU, A5, T5⟩ := A4.out.store (n := S.c7 + ta) (f := (ta, tk, tp)) k0 k1 (by unfold maxLen; omega)
            unfold TA fv at hU
            dsimp only at hU
            replace A5 := hide A5
            replace T5 := hide T5
            go_upto_region 15 with fail
            rw [hw4.out]
            go_wp2_with fail
            go_roundw
            case rel =>
              refine ⟨k + 1, by go_num, by omega, _, hl2.out, A5.out, ?_⟩
              have E4 := E3.out.trans (B4.out.mono E3.out.size)
              rw [hm0.out] at E4
              have G5 := turned_but T5.out
              exact ⟨G5.os.trans E4.os, G5.tape.trans E4.tape, G5.output.trans E4.output, Nat.le_trans E4.size G5.size, fun j hj => (G5.block j (by have := E4.size; have := hm0.out; omega) (by omega)).trans (E4.block j hj)⟩
            case measure => simp [intOf]; omega
        · have cm' : mayF (ta, tk, tp) = false := by simpa using cm
          rw [cm'] at hMay
          have hR : Hid (S.arm fs = (S, 1)) := by
            show _ = _
            unfold DS.arm
            rw [if_neg (by rw [hN.out]; omega)]
            have : armL S.c7 fs [] = none := by
              rw [hdrop.out]
              refine armL_none _ _ _ _ ?_
              rw [hsn.out, armL_snoc, hl.out]
              simp [cm']
            rw [this]
          rw [hR.out]
          go_upto_region 9 with fail
          rw [hw1.out]
          go_wp2_with (go_at_call 102; refine hMay.mono ?_; rintro e w2 ⟨rfl, B2⟩; replace B2 := hide B2)
          go_ret
          have E2 : Below w.heap.size w w2 := Bw.out.trans ((B1.out.trans (B2.out.mono B1.out.size)).mono Bw.out.size)
          exact ⟨rfl, O, (H.out.below E2).e, Sgo.of_below E2⟩
      · obtain rfl : k = N := by omega
        rw [List.take_of_length_le (by rw [hN.out]; omega)] at hl
        have hR : Hid (S.arm fs = ({ S with al := l }, 0)) := by
          show _ = _
          unfold DS.arm
          rw [if_neg (by rw [hN.out]; omega), hl.out]
        rw [hR.out]
        have Bw := hI.out.2
        rw [← hm0.out] at Bw
        obtain ⟨O', D', G'⟩ := H.out.armed Bw hI.out.1 (by rw [hm0.out]; exact Nat.le_refl _) (fun e he => by
          rcases armL_mem hl.out e he with z | ⟨z1, z2⟩
          · simp at z
          · have := h4'.out _ z1
            simp [mayF] at z2
            omega)
        have hbx := (H.out.below Bw).dk.cells
        have t1 : wr.cell? ⟨b, 5, none⟩ = some (.map am) := (H.out.below Bw).dk.box.cells.2.2.2.2.2
        have t2 : wr.frozen? ⟨b, 5, none⟩ = false := by simp [World.frozen?, hbx]
        replace D' := hide D'
        replace G' := hide G'
        clear hbx
        go_wp2_with fail
        go_ret
        exact ⟨by rw [hR.out]; rfl, O', by rw [hR.out]; exact D'.out.e, G'.out⟩
theorem ref_up {S : DS} (h : S.up = true) {s : ByteArray} (hm : may s.data.toList = true) : S.ref [s] = 0 := by
  unfold DS.ref
  rw [h]
  simp [hm]
theorem find_get {S : DS} (h : S.up = true) {s : ByteArray} (hm : may s.data.toList = true) {p : Nat} (hg : get S.dir s.data.toList = some p) : S.find s = (some p, 0) := by
  unfold DS.find
  rw [ref_up h hm, if_pos rfl, hg]
theorem may_a : may sA.data.toList = true := by decide
structure Fil (S : DS) (M pa pb a b : Nat) : Prop where
  up : S.up = true
  al : S.al = []
  most : S.most = (M : Int)
  dir : S.dir = [([97], pa), ([98], pb)]
  ne : pa ≠ pb
  fa : (S.F pa).by_.length = a
  fb : (S.F pb).by_.length = b
theorem Fil.size {S : DS} {M pa pb a b : Nat} (h : Fil S M pa pb a b) : S.size sA = ((a : Int), 0) := by
  unfold DS.size
  rw [find_get h.up may_a (p := pa) (by rw [h.dir]; rfl)]
  show (((S.F pa).by_.length : Int), _) = _
  rw [h.fa]
structure One (S : DS) (s : ByteArray) (M : Nat) (p : Nat) (t : Fl) (c : Int) (l : Ar) : Prop where
  up : S.up = true
  most : S.most = (M : Int)
  l2 : S.l2 = [(s.data.toList, p)]
  P : S.P = []
  al : S.al = l
  c7 : S.c7 = c
  F : S.F p = t
  le : t.la.length ≤ t.by_.length
theorem One.dir {S : DS} {s : ByteArray} {M p : Nat} {t : Fl} {c : Int} {l : Ar} (h : One S s M p t c l) : S.dir = [(s.data.toList, p)] := by unfold DS.dir; rw [h.l2, h.P]; rfl
theorem get_one (n : List UInt8) (p : Nat) : get [(n, p)] n = some p := by simp [get]
theorem One.find {S : DS} {s : ByteArray} {M p : Nat} {t : Fl} {c : Int} {l : Ar} (h : One S s M p t c l) (hm : may s.data.toList = true) : S.find s = (some p, 0) := find_get h.up hm (by rw [h.dir]; exact get_one _ _)
theorem One.read {S : DS} {s : ByteArray} {M p : Nat} {t : Fl} {c : Int} {l : Ar} (h : One S s M p t c l) (hm : may s.data.toList = true) : S.read s 0 (t.by_.length : Int) = (t.by_, 0) := by
  unfold DS.read
  rw [h.find hm]
  dsimp only
  rw [h.F, if_pos (by omega)]
  simp
end Go.Proofs.YtjehpijjneghpaaGreat.Dk
namespace Go.Proofs.YtjehpijjneghpaaGreat
open Go.RowKit
set_option maxHeartbeats 800000 in
theorem eq_any (w : World) (ao bo : Option Addr) (l m : List UInt8) (ca cb : Nat) (hl : l.length ≤ maxLen) (hm : m.length ≤ maxLen) (ha : Rd w ao l) (hb : Rd w bo m) :
    Calls Tryz.prog 21 #[.slice ao l.length ca, .slice bo m.length cb] w fun e w' => e = .returned (.bool (decide (l = m))) ∧ Qt w w' := by
  unfold maxLen at hl hm
  by_cases hn : (l.length : Int) = (m.length : Int)
  · have hn' : (((l.length : Nat) : Int) != ((m.length : Nat) : Int)) = false := by simp; omega
    have HN : Hid (l.length = m.length) := by show _ = _; omega
    clear hn
    go_enter Tryz.func21, Tryz.ntmps21
    go_wp2
    go_loopw [5] (fun i wr => ∃ k : Nat, k ≤ l.length ∧ i = .int .i64 k ∧ Qt w wr ∧ Hid (l.take k = m.take k)) (fun i _ => l.length - (intOf i).toNat)
    case atStart => exact ⟨0, Nat.zero_le _, rfl, Qt.refl _, by simp [Hid]⟩
    case round =>
      obtain ⟨k, hk, rfl, ⟨nq, rfl⟩, heq⟩ := hrel
      by_cases hlt : k < l.length
      · obtain ⟨b1, o1, rfl, h1⟩ := ha.at (by omega)
        obtain ⟨b2, o2, rfl, h2⟩ := hb.at (by have := HN.out; omega)
        have hlt2 : k < m.length := by have := HN.out; omega
        have c1 := h1 k hlt
        have c2 := h2 k hlt2
        clear h1 h2
        cases hc : ((l[k].toNat : Int) != (m[k].toNat : Int))
        · have HS : Hid (l.take (k + 1) = m.take (k + 1)) := by
            show _ = _
            rw [take_snoc l k hlt, take_snoc m k hlt2, heq.out, u8_eq hc]
          go_wp2
          go_quiet (fail)
          go_wp2
          go_roundw
          case rel => exact ⟨k + 1, by omega, by go_num, ⟨_, rfl⟩, HS⟩
          case measure => simp [intOf]; omega
        · have HS : Hid (decide (l = m) = false) := by
            show _ = _
            exact decide_eq_false (ne_at k hlt hlt2 (u8_ne hc))
          go_wp2
          go_quiet (fail)
          go_wp2
          go_ret
          exact ⟨ret_bool (by rw [HS.out]), Qt.drewN ⟨_, rfl⟩ _⟩
      · have HS : Hid (decide (l = m) = true) := by
          show _ = _
          exact decide_eq_true (take_eq_all HN.out k (by omega) heq.out)
        go_wp2
        go_ret
        exact ⟨ret_bool (by rw [HS.out]), ⟨_, rfl⟩⟩
  · have hn' : (((l.length : Nat) : Int) != ((m.length : Nat) : Int)) = true := by simp; omega
    have HS : Hid (decide (l = m) = false) := by
      show _ = _
      exact decide_eq_false (by rintro rfl; exact hn rfl)
    clear hn
    go_enter Tryz.func21, Tryz.ntmps21
    go_wp2
    go_ret
    exact ⟨ret_bool (by rw [HS.out]), Qt.refl _⟩
end Go.Proofs.YtjehpijjneghpaaGreat
namespace Go.Proofs.YtjehpijjneghpaaGreat.Dk
open Go.RowKit Go.Maps Go.Sort Go.Shelf Go.Proofs.YtjehpijjneghpaaGreat.Nm
def sF : ByteArray := ⟨#[102]⟩
structure OI (w q : World) (b : Nat) (S : DS) (O : Nat → Prop) (p : Nat) (t : Fl) (c : Int) (l : Ar) : Prop where
  d : DskE q b S O
  o : One S sF 1048576 p t c l
  bel : Below w.heap.size w q
  lo : ∀ k, O k → w.heap.size ≤ k
theorem OI.below {w q q' : World} {b : Nat} {S : DS} {O : Nat → Prop} {p : Nat} {t : Fl} {c : Int} {l : Ar} (h : OI w q b S O p t c l) (hb : Below q.heap.size q q') : OI w q' b S O p t c l :=
  ⟨h.d.below hb, h.o, h.bel.trans (hb.mono h.bel.size), h.lo⟩
structure Cm (S : DS) (M : Nat) (L2 : Dr) (PP : List Ch) (F : Nat → Fl) (c : Int) : Prop where
  up : S.up = true
  al : S.al = []
  most : S.most = (M : Int)
  l2 : S.l2 = L2
  P : S.P = PP
  F : S.F = F
  c7 : S.c7 = c
theorem Cm.dir {S : DS} {M : Nat} {L2 : Dr} {PP : List Ch} {F : Nat → Fl} {c : Int} (h : Cm S M L2 PP F c) : S.dir = runs L2 PP := by unfold DS.dir; rw [h.l2, h.P]
theorem Cm.find {S : DS} {M : Nat} {L2 : Dr} {PP : List Ch} {F : Nat → Fl} {c : Int} (h : Cm S M L2 PP F c) {s : ByteArray} {p : Nat} (hm : may s.data.toList = true) (hg : get (runs L2 PP) s.data.toList = some p) : S.find s = (some p, 0) := find_get h.up hm (by rw [h.dir]; exact hg)
theorem Cm.size {S : DS} {M : Nat} {L2 : Dr} {PP : List Ch} {F : Nat → Fl} {c : Int} (h : Cm S M L2 PP F c) {s : ByteArray} {p : Nat} (hm : may s.data.toList = true) (hg : get (runs L2 PP) s.data.toList = some p) : S.size s = (((F p).by_.length : Int), 0) := by
  unfold DS.size
  rw [h.find hm hg]
  dsimp only
  rw [h.F]
theorem Cm.read {S : DS} {M : Nat} {L2 : Dr} {PP : List Ch} {F : Nat → Fl} {c : Int} (h : Cm S M L2 PP F c) {s : ByteArray} {p : Nat} (hm : may s.data.toList = true) (hg : get (runs L2 PP) s.data.toList = some p) (n : Nat) (hn : n ≤ (F p).by_.length) : S.read s 0 (n : Int) = ((F p).by_.take n, 0) := by
  unfold DS.read
  rw [h.find hm hg]
  dsimp only
  rw [h.F, if_pos (by omega)]
  simp
def CI (w q : World) (b M : Nat) (L2 : Dr) (PP : List Ch) (F : Nat → Fl) (c : Int) : Prop :=
  ∃ (S : DS) (O : Nat → Prop), DskE q b S O ∧ Cm S M L2 PP F c ∧ Below w.heap.size w q ∧ ∀ k, O k → w.heap.size ≤ k
theorem CI.below {w q q' : World} {b M : Nat} {L2 : Dr} {PP : List Ch} {F : Nat → Fl} {c : Int} (h : CI w q b M L2 PP F c) (hb : Below q.heap.size q q') : CI w q' b M L2 PP F c := by
  obtain ⟨S, O, hd, hm, hB, hl⟩ := h
  exact ⟨S, O, hd.below hb, hm, hB.trans (hb.mono hB.size), hl⟩
theorem CI.bel {w q : World} {b M : Nat} {L2 : Dr} {PP : List Ch} {F : Nat → Fl} {c : Int} (h : CI w q b M L2 PP F c) : Below w.heap.size w q := by
  obtain ⟨S, O, hd, hm, hB, hl⟩ := h
  exact hB
def DS.list (S : DS) : List (List UInt8) × Int := if S.up then (nms S.dir, 0) else ([], 22)
set_option maxRecDepth 100000 in
theorem list_any {w : World} {b : Nat} {S : DS} {O : Nat → Prop} {f g : Nat} {pd : Value} {am : Option Nat} {VB VL : Nat → Value} (h : Dsk w b S O f g pd am VB VL) (hc : S.c7 < 1000000000) :
    Calls Tryz.prog 26 #[.pointer (some ⟨b, 0, none⟩)] w fun e w' => ∃ v, e = .returned (.tuple #[v, .int .i64 S.list.2]) ∧ w'.ownsRow w.heap.size 9 1 v S.list.1.length (S.list.1.map encStr) ∧ Below w.heap.size w w' := by
  have hr := refuse_any w _ _ (some (S.dc f g pd am)) [] h.dk.dp (row0 w) (by simp)
  rw [ref_dc] at hr
  obtain ⟨d1, _, _⟩ := dir_len h.ok hc
  have hN := names_any f S.dir w h.dk.mf (by omega)
  have c2 : w.cell? ⟨b, 2, none⟩ = some (.map (some f)) := h.dk.box.cells.2.2.1
  obtain ⟨R, hR⟩ : ∃ R, Hid (S.list = R) := ⟨_, rfl⟩
  rw [hR.out]
  cases hu : S.up with
  | true =>
    have e1 : S.ref [] = 0 := by unfold DS.ref; rw [hu]; rfl
    have e2 : Hid (R = (nms S.dir, 0)) := by show _ = _; rw [← hR.out]; unfold DS.list; rw [hu]; rfl
    rw [e1] at hr
    clear h
    go_enter Tryz.func26, Tryz.ntmps26
    go_wp2_with (first
      | (go_at_call 68; refine hr.mono ?_; rintro e w1 ⟨rfl, e1⟩; subst w1)
      | (go_at_call 81; refine hN.mono ?_; rintro e w2 ⟨v2, rfl, R2, _, B2⟩; replace R2 := hide R2; replace B2 := hide B2))
    go_ret2
    exact ⟨v2, by rw [e2.out]; rfl, by rw [e2.out]; exact R2.out, B2.out⟩
  | false =>
    have e1 : S.ref [] = 22 := by unfold DS.ref; rw [hu]; rfl
    have e2 : Hid (R = ([], 22)) := by show _ = _; rw [← hR.out]; unfold DS.list; rw [hu]; rfl
    rw [e1] at hr
    clear h
    go_enter Tryz.func26, Tryz.ntmps26
    go_wp2_with (go_at_call 68; refine hr.mono ?_; rintro e w1 ⟨rfl, e1⟩; subst w1)
    go_ret2
    exact ⟨_, by rw [e2.out]; rfl, by rw [e2.out]; exact World.ownsRow_nil _ _ _ _, Below.refl _ _⟩
end Go.Proofs.YtjehpijjneghpaaGreat.Dk
