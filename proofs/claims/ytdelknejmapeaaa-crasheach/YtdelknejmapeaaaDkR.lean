/-
  names in order; strings.Clone; Create.
-/
import Derived.Test.YtdelknejmapeaaaDkQ
import Derived.Test.YtdelknejmapeaaaShelfC
namespace Go.Proofs.Ytdelknejmapeaaa.Dk
open Go.RowKit Go.Maps Go.Sort Go.Shelf Go.Proofs.Ytdelknejmapeaaa.Nm

/-- A directory's names, in order. -/
def nms (l : Dr) : List (List UInt8) := (l.map (·.1)).mergeSort fun x y => decide (x ≤ y)
theorem sort_perm {ss tt : List (List UInt8)} (h : ss.Perm tt) : (ss.mergeSort fun x y => decide (x ≤ y)) = tt.mergeSort fun x y => decide (x ≤ y) := by
  have tr : ∀ a b c : List UInt8, decide (a ≤ b) = true → decide (b ≤ c) = true → decide (a ≤ c) = true := fun a b c h1 h2 => by simp only [decide_eq_true_eq] at *; exact List.le_trans h1 h2
  have tt' : ∀ a b : List UInt8, (decide (a ≤ b) || decide (b ≤ a)) = true := fun a b => by simp only [Bool.or_eq_true, decide_eq_true_eq]; exact List.le_total a b
  have p1 := List.pairwise_mergeSort tr tt' ss
  have p2 := List.pairwise_mergeSort tr tt' tt
  refine List.Perm.eq_of_pairwise (le := fun a b => decide (a ≤ b) = true) (fun a b _ _ h1 h2 => ?_) p1 p2 (((List.mergeSort_perm _ _).trans h).trans (List.mergeSort_perm _ _).symm)
  simp only [decide_eq_true_eq] at h1 h2
  exact List.le_antisymm h1 h2
theorem keys_dir (l : Dr) : strKeys (dirD l) = l.map (·.1) := by
  show (l.map dent).map (fun p => strOf p.1) = _
  rw [List.map_map]
  rfl
theorem nms_len (l : Dr) : (nms l).length = l.length := by rw [nms, List.length_mergeSort, List.length_map]
theorem names_any (b : Nat) (l : Dr) (w : World) (h : Mp w b l) (hl : l.length ≤ 1000000000) :
    Calls Try.prog 35 #[.map (some b)] w fun e w' => ∃ v : Value, e = .returned v ∧ w'.ownsRow w.heap.size 9 1 v (nms l).length ((nms l).map encStr) ∧ (v = .slice none 0 0 ↔ l = []) ∧ Below w.heap.size w w' := by
  refine (names_gen b l w h hl).mono ?_
  rintro e w' ⟨v, ss, rfl, hp, hr, hn, hB⟩
  rw [keys_dir] at hp
  rw [sort_perm hp] at hr
  refine ⟨v, rfl, ?_, ?_, hB⟩
  · have e : ss.length = (nms l).length := by rw [nms_len, hp.length_eq, List.length_map]
    rw [← e]
    exact hr
  · rw [hn]
    constructor
    · rintro rfl
      exact List.map_eq_nil_iff.1 (List.nil_perm.1 hp)
    · rintro rfl
      exact List.perm_nil.1 hp
#print axioms names_any
theorem clone_str (s : ByteArray) (w : World) (hs : s.size ≤ 281474976710656) : Calls Try.prog 41 #[.string s] w fun e w' => e = .returned (.string s) ∧ Below w.heap.size w w' := by
  have hc := Try.stringslite_Clone s w hs
  go_enter Try.func41, Try.ntmps41
  go_wp2_with (go_at_call 60; refine hc.mono ?_; rintro e w1 ⟨rfl, B1⟩; replace B1 := hide B1)
  go_ret
  exact ⟨rfl, B1.out⟩
#print axioms clone_str
/-- How Create ends. -/
inductive Created (w w' : World) (b : Nat) (x : Dc) (f g : Nat) (l l2 : Dr) (P : List Ch) (al : Ar) (s : ByteArray) : Int → Prop where
  | no (r : Int) (hr : refF (some x) [s] = r) (h0 : r ≠ 0) (hd : Dk w' b x f g l l2 P al) (st : Stp w w' b x x) : Created w w' b x f g l l2 P al s r
  | there (hr : refF (some x) [s] = 0) (ht : (get l s.data.toList).isSome = true) (hd : Dk w' b x f g l l2 P al) (st : Stp w w' b x x) : Created w w' b x f g l l2 P al s 7
  | many (hr : refF (some x) [s] = 0) (ht : get l s.data.toList = none) (hm : 256 ≤ l.length) (hd : Dk w' b x f g l l2 P al) (st : Stp w w' b x x) : Created w w' b x f g l l2 P al s 9
  | struck (e : Int) (hr : refF (some x) [s] = 0) (ht : get l s.data.toList = none) (hm : l.length < 256) (he : strF (nextF x al).2.1 = e) (h0 : e ≠ 0) (hd : Dk w' b (strX (nextF x al).2.1 (inc x 0)) f g l l2 P (adel al (x.c7 + 1))) (st : Stp w w' b x (strX (nextF x al).2.1 (inc x 0))) : Created w w' b x f g l l2 P al s e
  | done (hr : refF (some x) [s] = 0) (ht : get l s.data.toList = none) (hm : l.length < 256) (he : strF (nextF x al).2.1 = 0) (p : Nat) (pd : Value) (hp : w.heap.size ≤ p) (ho : ¬ Own b { strX (nextF x al).2.1 (inc x 0) with pd := pd } p) (hf : w'.heap[p]? = some (.cells #[.slice none 0 0, .slice none 0 0, .int .i64 0] 81 (0, 0)))
      (hd : Dk w' b { strX (nextF x al).2.1 (inc x 0) with pd := pd } f g (dput l s.data.toList p) l2 (P ++ [.cr s p]) (adel al (x.c7 + 1))) (st : Stp w w' b x { strX (nextF x al).2.1 (inc x 0) with pd := pd }) : Created w w' b x f g l l2 P al s 0
set_option maxRecDepth 100000 in
set_option maxHeartbeats 1000000 in
theorem create_any (w : World) (b : Nat) (x : Dc) (f g : Nat) (l l2 : Dr) (P : List Ch) (al : Ar) (s : ByteArray) (hs : s.size ≤ 140737488355328) (h : Dk w b x f g l l2 P al) (hc : x.c7 < 4611686018427387904) (hk : (nextF x al).2.1 ≠ 4) (hP : P.length < 1000000000) :
    Calls Try.prog 11 #[.pointer (some ⟨b, 0, none⟩), .string s] w fun e w' => ∃ r, e = .returned (.int .i64 r) ∧ Created w w' b x f g l l2 P al s r := by
  have hs2 : s.size ≤ maxLen := by unfold maxLen; omega
  have hB := hide ((Below.refl _ w).alloc (Nat.le_refl _) (.cells #[.string s] 9))
  have H1 := hide (h.below hB.out)
  have hr := refuse_any (w.alloc (.cells #[.string s] 9)) _ _ (some x) [s] H1.out.dp (row1 w s _ _) (by simpa using hs2)
  obtain ⟨r, hR⟩ : ∃ r, Hid (refF (some x) [s] = r) := ⟨_, rfl⟩
  rw [hR.out] at hr
  generalize hw1 : w.alloc (.cells #[.string s] 9) = w1 at *
  replace hw1 := hide hw1
  have K1 := hide (Stp.of_below (b := b) (x := x) hB.out)
  by_cases r0 : r = 0
  · subst r0
    have c2 : w1.cell? ⟨b, 2, none⟩ = some (.map (some f)) := by have := H1.out.box.cells.2.2.1; rw [H1.out.fm] at this; exact this
    by_cases g0 : (get l s.data.toList).isSome = true
    · obtain ⟨p, hp⟩ := Option.isSome_iff_exists.1 g0
      have hL := H1.out.mf.look_some hs2 hp
      unfold TM at hL
      clear h hk
      replace g0 := hide g0
      go_enter Try.func11, Try.ntmps11
      go_upto_region 1 with fail
      go_wp2_with (go_at_call 34; rw [hw1.out]; refine hr.mono ?_; rintro e w2 ⟨rfl, e1⟩; subst w2)
      go_ret
      exact ⟨7, rfl, .there hR.out g0.out H1.out K1.out⟩
    · have hg : get l s.data.toList = none := by simpa using g0
      have hL := H1.out.mf.look_none hs2 hg
      have hLen := fun ty => H1.out.mf.len ty
      unfold TM at hL hLen
      replace hg := hide hg
      by_cases m0 : 256 ≤ l.length
      · have m1 : (256 : Int) ≤ (l.length : Int) := by omega
        clear h hk g0
        go_enter Try.func11, Try.ntmps11
        go_wp2_with (go_at_call 34; rw [hw1.out]; refine hr.mono ?_; rintro e w2 ⟨rfl, e1⟩; subst w2)
        go_ret
        exact ⟨9, rfl, .many hR.out hg.out m0 H1.out K1.out⟩
      · have m1 : ¬ (256 : Int) ≤ (l.length : Int) := by omega
        have m2 : l.length < 256 := by omega
        have hb := begin_any w1 b x f g l l2 P al 0 (by omega) H1.out hc
        rw [show (aget al (x.c7 + 1)).getD zf = nextF x al from rfl] at hb
        have hS : Hid (∀ u, Dk u b (inc x 0) f g l l2 P (adel al (x.c7 + 1)) → _) := fun u hu => dk_strike u b (inc x 0) f g l l2 P (adel al (x.c7 + 1)) (nextF x al) hu hk
        obtain ⟨t, ht⟩ : ∃ t, Hid (nextF x al = t) := ⟨_, rfl⟩
        rw [ht.out] at hS hb hk
        obtain ⟨e0, he⟩ : ∃ e0, Hid (strF t.2.1 = e0) := ⟨_, rfl⟩
        rw [he.out] at hS
        obtain ⟨y, hX⟩ : ∃ y, Hid (strX t.2.1 (inc x 0) = y) := ⟨_, rfl⟩
        rw [hX.out] at hS
        by_cases s0 : e0 = 0
        · subst s0
          have hC := hide (clone_str s)
          have hT : Hid (∀ u p, Dk u b y f g l l2 P (adel al (x.c7 + 1)) → _) := fun u p hu => dk_change u b y f g l l2 P _ (.cr s p) hu hs2 trivial (by unfold maxLen; omega) hP
          clear h hk g0
          go_enter Try.func11, Try.ntmps11
          go_wp2_with (first
            | (go_at_call 34; rw [hw1.out]; refine hr.mono ?_; rintro e w2 ⟨rfl, e1⟩; subst w2)
            | (go_at_call 30; refine hb.mono ?_; rintro e w2 ⟨rfl, D2, B2⟩; replace D2 := hide D2; replace B2 := hide B2; clear hL hLen c2)
            | (go_at_call 32; refine (hS.out _ D2.out).mono ?_; rintro e w3 ⟨rfl, D3, B3⟩; replace D3 := hide D3; replace B3 := hide B3)
            | (go_at_call 41; refine (hC.out w3 (by omega)).mono ?_; rintro e w4 ⟨rfl, B4⟩; replace B4 := hide B4; have D4 := hide (D3.out.below B4.out); have B5 := hide ((Below.refl _ w4).alloc (Nat.le_refl _) (.cells #[.slice none 0 0, .slice none 0 0, .int .i64 0] 81)); have N5 := hide (heap_alloc_new w4 (.cells #[.slice none 0 0, .slice none 0 0, .int .i64 0] 81)); have D5 := hide (D4.out.below B5.out))
            | (go_at_call 40; refine (hT.out _ w4.heap.size D5.out).mono ?_; rintro e w6 ⟨rfl, pd, D6, B6, O6⟩; replace D6 := hide D6; replace B6 := hide B6; replace O6 := hide O6))
          go_ret
          have T3 : Stp w2 w3 b (inc x 0) y := by rw [← hX.out]; exact Stp.strX B3.out
          have T5 : Stp w3 (w4.alloc (.cells #[.slice none 0 0, .slice none 0 0, .int .i64 0] 81)) b y y := Stp.of_below (B4.out.trans (B5.out.mono B4.out.size))
          have T6 := Stp.change B6.out O6.out
          have T4 := (K1.out.trans (Stp.inc B2.out)).trans T3
          have z3 := T4.but.size
          have z4 := B4.out.size
          have hno : ¬ Own b y w4.heap.size := fun c => Nat.lt_irrefl _ (D4.out.lt _ c)
          refine ⟨0, rfl, .done hR.out hg.out m2 (by rw [ht.out, he.out]) w4.heap.size pd (by omega) ?_ (B6.out.at N5.out hno) ?_ ?_⟩
          · rw [ht.out, hX.out]
            intro c
            rcases T6.own _ c with q | q
            · exact hno q
            · simp at q
              omega
          · rw [ht.out, hX.out]; exact D6.out
          · rw [ht.out, hX.out]; exact (T4.trans T5).trans T6
        · have s0' : (e0 != 0) = true := by simpa using s0
          replace s0 := hide s0
          clear h hk g0
          go_enter Try.func11, Try.ntmps11
          go_wp2_with (first
            | (go_at_call 34; rw [hw1.out]; refine hr.mono ?_; rintro e w2 ⟨rfl, e1⟩; subst w2)
            | (go_at_call 30; refine hb.mono ?_; rintro e w2 ⟨rfl, D2, B2⟩; replace D2 := hide D2; replace B2 := hide B2; clear hL hLen c2)
            | (go_at_call 32; refine (hS.out _ D2.out).mono ?_; rintro e w3 ⟨rfl, D3, B3⟩; replace D3 := hide D3; replace B3 := hide B3))
          go_ret
          have T2 : Stp w2 w3 b (inc x 0) y := by rw [← hX.out]; exact Stp.strX B3.out
          refine ⟨e0, rfl, .struck e0 hR.out hg.out m2 (by rw [ht.out, he.out]) s0.out ?_ ?_⟩
          · rw [ht.out, hX.out]; exact D3.out
          · rw [ht.out, hX.out]; exact (K1.out.trans (Stp.inc B2.out)).trans T2
  · have r0' : (r != 0) = true := by simpa using r0
    replace r0 := hide r0
    clear h hk
    go_enter Try.func11, Try.ntmps11
    go_wp2_with (go_at_call 34; rw [hw1.out]; refine hr.mono ?_; rintro e w2 ⟨rfl, e1⟩; subst w2)
    go_ret
    exact ⟨r, rfl, .no r hR.out r0.out H1.out K1.out⟩
#print axioms create_any
end Go.Proofs.Ytdelknejmapeaaa.Dk
