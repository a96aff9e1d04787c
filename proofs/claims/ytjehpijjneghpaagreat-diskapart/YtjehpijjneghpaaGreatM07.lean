/-
  Size, Read.
-/
import Derived.Test.YtjehpijjneghpaaGreatM06
import Derived.Laws.Strings
namespace Go.Proofs.YtjehpijjneghpaaGreat.Dk
open Go.RowKit Go.Maps Go.Proofs.YtjehpijjneghpaaGreat.Nm
theorem Dk.find {w : World} {b : Nat} {x : Dc} {f g : Nat} {l l2 : Dr} {P : List Ch} {al : Ar} (h : Dk w b x f g l l2 P al) (s : ByteArray) (hs : s.size ≤ maxLen) :
    Calls Tryz.prog 75 #[.pointer (some ⟨b, 0, none⟩), .string s] w fun e w' => e = .returned (.tuple #[(findF (some x) l s).1, .int .i64 (findF (some x) l s).2]) ∧ Below w.heap.size w w' :=
  find_any w _ (some x) l s h.dp hs (fun y m e1 e2 => by cases e1; rw [h.fm] at e2; cases e2; exact h.mf)
theorem findF_no {x : Option Dc} {l : Dr} {s : ByteArray} (h : (findF x l s).2 ≠ 0) : (findF x l s).1 = .pointer none := by
  revert h
  unfold findF
  split
  · split
    · intro h; exact absurd rfl h
    · intro _; rfl
  · intro _; rfl
theorem findF_ok {x : Option Dc} {l : Dr} {s : ByteArray} {p : Nat} (hr : refF x [s] = 0) (hg : get l s.data.toList = some p) : findF x l s = (.pointer (some ⟨p, 0, none⟩), 0) := by simp [findF, hr, hg]
theorem size_no {w : World} {b : Nat} {x : Dc} {f g : Nat} {l l2 : Dr} {P : List Ch} {al : Ar} (h : Dk w b x f g l l2 P al) (s : ByteArray) (hs : s.size ≤ maxLen) (hn : (findF (some x) l s).2 ≠ 0) :
    Calls Tryz.prog 19 #[.pointer (some ⟨b, 0, none⟩), .string s] w fun e w' => e = .returned (.tuple #[.int .i64 0, .int .i64 (findF (some x) l s).2]) ∧ Below w.heap.size w w' := by
  have hF := h.find s hs
  rw [findF_no hn] at hF
  generalize (findF (some x) l s).2 = r at *
  have hn' : (r != 0) = true := by simpa using hn
  clear h hn
  go_enter Tryz.func19, Tryz.ntmps19
  go_wp2_with (go_at_call 75; refine hF.mono ?_; rintro e w1 ⟨rfl, B1⟩; replace B1 := hide B1)
  go_ret2
  exact ⟨rfl, B1.out⟩
theorem size_ok {w : World} {b p : Nat} {x : Dc} {f g : Nat} {l l2 : Dr} {P : List Ch} {al : Ar} {t : Fl} {vb vl : Value} (h : Dk w b x f g l l2 P al) (s : ByteArray) (hs : s.size ≤ maxLen) (hr : refF (some x) [s] = 0) (hg : get l s.data.toList = some p) (hf : FlAt w p t vb vl) :
    Calls Tryz.prog 19 #[.pointer (some ⟨b, 0, none⟩), .string s] w fun e w' => e = .returned (.tuple #[.int .i64 (t.by_.length : Int), .int .i64 0]) ∧ Below w.heap.size w w' := by
  have hF := h.find s hs
  rw [findF_ok hr hg] at hF
  have c0 := (cells3 hf.box).1
  obtain ⟨ao, ca, rfl, _, _⟩ := hf.b.form
  clear h hf hr hg
  go_enter Tryz.func19, Tryz.ntmps19
  go_wp2_with (go_at_call 75; refine hF.mono ?_; rintro e w1 ⟨rfl, B1⟩; have d0 := (B1.cell (p := ⟨p, 0, none⟩) (lt_of_cell c0)).trans c0; replace B1 := hide B1)
  go_ret2
  exact ⟨rfl, B1.out⟩
theorem read_no {w : World} {b : Nat} {x : Dc} {f g : Nat} {l l2 : Dr} {P : List Ch} {al : Ar} (h : Dk w b x f g l l2 P al) (s : ByteArray) (hs : s.size ≤ maxLen) (o n : Int) (hn : (findF (some x) l s).2 ≠ 0) :
    Calls Tryz.prog 20 #[.pointer (some ⟨b, 0, none⟩), .string s, .int .i64 o, .int .i64 n] w fun e w' => e = .returned (.tuple #[.slice none 0 0, .int .i64 (findF (some x) l s).2]) ∧ Below w.heap.size w w' := by
  have hF := h.find s hs
  rw [findF_no hn] at hF
  generalize (findF (some x) l s).2 = r at *
  have hn' : (r != 0) = true := by simpa using hn
  clear h hn
  go_enter Tryz.func20, Tryz.ntmps20
  go_wp2_with (go_at_call 75; refine hF.mono ?_; rintro e w1 ⟨rfl, B1⟩; replace B1 := hide B1)
  go_ret2
  exact ⟨rfl, B1.out⟩
theorem read_ok {w : World} {b p : Nat} {x : Dc} {f g : Nat} {l l2 : Dr} {P : List Ch} {al : Ar} {t : Fl} {vb vl : Value} (h : Dk w b x f g l l2 P al) (s : ByteArray) (hs : s.size ≤ maxLen) (o n : Nat) (hr : refF (some x) [s] = 0) (hg : get l s.data.toList = some p) (hf : FlAt w p t vb vl) (hon : o + n ≤ t.by_.length) :
    Calls Tryz.prog 20 #[.pointer (some ⟨b, 0, none⟩), .string s, .int .i64 (o : Int), .int .i64 (n : Int)] w fun e w' => ∃ v, e = .returned (.tuple #[v, .int .i64 0]) ∧ Ob w.heap.size w' v ((t.by_.drop o).take n) ∧ Below w.heap.size w w' := by
  have hF := h.find s hs
  rw [findF_ok hr hg] at hF
  have c0 := (cells3 hf.box).1
  obtain ⟨vs, hS, VS⟩ := run_sub hf.b.sl o n hon
  have hlen : ((t.by_.drop o).take n).length ≤ 140737488355328 := by have := hf.sz; simp; omega
  obtain ⟨ao, ca, rfl, _, _⟩ := hf.b.form
  have hsz := hf.sz
  have hC : Hid (∀ q, Below w.heap.size w q → Calls Tryz.prog 83 #[vs] q fun e w' => ∃ v', e = .returned v' ∧ Ob q.heap.size w' v' ((t.by_.drop o).take n) ∧ Below q.heap.size q w') := fun q hq => clone_bytes q vs _ (Below.sl hq VS) hlen
  clear h hf hr hg VS hlen
  generalize (t.by_.drop o).take n = L at *
  generalize t.by_.length = N at *
  have i1 : ¬ ((o : Int) < 0) := by omega
  have i2 : ¬ ((o : Int) > (N : Int)) := by omega
  have i3 : ¬ ((n : Int) < 0) := by omega
  have i4 : ¬ ((n : Int) > (N : Int) - (o : Int)) := by omega
  have e1 : IntKind.i64.wrap ((N : Int) - (o : Int)) = (N : Int) - (o : Int) := by rw [IntKind.wrap_i64]; omega
  have e2 : IntKind.i64.wrap ((o : Int) + (n : Int)) = (o : Int) + (n : Int) := by rw [IntKind.wrap_i64]; omega
  replace hon := hide hon
  go_enter Tryz.func20, Tryz.ntmps20
  go_wp2_with (first
    | (go_at_call 75; refine hF.mono ?_; rintro e w1 ⟨rfl, B1⟩; have d0 := (B1.cell (p := ⟨p, 0, none⟩) (lt_of_cell c0)).trans c0; replace B1 := hide B1)
    | (go_at_call 83; refine (hC.out _ B1.out).mono ?_; rintro e w2 ⟨v2, rfl, O2, B2⟩; replace O2 := hide O2; replace B2 := hide B2))
  go_ret2
  exact ⟨v2, rfl, O2.out.low B1.out.size, B1.out.trans (B2.out.mono B1.out.size)⟩
inductive Removed (w w' : World) (b : Nat) (x : Dc) (f g : Nat) (l l2 : Dr) (P : List Ch) (al : Ar) (s : ByteArray) : Int → Prop where
  | no (r : Int) (hr : (findF (some x) l s).2 = r) (h0 : r ≠ 0) (hd : Dk w' b x f g l l2 P al) (st : Stp w w' b x x) : Removed w w' b x f g l l2 P al s r
  | struck (e : Int) (hr : (findF (some x) l s).2 = 0) (he : strR (nextF x al).2.1 = e) (h0 : e ≠ 0) (hd : Dk w' b (strX (nextF x al).2.1 (inc x 5)) f g l l2 P (adel al (x.c7 + 1))) (st : Stp w w' b x (strX (nextF x al).2.1 (inc x 5))) : Removed w w' b x f g l l2 P al s e
  | done (hr : (findF (some x) l s).2 = 0) (he : strR (nextF x al).2.1 = 0) (pd : Value)
      (hd : Dk w' b { strX (nextF x al).2.1 (inc x 5) with pd := pd } f g (ddel l s.data.toList) l2 (P ++ [.rm s]) (adel al (x.c7 + 1))) (st : Stp w w' b x { strX (nextF x al).2.1 (inc x 5) with pd := pd }) : Removed w w' b x f g l l2 P al s 0
set_option maxRecDepth 100000 in
set_option maxHeartbeats 1000000 in
theorem remove_any (w : World) (b : Nat) (x : Dc) (f g : Nat) (l l2 : Dr) (P : List Ch) (al : Ar) (s : ByteArray) (hs : s.size ≤ 140737488355328) (h : Dk w b x f g l l2 P al) (hc : x.c7 < 4611686018427387904) (hk : (nextF x al).2.1 ≠ 4) (hP : P.length < 1000000000) (hl : l.length < 1000000000) :
    Calls Tryz.prog 53 #[.pointer (some ⟨b, 0, none⟩), .string s] w fun e w' => ∃ r, e = .returned (.int .i64 r) ∧ Removed w w' b x f g l l2 P al s r := by
  have hs2 : s.size ≤ maxLen := by unfold maxLen; omega
  have hF := h.find s hs2
  obtain ⟨v, hv⟩ : ∃ v, Hid ((findF (some x) l s).1 = v) := ⟨_, rfl⟩
  obtain ⟨r, hR⟩ : ∃ r, Hid ((findF (some x) l s).2 = r) := ⟨_, rfl⟩
  rw [hv.out, hR.out] at hF
  have H := hide h
  by_cases r0 : r = 0
  · subst r0
    have hb : Hid (∀ q, Dk q b x f g l l2 P al → _) := fun q hq => begin_any q b x f g l l2 P al 5 (by omega) hq hc
    rw [show (aget al (x.c7 + 1)).getD zf = nextF x al from rfl] at hb
    have hS : Hid (∀ u, Dk u b (inc x 5) f g l l2 P (adel al (x.c7 + 1)) → _) := fun u hu => dk_strikeR u b (inc x 5) f g l l2 P (adel al (x.c7 + 1)) (nextF x al) hu hk
    obtain ⟨t, ht⟩ : ∃ t, Hid (nextF x al = t) := ⟨_, rfl⟩
    rw [ht.out] at hS hb hk
    obtain ⟨e0, he⟩ : ∃ e0, Hid (strR t.2.1 = e0) := ⟨_, rfl⟩
    rw [he.out] at hS
    obtain ⟨y, hX⟩ : ∃ y, Hid (strX t.2.1 (inc x 5) = y) := ⟨_, rfl⟩
    rw [hX.out] at hS
    by_cases s0 : e0 = 0
    · subst s0
      have hC := hide (clone_str s)
      have hT : Hid (∀ u, Dk u b y f g l l2 P (adel al (x.c7 + 1)) → _) := fun u hu => dk_change u b y f g l l2 P _ (.rm s) hu hs2 trivial (by unfold maxLen; omega) hP
      clear h hk
      go_enter Tryz.func53, Tryz.ntmps53
      go_wp2_with (first
        | (go_at_call 75; refine hF.mono ?_; rintro e w1 ⟨rfl, B1⟩; replace B1 := hide B1; have D1 := hide (H.out.below B1.out))
        | (go_at_call 70; refine (hb.out _ D1.out).mono ?_; rintro e w2 ⟨rfl, D2, B2⟩; replace D2 := hide D2; replace B2 := hide B2)
        | (go_at_call 73; refine (hS.out _ D2.out).mono ?_; rintro e w3 ⟨rfl, D3, B3⟩; replace D3 := hide D3; replace B3 := hide B3)
        | (go_at_call 72; refine (hC.out w3 (by omega)).mono ?_; rintro e w4 ⟨rfl, B4⟩; replace B4 := hide B4; have D4 := hide (D3.out.below B4.out))
        | (go_at_call 71; refine (hT.out _ D4.out).mono ?_; rintro e w6 ⟨rfl, pd, D6, B6, O6⟩; replace D6 := hide D6; replace B6 := hide B6; replace O6 := hide O6))
      go_ret
      have T3 : Stp w2 w3 b (inc x 5) y := by rw [← hX.out]; exact Stp.strX B3.out
      refine ⟨0, rfl, .done hR.out (by rw [ht.out, he.out]) pd ?_ ?_⟩
      · rw [ht.out, hX.out]; exact D6.out
      · rw [ht.out, hX.out]; exact ((((Stp.of_below B1.out).trans (Stp.inc B2.out)).trans T3).trans (Stp.of_below B4.out)).trans (Stp.change B6.out O6.out)
    · have s0' : (e0 != 0) = true := by simpa using s0
      replace s0 := hide s0
      clear h hk
      go_enter Tryz.func53, Tryz.ntmps53
      go_wp2_with (first
        | (go_at_call 75; refine hF.mono ?_; rintro e w1 ⟨rfl, B1⟩; replace B1 := hide B1; have D1 := hide (H.out.below B1.out))
        | (go_at_call 70; refine (hb.out _ D1.out).mono ?_; rintro e w2 ⟨rfl, D2, B2⟩; replace D2 := hide D2; replace B2 := hide B2)
        | (go_at_call 73; refine (hS.out _ D2.out).mono ?_; rintro e w3 ⟨rfl, D3, B3⟩; replace D3 := hide D3; replace B3 := hide B3))
      go_ret
      have T3 : Stp w2 w3 b (inc x 5) y := by rw [← hX.out]; exact Stp.strX B3.out
      refine ⟨e0, rfl, .struck e0 hR.out (by rw [ht.out, he.out]) s0.out ?_ ?_⟩
      · rw [ht.out, hX.out]; exact D3.out
      · rw [ht.out, hX.out]; exact ((Stp.of_below B1.out).trans (Stp.inc B2.out)).trans T3
  · have r0' : (r != 0) = true := by simpa using r0
    replace r0 := hide r0
    clear h hk
    go_enter Tryz.func53, Tryz.ntmps53
    go_wp2_with (go_at_call 75; refine hF.mono ?_; rintro e w1 ⟨rfl, B1⟩; replace B1 := hide B1)
    go_ret
    exact ⟨r, rfl, .no r hR.out r0.out (H.out.below B1.out) (Stp.of_below B1.out)⟩
theorem row2 (w : World) (s t : ByteArray) (T : TypeId) : Row (w.alloc (.cells #[.string s, .string t] T)) (.slice (some ⟨w.heap.size, 0, none⟩) 2 2) ([s, t].map Value.string) := by
  refine ⟨_, 2, rfl, fun e => by simp at e, Nat.le_refl _, by decide, fun i hi => ?_⟩
  have hi2 : i = 0 ∨ i = 1 := by simp at hi; omega
  refine ⟨_, _, rfl, ?_⟩
  rw [Nat.zero_add]
  unfold World.cell?
  simp only [heap_alloc_new]
  rcases hi2 with rfl | rfl <;> rfl
inductive Renamed (w w' : World) (b : Nat) (x : Dc) (f g : Nat) (l l2 : Dr) (P : List Ch) (al : Ar) (s t : ByteArray) : Int → Prop where
  | no (r : Int) (hr : refF (some x) [s, t] = r) (h0 : r ≠ 0) (hd : Dk w' b x f g l l2 P al) (st : Stp w w' b x x) : Renamed w w' b x f g l l2 P al s t r
  | none (r : Int) (hr : refF (some x) [s, t] = 0) (hf : (findF (some x) l s).2 = r) (h0 : r ≠ 0) (hd : Dk w' b x f g l l2 P al) (st : Stp w w' b x x) : Renamed w w' b x f g l l2 P al s t r
  | struck (e : Int) (hr : refF (some x) [s, t] = 0) (hf : (findF (some x) l s).2 = 0) (he : strR (nextF x al).2.1 = e) (h0 : e ≠ 0) (hd : Dk w' b (strX (nextF x al).2.1 (inc x 4)) f g l l2 P (adel al (x.c7 + 1))) (st : Stp w w' b x (strX (nextF x al).2.1 (inc x 4))) : Renamed w w' b x f g l l2 P al s t e
  | same (hr : refF (some x) [s, t] = 0) (hf : (findF (some x) l s).2 = 0) (he : strR (nextF x al).2.1 = 0) (hst : s = t) (hd : Dk w' b (strX (nextF x al).2.1 (inc x 4)) f g l l2 P (adel al (x.c7 + 1))) (st : Stp w w' b x (strX (nextF x al).2.1 (inc x 4))) : Renamed w w' b x f g l l2 P al s t 0
  | done (hr : refF (some x) [s, t] = 0) (hf : (findF (some x) l s).2 = 0) (he : strR (nextF x al).2.1 = 0) (hst : s ≠ t) (pd : Value)
      (hd : Dk w' b { strX (nextF x al).2.1 (inc x 4) with pd := pd } f g ((Ch.rn s t).run l) l2 (P ++ [.rn s t]) (adel al (x.c7 + 1))) (st : Stp w w' b x { strX (nextF x al).2.1 (inc x 4) with pd := pd }) : Renamed w w' b x f g l l2 P al s t 0
theorem find_isSome {x : Option Dc} {l : Dr} {s : ByteArray} (h : (findF x l s).2 = 0) : (get l s.data.toList).isSome = true := by
  revert h
  unfold findF
  split
  · cases get l s.data.toList with
    | none => intro h; simp at h
    | some p => intro _; rfl
  · rename_i h0
    intro h
    exact absurd h h0
set_option maxRecDepth 100000 in
set_option maxHeartbeats 1000000 in
theorem rename_any (w : World) (b : Nat) (x : Dc) (f g : Nat) (l l2 : Dr) (P : List Ch) (al : Ar) (s t : ByteArray) (hs : s.size ≤ 140737488355328) (ht0 : t.size ≤ 140737488355328) (h : Dk w b x f g l l2 P al) (hc : x.c7 < 4611686018427387904) (hk : (nextF x al).2.1 ≠ 4) (hP : P.length < 1000000000) (hl : l.length < 1000000000) :
    Calls Tryz.prog 51 #[.pointer (some ⟨b, 0, none⟩), .string s, .string t] w fun e w' => ∃ r, e = .returned (.int .i64 r) ∧ Renamed w w' b x f g l l2 P al s t r := by
  have hs2 : s.size ≤ maxLen := by unfold maxLen; omega
  have ht2 : t.size ≤ maxLen := by unfold maxLen; omega
  have hB := hide ((Below.refl _ w).alloc (Nat.le_refl _) (.cells #[.string s, .string t] 9))
  have H1 := hide (h.below hB.out)
  have hr := refuse_any (w.alloc (.cells #[.string s, .string t] 9)) _ _ (some x) [s, t] H1.out.dp (row2 w s t _) (by simp [hs2, ht2])
  have hF := H1.out.find s hs2
  obtain ⟨q, hQ⟩ : ∃ q, Hid (refF (some x) [s, t] = q) := ⟨_, rfl⟩
  rw [hQ.out] at hr
  obtain ⟨v, hv⟩ : ∃ v, Hid ((findF (some x) l s).1 = v) := ⟨_, rfl⟩
  obtain ⟨r, hR⟩ : ∃ r, Hid ((findF (some x) l s).2 = r) := ⟨_, rfl⟩
  rw [hv.out, hR.out] at hF
  generalize hw1 : w.alloc (.cells #[.string s, .string t] 9) = w1 at *
  replace hw1 := hide hw1
  have K1 := hide (Stp.of_below (b := b) (x := x) hB.out)
  by_cases q0 : q = 0
  · subst q0
    by_cases r0 : r = 0
    · subst r0
      have hb : Hid (∀ q, Dk q b x f g l l2 P al → _) := fun q hq => begin_any q b x f g l l2 P al 4 (by omega) hq hc
      rw [show (aget al (x.c7 + 1)).getD zf = nextF x al from rfl] at hb
      have hS : Hid (∀ u, Dk u b (inc x 4) f g l l2 P (adel al (x.c7 + 1)) → _) := fun u hu => dk_strikeR u b (inc x 4) f g l l2 P (adel al (x.c7 + 1)) (nextF x al) hu hk
      obtain ⟨tt, ht⟩ : ∃ tt, Hid (nextF x al = tt) := ⟨_, rfl⟩
      rw [ht.out] at hS hb hk
      obtain ⟨e0, he⟩ : ∃ e0, Hid (strR tt.2.1 = e0) := ⟨_, rfl⟩
      rw [he.out] at hS
      obtain ⟨y, hX⟩ : ∃ y, Hid (strX tt.2.1 (inc x 4) = y) := ⟨_, rfl⟩
      rw [hX.out] at hS
      by_cases s0 : e0 = 0
      · subst s0
        have hC := hide clone_str
        have hcan : Hid ((Ch.rn s t).can l) := find_isSome hR.out
        have hT : Hid (∀ u, Dk u b y f g l l2 P (adel al (x.c7 + 1)) → _) := fun u hu => dk_change u b y f g l l2 P _ (.rn s t) hu ⟨hs2, ht2⟩ hcan.out (by unfold maxLen; omega) hP
        clear h hk
        by_cases st : s = t
        · subst st
          go_enter Tryz.func51, Tryz.ntmps51
          go_wp2_with (first
            | (go_at_call 68; rw [hw1.out]; refine hr.mono ?_; rintro e w2 ⟨rfl, e1⟩; subst w2)
            | (go_at_call 75; refine hF.mono ?_; rintro e w2 ⟨rfl, B2⟩; replace B2 := hide B2; have D2 := hide (H1.out.below B2.out))
            | (go_at_call 70; refine (hb.out _ D2.out).mono ?_; rintro e w3 ⟨rfl, D3, B3⟩; replace D3 := hide D3; replace B3 := hide B3)
            | (go_at_call 73; refine (hS.out _ D3.out).mono ?_; rintro e w4 ⟨rfl, D4, B4⟩; replace D4 := hide D4; replace B4 := hide B4))
          go_ret
          have T4 : Stp w3 w4 b (inc x 4) y := by rw [← hX.out]; exact Stp.strX B4.out
          refine ⟨0, rfl, .same hQ.out hR.out (by rw [ht.out, he.out]) rfl ?_ ?_⟩
          · rw [ht.out, hX.out]; exact D4.out
          · rw [ht.out, hX.out]; exact ((K1.out.trans (Stp.of_below B2.out)).trans (Stp.inc B3.out)).trans T4
        · have st' : (s.toList == t.toList) = false := by
            rw [ByteArray.toList_eq, ByteArray.toList_eq, beq_eq_false_iff_ne]
            intro e
            apply st
            cases s with
            | mk a => cases t with
              | mk c => simpa using e
          replace st := hide st
          go_enter Tryz.func51, Tryz.ntmps51
          go_wp2_with (first
            | (go_at_call 68; rw [hw1.out]; refine hr.mono ?_; rintro e w2 ⟨rfl, e1⟩; subst w2)
            | (go_at_call 75; refine hF.mono ?_; rintro e w2 ⟨rfl, B2⟩; replace B2 := hide B2; have D2 := hide (H1.out.below B2.out))
            | (go_at_call 70; refine (hb.out _ D2.out).mono ?_; rintro e w3 ⟨rfl, D3, B3⟩; replace D3 := hide D3; replace B3 := hide B3)
            | (go_at_call 73; refine (hS.out _ D3.out).mono ?_; rintro e w4 ⟨rfl, D4, B4⟩; replace D4 := hide D4; replace B4 := hide B4)
            | (go_at_call 72; refine (hC.out s w4 (by omega)).mono ?_; rintro e w5 ⟨rfl, B5⟩; replace B5 := hide B5)
            | (go_at_call 72; refine (hC.out t w5 (by omega)).mono ?_; rintro e w6 ⟨rfl, B6⟩; replace B6 : Hid (Below w4.heap.size w4 w6) := B5.out.trans (B6.mono B5.out.size); have D6 := hide (D4.out.below B6.out))
            | (go_at_call 71; refine (hT.out _ D6.out).mono ?_; rintro e w7 ⟨rfl, pd, D7, B7, O7⟩; replace D7 := hide D7; replace B7 := hide B7; replace O7 := hide O7))
          go_ret
          have T4 : Stp w3 w4 b (inc x 4) y := by rw [← hX.out]; exact Stp.strX B4.out
          refine ⟨0, rfl, .done hQ.out hR.out (by rw [ht.out, he.out]) st.out pd ?_ ?_⟩
          · rw [ht.out, hX.out]; exact D7.out
          · rw [ht.out, hX.out]; exact ((((K1.out.trans (Stp.of_below B2.out)).trans (Stp.inc B3.out)).trans T4).trans (Stp.of_below B6.out)).trans (Stp.change B7.out O7.out)
      · have s0' : (e0 != 0) = true := by simpa using s0
        replace s0 := hide s0
        clear h hk
        go_enter Tryz.func51, Tryz.ntmps51
        go_wp2_with (first
          | (go_at_call 68; rw [hw1.out]; refine hr.mono ?_; rintro e w2 ⟨rfl, e1⟩; subst w2)
          | (go_at_call 75; refine hF.mono ?_; rintro e w2 ⟨rfl, B2⟩; replace B2 := hide B2; have D2 := hide (H1.out.below B2.out))
          | (go_at_call 70; refine (hb.out _ D2.out).mono ?_; rintro e w3 ⟨rfl, D3, B3⟩; replace D3 := hide D3; replace B3 := hide B3)
          | (go_at_call 73; refine (hS.out _ D3.out).mono ?_; rintro e w4 ⟨rfl, D4, B4⟩; replace D4 := hide D4; replace B4 := hide B4))
        go_ret
        have T4 : Stp w3 w4 b (inc x 4) y := by rw [← hX.out]; exact Stp.strX B4.out
        refine ⟨e0, rfl, .struck e0 hQ.out hR.out (by rw [ht.out, he.out]) s0.out ?_ ?_⟩
        · rw [ht.out, hX.out]; exact D4.out
        · rw [ht.out, hX.out]; exact ((K1.out.trans (Stp.of_below B2.out)).trans (Stp.inc B3.out)).trans T4
    · have r0' : (r != 0) = true := by simpa using r0
      replace r0 := hide r0
      clear h hk
      go_enter Tryz.func51, Tryz.ntmps51
      go_wp2_with (first
        | (go_at_call 68; rw [hw1.out]; refine hr.mono ?_; rintro e w2 ⟨rfl, e1⟩; subst w2)
        | (go_at_call 75; refine hF.mono ?_; rintro e w2 ⟨rfl, B2⟩; replace B2 := hide B2))
      go_ret
      exact ⟨r, rfl, .none r hQ.out hR.out r0.out (H1.out.below B2.out) (K1.out.trans (Stp.of_below B2.out))⟩
  · have q0' : (q != 0) = true := by simpa using q0
    replace q0 := hide q0
    clear h hk hF
    go_enter Tryz.func51, Tryz.ntmps51
    go_wp2_with (go_at_call 68; rw [hw1.out]; refine hr.mono ?_; rintro e w2 ⟨rfl, e1⟩; subst w2)
    go_ret
    exact ⟨q, rfl, .no q hQ.out q0.out H1.out K1.out⟩
structure DS where
  most : Int
  up : Bool
  l2 : Dr
  P : List Ch
  al : Ar
  c0 : Int
  c1 : Int
  c2 : Int
  c3 : Int
  c4 : Int
  c5 : Int
  c6 : Int
  c7 : Int
  c8 : Int
  F : Nat → Fl
def DS.dc (S : DS) (f g : Nat) (pd : Value) (am : Option Nat) : Dc := ⟨S.most, S.up, some f, some g, pd, am, S.c0, S.c1, S.c2, S.c3, S.c4, S.c5, S.c6, S.c7, S.c8⟩
def DS.dir (S : DS) : Dr := runs S.l2 S.P
def Ch.ptr : Ch → Option Nat
  | .cr _ p => some p
  | _ => none
def DS.ps (S : DS) : List Nat := S.l2.map (·.2) ++ S.P.filterMap Ch.ptr
structure DS.ok (S : DS) : Prop where
  most : 0 ≤ S.most ∧ S.most ≤ 16777216
  sz : ∀ p ∈ S.ps, (S.F p).by_.length ≤ 16777216
  cnt : ((S.l2.length + S.P.length : Nat) : Int) ≤ S.c7
  calm : ∀ e ∈ S.al, (1 ≤ e.2.2.1 ∧ e.2.2.1 ≤ 3) ∧ 0 ≤ e.2.2.2
  by8 : 0 ≤ S.c8 ∧ S.c8 ≤ 16777216 * S.c7
structure Fs (w : World) (Ow : Nat → Prop) (ps : List Nat) (F : Nat → Fl) (VB VL : Nat → Value) : Prop where
  at_ : ∀ p ∈ ps, FlAt w p (F p) (VB p) (VL p)
  ap : ∀ p ∈ ps, ∀ q ∈ ps, p ≠ q → ∀ k, FOwn p (VB p) (VL p) k → ¬ FOwn q (VB q) (VL q) k
  no : ∀ p ∈ ps, ∀ k, FOwn p (VB p) (VL p) k → ¬ Ow k
structure Sgo (w w' : World) (O O' : Nat → Prop) : Prop where
  but : But O w w'
  own : ∀ k, O' k → O k ∨ w.heap.size ≤ k
theorem Sgo.refl (w : World) (O : Nat → Prop) : Sgo w w O O := ⟨But.of_below (Below.refl _ _) _, fun _ h => .inl h⟩
theorem Sgo.of_below {w w' : World} {O : Nat → Prop} (h : Below w.heap.size w w') : Sgo w w' O O := ⟨But.of_below h _, fun _ q => .inl q⟩
theorem Sgo.trans {w u w' : World} {O O1 O2 : Nat → Prop} (h : Sgo w u O O1) (k : Sgo u w' O1 O2) : Sgo w w' O O2 := by
  refine ⟨⟨k.but.os.trans h.but.os, k.but.tape.trans h.but.tape, k.but.output.trans h.but.output, Nat.le_trans h.but.size k.but.size, fun i hi hx => ?_⟩, fun i hi => ?_⟩
  · rw [k.but.block i (Nat.lt_of_lt_of_le hi h.but.size) (fun c => ?_)]
    · exact h.but.block i hi hx
    · rcases h.own i c with q | q
      · exact hx q
      · omega
  · rcases k.own i hi with q | q
    · exact h.own i q
    · exact .inr (Nat.le_trans h.but.size q)
theorem Sgo.low {w w' : World} {O O' : Nat → Prop} {B : Nat} (h : Sgo w w' O O') (hB : B ≤ w.heap.size) (lo : ∀ k, O k → B ≤ k) : ∀ k, O' k → B ≤ k := fun k hk => by
  rcases h.own k hk with q | q
  · exact lo k q
  · omega
theorem Sgo.under {w0 w w' : World} {O O' : Nat → Prop} {B : Nat} (h : Sgo w w' O O') (lo : ∀ k, O k → B ≤ k) (hB : B ≤ w0.heap.size) (hb : Below B w0 w) : Below B w0 w' :=
  ⟨h.but.os.trans hb.os, h.but.tape.trans hb.tape, h.but.output.trans hb.output, Nat.le_trans hb.size h.but.size, fun k hk => (h.but.block k (Nat.lt_of_lt_of_le (Nat.lt_of_lt_of_le hk hB) hb.size) (fun c => by have := lo k c; omega)).trans (hb.block k hk)⟩
theorem Fs.but {X : Nat → Prop} {A B : World} {Ow : Nat → Prop} {ps : List Nat} {F : Nat → Fl} {VB VL : Nat → Value} (h : Fs A Ow ps F VB VL) (hb : But X A B) (hx : ∀ p ∈ ps, ∀ k, FOwn p (VB p) (VL p) k → ¬ X k) : Fs B Ow ps F VB VL :=
  ⟨fun p hp => (h.at_ p hp).but hb (hx p hp), h.ap, h.no⟩
theorem Fs.lt {w : World} {Ow : Nat → Prop} {ps : List Nat} {F : Nat → Fl} {VB VL : Nat → Value} (h : Fs w Ow ps F VB VL) {p : Nat} (hp : p ∈ ps) : ∀ k, FOwn p (VB p) (VL p) k → k < w.heap.size := (h.at_ p hp).lt
theorem Fs.stp {w w' : World} {b : Nat} {x x' : Dc} {ps : List Nat} {F : Nat → Fl} {VB VL : Nat → Value} (h : Fs w (Own b x) ps F VB VL) (st : Stp w w' b x x') : Fs w' (Own b x') ps F VB VL := by
  refine ⟨fun p hp => (h.at_ p hp).but st.but (h.no p hp), h.ap, fun p hp k hk c => ?_⟩
  rcases st.own k c with q | q
  · exact h.no p hp k hk q
  · have := h.lt hp k hk
    omega
theorem Fs.sub {w : World} {Ow : Nat → Prop} {ps qs : List Nat} {F : Nat → Fl} {VB VL : Nat → Value} (h : Fs w Ow ps F VB VL) (hs : ∀ q ∈ qs, q ∈ ps) : Fs w Ow qs F VB VL :=
  ⟨fun p hp => h.at_ p (hs p hp), fun p hp q hq => h.ap p (hs p hp) q (hs q hq), fun p hp => h.no p (hs p hp)⟩
def upd {α : Type} (F : Nat → α) (p : Nat) (t : α) : Nat → α := fun q => if q = p then t else F q
theorem upd_same {α : Type} (F : Nat → α) (p : Nat) (t : α) : upd F p t p = t := if_pos rfl
theorem upd_ne {α : Type} (F : Nat → α) {p q : Nat} (t : α) (h : q ≠ p) : upd F p t q = F q := if_neg h
theorem Fs.one {w w' : World} {Ow : Nat → Prop} {ps : List Nat} {F : Nat → Fl} {VB VL : Nat → Value} {p : Nat} {t : Fl} {vb vl : Value} (h : Fs w Ow ps F VB VL) (hp : p ∈ ps) (ht : FlAt w' p t vb vl) (hb : But (FOwn p (VB p) (VL p)) w w') (ho : ∀ k, FOwn p vb vl k → FOwn p (VB p) (VL p) k ∨ w.heap.size ≤ k)
    (hO : ∀ k, Ow k → k < w.heap.size) : Fs w' Ow ps (upd F p t) (upd VB p vb) (upd VL p vl) := by
  refine ⟨fun q hq => ?_, fun q hq r hr hne k hk c => ?_, fun q hq k hk c => ?_⟩
  · by_cases e : q = p
    · subst e; rw [upd_same, upd_same, upd_same]; exact ht
    · rw [upd_ne _ _ e, upd_ne _ _ e, upd_ne _ _ e]; exact (h.at_ q hq).but hb (fun k hk c => h.ap q hq p hp e k hk c)
  · by_cases e : q = p
    · subst e
      rw [upd_same, upd_same] at hk
      rw [upd_ne _ _ (Ne.symm hne), upd_ne _ _ (Ne.symm hne)] at c
      rcases ho k hk with z | z
      · exact h.ap q hq r hr hne k z c
      · have := h.lt hr k c; omega
    · rw [upd_ne _ _ e, upd_ne _ _ e] at hk
      by_cases e2 : r = p
      · subst e2
        rw [upd_same, upd_same] at c
        rcases ho k c with z | z
        · exact h.ap q hq r hr hne k hk z
        · have := h.lt hq k hk; omega
      · rw [upd_ne _ _ e2, upd_ne _ _ e2] at c
        exact h.ap q hq r hr hne k hk c
  · by_cases e : q = p
    · subst e
      rw [upd_same, upd_same] at hk
      rcases ho k hk with z | z
      · exact h.no q hq k z c
      · have := hO k c; omega
    · rw [upd_ne _ _ e, upd_ne _ _ e] at hk
      exact h.no q hq k hk c
structure Dsk (w : World) (b : Nat) (S : DS) (O : Nat → Prop) (f g : Nat) (pd : Value) (am : Option Nat) (VB VL : Nat → Value) : Prop where
  dk : Dk w b (S.dc f g pd am) f g S.dir S.l2 S.P S.al
  fs : Fs w (Own b (S.dc f g pd am)) S.ps S.F VB VL
  ow : ∀ k, Own b (S.dc f g pd am) k → O k
  of : ∀ p ∈ S.ps, ∀ k, FOwn p (VB p) (VL p) k → O k
  lt : ∀ k, O k → k < w.heap.size
  ok : S.ok
def DskE (w : World) (b : Nat) (S : DS) (O : Nat → Prop) : Prop := ∃ f g pd am VB VL, Dsk w b S O f g pd am VB VL
theorem Dsk.but {X : Nat → Prop} {A B : World} {b : Nat} {S : DS} {O : Nat → Prop} {f g : Nat} {pd : Value} {am : Option Nat} {VB VL : Nat → Value} (h : Dsk A b S O f g pd am VB VL) (hb : But X A B) (hx : ∀ k, O k → ¬ X k) : Dsk B b S O f g pd am VB VL :=
  ⟨h.dk.but hb fun k hk => hx k (h.ow k hk), h.fs.but hb fun p hp k hk => hx k (h.of p hp k hk), h.ow, h.of, fun k hk => Nat.lt_of_lt_of_le (h.lt k hk) hb.size, h.ok⟩
theorem Dsk.below {A B : World} {b : Nat} {S : DS} {O : Nat → Prop} {f g : Nat} {pd : Value} {am : Option Nat} {VB VL : Nat → Value} (h : Dsk A b S O f g pd am VB VL) (hb : Below A.heap.size A B) : Dsk B b S O f g pd am VB VL := h.but (But.of_below hb fun _ => False) fun _ _ c => c
theorem DskE.but {X : Nat → Prop} {A B : World} {b : Nat} {S : DS} {O : Nat → Prop} (h : DskE A b S O) (hb : But X A B) (hx : ∀ k, O k → ¬ X k) : DskE B b S O := by
  obtain ⟨f, g, pd, am, VB, VL, h⟩ := h
  exact ⟨f, g, pd, am, VB, VL, h.but hb hx⟩
theorem DskE.below {A B : World} {b : Nat} {S : DS} {O : Nat → Prop} (h : DskE A b S O) (hb : Below A.heap.size A B) : DskE B b S O := h.but (But.of_below hb fun _ => False) fun _ _ c => c
theorem DskE.lt {w : World} {b : Nat} {S : DS} {O : Nat → Prop} (h : DskE w b S O) : ∀ k, O k → k < w.heap.size := by
  obtain ⟨f, g, pd, am, VB, VL, h⟩ := h
  exact h.lt
theorem DskE.ok {w : World} {b : Nat} {S : DS} {O : Nat → Prop} (h : DskE w b S O) : S.ok := by
  obtain ⟨f, g, pd, am, VB, VL, h⟩ := h
  exact h.ok
theorem DskE.box {w : World} {b : Nat} {S : DS} {O : Nat → Prop} (h : DskE w b S O) : O b := by
  obtain ⟨f, g, pd, am, VB, VL, h⟩ := h
  exact h.ow b (.inl rfl)
theorem ddel_mem {l : Dr} {n : List UInt8} {e : List UInt8 × Nat} (h : e ∈ ddel l n) : e ∈ l := (List.mem_filter.1 h).1
theorem dins_mem {x e : List UInt8 × Nat} {l : Dr} (h : e ∈ dins x l) : e = x ∨ e ∈ l := by
  induction l with
  | nil => simp [dins] at h; exact .inl h
  | cons y r ih =>
    unfold dins at h
    split at h
    · rcases List.mem_cons.1 h with q | q
      · exact .inl q
      · exact .inr q
    · rcases List.mem_cons.1 h with q | q
      · exact .inr (by rw [q]; simp)
      · rcases ih q with z | z
        · exact .inl z
        · exact .inr (by simp [z])
theorem dput_mem {l : Dr} {n : List UInt8} {p : Nat} {e : List UInt8 × Nat} (h : e ∈ dput l n p) : e = (n, p) ∨ e ∈ l := by
  rcases dins_mem h with q | q
  · exact .inl q
  · exact .inr (ddel_mem q)
theorem get_mem {l : Dr} {n : List UInt8} {p : Nat} (h : get l n = some p) : (n, p) ∈ l := by
  unfold get at h
  cases hf : l.find? fun e => e.1 == n with
  | none => rw [hf] at h; simp at h
  | some e =>
    rw [hf] at h
    simp at h
    have h1 := List.mem_of_find?_eq_some hf
    have h2 := List.find?_some hf
    have : e = (n, p) := by
      obtain ⟨a, c⟩ := e
      simp at h2 h
      rw [h2, h]
    rw [← this]
    exact h1
theorem run_mem {l : Dr} {c : Ch} {p : Nat} (h : p ∈ (c.run l).map (·.2)) : p ∈ l.map (·.2) ∨ c.ptr = some p := by
  rw [List.mem_map] at h
  obtain ⟨e, he, rfl⟩ := h
  cases c with
  | cr n p =>
    rcases dput_mem he with q | q
    · rw [q]; exact .inr rfl
    · exact .inl (List.mem_map.2 ⟨e, q, rfl⟩)
  | rm n => exact .inl (List.mem_map.2 ⟨e, ddel_mem he, rfl⟩)
  | rn f t =>
    left
    simp only [Ch.run] at he
    split at he
    · rename_i p hp
      rcases dput_mem (ddel_mem he) with q | q
      · rw [q]; exact List.mem_map.2 ⟨_, get_mem hp, rfl⟩
      · exact List.mem_map.2 ⟨e, q, rfl⟩
    · exact List.mem_map.2 ⟨e, he, rfl⟩
theorem runs_mem {l : Dr} : ∀ {P : List Ch} {p : Nat}, p ∈ (runs l P).map (·.2) → p ∈ l.map (·.2) ++ P.filterMap Ch.ptr := by
  intro P
  induction P generalizing l with
  | nil => intro p h; simpa [runs] using h
  | cons c r ih =>
    intro p h
    have := ih (l := c.run l) h
    rcases List.mem_append.1 this with q | q
    · rcases run_mem q with z | z
      · exact List.mem_append.2 (.inl z)
      · exact List.mem_append.2 (.inr (List.mem_filterMap.2 ⟨c, by simp, z⟩))
    · refine List.mem_append.2 (.inr ?_)
      rw [List.mem_filterMap] at q ⊢
      obtain ⟨d, hd, e⟩ := q
      exact ⟨d, by simp [hd], e⟩
theorem DS.mem_dir {S : DS} {n : List UInt8} {p : Nat} (h : get S.dir n = some p) : p ∈ S.ps := runs_mem (List.mem_map.2 ⟨_, get_mem h, rfl⟩)
theorem DS.mem_front {S : DS} {k : Nat} {p : Nat} (h : p ∈ (runs S.l2 (S.P.take k)).map (·.2)) : p ∈ S.ps := by
  have := runs_mem h
  rcases List.mem_append.1 this with q | q
  · exact List.mem_append.2 (.inl q)
  · refine List.mem_append.2 (.inr ?_)
    rw [List.mem_filterMap] at q ⊢
    obtain ⟨d, hd, e⟩ := q
    exact ⟨d, List.mem_of_mem_take hd, e⟩
theorem Dsk.one {w w' : World} {b : Nat} {S : DS} {O : Nat → Prop} {f g : Nat} {pd : Value} {am : Option Nat} {VB VL : Nat → Value} {p : Nat} {t : Fl} {vb vl : Value} (h : Dsk w b S O f g pd am VB VL) (hp : p ∈ S.ps) (ht : FlAt w' p t vb vl) (hb : But (FOwn p (VB p) (VL p)) w w') (ho : ∀ k, FOwn p vb vl k → FOwn p (VB p) (VL p) k ∨ w.heap.size ≤ k)
    (hz : t.by_.length ≤ 16777216) : ∃ O', Dsk w' b { S with F := upd S.F p t } O' f g pd am (upd VB p vb) (upd VL p vl) ∧ Sgo w w' O O' := by
  refine ⟨fun k => O k ∨ (w.heap.size ≤ k ∧ k < w'.heap.size), ⟨?_, ?_, fun k hk => .inl (h.ow k hk), ?_, ?_, ?_⟩, ⟨hb.mono fun k _ c => h.of p hp k c, fun k hk => ?_⟩⟩
  · exact h.dk.but hb fun k hk c => h.fs.no p hp k c hk
  · exact h.fs.one hp ht hb ho fun k hk => h.lt k (h.ow k hk)
  · intro q hq k hk
    by_cases e : q = p
    · subst e
      rw [upd_same, upd_same] at hk
      rcases ho k hk with z | z
      · exact .inl (h.of q hp k z)
      · exact .inr ⟨z, ht.lt k hk⟩
    · rw [upd_ne _ _ e, upd_ne _ _ e] at hk
      exact .inl (h.of q hq k hk)
  · rintro k (q | q)
    · exact Nat.lt_of_lt_of_le (h.lt k q) hb.size
    · exact q.2
  · refine ⟨h.ok.most, fun q hq => ?_, h.ok.cnt, h.ok.calm, h.ok.by8⟩
    by_cases e : q = p
    · subst e; show (upd S.F q t q).by_.length ≤ _; rw [upd_same]; exact hz
    · show (upd S.F p t q).by_.length ≤ _; rw [upd_ne _ _ e]; exact h.ok.sz q hq
  · rcases hk with q | q
    · exact .inl q
    · exact .inr q.1
end Go.Proofs.YtjehpijjneghpaaGreat.Dk
