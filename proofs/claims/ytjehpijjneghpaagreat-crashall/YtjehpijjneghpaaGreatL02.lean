/-
  Size, Read.
-/
import Derived.Test.YtjehpijjneghpaaGreatL01
import Derived.Laws.Strings
import Derived.Maps.Range
import Derived.Maps.RangeWalk
import Derived.Maps.Ext
import Derived.Deep.RegionHeld
set_option maxRecDepth 100000
set_option maxHeartbeats 40000000
set_option linter.unusedVariables false
namespace Go.Proofs.YtjehpijjneghpaaGreat.Dk
open Go.RowKit Go.Maps Go.Proofs.YtjehpijjneghpaaGreat.Nm
theorem Dk.find {w : World} {b : Nat} {x : Dc} {f g : Nat} {l l2 : Dr} {P : List Ch} {al : Ar} (h : Dk w b x f g l l2 P al) (s : ByteArray) (hs : s.size ≤ maxLen) :
    Calls Tryz.prog 75 #[.pointer (some ⟨b, 0, none⟩), .string s] w fun e w' => e = .returned (.tuple #[(findF (some x) l s).1, .int .i64 (findF (some x) l s).2]) ∧ Below w.heap.size w w' :=
 find_any w _ (some x) l s h.dp hs (fun y m e1 e2 => by cases e1; rw [h.fm] at e2; cases e2; exact h.mf)
theorem findF_no {x : Option Dc} {l : Dr} {s : ByteArray} (h : (findF x l s).2 ≠ 0) : (findF x l s).1 = .pointer none := by
 revert h
 unfold findF
 split
 ·split
  ·intro h; exact absurd rfl h
  ·intro _; rfl
 ·intro _; rfl
theorem findF_ok {x : Option Dc} {l : Dr} {s : ByteArray} {p : Nat} (hr : refF x [s] = 0) (hg : get l s.data.toList = some p) : findF x l s = (.pointer (some ⟨p, 0, none⟩), 0) := by simp [findF, hr, hg]
theorem size_no {w : World} {b : Nat} {x : Dc} {f g : Nat} {l l2 : Dr} {P : List Ch} {al : Ar} (h : Dk w b x f g l l2 P al) (s : ByteArray) (hs : s.size ≤ maxLen) (hn : (findF (some x) l s).2 ≠ 0) :
    Calls Tryz.prog 19 #[.pointer (some ⟨b, 0, none⟩), .string s] w fun e w' => e = .returned (.tuple #[.int .i64 0, .int .i64 (findF (some x) l s).2]) ∧ Below w.heap.size w w' := by
 have hF := h.find s hs
 rw [findF_no hn] at hF
 generalize (findF (some x) l s).2 = r at *
 have hn' : (r != 0) = true := by simpa using hn
 clear h hn
 go_enter Tryz.func19, Tryz.ntmps19
 go_wp2_with (go_at_call 75; refine hF.mono ?_; rintro e w1 ⟨rfl, B1⟩; replace B1 := hide B1)
 go_ret2
 exact ⟨rfl, B1.out⟩
theorem size_ok {w : World} {b p : Nat} {x : Dc} {f g : Nat} {l l2 : Dr} {P : List Ch} {al : Ar} {t : Fl} {vb vl : Value} (h : Dk w b x f g l l2 P al) (s : ByteArray) (hs : s.size ≤ maxLen) (hr : refF (some x) [s] = 0) (hg : get l s.data.toList = some p) (hf : FlAt w p t vb vl) :
    Calls Tryz.prog 19 #[.pointer (some ⟨b, 0, none⟩), .string s] w fun e w' => e = .returned (.tuple #[.int .i64 (t.by_.length : Int), .int .i64 0]) ∧ Below w.heap.size w w' := by
 have hF := h.find s hs
 rw [findF_ok hr hg] at hF
 have c0 := (cells3 hf.box).1
 obtain ⟨ao, ca, rfl, _, _⟩ := hf.b.form
 clear h hf hr hg
 go_enter Tryz.func19, Tryz.ntmps19
 go_wp2_with (go_at_call 75; refine hF.mono ?_; rintro e w1 ⟨rfl, B1⟩; have d0 := (B1.cell (p := ⟨p, 0, none⟩) (lt_of_cell c0)).trans c0; replace B1 := hide B1)
 go_ret2
 exact ⟨rfl, B1.out⟩
theorem read_no {w : World} {b : Nat} {x : Dc} {f g : Nat} {l l2 : Dr} {P : List Ch} {al : Ar} (h : Dk w b x f g l l2 P al) (s : ByteArray) (hs : s.size ≤ maxLen) (o n : Int) (hn : (findF (some x) l s).2 ≠ 0) :
    Calls Tryz.prog 20 #[.pointer (some ⟨b, 0, none⟩), .string s, .int .i64 o, .int .i64 n] w fun e w' => e = .returned (.tuple #[.slice none 0 0, .int .i64 (findF (some x) l s).2]) ∧ Below w.heap.size w w' := by
 have hF := h.find s hs
 rw [findF_no hn] at hF
 generalize (findF (some x) l s).2 = r at *
 have hn' : (r != 0) = true := by simpa using hn
 clear h hn
 go_enter Tryz.func20, Tryz.ntmps20
 go_wp2_with (go_at_call 75; refine hF.mono ?_; rintro e w1 ⟨rfl, B1⟩; replace B1 := hide B1)
 go_ret2
 exact ⟨rfl, B1.out⟩
theorem read_ok {w : World} {b p : Nat} {x : Dc} {f g : Nat} {l l2 : Dr} {P : List Ch} {al : Ar} {t : Fl} {vb vl : Value} (h : Dk w b x f g l l2 P al) (s : ByteArray) (hs : s.size ≤ maxLen) (o n : Nat) (hr : refF (some x) [s] = 0) (hg : get l s.data.toList = some p) (hf : FlAt w p t vb vl) (hon : o + n ≤ t.by_.length) :
    Calls Tryz.prog 20 #[.pointer (some ⟨b, 0, none⟩), .string s, .int .i64 (o : Int), .int .i64 (n : Int)] w fun e w' => ∃ v, e = .returned (.tuple #[v, .int .i64 0]) ∧ Ob w.heap.size w' v ((t.by_.drop o).take n) ∧ Below w.heap.size w w' := by
 have hF := h.find s hs
 rw [findF_ok hr hg] at hF
 have c0 := (cells3 hf.box).1
 obtain ⟨vs, hS, VS⟩ := run_sub hf.b.sl o n hon
 have hlen : ((t.by_.drop o).take n).length ≤ 140737488355328 := by have := hf.sz; simp; omega
 obtain ⟨ao, ca, rfl, _, _⟩ := hf.b.form
 have hsz := hf.sz
 have hC : Hid (∀ q, Below w.heap.size w q → Calls Tryz.prog 83 #[vs] q fun e w' => ∃ v', e = .returned v' ∧ Ob q.heap.size w' v' ((t.by_.drop o).take n) ∧ Below q.heap.size q w') := fun q hq => clone_bytes q vs _ (Below.sl hq VS) hlen
 clear h hf hr hg VS hlen
 generalize (t.by_.drop o).take n = L at *
 generalize t.by_.length = N at *
 have i1 : ¬ ((o : Int) < 0) := by omega
 have i2 : ¬ ((o : Int) > (N : Int)) := by omega
 have i3 : ¬ ((n : Int) < 0) := by omega
 have i4 : ¬ ((n : Int) > (N : Int) - (o : Int)) := by omega
 have e1 : IntKind.i64.wrap ((N : Int) - (o : Int)) = (N : Int) - (o : Int) := by rw [IntKind.wrap_i64]; omega
 have e2 : IntKind.i64.wrap ((o : Int) + (n : Int)) = (o : Int) + (n : Int) := by rw [IntKind.wrap_i64]; omega
 replace hon := hide hon
 go_enter Tryz.func20, Tryz.ntmps20
 go_wp2_with (first
  | (go_at_call 75; refine hF.mono ?_; rintro e w1 ⟨rfl, B1⟩; have d0 := (B1.cell (p := ⟨p, 0, none⟩) (lt_of_cell c0)).trans c0; replace B1 := hide B1)
  | (go_at_call 83; refine (hC.out _ B1.out).mono ?_; rintro e w2 ⟨v2, rfl, O2, B2⟩; replace O2 := hide O2; replace B2 := hide B2))
 go_ret2
 exact ⟨v2, rfl, O2.out.low B1.out.size, B1.out.trans (B2.out.mono B1.out.size)⟩
inductive Removed (w w' : World) (b : Nat) (x : Dc) (f g : Nat) (l l2 : Dr) (P : List Ch) (al : Ar) (s : ByteArray) : Int → Prop where
 | no (r : Int) (hr : (findF (some x) l s).2 = r) (h0 : r ≠ 0) (hd : Dk w' b x f g l l2 P al) (st : Stp w w' b x x) : Removed w w' b x f g l l2 P al s r
 | struck (e : Int) (hr : (findF (some x) l s).2 = 0) (he : strR (nextF x al).2.1 = e) (h0 : e ≠ 0) (hd : Dk w' b (strX (nextF x al).2.1 (inc x 5)) f g l l2 P (adel al (x.c7 + 1))) (st : Stp w w' b x (strX (nextF x al).2.1 (inc x 5))) : Removed w w' b x f g l l2 P al s e
 | done (hr : (findF (some x) l s).2 = 0) (he : strR (nextF x al).2.1 = 0) (pd : Value)
     (hd : Dk w' b { strX (nextF x al).2.1 (inc x 5) with pd := pd } f g (ddel l s.data.toList) l2 (P ++ [.rm s]) (adel al (x.c7 + 1))) (st : Stp w w' b x { strX (nextF x al).2.1 (inc x 5) with pd := pd }) : Removed w w' b x f g l l2 P al s 0
theorem remove_any (w : World) (b : Nat) (x : Dc) (f g : Nat) (l l2 : Dr) (P : List Ch) (al : Ar) (s : ByteArray) (hs : s.size ≤ 140737488355328) (h : Dk w b x f g l l2 P al) (hc : x.c7 < 4611686018427387904) (hk : (nextF x al).2.1 ≠ 4) (hP : P.length < 1000000000) (hl : l.length < 1000000000) :
    Calls Tryz.prog 53 #[.pointer (some ⟨b, 0, none⟩), .string s] w fun e w' => ∃ r, e = .returned (.int .i64 r) ∧ Removed w w' b x f g l l2 P al s r := by
 have hs2 : s.size ≤ maxLen := by unfold maxLen; omega
 have hF := h.find s hs2
 obtain ⟨v, hv⟩ : ∃ v, Hid ((findF (some x) l s).1 = v) := ⟨_, rfl⟩
 obtain ⟨r, hR⟩ : ∃ r, Hid ((findF (some x) l s).2 = r) := ⟨_, rfl⟩
 rw [hv.out, hR.out] at hF
 have H := hide h
 by_cases r0 : r = 0
 ·subst r0
  have hb : Hid (∀ q, Dk q b x f g l l2 P al → _) := fun q hq => begin_any q b x f g l l2 P al 5 (by omega) hq hc
  rw [show (aget al (x.c7 + 1)).getD zf = nextF x al from rfl] at hb
  have hS : Hid (∀ u, Dk u b (inc x 5) f g l l2 P (adel al (x.c7 + 1)) → _) := fun u hu => dk_strikeR u b (inc x 5) f g l l2 P (adel al (x.c7 + 1)) (nextF x al) hu hk
  obtain ⟨t, ht⟩ : ∃ t, Hid (nextF x al = t) := ⟨_, rfl⟩
  rw [ht.out] at hS hb hk
  obtain ⟨e0, he⟩ : ∃ e0, Hid (strR t.2.1 = e0) := ⟨_, rfl⟩
  rw [he.out] at hS
  obtain ⟨y, hX⟩ : ∃ y, Hid (strX t.2.1 (inc x 5) = y) := ⟨_, rfl⟩
  rw [hX.out] at hS
  by_cases s0 : e0 = 0
  ·subst s0
   have hC := hide (clone_str s)
   have hT : Hid (∀ u, Dk u b y f g l l2 P (adel al (x.c7 + 1)) → _) := fun u hu => dk_change u b y f g l l2 P _ (.rm s) hu hs2 trivial (by unfold maxLen; omega) hP
   clear h hk
   go_enter Tryz.func53, Tryz.ntmps53
   go_wp2_with (first
    | (go_at_call 75; refine hF.mono ?_; rintro e w1 ⟨rfl, B1⟩; replace B1 := hide B1; have D1 := hide (H.out.below B1.out))
    | (go_at_call 70; refine (hb.out _ D1.out).mono ?_; rintro e w2 ⟨rfl, D2, B2⟩; replace D2 := hide D2; replace B2 := hide B2)
    | (go_at_call 73; refine (hS.out _ D2.out).mono ?_; rintro e w3 ⟨rfl, D3, B3⟩; replace D3 := hide D3; replace B3 := hide B3)
    | (go_at_call 72; refine (hC.out w3 (by omega)).mono ?_; rintro e w4 ⟨rfl, B4⟩; replace B4 := hide B4; have D4 := hide (D3.out.below B4.out))
    | (go_at_call 71; refine (hT.out _ D4.out).mono ?_; rintro e w6 ⟨rfl, pd, D6, B6, O6⟩; replace D6 := hide D6; replace B6 := hide B6; replace O6 := hide O6))
   go_ret
   have T3 : Stp w2 w3 b (inc x 5) y := by rw [← hX.out]; exact Stp.strX B3.out
   refine ⟨0, rfl, .done hR.out (by rw [ht.out, he.out]) pd ?_ ?_⟩
   ·rw [ht.out, hX.out]; exact D6.out
   ·rw [ht.out, hX.out]; exact ((((Stp.of_below B1.out).trans (Stp.inc B2.out)).trans T3).trans (Stp.of_below B4.out)).trans (Stp.change B6.out O6.out)
  ·have s0' : (e0 != 0) = true := by simpa using s0
   replace s0 := hide s0
   clear h hk
   go_enter Tryz.func53, Tryz.ntmps53
   go_wp2_with (first
    | (go_at_call 75; refine hF.mono ?_; rintro e w1 ⟨rfl, B1⟩; replace B1 := hide B1; have D1 := hide (H.out.below B1.out))
    | (go_at_call 70; refine (hb.out _ D1.out).mono ?_; rintro e w2 ⟨rfl, D2, B2⟩; replace D2 := hide D2; replace B2 := hide B2)
    | (go_at_call 73; refine (hS.out _ D2.out).mono ?_; rintro e w3 ⟨rfl, D3, B3⟩; replace D3 := hide D3; replace B3 := hide B3))
   go_ret
   have T3 : Stp w2 w3 b (inc x 5) y := by rw [← hX.out]; exact Stp.strX B3.out
   refine ⟨e0, rfl, .struck e0 hR.out (by rw [ht.out, he.out]) s0.out ?_ ?_⟩
   ·rw [ht.out, hX.out]; exact D3.out
   ·rw [ht.out, hX.out]; exact ((Stp.of_below B1.out).trans (Stp.inc B2.out)).trans T3
 ·have r0' : (r != 0) = true := by simpa using r0
  replace r0 := hide r0
  clear h hk
  go_enter Tryz.func53, Tryz.ntmps53
  go_wp2_with (go_at_call 75; refine hF.mono ?_; rintro e w1 ⟨rfl, B1⟩; replace B1 := hide B1)
  go_ret
  exact ⟨r, rfl, .no r hR.out r0.out (H.out.below B1.out) (Stp.of_below B1.out)⟩
theorem row2 (w : World) (s t : ByteArray) (T : TypeId) : Row (w.alloc (.cells #[.string s, .string t] T)) (.slice (some ⟨w.heap.size, 0, none⟩) 2 2) ([s, t].map Value.string) := by
 refine ⟨_, 2, rfl, fun e => by simp at e, Nat.le_refl _, by decide, fun i hi => ?_⟩
 have hi2 : i = 0 ∨ i = 1 := by simp at hi; omega
 refine ⟨_, _, rfl, ?_⟩
 rw [Nat.zero_add]
 unfold World.cell?
 simp only [heap_alloc_new]
 rcases hi2 with rfl | rfl <;> rfl
inductive Renamed (w w' : World) (b : Nat) (x : Dc) (f g : Nat) (l l2 : Dr) (P : List Ch) (al : Ar) (s t : ByteArray) : Int → Prop where
 | no (r : Int) (hr : refF (some x) [s, t] = r) (h0 : r ≠ 0) (hd : Dk w' b x f g l l2 P al) (st : Stp w w' b x x) : Renamed w w' b x f g l l2 P al s t r
 | none (r : Int) (hr : refF (some x) [s, t] = 0) (hf : (findF (some x) l s).2 = r) (h0 : r ≠ 0) (hd : Dk w' b x f g l l2 P al) (st : Stp w w' b x x) : Renamed w w' b x f g l l2 P al s t r
 | struck (e : Int) (hr : refF (some x) [s, t] = 0) (hf : (findF (some x) l s).2 = 0) (he : strR (nextF x al).2.1 = e) (h0 : e ≠ 0) (hd : Dk w' b (strX (nextF x al).2.1 (inc x 4)) f g l l2 P (adel al (x.c7 + 1))) (st : Stp w w' b x (strX (nextF x al).2.1 (inc x 4))) : Renamed w w' b x f g l l2 P al s t e
 | same (hr : refF (some x) [s, t] = 0) (hf : (findF (some x) l s).2 = 0) (he : strR (nextF x al).2.1 = 0) (hst : s = t) (hd : Dk w' b (strX (nextF x al).2.1 (inc x 4)) f g l l2 P (adel al (x.c7 + 1))) (st : Stp w w' b x (strX (nextF x al).2.1 (inc x 4))) : Renamed w w' b x f g l l2 P al s t 0
 | done (hr : refF (some x) [s, t] = 0) (hf : (findF (some x) l s).2 = 0) (he : strR (nextF x al).2.1 = 0) (hst : s ≠ t) (pd : Value)
     (hd : Dk w' b { strX (nextF x al).2.1 (inc x 4) with pd := pd } f g ((Ch.rn s t).run l) l2 (P ++ [.rn s t]) (adel al (x.c7 + 1))) (st : Stp w w' b x { strX (nextF x al).2.1 (inc x 4) with pd := pd }) : Renamed w w' b x f g l l2 P al s t 0
theorem find_isSome {x : Option Dc} {l : Dr} {s : ByteArray} (h : (findF x l s).2 = 0) : (get l s.data.toList).isSome = true := by
 revert h
 unfold findF
 split
 ·cases get l s.data.toList with
  | none => intro h; simp at h
  | some p => intro _; rfl
 ·rename_i h0
  intro h
  exact absurd h h0
theorem rename_any (w : World) (b : Nat) (x : Dc) (f g : Nat) (l l2 : Dr) (P : List Ch) (al : Ar) (s t : ByteArray) (hs : s.size ≤ 140737488355328) (ht0 : t.size ≤ 140737488355328) (h : Dk w b x f g l l2 P al) (hc : x.c7 < 4611686018427387904) (hk : (nextF x al).2.1 ≠ 4) (hP : P.length < 1000000000) (hl : l.length < 1000000000) :
    Calls Tryz.prog 51 #[.pointer (some ⟨b, 0, none⟩), .string s, .string t] w fun e w' => ∃ r, e = .returned (.int .i64 r) ∧ Renamed w w' b x f g l l2 P al s t r := by
 have hs2 : s.size ≤ maxLen := by unfold maxLen; omega
 have ht2 : t.size ≤ maxLen := by unfold maxLen; omega
 have hB := hide ((Below.refl _ w).alloc (Nat.le_refl _) (.cells #[.string s, .string t] 9))
 have H1 := hide (h.below hB.out)
 have hr := refuse_any (w.alloc (.cells #[.string s, .string t] 9)) _ _ (some x) [s, t] H1.out.dp (row2 w s t _) (by simp [hs2, ht2])
 have hF := H1.out.find s hs2
 obtain ⟨q, hQ⟩ : ∃ q, Hid (refF (some x) [s, t] = q) := ⟨_, rfl⟩
 rw [hQ.out] at hr
 obtain ⟨v, hv⟩ : ∃ v, Hid ((findF (some x) l s).1 = v) := ⟨_, rfl⟩
 obtain ⟨r, hR⟩ : ∃ r, Hid ((findF (some x) l s).2 = r) := ⟨_, rfl⟩
 rw [hv.out, hR.out] at hF
 generalize hw1 : w.alloc (.cells #[.string s, .string t] 9) = w1 at *
 replace hw1 := hide hw1
 have K1 := hide (Stp.of_below (b := b) (x := x) hB.out)
 by_cases q0 : q = 0
 ·subst q0
  by_cases r0 : r = 0
  ·subst r0
   have hb : Hid (∀ q, Dk q b x f g l l2 P al → _) := fun q hq => begin_any q b x f g l l2 P al 4 (by omega) hq hc
   rw [show (aget al (x.c7 + 1)).getD zf = nextF x al from rfl] at hb
   have hS : Hid (∀ u, Dk u b (inc x 4) f g l l2 P (adel al (x.c7 + 1)) → _) := fun u hu => dk_strikeR u b (inc x 4) f g l l2 P (adel al (x.c7 + 1)) (nextF x al) hu hk
   obtain ⟨tt, ht⟩ : ∃ tt, Hid (nextF x al = tt) := ⟨_, rfl⟩
   rw [ht.out] at hS hb hk
   obtain ⟨e0, he⟩ : ∃ e0, Hid (strR tt.2.1 = e0) := ⟨_, rfl⟩
   rw [he.out] at hS
   obtain ⟨y, hX⟩ : ∃ y, Hid (strX tt.2.1 (inc x 4) = y) := ⟨_, rfl⟩
   rw [hX.out] at hS
   by_cases s0 : e0 = 0
   ·subst s0
    have hC := hide clone_str
    have hcan : Hid ((Ch.rn s t).can l) := find_isSome hR.out
    have hT : Hid (∀ u, Dk u b y f g l l2 P (adel al (x.c7 + 1)) → _) := fun u hu => dk_change u b y f g l l2 P _ (.rn s t) hu ⟨hs2, ht2⟩ hcan.out (by unfold maxLen; omega) hP
    clear h hk
    by_cases st : s = t
    ·subst st
     go_enter Tryz.func51, Tryz.ntmps51
     go_wp2_with (first
      | (go_at_call 68; rw [hw1.out]; refine hr.mono ?_; rintro e w2 ⟨rfl, e1⟩; subst w2)
      | (go_at_call 75; refine hF.mono ?_; rintro e w2 ⟨rfl, B2⟩; replace B2 := hide B2; have D2 := hide (H1.out.below B2.out))
      | (go_at_call 70; refine (hb.out _ D2.out).mono ?_; rintro e w3 ⟨rfl, D3, B3⟩; replace D3 := hide D3; replace B3 := hide B3)
      | (go_at_call 73; refine (hS.out _ D3.out).mono ?_; rintro e w4 ⟨rfl, D4, B4⟩; replace D4 := hide D4; replace B4 := hide B4))
     go_ret
     have T4 : Stp w3 w4 b (inc x 4) y := by rw [← hX.out]; exact Stp.strX B4.out
     refine ⟨0, rfl, .same hQ.out hR.out (by rw [ht.out, he.out]) rfl ?_ ?_⟩
     ·rw [ht.out, hX.out]; exact D4.out
     ·rw [ht.out, hX.out]; exact ((K1.out.trans (Stp.of_below B2.out)).trans (Stp.inc B3.out)).trans T4
    ·have st' : (s.toList == t.toList) = false := by
       rw [ByteArray.toList_eq, ByteArray.toList_eq, beq_eq_false_iff_ne]
       intro e
       apply st
       cases s with
       | mk a => cases t with
        | mk c => simpa using e
     replace st := hide st
     go_enter Tryz.func51, Tryz.ntmps51
     go_wp2_with (first
      | (go_at_call 68; rw [hw1.out]; refine hr.mono ?_; rintro e w2 ⟨rfl, e1⟩; subst w2)
      | (go_at_call 75; refine hF.mono ?_; rintro e w2 ⟨rfl, B2⟩; replace B2 := hide B2; have D2 := hide (H1.out.below B2.out))
      | (go_at_call 70; refine (hb.out _ D2.out).mono ?_; rintro e w3 ⟨rfl, D3, B3⟩; replace D3 := hide D3; replace B3 := hide B3)
      | (go_at_call 73; refine (hS.out _ D3.out).mono ?_; rintro e w4 ⟨rfl, D4, B4⟩; replace D4 := hide D4; replace B4 := hide B4)
      | (go_at_call 72; refine (hC.out s w4 (by omega)).mono ?_; rintro e w5 ⟨rfl, B5⟩; replace B5 := hide B5)
      | (go_at_call 72; refine (hC.out t w5 (by omega)).mono ?_; rintro e w6 ⟨rfl, B6⟩; replace B6 : Hid (Below w4.heap.size w4 w6) := B5.out.trans (B6.mono B5.out.size); have D6 := hide (D4.out.below B6.out))
      | (go_at_call 71; refine (hT.out _ D6.out).mono ?_; rintro e w7 ⟨rfl, pd, D7, B7, O7⟩; replace D7 := hide D7; replace B7 := hide B7; replace O7 := hide O7))
     go_ret
     have T4 : Stp w3 w4 b (inc x 4) y := by rw [← hX.out]; exact Stp.strX B4.out
     refine ⟨0, rfl, .done hQ.out hR.out (by rw [ht.out, he.out]) st.out pd ?_ ?_⟩
     ·rw [ht.out, hX.out]; exact D7.out
     ·rw [ht.out, hX.out]; exact ((((K1.out.trans (Stp.of_below B2.out)).trans (Stp.inc B3.out)).trans T4).trans (Stp.of_below B6.out)).trans (Stp.change B7.out O7.out)
   ·have s0' : (e0 != 0) = true := by simpa using s0
    replace s0 := hide s0
    clear h hk
    go_enter Tryz.func51, Tryz.ntmps51
    go_wp2_with (first
     | (go_at_call 68; rw [hw1.out]; refine hr.mono ?_; rintro e w2 ⟨rfl, e1⟩; subst w2)
     | (go_at_call 75; refine hF.mono ?_; rintro e w2 ⟨rfl, B2⟩; replace B2 := hide B2; have D2 := hide (H1.out.below B2.out))
     | (go_at_call 70; refine (hb.out _ D2.out).mono ?_; rintro e w3 ⟨rfl, D3, B3⟩; replace D3 := hide D3; replace B3 := hide B3)
     | (go_at_call 73; refine (hS.out _ D3.out).mono ?_; rintro e w4 ⟨rfl, D4, B4⟩; replace D4 := hide D4; replace B4 := hide B4))
    go_ret
    have T4 : Stp w3 w4 b (inc x 4) y := by rw [← hX.out]; exact Stp.strX B4.out
    refine ⟨e0, rfl, .struck e0 hQ.out hR.out (by rw [ht.out, he.out]) s0.out ?_ ?_⟩
    ·rw [ht.out, hX.out]; exact D4.out
    ·rw [ht.out, hX.out]; exact ((K1.out.trans (Stp.of_below B2.out)).trans (Stp.inc B3.out)).trans T4
  ·have r0' : (r != 0) = true := by simpa using r0
   replace r0 := hide r0
   clear h hk
   go_enter Tryz.func51, Tryz.ntmps51
   go_wp2_with (first
    | (go_at_call 68; rw [hw1.out]; refine hr.mono ?_; rintro e w2 ⟨rfl, e1⟩; subst w2)
    | (go_at_call 75; refine hF.mono ?_; rintro e w2 ⟨rfl, B2⟩; replace B2 := hide B2))
   go_ret
   exact ⟨r, rfl, .none r hQ.out hR.out r0.out (H1.out.below B2.out) (K1.out.trans (Stp.of_below B2.out))⟩
 ·have q0' : (q != 0) = true := by simpa using q0
  replace q0 := hide q0
  clear h hk hF
  go_enter Tryz.func51, Tryz.ntmps51
  go_wp2_with (go_at_call 68; rw [hw1.out]; refine hr.mono ?_; rintro e w2 ⟨rfl, e1⟩; subst w2)
  go_ret
  exact ⟨q, rfl, .no q hQ.out q0.out H1.out K1.out⟩
structure DS where
 most : Int
 up : Bool
 l2 : Dr
 P : List Ch
 al : Ar
 c0 : Int
 c1 : Int
 c2 : Int
 c3 : Int
 c4 : Int
 c5 : Int
 c6 : Int
 c7 : Int
 c8 : Int
 F : Nat → Fl
def DS.dc (S : DS) (f g : Nat) (pd : Value) (am : Option Nat) : Dc := ⟨S.most, S.up, some f, some g, pd, am, S.c0, S.c1, S.c2, S.c3, S.c4, S.c5, S.c6, S.c7, S.c8⟩
def DS.dir (S : DS) : Dr := runs S.l2 S.P
def Ch.ptr : Ch → Option Nat
 | .cr _ p => some p
 | _ => none
def DS.ps (S : DS) : List Nat := S.l2.map (·.2) ++ S.P.filterMap Ch.ptr
structure DS.ok (S : DS) : Prop where
 most : 0 ≤ S.most ∧ S.most ≤ 16777216
 sz : ∀ p ∈ S.ps, (S.F p).by_.length ≤ 16777216
 cnt : ((S.l2.length + S.P.length : Nat) : Int) ≤ S.c7
 calm : ∀ e ∈ S.al, (1 ≤ e.2.2.1 ∧ e.2.2.1 ≤ 3) ∧ 0 ≤ e.2.2.2
 by8 : 0 ≤ S.c8 ∧ S.c8 ≤ 16777216 * S.c7
structure Fs (w : World) (Ow : Nat → Prop) (ps : List Nat) (F : Nat → Fl) (VB VL : Nat → Value) : Prop where
 at_ : ∀ p ∈ ps, FlAt w p (F p) (VB p) (VL p)
 ap : ∀ p ∈ ps, ∀ q ∈ ps, p ≠ q → ∀ k, FOwn p (VB p) (VL p) k → ¬ FOwn q (VB q) (VL q) k
 no : ∀ p ∈ ps, ∀ k, FOwn p (VB p) (VL p) k → ¬ Ow k
structure Sgo (w w' : World) (O O' : Nat → Prop) : Prop where
 but : But O w w'
 own : ∀ k, O' k → O k ∨ w.heap.size ≤ k
theorem Sgo.refl (w : World) (O : Nat → Prop) : Sgo w w O O := ⟨But.of_below (Below.refl _ _) _, fun _ h => .inl h⟩
theorem Sgo.of_below {w w' : World} {O : Nat → Prop} (h : Below w.heap.size w w') : Sgo w w' O O := ⟨But.of_below h _, fun _ q => .inl q⟩
theorem Sgo.trans {w u w' : World} {O O1 O2 : Nat → Prop} (h : Sgo w u O O1) (k : Sgo u w' O1 O2) : Sgo w w' O O2 := by
 refine ⟨⟨k.but.os.trans h.but.os, k.but.tape.trans h.but.tape, k.but.output.trans h.but.output, Nat.le_trans h.but.size k.but.size, fun i hi hx => ?_⟩, fun i hi => ?_⟩
 ·rw [k.but.block i (Nat.lt_of_lt_of_le hi h.but.size) (fun c => ?_)]
  ·exact h.but.block i hi hx
  ·rcases h.own i c with q | q
   ·exact hx q
   ·omega
 ·rcases k.own i hi with q | q
  ·exact h.own i q
  ·exact .inr (Nat.le_trans h.but.size q)
theorem Sgo.low {w w' : World} {O O' : Nat → Prop} {B : Nat} (h : Sgo w w' O O') (hB : B ≤ w.heap.size) (lo : ∀ k, O k → B ≤ k) : ∀ k, O' k → B ≤ k := fun k hk => by
 rcases h.own k hk with q | q
 ·exact lo k q
 ·omega
theorem Sgo.under {w0 w w' : World} {O O' : Nat → Prop} {B : Nat} (h : Sgo w w' O O') (lo : ∀ k, O k → B ≤ k) (hB : B ≤ w0.heap.size) (hb : Below B w0 w) : Below B w0 w' :=
 ⟨h.but.os.trans hb.os, h.but.tape.trans hb.tape, h.but.output.trans hb.output, Nat.le_trans hb.size h.but.size, fun k hk => (h.but.block k (Nat.lt_of_lt_of_le (Nat.lt_of_lt_of_le hk hB) hb.size) (fun c => by have := lo k c; omega)).trans (hb.block k hk)⟩
theorem Fs.but {X : Nat → Prop} {A B : World} {Ow : Nat → Prop} {ps : List Nat} {F : Nat → Fl} {VB VL : Nat → Value} (h : Fs A Ow ps F VB VL) (hb : But X A B) (hx : ∀ p ∈ ps, ∀ k, FOwn p (VB p) (VL p) k → ¬ X k) : Fs B Ow ps F VB VL :=
 ⟨fun p hp => (h.at_ p hp).but hb (hx p hp), h.ap, h.no⟩
theorem Fs.lt {w : World} {Ow : Nat → Prop} {ps : List Nat} {F : Nat → Fl} {VB VL : Nat → Value} (h : Fs w Ow ps F VB VL) {p : Nat} (hp : p ∈ ps) : ∀ k, FOwn p (VB p) (VL p) k → k < w.heap.size := (h.at_ p hp).lt
theorem Fs.stp {w w' : World} {b : Nat} {x x' : Dc} {ps : List Nat} {F : Nat → Fl} {VB VL : Nat → Value} (h : Fs w (Own b x) ps F VB VL) (st : Stp w w' b x x') : Fs w' (Own b x') ps F VB VL := by
 refine ⟨fun p hp => (h.at_ p hp).but st.but (h.no p hp), h.ap, fun p hp k hk c => ?_⟩
 rcases st.own k c with q | q
 ·exact h.no p hp k hk q
 ·have := h.lt hp k hk
  omega
theorem Fs.sub {w : World} {Ow : Nat → Prop} {ps qs : List Nat} {F : Nat → Fl} {VB VL : Nat → Value} (h : Fs w Ow ps F VB VL) (hs : ∀ q ∈ qs, q ∈ ps) : Fs w Ow qs F VB VL :=
 ⟨fun p hp => h.at_ p (hs p hp), fun p hp q hq => h.ap p (hs p hp) q (hs q hq), fun p hp => h.no p (hs p hp)⟩
def upd {α : Type} (F : Nat → α) (p : Nat) (t : α) : Nat → α := fun q => if q = p then t else F q
theorem upd_same {α : Type} (F : Nat → α) (p : Nat) (t : α) : upd F p t p = t := if_pos rfl
theorem upd_ne {α : Type} (F : Nat → α) {p q : Nat} (t : α) (h : q ≠ p) : upd F p t q = F q := if_neg h
theorem Fs.one {w w' : World} {Ow : Nat → Prop} {ps : List Nat} {F : Nat → Fl} {VB VL : Nat → Value} {p : Nat} {t : Fl} {vb vl : Value} (h : Fs w Ow ps F VB VL) (hp : p ∈ ps) (ht : FlAt w' p t vb vl) (hb : But (FOwn p (VB p) (VL p)) w w') (ho : ∀ k, FOwn p vb vl k → FOwn p (VB p) (VL p) k ∨ w.heap.size ≤ k)
    (hO : ∀ k, Ow k → k < w.heap.size) : Fs w' Ow ps (upd F p t) (upd VB p vb) (upd VL p vl) := by
 refine ⟨fun q hq => ?_, fun q hq r hr hne k hk c => ?_, fun q hq k hk c => ?_⟩
 ·by_cases e : q = p
  ·subst e; rw [upd_same, upd_same, upd_same]; exact ht
  ·rw [upd_ne _ _ e, upd_ne _ _ e, upd_ne _ _ e]; exact (h.at_ q hq).but hb (fun k hk c => h.ap q hq p hp e k hk c)
 ·by_cases e : q = p
  ·subst e
   rw [upd_same, upd_same] at hk
   rw [upd_ne _ _ (Ne.symm hne), upd_ne _ _ (Ne.symm hne)] at c
   rcases ho k hk with z | z
   ·exact h.ap q hq r hr hne k z c
   ·have := h.lt hr k c; omega
  ·rw [upd_ne _ _ e, upd_ne _ _ e] at hk
   by_cases e2 : r = p
   ·subst e2
    rw [upd_same, upd_same] at c
    rcases ho k c with z | z
    ·exact h.ap q hq r hr hne k hk z
    ·have := h.lt hq k hk; omega
   ·rw [upd_ne _ _ e2, upd_ne _ _ e2] at c
    exact h.ap q hq r hr hne k hk c
 ·by_cases e : q = p
  ·subst e
   rw [upd_same, upd_same] at hk
   rcases ho k hk with z | z
   ·exact h.no q hq k z c
   ·have := hO k c; omega
  ·rw [upd_ne _ _ e, upd_ne _ _ e] at hk
   exact h.no q hq k hk c
structure Dsk (w : World) (b : Nat) (S : DS) (O : Nat → Prop) (f g : Nat) (pd : Value) (am : Option Nat) (VB VL : Nat → Value) : Prop where
 dk : Dk w b (S.dc f g pd am) f g S.dir S.l2 S.P S.al
 fs : Fs w (Own b (S.dc f g pd am)) S.ps S.F VB VL
 ow : ∀ k, Own b (S.dc f g pd am) k → O k
 of : ∀ p ∈ S.ps, ∀ k, FOwn p (VB p) (VL p) k → O k
 lt : ∀ k, O k → k < w.heap.size
 ok : S.ok
def DskE (w : World) (b : Nat) (S : DS) (O : Nat → Prop) : Prop := ∃ f g pd am VB VL, Dsk w b S O f g pd am VB VL
theorem Dsk.but {X : Nat → Prop} {A B : World} {b : Nat} {S : DS} {O : Nat → Prop} {f g : Nat} {pd : Value} {am : Option Nat} {VB VL : Nat → Value} (h : Dsk A b S O f g pd am VB VL) (hb : But X A B) (hx : ∀ k, O k → ¬ X k) : Dsk B b S O f g pd am VB VL :=
 ⟨h.dk.but hb fun k hk => hx k (h.ow k hk), h.fs.but hb fun p hp k hk => hx k (h.of p hp k hk), h.ow, h.of, fun k hk => Nat.lt_of_lt_of_le (h.lt k hk) hb.size, h.ok⟩
theorem Dsk.below {A B : World} {b : Nat} {S : DS} {O : Nat → Prop} {f g : Nat} {pd : Value} {am : Option Nat} {VB VL : Nat → Value} (h : Dsk A b S O f g pd am VB VL) (hb : Below A.heap.size A B) : Dsk B b S O f g pd am VB VL := h.but (But.of_below hb fun _ => False) fun _ _ c => c
theorem DskE.but {X : Nat → Prop} {A B : World} {b : Nat} {S : DS} {O : Nat → Prop} (h : DskE A b S O) (hb : But X A B) (hx : ∀ k, O k → ¬ X k) : DskE B b S O := by
 obtain ⟨f, g, pd, am, VB, VL, h⟩ := h
 exact ⟨f, g, pd, am, VB, VL, h.but hb hx⟩
theorem DskE.below {A B : World} {b : Nat} {S : DS} {O : Nat → Prop} (h : DskE A b S O) (hb : Below A.heap.size A B) : DskE B b S O := h.but (But.of_below hb fun _ => False) fun _ _ c => c
theorem DskE.lt {w : World} {b : Nat} {S : DS} {O : Nat → Prop} (h : DskE w b S O) : ∀ k, O k → k < w.heap.size := by
 obtain ⟨f, g, pd, am, VB, VL, h⟩ := h
 exact h.lt
theorem DskE.ok {w : World} {b : Nat} {S : DS} {O : Nat → Prop} (h : DskE w b S O) : S.ok := by
 obtain ⟨f, g, pd, am, VB, VL, h⟩ := h
 exact h.ok
theorem ddel_mem {l : Dr} {n : List UInt8} {e : List UInt8 × Nat} (h : e ∈ ddel l n) : e ∈ l := (List.mem_filter.1 h).1
theorem dins_mem {x e : List UInt8 × Nat} {l : Dr} (h : e ∈ dins x l) : e = x ∨ e ∈ l := by
 induction l with
 | nil => simp [dins] at h; exact .inl h
 | cons y r ih =>
  unfold dins at h
  split at h
  ·rcases List.mem_cons.1 h with q | q
   ·exact .inl q
   ·exact .inr q
  ·rcases List.mem_cons.1 h with q | q
   ·exact .inr (by rw [q]; simp)
   ·rcases ih q with z | z
    ·exact .inl z
    ·exact .inr (by simp [z])
theorem dput_mem {l : Dr} {n : List UInt8} {p : Nat} {e : List UInt8 × Nat} (h : e ∈ dput l n p) : e = (n, p) ∨ e ∈ l := by
 rcases dins_mem h with q | q
 ·exact .inl q
 ·exact .inr (ddel_mem q)
theorem get_mem {l : Dr} {n : List UInt8} {p : Nat} (h : get l n = some p) : (n, p) ∈ l := by
 unfold get at h
 cases hf : l.find? fun e => e.1 == n with
 | none => rw [hf] at h; simp at h
 | some e =>
  rw [hf] at h
  simp at h
  have h1 := List.mem_of_find?_eq_some hf
  have h2 := List.find?_some hf
  have : e = (n, p) := by
   obtain ⟨a, c⟩ := e
   simp at h2 h
   rw [h2, h]
  rw [← this]
  exact h1
theorem run_mem {l : Dr} {c : Ch} {p : Nat} (h : p ∈ (c.run l).map (·.2)) : p ∈ l.map (·.2) ∨ c.ptr = some p := by
 rw [List.mem_map] at h
 obtain ⟨e, he, rfl⟩ := h
 cases c with
 | cr n p =>
  rcases dput_mem he with q | q
  ·rw [q]; exact .inr rfl
  ·exact .inl (List.mem_map.2 ⟨e, q, rfl⟩)
 | rm n => exact .inl (List.mem_map.2 ⟨e, ddel_mem he, rfl⟩)
 | rn f t =>
  left
  simp only [Ch.run] at he
  split at he
  ·rename_i p hp
   rcases dput_mem (ddel_mem he) with q | q
   ·rw [q]; exact List.mem_map.2 ⟨_, get_mem hp, rfl⟩
   ·exact List.mem_map.2 ⟨e, q, rfl⟩
  ·exact List.mem_map.2 ⟨e, he, rfl⟩
theorem runs_mem {l : Dr} : ∀ {P : List Ch} {p : Nat}, p ∈ (runs l P).map (·.2) → p ∈ l.map (·.2) ++ P.filterMap Ch.ptr := by
 intro P
 induction P generalizing l with
 | nil => intro p h; simpa [runs] using h
 | cons c r ih =>
  intro p h
  have := ih (l := c.run l) h
  rcases List.mem_append.1 this with q | q
  ·rcases run_mem q with z | z
   ·exact List.mem_append.2 (.inl z)
   ·exact List.mem_append.2 (.inr (List.mem_filterMap.2 ⟨c, by simp, z⟩))
  ·refine List.mem_append.2 (.inr ?_)
   rw [List.mem_filterMap] at q ⊢
   obtain ⟨d, hd, e⟩ := q
   exact ⟨d, by simp [hd], e⟩
theorem DS.mem_dir {S : DS} {n : List UInt8} {p : Nat} (h : get S.dir n = some p) : p ∈ S.ps := runs_mem (List.mem_map.2 ⟨_, get_mem h, rfl⟩)
theorem DS.mem_front {S : DS} {k : Nat} {p : Nat} (h : p ∈ (runs S.l2 (S.P.take k)).map (·.2)) : p ∈ S.ps := by
 have := runs_mem h
 rcases List.mem_append.1 this with q | q
 ·exact List.mem_append.2 (.inl q)
 ·refine List.mem_append.2 (.inr ?_)
  rw [List.mem_filterMap] at q ⊢
  obtain ⟨d, hd, e⟩ := q
  exact ⟨d, List.mem_of_mem_take hd, e⟩
theorem Dsk.one {w w' : World} {b : Nat} {S : DS} {O : Nat → Prop} {f g : Nat} {pd : Value} {am : Option Nat} {VB VL : Nat → Value} {p : Nat} {t : Fl} {vb vl : Value} (h : Dsk w b S O f g pd am VB VL) (hp : p ∈ S.ps) (ht : FlAt w' p t vb vl) (hb : But (FOwn p (VB p) (VL p)) w w') (ho : ∀ k, FOwn p vb vl k → FOwn p (VB p) (VL p) k ∨ w.heap.size ≤ k)
    (hz : t.by_.length ≤ 16777216) : ∃ O', Dsk w' b { S with F := upd S.F p t } O' f g pd am (upd VB p vb) (upd VL p vl) ∧ Sgo w w' O O' := by
 refine ⟨fun k => O k ∨ (w.heap.size ≤ k ∧ k < w'.heap.size), ⟨?_, ?_, fun k hk => .inl (h.ow k hk), ?_, ?_, ?_⟩, ⟨hb.mono fun k _ c => h.of p hp k c, fun k hk => ?_⟩⟩
 ·exact h.dk.but hb fun k hk c => h.fs.no p hp k c hk
 ·exact h.fs.one hp ht hb ho fun k hk => h.lt k (h.ow k hk)
 ·intro q hq k hk
  by_cases e : q = p
  ·subst e
   rw [upd_same, upd_same] at hk
   rcases ho k hk with z | z
   ·exact .inl (h.of q hp k z)
   ·exact .inr ⟨z, ht.lt k hk⟩
  ·rw [upd_ne _ _ e, upd_ne _ _ e] at hk
   exact .inl (h.of q hq k hk)
 ·rintro k (q | q)
  ·exact Nat.lt_of_lt_of_le (h.lt k q) hb.size
  ·exact q.2
 ·refine ⟨h.ok.most, fun q hq => ?_, h.ok.cnt, h.ok.calm, h.ok.by8⟩
  by_cases e : q = p
  ·subst e; show (upd S.F q t q).by_.length ≤ _; rw [upd_same]; exact hz
  ·show (upd S.F p t q).by_.length ≤ _; rw [upd_ne _ _ e]; exact h.ok.sz q hq
 ·rcases hk with q | q
  ·exact .inl q
  ·exact .inr q.1
def DS.beg (S : DS) : Nat → DS
 | 0 => { S with c0 := S.c0 + 1, c7 := S.c7 + 1, al := adel S.al (S.c7 + 1) }
 | 1 => { S with c1 := S.c1 + 1, c7 := S.c7 + 1, al := adel S.al (S.c7 + 1) }
 | 2 => { S with c2 := S.c2 + 1, c7 := S.c7 + 1, al := adel S.al (S.c7 + 1) }
 | 3 => { S with c3 := S.c3 + 1, c7 := S.c7 + 1, al := adel S.al (S.c7 + 1) }
 | 4 => { S with c4 := S.c4 + 1, c7 := S.c7 + 1, al := adel S.al (S.c7 + 1) }
 | 5 => { S with c5 := S.c5 + 1, c7 := S.c7 + 1, al := adel S.al (S.c7 + 1) }
 | _ => { S with c6 := S.c6 + 1, c7 := S.c7 + 1, al := adel S.al (S.c7 + 1) }
def DS.flt (S : DS) : Ft := (aget S.al (S.c7 + 1)).getD zf
def DS.str (S : DS) (k : Int) : DS := if k = 3 then { S with up := false } else S
theorem beg_dc (S : DS) (f g : Nat) (pd : Value) (am : Option Nat) (j : Nat) : inc (S.dc f g pd am) j = (S.beg j).dc f g pd am := by
 match j with
 | 0 => rfl
 | 1 => rfl
 | 2 => rfl
 | 3 => rfl
 | 4 => rfl
 | 5 => rfl
 | _ + 6 => rfl
theorem beg_rest (S : DS) (j : Nat) : (S.beg j).most = S.most ∧ (S.beg j).up = S.up ∧ (S.beg j).l2 = S.l2 ∧ (S.beg j).P = S.P ∧ (S.beg j).al = adel S.al (S.c7 + 1) ∧ (S.beg j).c7 = S.c7 + 1 ∧ (S.beg j).c8 = S.c8 ∧ (S.beg j).F = S.F := by
 unfold DS.beg
 split <;> exact ⟨rfl, rfl, rfl, rfl, rfl, rfl, rfl, rfl⟩
theorem str_dc (S : DS) (f g : Nat) (pd : Value) (am : Option Nat) (k : Int) : strX k (S.dc f g pd am) = (S.str k).dc f g pd am := by
 unfold strX DS.str
 split <;> rfl
theorem str_rest (S : DS) (k : Int) : (S.str k).most = S.most ∧ (S.str k).l2 = S.l2 ∧ (S.str k).P = S.P ∧ (S.str k).al = S.al ∧ (S.str k).c7 = S.c7 ∧ (S.str k).c8 = S.c8 ∧ (S.str k).F = S.F := by
 unfold DS.str
 split <;> exact ⟨rfl, rfl, rfl, rfl, rfl, rfl, rfl⟩
theorem DS.ok.calm_at {S : DS} (h : S.ok) (n : Int) : (0 ≤ ((aget S.al n).getD zf).2.1 ∧ ((aget S.al n).getD zf).2.1 ≤ 3) ∧ 0 ≤ ((aget S.al n).getD zf).2.2 := by
 unfold aget
 cases hf : S.al.find? fun p => p.1 == n with
 | none => simp [zf]
 | some e =>
  have := h.calm e (List.mem_of_find?_eq_some hf)
  simp
  omega
theorem DS.ok.flt {S : DS} (h : S.ok) : (0 ≤ S.flt.2.1 ∧ S.flt.2.1 ≤ 3) ∧ 0 ≤ S.flt.2.2 := h.calm_at _
theorem DS.ok.flt4 {S : DS} (h : S.ok) : S.flt.2.1 ≠ 4 := by have := h.flt; omega
theorem DS.ok.beg {S : DS} (h : S.ok) (j : Nat) : (S.beg j).ok := by
 obtain ⟨e1, e2, e3, e4, e5, e6, e7, e8⟩ := beg_rest S j
 have e9 : (S.beg j).ps = S.ps := by unfold DS.ps; rw [e3, e4]
 refine ⟨by rw [e1]; exact h.most, by rw [e9, e8]; exact h.sz, ?_, ?_, ?_⟩
 ·rw [e3, e4, e6]; have := h.cnt; omega
 ·rw [e5]; exact fun e he => h.calm e (List.mem_filter.1 he).1
 ·rw [e7, e6]; have := h.by8; omega
theorem DS.ok.str {S : DS} (h : S.ok) (k : Int) : (S.str k).ok := by
 obtain ⟨e1, e3, e4, e5, e6, e7, e8⟩ := str_rest S k
 have e9 : (S.str k).ps = S.ps := by unfold DS.ps; rw [e3, e4]
 exact ⟨by rw [e1]; exact h.most, by rw [e9, e8]; exact h.sz, by rw [e3, e4, e6]; exact h.cnt, by rw [e5]; exact h.calm, by rw [e7, e6]; exact h.by8⟩
theorem Dsk.turn {w w' : World} {b : Nat} {S T : DS} {O : Nat → Prop} {f g : Nat} {pd : Value} {am : Option Nat} {VB VL : Nat → Value} (h : Dsk w b S O f g pd am VB VL) (e3 : T.l2 = S.l2) (e4 : T.P = S.P) (e8 : T.F = S.F) (hok : T.ok) (hd : Dk w' b (T.dc f g pd am) f g S.dir S.l2 S.P T.al) (st : Stp w w' b (S.dc f g pd am) (T.dc f g pd am)) :
    Dsk w' b T O f g pd am VB VL ∧ Sgo w w' O O := by
 have e9 : T.ps = S.ps := by unfold DS.ps; rw [e3, e4]
 have e10 : T.dir = S.dir := by unfold DS.dir; rw [e3, e4]
 refine ⟨⟨by rw [e10, e3, e4]; exact hd, by rw [e9, e8]; exact h.fs.stp st, h.ow, by rw [e9]; exact h.of, fun k hk => Nat.lt_of_lt_of_le (h.lt k hk) st.but.size, hok⟩, ⟨st.but.mono fun k _ c => h.ow k c, fun k hk => .inl hk⟩⟩
theorem dsk_begin {w : World} {b : Nat} {S : DS} {O : Nat → Prop} {f g : Nat} {pd : Value} {am : Option Nat} {VB VL : Nat → Value} (h : Dsk w b S O f g pd am VB VL) (j : Nat) (hj : j < 7) (hc : S.c7 < 1000000000) :
    Calls Tryz.prog 70 #[.pointer (some ⟨b, 0, none⟩), .pointer (some ⟨b, 6 + j, none⟩)] w fun e w' => e = .returned (fv S.flt) ∧ Dsk w' b (S.beg j) O f g pd am VB VL ∧ Sgo w w' O O := by
 refine (begin_any w b (S.dc f g pd am) f g S.dir S.l2 S.P S.al j hj h.dk (by show S.c7 < _; omega)).mono ?_
 rintro e w' ⟨rfl, hd, hb⟩
 obtain ⟨e1, e2, e3, e4, e5, e6, e7, e8⟩ := beg_rest S j
 refine ⟨rfl, h.turn e3 e4 e8 (h.ok.beg j) (by rw [e5, ← beg_dc]; exact hd) ?_⟩
 rw [← beg_dc]
 exact Stp.inc hb
theorem dsk_strike {w : World} {b : Nat} {S : DS} {O : Nat → Prop} {f g : Nat} {pd : Value} {am : Option Nat} {VB VL : Nat → Value} (h : Dsk w b S O f g pd am VB VL) (t : Ft) (hk : t.2.1 ≠ 4) :
    Calls Tryz.prog 69 #[.pointer (some ⟨b, 0, none⟩), fv t] w fun e w' => e = .returned (.int .i64 (strF t.2.1)) ∧ Dsk w' b (S.str t.2.1) O f g pd am VB VL ∧ Sgo w w' O O := by
 refine (dk_strike w b _ f g S.dir S.l2 S.P S.al t h.dk hk).mono ?_
 rintro e w' ⟨rfl, hd, hb⟩
 obtain ⟨e1, e3, e4, e5, e6, e7, e8⟩ := str_rest S t.2.1
 refine ⟨rfl, h.turn e3 e4 e8 (h.ok.str _) (by rw [e5, ← str_dc]; exact hd) ?_⟩
 rw [← str_dc]
 exact Stp.strX hb
theorem dsk_strikeR {w : World} {b : Nat} {S : DS} {O : Nat → Prop} {f g : Nat} {pd : Value} {am : Option Nat} {VB VL : Nat → Value} (h : Dsk w b S O f g pd am VB VL) (t : Ft) (hk : t.2.1 ≠ 4) :
    Calls Tryz.prog 73 #[.pointer (some ⟨b, 0, none⟩), fv t] w fun e w' => e = .returned (.int .i64 (strR t.2.1)) ∧ Dsk w' b (S.str t.2.1) O f g pd am VB VL ∧ Sgo w w' O O := by
 refine (dk_strikeR w b _ f g S.dir S.l2 S.P S.al t h.dk hk).mono ?_
 rintro e w' ⟨rfl, hd, hb⟩
 obtain ⟨e1, e3, e4, e5, e6, e7, e8⟩ := str_rest S t.2.1
 refine ⟨rfl, h.turn e3 e4 e8 (h.ok.str _) (by rw [e5, ← str_dc]; exact hd) ?_⟩
 rw [← str_dc]
 exact Stp.strX hb
def DS.ref (S : DS) (L : List ByteArray) : Int := if S.up then (if L.all (fun s => may s.data.toList) then 0 else 24) else 22
theorem ref_dc (S : DS) (f g : Nat) (pd : Value) (am : Option Nat) (L : List ByteArray) : refF (some (S.dc f g pd am)) L = S.ref L := rfl
def DS.find (S : DS) (s : ByteArray) : Option Nat × Int :=
 if S.ref [s] = 0 then (match get S.dir s.data.toList with | some p => (some p, 0) | none => (none, 6)) else (none, S.ref [s])
theorem find_dc (S : DS) (f g : Nat) (pd : Value) (am : Option Nat) (s : ByteArray) : findF (some (S.dc f g pd am)) S.dir s = (.pointer ((S.find s).1.map fun p => ⟨p, 0, none⟩), (S.find s).2) := by
 unfold findF DS.find
 rw [ref_dc]
 split
 ·cases get S.dir s.data.toList <;> rfl
 ·rfl
theorem find_ok {S : DS} {s : ByteArray} (h : (S.find s).2 = 0) : ∃ p, S.find s = (some p, 0) ∧ get S.dir s.data.toList = some p ∧ S.ref [s] = 0 ∧ p ∈ S.ps := by
 unfold DS.find at h ⊢
 split at h
 ·rename_i h0
  rw [if_pos h0]
  cases hp : get S.dir s.data.toList with
  | some p => exact ⟨p, rfl, rfl, h0, DS.mem_dir hp⟩
  | none => rw [hp] at h; exact absurd h (by decide)
 ·rename_i h0
  exact absurd h h0
theorem find_no {S : DS} {s : ByteArray} (h : (S.find s).2 ≠ 0) : (S.find s).1 = none := by
 unfold DS.find at h ⊢
 split
 ·rename_i h0
  rw [if_pos h0] at h
  cases hp : get S.dir s.data.toList with
  | some p => rw [hp] at h; exact absurd rfl h
  | none => rfl
 ·rfl
theorem dsk_find {w : World} {b : Nat} {S : DS} {O : Nat → Prop} {f g : Nat} {pd : Value} {am : Option Nat} {VB VL : Nat → Value} (h : Dsk w b S O f g pd am VB VL) (s : ByteArray) (hs : s.size ≤ maxLen) :
    Calls Tryz.prog 75 #[.pointer (some ⟨b, 0, none⟩), .string s] w fun e w' => e = .returned (.tuple #[.pointer ((S.find s).1.map fun p => ⟨p, 0, none⟩), .int .i64 (S.find s).2]) ∧ Below w.heap.size w w' := by
 have := h.dk.find s hs
 rw [find_dc] at this
 exact this
def DS.create (S : DS) (s : ByteArray) (p : Nat) : DS × Int :=
 if S.ref [s] ≠ 0 then (S, S.ref [s])
 else if (get S.dir s.data.toList).isSome then (S, 7)
 else if 256 ≤ S.dir.length then (S, 9)
 else if strF S.flt.2.1 ≠ 0 then ((S.beg 0).str S.flt.2.1, strF S.flt.2.1)
 else ({ (S.beg 0).str S.flt.2.1 with P := S.P ++ [.cr s p], F := upd S.F p ⟨[], [], 0⟩ }, 0)
theorem beg_dir (S : DS) (j : Nat) : (S.beg j).dir = S.dir := by obtain ⟨e1, e2, e3, e4, e5, e6, e7, e8⟩ := beg_rest S j; unfold DS.dir; rw [e3, e4]
theorem beg_ps (S : DS) (j : Nat) : (S.beg j).ps = S.ps := by obtain ⟨e1, e2, e3, e4, e5, e6, e7, e8⟩ := beg_rest S j; unfold DS.ps; rw [e3, e4]
theorem str_ps (S : DS) (k : Int) : (S.str k).ps = S.ps := by obtain ⟨e1, e3, e4, e5, e6, e7, e8⟩ := str_rest S k; unfold DS.ps; rw [e3, e4]
def DS.hit (S : DS) (j : Nat) : DS := (S.beg j).str S.flt.2.1
theorem hit_rest (S : DS) (j : Nat) : (S.hit j).most = S.most ∧ (S.hit j).l2 = S.l2 ∧ (S.hit j).P = S.P ∧ (S.hit j).al = adel S.al (S.c7 + 1) ∧ (S.hit j).c7 = S.c7 + 1 ∧ (S.hit j).c8 = S.c8 ∧ (S.hit j).F = S.F := by
 obtain ⟨a1, a2, a3, a4, a5, a6, a7, a8⟩ := beg_rest S j
 obtain ⟨e1, e3, e4, e5, e6, e7, e8⟩ := str_rest (S.beg j) S.flt.2.1
 exact ⟨e1.trans a1, e3.trans a3, e4.trans a4, e5.trans a5, e6.trans a6, e7.trans a7, e8.trans a8⟩
theorem hit_dc (S : DS) (f g : Nat) (pd : Value) (am : Option Nat) (j : Nat) : strX (nextF (S.dc f g pd am) S.al).2.1 (inc (S.dc f g pd am) j) = (S.hit j).dc f g pd am := by
 rw [beg_dc, str_dc]
 rfl
theorem Dsk.hit {w w' : World} {b : Nat} {S : DS} {O : Nat → Prop} {f g : Nat} {pd : Value} {am : Option Nat} {VB VL : Nat → Value} (h : Dsk w b S O f g pd am VB VL) (j : Nat) (hd : Dk w' b (strX (nextF (S.dc f g pd am) S.al).2.1 (inc (S.dc f g pd am) j)) f g S.dir S.l2 S.P (adel S.al ((S.dc f g pd am).c7 + 1)))
    (st : Stp w w' b (S.dc f g pd am) (strX (nextF (S.dc f g pd am) S.al).2.1 (inc (S.dc f g pd am) j))) : Dsk w' b (S.hit j) O f g pd am VB VL ∧ Sgo w w' O O := by
 obtain ⟨e1, e3, e4, e5, e6, e7, e8⟩ := hit_rest S j
 refine h.turn e3 e4 e8 ((h.ok.beg j).str _) ?_ (by rw [← hit_dc]; exact st)
 rw [← hit_dc, e5]
 exact hd
theorem Dsk.more {w w' : World} {b : Nat} {S T : DS} {O : Nat → Prop} {f g : Nat} {pd pd' : Value} {am : Option Nat} {VB VL : Nat → Value} (h : Dsk w b S O f g pd am VB VL) (c : Ch) (hn : c.ptr = none) (e3 : T.l2 = S.l2) (e4 : T.P = S.P ++ [c]) (e8 : T.F = S.F) (hok : T.ok)
    (hd : Dk w' b (T.dc f g pd' am) f g (c.run S.dir) S.l2 (S.P ++ [c]) T.al) (st : Stp w w' b (S.dc f g pd am) (T.dc f g pd' am)) : ∃ O', Dsk w' b T O' f g pd' am VB VL ∧ Sgo w w' O O' := by
 have e9 : T.ps = S.ps := by unfold DS.ps; rw [e3, e4, List.filterMap_append]; simp [hn]
 have e10 : T.dir = c.run S.dir := by unfold DS.dir; rw [e3, e4, runs_snoc]
 refine ⟨fun k => O k ∨ (w.heap.size ≤ k ∧ k < w'.heap.size), ⟨by rw [e10, e3, e4]; exact hd, by rw [e9, e8]; exact h.fs.stp st, ?_, fun p hp k hk => .inl (h.of p (by rw [← e9]; exact hp) k hk), ?_, hok⟩, ⟨st.but.mono fun k _ c => h.ow k c, ?_⟩⟩
 ·intro k hk
  rcases st.own k hk with q | q
  ·exact .inl (h.ow k q)
  ·exact .inr ⟨q, hd.lt k hk⟩
 ·rintro k (q | q)
  ·exact Nat.lt_of_lt_of_le (h.lt k q) st.but.size
  ·exact q.2
 ·rintro k (q | q)
  ·exact .inl q
  ·exact .inr q.1
theorem Dsk.fresh {w : World} {b : Nat} {S : DS} {O : Nat → Prop} {f g : Nat} {pd : Value} {am : Option Nat} {VB VL : Nat → Value} (h : Dsk w b S O f g pd am VB VL) {p : Nat} (hp : w.heap.size ≤ p) : p ∉ S.ps := fun c => by
 have := h.fs.lt c p (.inl rfl)
 omega
theorem Dsk.e {w : World} {b : Nat} {S : DS} {O : Nat → Prop} {f g : Nat} {pd : Value} {am : Option Nat} {VB VL : Nat → Value} (h : Dsk w b S O f g pd am VB VL) : DskE w b S O := ⟨f, g, pd, am, VB, VL, h⟩
theorem ps_snoc (l2 : Dr) (P : List Ch) (s : ByteArray) (p : Nat) : l2.map (·.2) ++ (P ++ [Ch.cr s p]).filterMap Ch.ptr = (l2.map (·.2) ++ P.filterMap Ch.ptr) ++ [p] := by
 rw [List.filterMap_append, ← List.append_assoc]
 rfl
theorem fown_nil {p k : Nat} (h : FOwn p (.slice none 0 0) (.slice none 0 0) k) : k = p := by
 rcases h with q | q | q
 ·exact q
 ·simp [Value.ownBlock] at q
 ·simp [Value.ownBlock] at q
theorem Fs.new {w : World} {Ow : Nat → Prop} {ps : List Nat} {F : Nat → Fl} {VB VL : Nat → Value} {p : Nat} (h : Fs w Ow ps F VB VL) (hp : p ∉ ps) (hf : w.heap[p]? = some (.cells #[.slice none 0 0, .slice none 0 0, .int .i64 0] 124 (0, 0))) (ho : ¬ Ow p) (ha : ∀ q ∈ ps, ¬ FOwn q (VB q) (VL q) p) :
    Fs w Ow (ps ++ [p]) (upd F p ⟨[], [], 0⟩) (upd VB p (.slice none 0 0)) (upd VL p (.slice none 0 0)) := by
 have hne : ∀ q ∈ ps, q ≠ p := fun q hq e => hp (by rw [← e]; exact hq)
 refine ⟨fun q hq => ?_, fun q hq r hr hqr k hk c => ?_, fun q hq k hk c => ?_⟩
 ·rcases List.mem_append.1 hq with z | z
  ·rw [upd_ne _ _ (hne q z), upd_ne _ _ (hne q z), upd_ne _ _ (hne q z)]; exact h.at_ q z
  ·have e := List.mem_singleton.1 z; subst e; rw [upd_same, upd_same, upd_same]; exact FlAt.new hf
 ·rcases List.mem_append.1 hq with z | z
  ·rw [upd_ne _ _ (hne q z), upd_ne _ _ (hne q z)] at hk
   rcases List.mem_append.1 hr with y | y
   ·rw [upd_ne _ _ (hne r y), upd_ne _ _ (hne r y)] at c
    exact h.ap q z r y hqr k hk c
   ·have e := List.mem_singleton.1 y; subst e
    rw [upd_same, upd_same] at c
    have := fown_nil c
    subst this
    exact ha q z hk
  ·have e := List.mem_singleton.1 z; subst e
   rw [upd_same, upd_same] at hk
   have := fown_nil hk
   subst this
   rcases List.mem_append.1 hr with y | y
   ·rw [upd_ne _ _ (hne r y), upd_ne _ _ (hne r y)] at c
    exact ha r y c
   ·exact hqr (List.mem_singleton.1 y).symm
 ·rcases List.mem_append.1 hq with z | z
  ·rw [upd_ne _ _ (hne q z), upd_ne _ _ (hne q z)] at hk
   exact h.no q z k hk c
  ·have e := List.mem_singleton.1 z; subst e
   rw [upd_same, upd_same] at hk
   have := fown_nil hk
   subst this
   exact ho c
def Does (w : World) (b : Nat) (O : Nat → Prop) (R : DS × Int) (e : Ending) (w' : World) : Prop := e = .returned (.int .i64 R.2) ∧ ∃ O', DskE w' b R.1 O' ∧ Sgo w w' O O'
theorem create_dsk {w : World} {b : Nat} {S : DS} {O : Nat → Prop} (h : DskE w b S O) (s : ByteArray) (hs : s.size ≤ 140737488355328) (hc : S.c7 < 1000000000) :
    Calls Tryz.prog 14 #[.pointer (some ⟨b, 0, none⟩), .string s] w fun e w' => ∃ p, w.heap.size ≤ p ∧ p ∉ S.ps ∧ Does w b O (S.create s p) e w' := by
 obtain ⟨f, g, pd, am, VB, VL, h⟩ := h
 have hcn := h.ok.cnt
 refine (create_any w b (S.dc f g pd am) f g S.dir S.l2 S.P S.al s hs h.dk (by show S.c7 < _; omega) h.ok.flt4 (by omega)).mono ?_
 rintro e w' ⟨r, rfl, hr⟩
 have hf := h.fresh (Nat.le_refl w.heap.size)
 have hn : ∀ hd : Dk w' b (S.dc f g pd am) f g S.dir S.l2 S.P S.al, Stp w w' b (S.dc f g pd am) (S.dc f g pd am) → ∃ O', DskE w' b S O' ∧ Sgo w w' O O' := fun hd st => by
  have := h.turn (T := S) rfl rfl rfl h.ok hd st
  exact ⟨O, this.1.e, this.2⟩
 cases hr with
 | no _ hr h0 hd st =>
  refine ⟨w.heap.size, Nat.le_refl _, hf, ?_⟩
  rw [ref_dc] at hr
  have e : S.create s w.heap.size = (S, r) := by unfold DS.create; rw [hr, if_pos h0]
  rw [e]
  exact ⟨rfl, hn hd st⟩
 | there hr ht hd st =>
  refine ⟨w.heap.size, Nat.le_refl _, hf, ?_⟩
  rw [ref_dc] at hr
  have e : S.create s w.heap.size = (S, 7) := by unfold DS.create; rw [hr, if_neg (by simp), if_pos ht]
  rw [e]
  exact ⟨rfl, hn hd st⟩
 | many hr ht hm hd st =>
  refine ⟨w.heap.size, Nat.le_refl _, hf, ?_⟩
  rw [ref_dc] at hr
  have e : S.create s w.heap.size = (S, 9) := by unfold DS.create; rw [hr, if_neg (by simp), ht, if_neg (by simp), if_pos hm]
  rw [e]
  exact ⟨rfl, hn hd st⟩
 | struck _ hr ht hm he h0 hd st =>
  refine ⟨w.heap.size, Nat.le_refl _, hf, ?_⟩
  rw [ref_dc] at hr
  have he' : strF S.flt.2.1 = r := he
  have e : S.create s w.heap.size = (S.hit 0, r) := by unfold DS.create; rw [hr, if_neg (by simp), ht, if_neg (by simp), if_neg (by omega), he', if_pos h0]; rfl
  rw [e]
  have := h.hit 0 hd st
  exact ⟨rfl, O, this.1.e, this.2⟩
 | done hr ht hm he p pd' hp ho hf2 hd st =>
  have hf3 := h.fresh hp
  refine ⟨p, hp, hf3, ?_⟩
  rw [ref_dc] at hr
  have he' : strF S.flt.2.1 = 0 := he
  have e : S.create s p = ({ S.hit 0 with P := S.P ++ [.cr s p], F := upd S.F p ⟨[], [], 0⟩ }, 0) := by unfold DS.create; rw [hr, if_neg (by simp), ht, if_neg (by simp), if_neg (by omega), he', if_neg (by simp)]; rfl
  rw [e]
  obtain ⟨e1, e3, e4, e5, e6, e7, e8⟩ := hit_rest S 0
  obtain ⟨T, hT⟩ : ∃ T : DS, T = { S.hit 0 with P := S.P ++ [.cr s p], F := upd S.F p ⟨[], [], 0⟩ } := ⟨_, rfl⟩
  rw [← hT]
  rw [hit_dc] at ho hd st
  have hx : ({ (S.hit 0).dc f g pd am with pd := pd' } : Dc) = T.dc f g pd' am := by rw [hT]; rfl
  rw [hx] at ho hd st
  have t3 : T.l2 = S.l2 := by rw [hT]; exact e3
  have t4 : T.P = S.P ++ [.cr s p] := by rw [hT]
  have t5 : T.al = adel S.al (S.c7 + 1) := by rw [hT]; exact e5
  have t6 : T.c7 = S.c7 + 1 := by rw [hT]; exact e6
  have t7 : T.c8 = S.c8 := by rw [hT]; exact e7
  have t8 : T.F = upd S.F p ⟨[], [], 0⟩ := by rw [hT]
  have t1 : T.most = S.most := by rw [hT]; exact e1
  have t9 : T.ps = S.ps ++ [p] := by unfold DS.ps; rw [t3, t4, ps_snoc]
  have t10 : T.dir = dput S.dir s.data.toList p := by unfold DS.dir; rw [t3, t4, runs_snoc]; rfl
  refine ⟨rfl, fun k => O k ∨ (w.heap.size ≤ k ∧ k < w'.heap.size), ⟨f, g, pd', am, upd VB p (.slice none 0 0), upd VL p (.slice none 0 0), ⟨?_, ?_, ?_, ?_, ?_, ?_⟩⟩, ⟨st.but.mono fun k _ c => h.ow k c, ?_⟩⟩
  ·rw [t10, t3, t4, t5]; exact hd
  ·rw [t9, t8]
   refine (h.fs.stp st).new hf3 hf2 ho fun q hq c => ?_
   have := h.fs.lt hq p c
   omega
  ·intro k hk
   rcases st.own k hk with q | q
   ·exact .inl (h.ow k q)
   ·exact .inr ⟨q, hd.lt k hk⟩
  ·rw [t9]
   intro q hq k hk
   rcases List.mem_append.1 hq with z | z
   ·have e : q ≠ p := fun e => hf3 (by rw [← e]; exact z)
    rw [upd_ne _ _ e, upd_ne _ _ e] at hk
    exact .inl (h.of q z k hk)
   ·have e := List.mem_singleton.1 z; subst e
    rw [upd_same, upd_same] at hk
    have := fown_nil hk
    subst this
    exact .inr ⟨hp, heap_lt hf2⟩
  ·rintro k (q | q)
   ·exact Nat.lt_of_lt_of_le (h.lt k q) st.but.size
   ·exact q.2
  ·refine ⟨by rw [t1]; exact h.ok.most, ?_, ?_, ?_, ?_⟩
   ·rw [t9, t8]
    intro q hq
    rcases List.mem_append.1 hq with z | z
    ·rw [upd_ne _ _ (fun e => hf3 (by rw [← e]; exact z))]; exact h.ok.sz q z
    ·have e := List.mem_singleton.1 z; subst e; rw [upd_same]; exact Nat.zero_le _
   ·rw [t3, t4, t6, List.length_append, List.length_singleton]; omega
   ·rw [t5]; exact fun e he => h.ok.calm e (List.mem_filter.1 he).1
   ·rw [t7, t6]; have := h.ok.by8; omega
  ·rintro k (q | q)
   ·exact .inl q
   ·exact .inr q.1
def DS.remove (S : DS) (s : ByteArray) : DS × Int :=
 if (S.find s).2 ≠ 0 then (S, (S.find s).2)
 else if strR S.flt.2.1 ≠ 0 then (S.hit 5, strR S.flt.2.1)
 else ({ S.hit 5 with P := S.P ++ [.rm s] }, 0)
theorem hit_more {S : DS} (h : S.ok) (j : Nat) (c : Ch) (hn : c.ptr = none) : ({ S.hit j with P := S.P ++ [c] } : DS).ok := by
 obtain ⟨e1, e3, e4, e5, e6, e7, e8⟩ := hit_rest S j
 obtain ⟨T, hT⟩ : ∃ T : DS, T = { S.hit j with P := S.P ++ [c] } := ⟨_, rfl⟩
 rw [← hT]
 have t3 : T.l2 = S.l2 := by rw [hT]; exact e3
 have t4 : T.P = S.P ++ [c] := by rw [hT]
 have t9 : T.ps = S.ps := by unfold DS.ps; rw [t3, t4, List.filterMap_append]; simp [hn]
 refine ⟨by rw [hT]; show 0 ≤ (S.hit j).most ∧ _; rw [e1]; exact h.most, ?_, ?_, ?_, ?_⟩
 ·rw [t9, hT]; show ∀ p ∈ S.ps, ((S.hit j).F p).by_.length ≤ _; rw [e8]; exact h.sz
 ·rw [t3, t4, hT]; show _ ≤ (S.hit j).c7; rw [e6, List.length_append, List.length_singleton]; have := h.cnt; omega
 ·rw [hT]; show ∀ e ∈ (S.hit j).al, _; rw [e5]; exact fun e he => h.calm e (List.mem_filter.1 he).1
 ·rw [hT]; show 0 ≤ (S.hit j).c8 ∧ (S.hit j).c8 ≤ 16777216 * (S.hit j).c7; rw [e7, e6]; have := h.by8; omega
theorem find2 (S : DS) (f g : Nat) (pd : Value) (am : Option Nat) (s : ByteArray) : (findF (some (S.dc f g pd am)) S.dir s).2 = (S.find s).2 := by rw [find_dc]
theorem dir_len {S : DS} (h : S.ok) (hc : S.c7 < 1000000000) : S.dir.length < 1000000000 ∧ S.P.length < 1000000000 ∧ S.l2.length < 1000000000 := by
 have := h.cnt
 have := runs_len S.l2 S.P
 unfold DS.dir
 omega
theorem remove_dsk {w : World} {b : Nat} {S : DS} {O : Nat → Prop} (h : DskE w b S O) (s : ByteArray) (hs : s.size ≤ 140737488355328) (hc : S.c7 < 1000000000) :
    Calls Tryz.prog 53 #[.pointer (some ⟨b, 0, none⟩), .string s] w (Does w b O (S.remove s)) := by
 obtain ⟨f, g, pd, am, VB, VL, h⟩ := h
 obtain ⟨d1, d2, d3⟩ := dir_len h.ok hc
 refine (remove_any w b (S.dc f g pd am) f g S.dir S.l2 S.P S.al s hs h.dk (by show S.c7 < _; omega) h.ok.flt4 d2 d1).mono ?_
 rintro e w' ⟨r, rfl, hr⟩
 cases hr with
 | no _ hr h0 hd st =>
  rw [find2] at hr
  have e : S.remove s = (S, r) := by unfold DS.remove; rw [hr, if_pos h0]
  rw [e]
  have := h.turn (T := S) rfl rfl rfl h.ok hd st
  exact ⟨rfl, O, this.1.e, this.2⟩
 | struck _ hr he h0 hd st =>
  rw [find2] at hr
  have he' : strR S.flt.2.1 = r := he
  have e : S.remove s = (S.hit 5, r) := by unfold DS.remove; rw [hr, if_neg (by simp), he', if_pos h0]
  rw [e]
  have := h.hit 5 hd st
  exact ⟨rfl, O, this.1.e, this.2⟩
 | done hr he pd' hd st =>
  rw [find2] at hr
  have he' : strR S.flt.2.1 = 0 := he
  have e : S.remove s = ({ S.hit 5 with P := S.P ++ [.rm s] }, 0) := by unfold DS.remove; rw [hr, if_neg (by simp), he', if_neg (by simp)]
  rw [e]
  obtain ⟨e1, e3, e4, e5, e6, e7, e8⟩ := hit_rest S 5
  rw [hit_dc] at hd st
  obtain ⟨O', k1, k2⟩ := h.more (T := { S.hit 5 with P := S.P ++ [.rm s] }) (.rm s) rfl e3 rfl e8 (hit_more h.ok 5 _ rfl) (pd' := pd') (by show Dk w' b _ f g _ _ _ (S.hit 5).al; rw [e5]; exact hd) st
  exact ⟨rfl, O', k1.e, k2⟩
def DS.rename (S : DS) (s t : ByteArray) : DS × Int :=
 if S.ref [s, t] ≠ 0 then (S, S.ref [s, t])
 else if (S.find s).2 ≠ 0 then (S, (S.find s).2)
 else if strR S.flt.2.1 ≠ 0 then (S.hit 4, strR S.flt.2.1)
 else if s = t then (S.hit 4, 0)
 else ({ S.hit 4 with P := S.P ++ [.rn s t] }, 0)
def DS.syncDir (S : DS) : DS × Int :=
 if S.ref [] ≠ 0 then (S, S.ref [])
 else if strR S.flt.2.1 ≠ 0 then (S.hit 6, strR S.flt.2.1)
 else ({ S.hit 6 with l2 := S.dir, P := [] }, 0)
theorem syncDir_dsk {w : World} {b : Nat} {S : DS} {O : Nat → Prop} (h : DskE w b S O) (hc : S.c7 < 1000000000) :
    Calls Tryz.prog 15 #[.pointer (some ⟨b, 0, none⟩)] w (Does w b O S.syncDir) := by
 obtain ⟨f, g, pd, am, VB, VL, h⟩ := h
 refine (syncDir_any w b (S.dc f g pd am) f g S.dir S.l2 S.P S.al h.dk (by show S.c7 < _; omega) h.ok.flt4).mono ?_
 have hq : (nextF (S.dc f g pd am) S.al).2.1 = S.flt.2.1 := rfl
 rintro e w' (⟨h0, rfl, hd, st⟩ | ⟨h0, rfl, ⟨s0, hd, st⟩ | ⟨s0, g', hd, st⟩⟩)
 ·rw [ref_dc] at h0 ⊢
  have e : S.syncDir = (S, S.ref []) := by unfold DS.syncDir; rw [if_pos h0]
  rw [e]
  have := h.turn (T := S) rfl rfl rfl h.ok hd st
  exact ⟨rfl, O, this.1.e, this.2⟩
 ·rw [ref_dc] at h0
  have s0' : strR S.flt.2.1 ≠ 0 := s0
  have e : S.syncDir = (S.hit 6, strR S.flt.2.1) := by unfold DS.syncDir; rw [h0, if_neg (by simp), if_pos s0']
  rw [e]
  have := h.hit 6 hd st
  exact ⟨rfl, O, this.1.e, this.2⟩
 ·rw [ref_dc] at h0
  have s0' : strR S.flt.2.1 = 0 := s0
  have e : S.syncDir = ({ S.hit 6 with l2 := S.dir, P := [] }, 0) := by unfold DS.syncDir; rw [h0, if_neg (by simp), if_neg (by simpa using s0')]
  rw [e, hq, show strR S.flt.2.1 = 0 from s0]
  obtain ⟨e1, e3, e4, e5, e6, e7, e8⟩ := hit_rest S 6
  rw [hit_dc] at hd st
  obtain ⟨T, hT⟩ : ∃ T : DS, T = { S.hit 6 with l2 := S.dir, P := [] } := ⟨_, rfl⟩
  rw [← hT]
  have hx : ({ (S.hit 6).dc f g pd am with lm := some g', pd := .slice none 0 0 } : Dc) = T.dc f g' (.slice none 0 0) am := by rw [hT]; rfl
  rw [hx] at hd st
  have t3 : T.l2 = S.dir := by rw [hT]
  have t4 : T.P = [] := by rw [hT]
  have t5 : T.al = adel S.al (S.c7 + 1) := by rw [hT]; exact e5
  have t6 : T.c7 = S.c7 + 1 := by rw [hT]; exact e6
  have t7 : T.c8 = S.c8 := by rw [hT]; exact e7
  have t8 : T.F = S.F := by rw [hT]; exact e8
  have t1 : T.most = S.most := by rw [hT]; exact e1
  have t9 : ∀ p ∈ T.ps, p ∈ S.ps := by
   intro p hp
   unfold DS.ps at hp
   rw [t3, t4] at hp
   simp only [List.filterMap_nil, List.append_nil] at hp
   exact runs_mem hp
  have t10 : T.dir = S.dir := by unfold DS.dir; rw [t3, t4]; rfl
  refine ⟨rfl, fun k => O k ∨ (w.heap.size ≤ k ∧ k < w'.heap.size), ⟨f, g', .slice none 0 0, am, VB, VL, ⟨?_, ?_, ?_, ?_, ?_, ?_⟩⟩, ⟨st.but.mono fun k _ c => h.ow k c, ?_⟩⟩
  ·rw [t10, t3, t4, t5]; exact hd
  ·rw [t8]; exact (h.fs.stp st).sub t9
  ·intro k hk
   rcases st.own k hk with q | q
   ·exact .inl (h.ow k q)
   ·exact .inr ⟨q, hd.lt k hk⟩
  ·exact fun p hp k hk => .inl (h.of p (t9 p hp) k hk)
  ·rintro k (q | q)
   ·exact Nat.lt_of_lt_of_le (h.lt k q) st.but.size
   ·exact q.2
  ·refine ⟨by rw [t1]; exact h.ok.most, fun p hp => by rw [t8]; exact h.ok.sz p (t9 p hp), ?_, ?_, ?_⟩
   ·rw [t3, t4, t6]; have := h.ok.cnt; have := runs_len S.l2 S.P; unfold DS.dir; simp only [List.length_nil]; omega
   ·rw [t5]; exact fun e he => h.ok.calm e (List.mem_filter.1 he).1
   ·rw [t7, t6]; have := h.ok.by8; omega
  ·rintro k (q | q)
   ·exact .inl q
   ·exact .inr q.1
theorem rename_dsk {w : World} {b : Nat} {S : DS} {O : Nat → Prop} (h : DskE w b S O) (s t : ByteArray) (hs : s.size ≤ 140737488355328) (ht : t.size ≤ 140737488355328) (hc : S.c7 < 1000000000) :
    Calls Tryz.prog 51 #[.pointer (some ⟨b, 0, none⟩), .string s, .string t] w (Does w b O (S.rename s t)) := by
 obtain ⟨f, g, pd, am, VB, VL, h⟩ := h
 obtain ⟨d1, d2, d3⟩ := dir_len h.ok hc
 refine (rename_any w b (S.dc f g pd am) f g S.dir S.l2 S.P S.al s t hs ht h.dk (by show S.c7 < _; omega) h.ok.flt4 d2 d1).mono ?_
 rintro e w' ⟨r, rfl, hr⟩
 cases hr with
 | no _ hr h0 hd st =>
  rw [ref_dc] at hr
  have e : S.rename s t = (S, r) := by unfold DS.rename; rw [hr, if_pos h0]
  rw [e]
  have := h.turn (T := S) rfl rfl rfl h.ok hd st
  exact ⟨rfl, O, this.1.e, this.2⟩
 | none _ hr hf h0 hd st =>
  rw [ref_dc] at hr
  rw [find2] at hf
  have e : S.rename s t = (S, r) := by unfold DS.rename; rw [hr, if_neg (by simp), hf, if_pos h0]
  rw [e]
  have := h.turn (T := S) rfl rfl rfl h.ok hd st
  exact ⟨rfl, O, this.1.e, this.2⟩
 | struck _ hr hf he h0 hd st =>
  rw [ref_dc] at hr
  rw [find2] at hf
  have he' : strR S.flt.2.1 = r := he
  have e : S.rename s t = (S.hit 4, r) := by unfold DS.rename; rw [hr, if_neg (by simp), hf, if_neg (by simp), he', if_pos h0]
  rw [e]
  have := h.hit 4 hd st
  exact ⟨rfl, O, this.1.e, this.2⟩
 | same hr hf he hst hd st =>
  rw [ref_dc] at hr
  rw [find2] at hf
  have he' : strR S.flt.2.1 = 0 := he
  have e : S.rename s t = (S.hit 4, 0) := by unfold DS.rename; rw [hr, if_neg (by simp), hf, if_neg (by simp), he', if_neg (by simp), if_pos hst]
  rw [e]
  have := h.hit 4 hd st
  exact ⟨rfl, O, this.1.e, this.2⟩
 | done hr hf he hst pd' hd st =>
  rw [ref_dc] at hr
  rw [find2] at hf
  have he' : strR S.flt.2.1 = 0 := he
  have e : S.rename s t = ({ S.hit 4 with P := S.P ++ [.rn s t] }, 0) := by unfold DS.rename; rw [hr, if_neg (by simp), hf, if_neg (by simp), he', if_neg (by simp), if_neg hst]
  rw [e]
  obtain ⟨e1, e3, e4, e5, e6, e7, e8⟩ := hit_rest S 4
  rw [hit_dc] at hd st
  obtain ⟨O', k1, k2⟩ := h.more (T := { S.hit 4 with P := S.P ++ [.rn s t] }) (.rn s t) rfl e3 rfl e8 (hit_more h.ok 4 _ rfl) (pd' := pd') (by show Dk w' b _ f g _ _ _ (S.hit 4).al; rw [e5]; exact hd) st
  exact ⟨rfl, O', k1.e, k2⟩
def DS.size (S : DS) (s : ByteArray) : Int × Int := match S.find s with | (some p, _) => (((S.F p).by_.length : Int), 0) | (none, e) => (0, e)
theorem size_dsk {w : World} {b : Nat} {S : DS} {O : Nat → Prop} (h : DskE w b S O) (s : ByteArray) (hs : s.size ≤ maxLen) :
    Calls Tryz.prog 19 #[.pointer (some ⟨b, 0, none⟩), .string s] w fun e w' => e = .returned (.tuple #[.int .i64 (S.size s).1, .int .i64 (S.size s).2]) ∧ Below w.heap.size w w' := by
 obtain ⟨f, g, pd, am, VB, VL, h⟩ := h
 by_cases h0 : (S.find s).2 = 0
 ·obtain ⟨p, e, hg, hr, hp⟩ := find_ok h0
  have := size_ok h.dk s hs (by rw [ref_dc]; exact hr) hg (h.fs.at_ p hp)
  unfold DS.size
  rw [e]
  exact this
 ·have := size_no h.dk s hs (by rw [find2]; exact h0)
  rw [find2] at this
  have e : S.size s = (0, (S.find s).2) := by
   have q := find_no h0
   unfold DS.size
   cases hq : S.find s with
   | mk a c => rw [hq] at q; dsimp only at q; subst q; rfl
  rw [e]
  exact this
theorem read_out {w : World} {b p : Nat} {x : Dc} {f g : Nat} {l l2 : Dr} {P : List Ch} {al : Ar} {t : Fl} {vb vl : Value} (h : Dk w b x f g l l2 P al) (s : ByteArray) (hs : s.size ≤ maxLen) (o n : Int) (hr : refF (some x) [s] = 0) (hg : get l s.data.toList = some p) (hf : FlAt w p t vb vl) (hon : ¬ (0 ≤ o ∧ o ≤ (t.by_.length : Int) ∧ 0 ≤ n ∧ n ≤ (t.by_.length : Int) - o)) :
    Calls Tryz.prog 20 #[.pointer (some ⟨b, 0, none⟩), .string s, .int .i64 o, .int .i64 n] w fun e w' => e = .returned (.tuple #[.slice none 0 0, .int .i64 8]) ∧ Below w.heap.size w w' := by
 have hF := h.find s hs
 rw [findF_ok hr hg] at hF
 have c0 := (cells3 hf.box).1
 obtain ⟨ao, ca, rfl, _, _⟩ := hf.b.form
 have hsz := hf.sz
 clear h hf hr hg
 generalize t.by_.length = N at *
 by_cases i1 : o < 0
 ·clear hon
  go_enter Tryz.func20, Tryz.ntmps20
  go_wp2_with (go_at_call 75; refine hF.mono ?_; rintro e w1 ⟨rfl, B1⟩; have d0 := (B1.cell (p := ⟨p, 0, none⟩) (lt_of_cell c0)).trans c0; replace B1 := hide B1)
  go_ret2
  exact ⟨rfl, B1.out⟩
 by_cases i2 : o > (N : Int)
 ·clear hon
  go_enter Tryz.func20, Tryz.ntmps20
  go_wp2_with (go_at_call 75; refine hF.mono ?_; rintro e w1 ⟨rfl, B1⟩; have d0 := (B1.cell (p := ⟨p, 0, none⟩) (lt_of_cell c0)).trans c0; replace B1 := hide B1)
  go_ret2
  exact ⟨rfl, B1.out⟩
 by_cases i3 : n < 0
 ·clear hon
  go_enter Tryz.func20, Tryz.ntmps20
  go_wp2_with (go_at_call 75; refine hF.mono ?_; rintro e w1 ⟨rfl, B1⟩; have d0 := (B1.cell (p := ⟨p, 0, none⟩) (lt_of_cell c0)).trans c0; replace B1 := hide B1)
  go_ret2
  exact ⟨rfl, B1.out⟩
 have i4 : n > (N : Int) - o := by omega
 have e1 : IntKind.i64.wrap ((N : Int) - o) = (N : Int) - o := by rw [IntKind.wrap_i64]; omega
 clear hon
 go_enter Tryz.func20, Tryz.ntmps20
 go_wp2_with (go_at_call 75; refine hF.mono ?_; rintro e w1 ⟨rfl, B1⟩; have d0 := (B1.cell (p := ⟨p, 0, none⟩) (lt_of_cell c0)).trans c0; replace B1 := hide B1)
 go_ret2
 exact ⟨rfl, B1.out⟩
def DS.read (S : DS) (s : ByteArray) (o n : Int) : List UInt8 × Int := match S.find s with
 | (some p, _) => if 0 ≤ o ∧ o ≤ ((S.F p).by_.length : Int) ∧ 0 ≤ n ∧ n ≤ ((S.F p).by_.length : Int) - o then (((S.F p).by_.drop o.toNat).take n.toNat, 0) else ([], 8)
 | (none, e) => ([], e)
theorem read_dsk {w : World} {b : Nat} {S : DS} {O : Nat → Prop} (h : DskE w b S O) (s : ByteArray) (hs : s.size ≤ maxLen) (o n : Int) :
    Calls Tryz.prog 20 #[.pointer (some ⟨b, 0, none⟩), .string s, .int .i64 o, .int .i64 n] w fun e w' => ∃ v, e = .returned (.tuple #[v, .int .i64 (S.read s o n).2]) ∧ Ob w.heap.size w' v (S.read s o n).1 ∧ Below w.heap.size w w' := by
 obtain ⟨f, g, pd, am, VB, VL, h⟩ := h
 by_cases h0 : (S.find s).2 = 0
 ·obtain ⟨p, e, hg, hr, hp⟩ := find_ok h0
  have e2 : S.read s o n = if 0 ≤ o ∧ o ≤ ((S.F p).by_.length : Int) ∧ 0 ≤ n ∧ n ≤ ((S.F p).by_.length : Int) - o then (((S.F p).by_.drop o.toNat).take n.toNat, 0) else ([], 8) := by unfold DS.read; rw [e]
  rw [e2]
  by_cases c : 0 ≤ o ∧ o ≤ ((S.F p).by_.length : Int) ∧ 0 ≤ n ∧ n ≤ ((S.F p).by_.length : Int) - o
  ·rw [if_pos c]
   have eo : ((o.toNat : Nat) : Int) = o := by omega
   have en : ((n.toNat : Nat) : Int) = n := by omega
   have := read_ok h.dk s hs o.toNat n.toNat (by rw [ref_dc]; exact hr) hg (h.fs.at_ p hp) (by omega)
   rw [eo, en] at this
   exact this
  ·rw [if_neg c]
   refine (read_out h.dk s hs o n (by rw [ref_dc]; exact hr) hg (h.fs.at_ p hp) c).mono ?_
   rintro e w' ⟨rfl, hB⟩
   exact ⟨_, rfl, Ob.nil _ _, hB⟩
 ·have e : S.read s o n = ([], (S.find s).2) := by
    have q := find_no h0
    unfold DS.read
    cases hq : S.find s with
    | mk a c => rw [hq] at q; dsimp only at q; subst q; rfl
  rw [e]
  refine (read_no h.dk s hs o n (by rw [find2]; exact h0)).mono ?_
  rintro e w' ⟨rfl, hB⟩
  rw [find2]
  exact ⟨_, rfl, Ob.nil _ _, hB⟩
def sumL (F : Nat → Fl) (l : Dr) : Nat := (l.map fun e => (F e.2).by_.length).sum
def leftS (F : Nat → Fl) (l : Dr) (left : Lit → Bool) : Nat := (l.map fun e => if left (.string e.1) then (F e.2).by_.length else 0).sum
theorem Mp.keys {w : World} {b : Nat} {l : Dr} (h : Mp w b l) : l.Pairwise (fun p q => p.1 ≠ q.1) := by
 obtain ⟨es, e, hp, _⟩ := World.ownsMap.entries h keyS
 have e2 : l.map dent = es := by
  have : DataW.map (l.map dent) = DataW.map es := e
  simpa using this
 rw [← e2, List.pairwise_map] at hp
 refine hp.imp fun h1 h2 => h1 ?_
 show Lit.string _ = Lit.string _
 rw [h2]
theorem leftS_start (F : Nat → Fl) (l : Dr) : leftS F l (Maps.has (dirD l)) = sumL F l := by
 unfold leftS sumL
 congr 1
 apply List.map_congr_left
 intro e he
 rw [dirD_has]
 have : (get l e.1).isSome = true := by
  unfold get
  rw [Option.isSome_map, List.find?_isSome]
  exact ⟨e, he, by simp⟩
 rw [this]
 rfl
theorem leftS_end (F : Nat → Fl) (l : Dr) {left : Lit → Bool} (h : ∀ kl, left kl = false) : leftS F l left = 0 := by
 unfold leftS
 induction l with
 | nil => rfl
 | cons y r ih =>
  rw [List.map_cons, List.sum_cons, ih, h]
  rfl
theorem sameStr (a k : List UInt8) : (Lit.string a).sameKey (.string k) = (a == k) := rfl
theorem leftS_step (F : Nat → Fl) {l : Dr} {left : Lit → Bool} {k : List UInt8} {p : Nat} (hk : l.Pairwise (fun p q => p.1 ≠ q.1)) (hg : get l k = some p) (hl : left (.string k) = true) :
    leftS F l left = leftS F l (fun z => left z && !z.sameKey (.string k)) + (F p).by_.length := by
 induction l with
 | nil => simp [get] at hg
 | cons y r ih =>
  rw [List.pairwise_cons] at hk
  obtain ⟨h1, h2⟩ := hk
  have u : ∀ q : Lit → Bool, leftS F (y :: r) q = (if q (.string y.1) then (F y.2).by_.length else 0) + leftS F r q := fun q => by simp [leftS]
  rw [u, u]
  by_cases c : y.1 = k
  ·have e : (y.1 == k) = true := by simpa using c
   have hp : y.2 = p := by simpa [get, List.find?_cons, e] using hg
   have hr : leftS F r (fun z => left z && !z.sameKey (.string k)) = leftS F r left := by
    unfold leftS
    congr 1
    apply List.map_congr_left
    intro e he
    have : (e.1 == k) = false := by have := h1 e he; simp; intro q; exact this (by rw [c, q])
    simp only [sameStr, this, Bool.not_false, Bool.and_true]
   rw [hr]
   have z1 : (left (.string y.1) && !(Lit.string y.1).sameKey (.string k)) = false := by rw [sameStr, e]; simp
   have z2 : left (.string y.1) = true := by rw [c]; exact hl
   rw [z1, z2, hp]
   simp
   omega
  ·have e : (y.1 == k) = false := by simpa using c
   have hg2 : get r k = some p := by simpa [get, List.find?_cons, e] using hg
   rw [ih h2 hg2]
   simp only [sameStr, e, Bool.not_false, Bool.and_true]
   omega
theorem sumL_le (F : Nat → Fl) (l : Dr) (h : ∀ e ∈ l, (F e.2).by_.length ≤ 16777216) : sumL F l ≤ l.length * 16777216 := by
 induction l with
 | nil => simp [sumL]
 | cons y r ih =>
  have h1 := h y (by simp)
  have h2 := ih (fun e he => h e (by simp [he]))
  simp only [sumL, List.map_cons, List.sum_cons, List.length_cons] at *
  omega
theorem leftS_le (F : Nat → Fl) (l : Dr) (left : Lit → Bool) : leftS F l left ≤ sumL F l := by
 induction l with
 | nil => simp [sumL, leftS]
 | cons y r ih =>
  simp only [sumL, leftS, List.map_cons, List.sum_cons] at *
  split <;> omega
theorem sumL_one (F : Nat → Fl) {l : Dr} {k : List UInt8} {p : Nat} (h : get l k = some p) : (F p).by_.length ≤ sumL F l := by
 have := get_mem h
 clear h
 induction l with
 | nil => simp at this
 | cons y r ih =>
  simp only [sumL, List.map_cons, List.sum_cons] at *
  rcases List.mem_cons.1 this with q | q
  ·rw [← q]; simp
  ·have := ih q
   omega
theorem keyOf_str_inv {key : Value} {kl : Lit} (h : keyOf Tryz.prog TS key = some kl) : ∃ s : ByteArray, key = .string s := by
 have e : Tryz.prog.underlying TS = some .string := Tryz.underlying9
 cases key <;> simp [keyOf, e, mapKey] at h
 exact ⟨_, rfl⟩
theorem keyOf_str_lit {s : ByteArray} {kl : Lit} (h : keyOf Tryz.prog TS (.string s) = some kl) : kl = .string s.data.toList ∧ s.size ≤ maxLen := by
 have e : Tryz.prog.underlying TS = some .string := Tryz.underlying9
 simp [keyOf, e, mapKey] at h
 exact ⟨h.2.symm, h.1⟩
theorem ptrR_shape {v : Value} {y : DataW Unit × List MemPlace} (h : ptrR v = some y) : ∃ c : Option Nat, v = .pointer (c.map fun b => ⟨b, 0, none⟩) := by
 unfold ptrR at h
 split at h
 ·exact ⟨some _, rfl⟩
 ·exact ⟨none, rfl⟩
 ·simp at h
theorem round_get {l : Dr} {s : ByteArray} {c : Option Nat} {y : DataW Unit × List MemPlace} (hat : ∀ zd, (dirD l).atKey (.string s.data.toList) zd = y.1) (hy : ptrR (.pointer (c.map fun b => ⟨b, 0, none⟩)) = some y) (hh : (get l s.data.toList).isSome = true) : ∃ p, c = some p ∧ get l s.data.toList = some p := by
 obtain ⟨p, hp⟩ := Option.isSome_iff_exists.1 hh
 have := hat .nil
 rw [dirD_at_some hp] at this
 cases c with
 | none => rw [Option.map_none, ptrR_none] at hy; cases hy; cases this
 | some q =>
  rw [Option.map_some, ptrR_some] at hy
  cases hy
  simp at this
  have e : p = q := by omega
  subst e
  exact ⟨_, rfl, hp⟩
end Go.Proofs.YtjehpijjneghpaaGreat.Dk
namespace Go.Proofs.YtjehpijjneghpaaGreat.Ix
open Go
variable {P : Program} {ops : Array Oper} {Q : Exit → Act → World → Prop} {md : Region.Mode} {S : World → Prop} {d : Nat}
def pathB (md : Region.Mode) (ops : Array Oper) : Nat → List Nat → Bool
 | _, [] => true
 | p, m :: r => (match ops[m]? with | some o => o.after.any fun e => Region.binds md e && e.on == p | none => false) && pathB md ops m r
theorem not_ready {listed : Array Bool} : ∀ (ms : List Nat) (p : Nat), pathB md ops p ms = true → listed.getD p false = false → (∀ m ∈ ms, listed.getD m true = false) → ∀ m ∈ ms, m ∉ Region.ready md ops listed := by
 intro ms
 induction ms with
 | nil => intro p _ _ _ m hm; cases hm
 | cons a r ih =>
  intro p hp hl hu m hm
  rw [pathB, Bool.and_eq_true] at hp
  obtain ⟨h1, h2⟩ := hp
  have ha : a ∉ Region.ready md ops listed := fun hr => by
   obtain ⟨_, o, ho, hall⟩ := mem_ready.1 hr
   rw [ho] at h1
   simp only [Array.any_eq_true] at h1
   obtain ⟨i, hi, he⟩ := h1
   rw [Bool.and_eq_true] at he
   have := hall _ (Array.getElem_mem hi) he.1
   rw [show (o.after[i]).on = p by simpa using he.2, hl] at this
   cases this
  rcases List.mem_cons.1 hm with rfl | hm
  ·exact ha
  ·have hla : listed.getD a false = false := by
     have := hu a (by simp)
     by_cases hs : a < listed.size
     ·simp [Array.getD, hs] at this ⊢; exact this
     ·simp [Array.getD, hs]
   exact ih a h2 hla (fun m hm => hu m (by simp [hm])) m hm
def wpAnyT (P : Program) (md : Region.Mode) (ops : Array Oper) (Q : Exit → Act → World → Prop) (S : World → Prop) (d : Nat) : Nat → Array Bool → Act → World → Prop
 | 0, listed, a, w => Region.ready md ops listed = [] ∧ Q .normal a w
 | fuel + 1, listed, a, w =>
  (Region.ready md ops listed = [] → Q .normal a w) ∧
  ∀ i ∈ Region.ready md ops listed, wpOp P ops Q i (fun a' w' => ((listed.setIfInBounds i true).getD d false = false → S w') ∧ wpAnyT P md ops Q S d fuel (listed.setIfInBounds i true) a' w') a w
theorem wpAny_of_T : ∀ (fuel : Nat) (listed : Array Bool) (a : Act) (w : World), wpAnyT P md ops Q S d fuel listed a w → wpAny P md ops Q fuel listed a w
 | 0, _, _, _, h => h
 | fuel + 1, _, _, _, h => ⟨h.1, fun i hi => wpOp_mono (fun a' w' h' => wpAny_of_T fuel _ a' w' h'.2) (h.2 i hi)⟩
theorem getD_false {listed : Array Bool} {m : Nat} (h : listed.getD m true = false) : listed.getD m false = false := by
 by_cases hs : m < listed.size
 ·simp [Array.getD, hs] at h ⊢; exact h
 ·simp [Array.getD, hs]
theorem vac {b : Bool} {p : Prop} (hb : b = true) : b = false → p := fun h => by rw [hb] at h; cases h
theorem getD_unlisted {listed : Array Bool} {j m : Nat} (h : listed.getD m true = false) (hne : j ≠ m) : (listed.setIfInBounds j true).getD m true = false := by
 rw [getD_set_ne true hne]; exact h
theorem wpAnyT_first {i : Nat} {oi : Oper} {v : Value} {ms : List Nat} (hi : ops[i]? = some oi) (hsel : ∀ (j : Nat) (o : Oper) cs b, ops[j]? = some o → o.op ≠ .select cs b)
    (hQ : ∀ c a w, Q (.panic c) (a.put oi.dst v) w → Q (.panic c) a w) (hpath : pathB md ops i ms = true) (hdm : d ∈ ms) :
    ∀ (fuel : Nat) (listed : Array Bool) (a : Act) (w : World),
     (∀ j oj, ops[j]? = some oj → j ≠ i → listed.getD j true = false → (∀ e ∈ oj.after, Region.binds md e = true → e.on ≠ i) → oi.apart ops oj = true) →
     i ∈ Region.ready md ops listed → (∀ m ∈ ms, listed.getD m true = false) → YieldsIf P ops S oi v a → S w →
     wpAnyT P md ops Q S d fuel (listed.setIfInBounds i true) (a.put oi.dst v) w → wpAnyT P md ops Q S d (fuel + 1) listed a w := by
 intro fuel
 induction fuel with
 | zero =>
  intro listed a w _ hr _ hy hS H
  refine ⟨fun h => (by rw [h] at hr; cases hr), fun j hj => ?_⟩
  by_cases hji : j = i
  ·subst hji; exact hy.wpOp hi hS ⟨fun _ => hS, H⟩
  ·have := ready_mono hj hji
   rw [H.1] at this
   cases this
 | succ fuel ih =>
  intro listed a w hfree hr hms hy hS H
  refine ⟨fun h => (by rw [h] at hr; cases hr), fun j hj => ?_⟩
  by_cases hji : j = i
  ·subst hji; exact hy.wpOp hi hS ⟨fun _ => hS, H⟩
  ·have hil : listed.getD i false = false := by
     have := (mem_ready.1 hr).1
     by_cases hs : i < listed.size
     ·simp [Array.getD, hs] at this ⊢; exact this
     ·simp [Array.getD, hs]
   have hnm : j ∉ ms := fun h => not_ready ms i hpath hil hms j h hj
   have hjd : j ≠ d := fun e => hnm (by rw [e]; exact hdm)
   have hid : i ≠ d := fun e => not_ready ms i hpath hil hms d hdm (by rw [← e]; exact hr)
   have hdj : ((listed.setIfInBounds i true).setIfInBounds j true).getD d false = false := getD_false (getD_unlisted (getD_unlisted (hms d hdm) hid) hjd)
   have h1 := H.2 j (ready_mono hj hji)
   obtain ⟨hjun, oj, hoj, hall⟩ := mem_ready.1 hj
   have hnot : ∀ e ∈ oj.after, Region.binds md e = true → e.on ≠ i := fun e he hb heq => by
    have h1 := hall e he hb
    rw [heq, hil] at h1
    cases h1
   have h2 := wpOp_putIf hoj (hfree j oj hoj hji hjun hnot) (fun cs b => hsel i oi cs b hi) (fun cs b => hsel j oj cs b hoj) hQ hy h1
   have hfree' : ∀ k ok, ops[k]? = some ok → k ≠ i → (listed.setIfInBounds j true).getD k true = false →
       (∀ e ∈ ok.after, Region.binds md e = true → e.on ≠ i) → oi.apart ops ok = true := fun k ok hk hki hun hno => by
    refine hfree k ok hk hki ?_ hno
    by_cases hjk : j = k
    ·subst hjk; exact hjun
    ·rw [getD_set_ne true hjk] at hun; exact hun
   refine wpOp_mono (fun a' w' h3 => ⟨fun _ => h3.2.1 hdj, ih (listed.setIfInBounds j true) a' w' hfree' (ready_mono hr (Ne.symm hji)) (fun m hm => getD_unlisted (hms m hm) (fun e => hnm (by rw [e]; exact hm))) h3.1 (h3.2.1 hdj) ?_⟩) h2
   rw [Array.setIfInBounds_comm _ _ hji]
   exact h3.2.2
theorem wpAnyT_take {i : Nat} {oi : Oper} {v : Value} (ms : List Nat) {fuel : Nat} {listed : Array Bool} {a : Act} {w : World} (hi : ops[i]? = some oi)
    (hs : Region.noSelect ops = true) (hf : Region.free md ops listed i = true) (hr : (Region.ready md ops listed).contains i = true)
    (hp : (pathB md ops i ms && ms.contains d && ms.all fun m => listed.getD m true == false) = true)
    (hQ : ∀ c a w, Q (.panic c) (a.put oi.dst v) w → Q (.panic c) a w) (hy : YieldsIf P ops S oi v a) (hS : S w)
    (h : wpAnyT P md ops Q S d fuel (listed.setIfInBounds i true) (a.put oi.dst v) w) : wpAnyT P md ops Q S d (fuel + 1) listed a w := by
 simp only [Bool.and_eq_true, List.all_eq_true] at hp
 exact wpAnyT_first hi (Region.noSelect_spec hs) hQ hp.1.1 (by simpa using hp.1.2) fuel listed a w (Region.free_spec hi hf) (by simpa using hr) (fun m hm => by simpa using hp.2 m hm) hy hS h
theorem wpAnyT_one {i : Nat} {o : Oper} {fuel : Nat} {listed : Array Bool} {a : Act} {w : World} (hr : Region.ready md ops listed = [i]) (ho : ops[i]? = some o)
    (h : ∀ K' : Act → World → Prop, Shut (∀ a w, ((listed.setIfInBounds i true).getD d false = false → S w) → wpAnyT P md ops Q S d fuel (listed.setIfInBounds i true) a w → K' a w) → if Region.wanted o (yielded ops a.tmps) = true then Oper.wp P o a w K' Q else K' (a.put o.dst undef) w) :
    wpAnyT P md ops Q S d (fuel + 1) listed a w := by
 refine ⟨fun h0 => (by rw [h0] at hr; cases hr), fun j hj => ?_⟩
 rw [hr, List.mem_singleton] at hj
 subst hj
 exact wpOp_step ho (fun K' hK => h K' (fun a w hS hW => hK a w ⟨hS, hW⟩))
theorem _root_.Go.Proofs.YtjehpijjneghpaaGreat.zzp (l : List Value) (d : List Deferred) (t : Nat) (v : Value) : (Act.mk l.toArray d).put (some t) v = Act.mk (l.set t v).toArray d := by simp [Act.put]
theorem _root_.Go.Proofs.YtjehpijjneghpaaGreat.zzq (a : Act) (v : Value) : a.put none v = a := rfl
theorem _root_.Go.Proofs.YtjehpijjneghpaaGreat.zzb {α : Type} (a b : α) (l : List α) : (a :: l).set 0 b = b :: l := rfl
theorem _root_.Go.Proofs.YtjehpijjneghpaaGreat.zzc {α : Type} (a b : α) (l : List α) (n : Nat) : (a :: l).set (n + 1) b = a :: l.set n b := rfl
theorem tk (i : Nat) (oi : Oper) (v : Value) (ms : List Nat) {fuel : Nat} {listed : Array Bool} {a : Act} {w : World} (hy : ∀ w, S w → (execOp a.eval oi).run P w = .ok (.value v) w) (hS : S w)
    (h : wpAnyT P md ops Q S d fuel (listed.setIfInBounds i true) (a.put oi.dst v) w) (hi : ops[i]? = some oi := by rfl) (hw : Region.wanted oi (yielded ops a.tmps) = true := by rfl)
    (hs : Region.noSelect ops = true := by kernel_rfl) (hf : Region.free md ops listed i = true := by kernel_rfl) (hr : (Region.ready md ops listed).contains i = true := by kernel_rfl)
    (hp : (pathB md ops i ms && ms.contains d && ms.all fun m => listed.getD m true == false) = true := by kernel_rfl) (hQ : ∀ c a w, Q (.panic c) (a.put oi.dst v) w → Q (.panic c) a w := by exact fun _ _ _ h => h) :
    wpAnyT P md ops Q S d (fuel + 1) listed a w := wpAnyT_take ms hi hs hf hr hp hQ (.inl ⟨hw, hy⟩) hS h
theorem wpAnyT_done {listed : Array Bool} {a : Act} {w : World} (hr : Region.ready md ops listed = []) (h : Q .normal a w) : ∀ fuel, wpAnyT P md ops Q S d fuel listed a w
 | 0 => ⟨hr, h⟩
 | _ + 1 => ⟨fun _ => h, by rw [hr]; simp⟩
theorem wp_region_T {id : Nat} {a : Act} {w : World} (S : World → Prop) (d : Nat) (hm : P.follows .mixedOrders = true)
    (h : wpAnyT P .any ops Q S d ops.size (Array.replicate ops.size false) a w.drew) : (Code.region id ops true).wp P Q a w :=
 wp_region_any hm (wpAny_of_T _ _ _ _ h)
end Go.Proofs.YtjehpijjneghpaaGreat.Ix
namespace Go.Proofs.YtjehpijjneghpaaGreat.Dk
open Go.RowKit Go.Maps Go.Proofs.YtjehpijjneghpaaGreat.Nm
open Ix (wp_region_T wpAnyT wpAnyT_take wpAnyT_one wpAnyT_done vac)
theorem step_app {w : World} {ops : Array Oper} {o : Oper} {a : Act} {K : Act → World → Prop} {Q : Exit → Act → World → Prop} {E : Prop} (hgd : o.guard = none) (x y : Operand)
    (ho : o.op = .call { callee := .builtin .append, args := #[x, y], argTypes := #[30, 30] }) (vx vy v' : Value) (w' : World) (hx : a.eval x = vx) (hy : a.eval y = vy) (hr : (Builtin.append_ #[30, 30] o.type #[vx, vy]).run Tryz.prog w = .ok v' w') (h : K (a.put o.dst v') w') :
    if Region.wanted o (yielded ops a.tmps) = true then Oper.wp Tryz.prog o a w K Q else E := by
 have hw : Region.wanted o (yielded ops a.tmps) = true := by simp [Region.wanted, hgd]
 rw [if_pos hw]
 unfold Oper.wp execOp
 simp only [ho, resolve, invoke, builtin, Sem.run_bind, Sem.run_pure, Result.andThen_ok, List.map_toArray, List.map_cons, List.map_nil, hx, hy, hr]
 exact h
theorem crF_len (f : Fl) (N : Int) (J : List UInt8) (h : f.la.length ≤ f.by_.length) : (crF f N J).length ≤ f.by_.length := by
 have hw : wthn N (f.by_.length - f.la.length) ≤ f.by_.length - f.la.length := by unfold wthn; omega
 unfold crF
 rw [List.length_append, List.length_append, svd_len f _ (by omega), List.length_take]
 unfold jnk
 omega
theorem crash_any (w : World) (p : Nat) (f : Fl) (vb vl vj : Value) (N : Int) (J : List UInt8) (h : FlAt w p f vb vl) (hj : Sl w vj J) (n0 : -9223372036854775808 ≤ N) (n1 : N ≤ 9223372036854775807) :
    Calls Tryz.prog 82 #[.pointer (some ⟨p, 0, none⟩), .agg #[.int .i64 N, vj]] w fun e w' => e = .returned (.tuple #[]) ∧ ∃ vb' vl', FlAt w' p ⟨crF f N J, crF f N J, 0⟩ vb' vl' ∧ But (fun k => k = p) w w' ∧ (∀ k, FOwn p vb' vl' k → k = p ∨ w.heap.size ≤ k) := by
 have hB := hide ((Below.refl _ w).alloc (Nat.le_refl _) (.cells #[.int .i64 N, vj] 88))
 have hN := hide (heap_alloc_new w (.cells #[.int .i64 N, vj] 88))
 obtain ⟨w1, hw1⟩ : ∃ w1, Hid (w.alloc (.cells #[.int .i64 N, vj] 88) = w1) := ⟨_, rfl⟩
 rw [hw1.out] at hB hN
 have H1 := hide (h.below hB.out)
 have J1 := hide (Below.sl hB.out hj)
 have k0 : w1.cell? ⟨w.heap.size, 0, none⟩ = some (.int .i64 N) := by simp [World.cell?, hN.out]
 have k1 : w1.cell? ⟨w.heap.size, 1, none⟩ = some vj := by simp [World.cell?, hN.out]
 obtain ⟨ta, hta⟩ : ∃ ta, Hid (f.by_.length - f.la.length = ta) := ⟨_, rfl⟩
 obtain ⟨n, hn⟩ : ∃ n, Hid (wthn N ta = n) := ⟨_, rfl⟩
 have hsz := h.sz
 have i1 : ta ≤ 1099511627776 := by have := hta.out; omega
 have i2 : n ≤ ta := by have := hn.out; unfold wthn at this; omega
 have hT : Hid (∀ q, FlAt q p f vb vl → Calls Tryz.prog 85 #[.pointer (some ⟨p, 0, none⟩)] q fun e w' => e = .returned (.int .i64 (ta : Int)) ∧ ∃ n, w' = q.drewN n) := fun q hq => by have := tail_any q p f vb vl hq; rw [hta.out] at this; exact this
 have hW : Hid (∀ q, Calls Tryz.prog 108 #[.int .i64 N, .int .i64 (ta : Int)] q fun e w' => e = .returned (.int .i64 (n : Int)) ∧ w' = q) := fun q => by have := within_any q N ta n0 n1 (by omega); rw [hn.out] at this; exact this
 clear h hj
 go_enter Tryz.func82, Tryz.ntmps82
 go_upto_region 1 with fail
 rw [hw1.out]
 go_quiet (first
  | (go_at_call 85; exact Calls.quiet_of (hT.out _ (H1.out.below (Qt.below ⟨_, rfl⟩ _))))
  | (go_at_call 108; exact Calls.quiet_of_same (hW.out _)))
 have B2 : Hid (Below w.heap.size w (w1.drewN nq)) := hB.out.trans (Qt.below ⟨nq, rfl⟩ _)
 have H2 : Hid (FlAt (w1.drewN nq) p f vb vl) := H1.out.below (Qt.below ⟨nq, rfl⟩ _)
 have J2 : Hid (Sl (w1.drewN nq) vj J) := Below.sl (Qt.below ⟨nq, rfl⟩ _) J1.out
 replace k1 : (w1.drewN nq).cell? ⟨w.heap.size, 1, none⟩ = some vj := k1
 generalize w1.drewN nq = w2 at *
 clear k0 H1 J1 hB hW hw1 hN
 obtain ⟨aj, cj, rfl, _, q3, q4, _⟩ := J2.out
 obtain ⟨j, hj⟩ : ∃ j, Hid (jnk f N J = j) := ⟨_, rfl⟩
 have hj2 : j = min J.length (min (ta - n) 512) := by rw [← hj.out, ← hn.out, ← hta.out]; rfl
 have hmin : min (min (J.length : Int) ((ta : Int) - (n : Int))) 512 = (j : Int) := by omega
 have hwr : IntKind.i64.wrap ((ta : Int) - (n : Int)) = (ta : Int) - (n : Int) := by rw [IntKind.wrap_i64]; omega
 have i3 : (j : Int) ≤ (cj : Int) := by omega
 have hjl : j ≤ J.length := by omega
 clear hj2
 go_wp2_with fail
 go_quiet ((go_at_call 85; exact Calls.quiet_of (hT.out _ (H2.out.below (Qt.below ⟨_, rfl⟩ _)))))
 have hif : (if (512 : Int) < (if (ta : Int) - (n : Int) < (J.length : Int) then (ta : Int) - (n : Int) else (J.length : Int)) then 512 else (if (ta : Int) - (n : Int) < (J.length : Int) then (ta : Int) - (n : Int) else (J.length : Int))) = (j : Int) := by
  by_cases c : (ta : Int) - (n : Int) < (J.length : Int)
  ·rw [if_pos c]; split <;> omega
  ·rw [if_neg c]; split <;> omega
 rw [hif, Int.toNat_natCast]
 have B3 : Hid (Below w.heap.size w (w2.drewN nq)) := B2.out.trans (Qt.below ⟨nq, rfl⟩ _)
 have H3 : Hid (FlAt (w2.drewN nq) p f vb vl) := H2.out.below (Qt.below ⟨nq, rfl⟩ _)
 have J3 : Hid (Sl (w2.drewN nq) (.slice aj j cj) (J.take j)) := sl_take (Below.sl (Qt.below ⟨nq, rfl⟩ _) J2.out) hjl
 generalize w2.drewN nq = w3 at *
 clear hif hmin hwr hT k1 H2 J2 B2 i3
 obtain ⟨al, cl, rfl, _, _⟩ := H3.out.l.form
 obtain ⟨ll, hll⟩ : ∃ ll, Hid (f.la.length = ll) := ⟨_, rfl⟩
 have c1 : w3.cell? ⟨p, 1, none⟩ = some (.slice al f.la.length cl) := (cells3 H3.out.box).2.1
 have hS : Hid (∀ q, Below w3.heap.size w3 q → Calls Tryz.prog 107 #[.pointer (some ⟨p, 0, none⟩), .int .i64 (n : Int)] q fun e w' => ∃ v, e = .returned v ∧ Ob q.heap.size w' v (svd f n) ∧ Below q.heap.size q w') := fun q hq => saved_any q p n f vb _ (H3.out.below hq) (by have := hta.out; have := H3.out.le; omega)
 have hQ : Hid (∀ q, Below w3.heap.size w3 q → q.cell? ⟨p, 1, none⟩ = some (.slice al f.la.length cl)) := fun q hq => by rw [hq.cell (p := ⟨p, 1, none⟩) (lt_of_cell c1)]; exact c1
 have hcl : Hid ([f.la, svd f n, J.take j].flatten.length ≤ 140737488355328) := by
  show _ ≤ _
  have q1 := hta.out
  have q2 := H3.out.le
  have q3' := svd_len f n (by omega)
  have q4' : j ≤ 512 := by rw [← hj.out]; unfold jnk; omega
  have q5 : (J.take j).length = j := by simp; omega
  simp only [List.flatten_cons, List.flatten_nil, List.append_nil, List.length_append, q3', q5]
  omega
 clear hQ hsz
 have KC : Hid (∀ q, Below w3.heap.size w3 q → q.cell? ⟨p, 1, none⟩ = some (.slice al f.la.length cl)) := fun q hq => by rw [hq.cell (p := ⟨p, 1, none⟩) (lt_of_cell c1)]; exact c1
 clear c1
 go_upto_region 3 with fail
 have KP : Hid (Below w3.heap.size w3 w3.drew) := (Below.refl _ _).drew
 refine wp_region_T (fun q => Below w3.heap.size w3 q) 13 (by kernel_rfl) ?_
 generalize w3.drew = q at *
 refine Ix.tk 0 ⟨some 22, .move (.tmp 0), _, _, _, _⟩ (.pointer (some ⟨p, 0, none⟩)) [13] ?_ KP.out ?_
 ·intro wq hSw
  have y2 := KC.out wq hSw
  go_simp
 (try simp only [zzp, zzb, zzc])
 refine Ix.tk 1 ⟨some 23, .move (.tmp 0), _, _, _, _⟩ (.pointer (some ⟨p, 0, none⟩)) [13] ?_ KP.out ?_
 ·intro wq hSw
  have y2 := KC.out wq hSw
  go_simp
 (try simp only [zzp, zzb, zzc])
 refine Ix.tk 2 ⟨some 24, .nilCheck (.tmp 23), _, _, _, _⟩ (.pointer (some ⟨p, 0, none⟩)) [13] ?_ KP.out ?_
 ·intro wq hSw
  have y2 := KC.out wq hSw
  go_simp
 (try simp only [zzp, zzb, zzc])
 refine Ix.tk 3 ⟨some 25, .fieldAddr 124 (.tmp 24) 1, _, _, _, _⟩ (.pointer (some ⟨p, 1, none⟩)) [13] ?_ KP.out ?_
 ·intro wq hSw
  have y2 := KC.out wq hSw
  go_simp
 (try simp only [zzp, zzb, zzc])
 refine Ix.tk 4 ⟨some 26, .load 30 (.tmp 25), _, _, _, _⟩ (.slice al f.la.length cl) [13] ?_ KP.out ?_
 ·intro wq hSw
  have y2 := KC.out wq hSw
  go_simp
 (try simp only [zzp, zzb, zzc])
 refine Ix.tk 5 ⟨some 27, .move (.tmp 0), _, _, _, _⟩ (.pointer (some ⟨p, 0, none⟩)) [13] ?_ KP.out ?_
 ·intro wq hSw
  have y2 := KC.out wq hSw
  go_simp
 (try simp only [zzp, zzb, zzc])
 refine Ix.tk 6 ⟨some 28, .move (.tmp 4), _, _, _, _⟩ (.int .i64 (n : Int)) [13] ?_ KP.out ?_
 ·intro wq hSw
  have y2 := KC.out wq hSw
  go_simp
 (try simp only [zzp, zzb, zzc])
 refine Ix.tk 8 ⟨some 30, .move (.tmp 5), _, _, _, _⟩ (.slice aj j cj) [13] ?_ KP.out ?_
 ·intro wq hSw
  have y2 := KC.out wq hSw
  go_simp
 (try simp only [zzp, zzb, zzc])
 refine wpAnyT_one (i := 7) (o := ⟨some 29, .call { callee := .value (.func 107), args := #[.tmp 27, .tmp 28], argTypes := #[114, 3] }, _, _, _, _⟩) (by kernel_rfl) rfl (fun K hK => ?_)
 go_simp
 go_at_call 107
 refine (hS.out q KP.out).mono ?_
 rintro e w4 ⟨vs, rfl, O4, B4⟩
 obtain ⟨a4, c4, rfl, _, _⟩ := O4.form
 replace O4 := hide O4
 replace B4 : Hid (Below w3.heap.size w3 w4) := KP.out.trans (B4.mono KP.out.size)
 (try go_simp)
 refine hK.out _ _ (fun _ => B4.out) ?_
 clear hK K
 (try simp only [zzp, zzb, zzc])
 refine wpAnyT_one (i := 9) (o := ⟨some 31, .buildSlice 54 3 #[(0, .tmp 26), (1, .tmp 29), (2, .tmp 30)], _, _, _, _⟩) (by kernel_rfl) rfl (fun K hK => ?_)
 go_simp
 have B5 : Hid (Below w3.heap.size w3 (w4.alloc (.cells #[.slice al f.la.length cl, .slice a4 (svd f n).length c4, .slice aj j cj] 30))) := B4.out.trans ((box_below w4 _).mono B4.out.size)
 have hCon := concat_any (w4.alloc (.cells #[.slice al f.la.length cl, .slice a4 (svd f n).length c4, .slice aj j cj] 30)) _ _ [f.la, svd f n, J.take j] (Row.three _ _ _) (sls3 (Below.sl (box_below w4 _) (H3.out.l.sl.below4 B4.out)) (Below.sl (box_below w4 _) O4.out.sl) (Below.sl (box_below w4 _) (J3.out.below4 B4.out))) hcl.out
 refine hK.out _ _ (fun _ => B5.out) ?_
 clear hK K
 (try simp only [zzp, zzb, zzc])
 generalize w4.heap.size = z4 at *
 generalize (w4.alloc (.cells #[.slice al f.la.length cl, .slice a4 (svd f n).length c4, .slice aj j cj] 30)) = w5 at *
 refine wpAnyT_one (i := 10) (o := ⟨some 32, .call { callee := .value (.func 111), args := #[.tmp 31], argTypes := #[54] }, _, _, _, _⟩) (by kernel_rfl) rfl (fun K hK => ?_)
 go_simp
 go_at_call 111
 refine hCon.mono ?_
 rintro e w6 ⟨v6, rfl, O6, B6⟩
 have hfl : [f.la, svd f n, J.take j].flatten = crF f N J := by unfold crF; rw [hta.out, hn.out, hj.out]; simp
 replace O6 : Ob w5.heap.size w6 v6 (crF f N J) := by rw [← hfl]; exact O6
 clear hfl
 obtain ⟨o6, k6, rfl, _, _⟩ := O6.form
 replace O6 := hide O6
 replace B6 : Hid (Below w3.heap.size w3 w6) := B5.out.trans (B6.mono B5.out.size)
 clear hCon
 (try go_simp)
 refine hK.out _ _ (fun _ => B6.out) ?_
 clear hK K
 (try simp only [zzp, zzb, zzc])
 refine Ix.tk 11 ⟨some 33, .nilCheck (.tmp 22), _, _, _, _⟩ (.pointer (some ⟨p, 0, none⟩)) [12,13] ?_ B6.out ?_
 ·intro wq hSw
  have y2 := KC.out wq hSw
  go_simp
 (try simp only [zzp, zzb, zzc])
 refine Ix.tk 12 ⟨some 34, .fieldAddr 124 (.tmp 33) 1, _, _, _, _⟩ (.pointer (some ⟨p, 1, none⟩)) [13] ?_ B6.out ?_
 ·intro wq hSw
  have y2 := KC.out wq hSw
  go_simp
 (try simp only [zzp, zzb, zzc])
 have b6 : Hid (w6.heap[p]? = some (.cells #[vb, .slice al f.la.length cl, .int .i64 (f.sp : Int)] TFl (0, 0))) := (B6.out.block p (heap_lt H3.out.box)).trans H3.out.box
 have d1 := (cells3 b6.out).2.1
 have d2 := (frozen3 b6.out).2.1
 refine wpAnyT_one (i := 13) (o := ⟨none, .store 30 (.tmp 34) (.tmp 32), _, _, _, _⟩) (by kernel_rfl) rfl (fun K hK => ?_)
 go_simp
 refine hK.out _ _ (vac (by kernel_rfl)) ?_
 clear hK K d1 d2 KC
 refine wpAnyT_done (by kernel_rfl) ?_ _
 have b7 : Hid ((w6.setCell ⟨p, 1, none⟩ (.slice o6 (crF f N J).length k6)).heap[p]? = some (.cells #[vb, .slice o6 (crF f N J).length k6, .int .i64 (f.sp : Int)] TFl (0, 0))) := by show _ = _; rw [heap_setCell_same _ _ _ _ _ _ b6.out]; simp
 have g7 := hide (But.of_grownBy (X := fun k => k = p) (grown_setCell w6 p 1 (.slice o6 (crF f N J).length k6)) fun k e => by cases e; rfl)
 have O7 : Hid (Ob w5.heap.size (w6.setCell ⟨p, 1, none⟩ (.slice o6 (crF f N J).length k6)) (.slice o6 (crF f N J).length k6) (crF f N J)) := O6.out.but g7.out (fun k hk e => O6.out.no b6.out (by decide) (by rw [← e]; exact hk))
 have B7 : Hid (But (fun k => k = p) w (w6.setCell ⟨p, 1, none⟩ (.slice o6 (crF f N J).length k6))) := (But.of_below (B3.out.trans (B6.out.mono B3.out.size)) _).trans g7.out
 have hz : Hid ((crF f N J).length ≤ 1099511627776) := Nat.le_trans (crF_len f N J H3.out.le) H3.out.sz
 have zw : Hid (w.heap.size ≤ w5.heap.size) := Nat.le_trans B3.out.size B5.out.size
 clear O6 B6 g7 b6 hS hcl O4 B4 KP J3 i1 i2
 generalize (w6.setCell ⟨p, 1, none⟩ (.slice o6 (crF f N J).length k6)) = w7 at *
 have hCl := clone_bytes w7 (.slice o6 (crF f N J).length k6) _ O7.out.sl (by have := hz.out; omega)
 obtain ⟨e1, e2, e3⟩ := cells3 b7.out
 generalize hL : crF f N J = L at *
 replace hL := hide hL
 have hF : Hid (∀ q, Below w7.heap.size w7 q → q.heap[p]? = some (.cells #[vb, .slice o6 L.length k6, .int .i64 (f.sp : Int)] TFl (0, 0))) := fun q hq => (hq.block p (heap_lt b7.out)).trans b7.out
 generalize hvb : vb = vb0 at *
 go_wp2_with (go_at_call 83; refine hCl.mono ?_; rintro e w8 ⟨v8, rfl, O8, B8⟩; obtain ⟨o8, k8, rfl, _, _⟩ := O8.form; replace O8 := hide O8; replace B8 := hide B8; have b8 := hide (hF.out _ B8.out); have x1 := (cells3 b8.out).1; have x2 := (frozen3 b8.out).1; have b9 : Hid ((w8.setCell ⟨p, 0, none⟩ (.slice o8 L.length k8)).heap[p]? = some (.cells #[.slice o8 L.length k8, .slice o6 L.length k6, .int .i64 (f.sp : Int)] TFl (0, 0))) := (by show _ = _; rw [heap_setCell_same _ _ _ _ _ _ b8.out]; simp); have y1 := (cells3 b9.out).2.2; have y2 := (frozen3 b9.out).2.2)
 go_end0
 have b10 : ((w8.setCell ⟨p, 0, none⟩ (.slice o8 L.length k8)).setCell ⟨p, 2, none⟩ (.int .i64 0)).heap[p]? = some (.cells #[.slice o8 L.length k8, .slice o6 L.length k6, .int .i64 0] TFl (0, 0)) := by rw [heap_setCell_same _ _ _ _ _ _ b9.out]; simp
 have g9 := (But.of_grownBy (X := fun k => k = p) (grown_setCell w8 p 0 (.slice o8 L.length k8)) fun k e => by cases e; rfl).trans (But.of_grownBy (X := fun k => k = p) (grown_setCell (w8.setCell ⟨p, 0, none⟩ (.slice o8 L.length k8)) p 2 (.int .i64 0)) fun k e => by cases e; rfl)
 have O7b := O7.out.below B8.out
 rw [hL.out]
 refine ⟨rfl, .slice o8 L.length k8, .slice o6 L.length k6, ⟨b10, ?_, ?_, ?_, Nat.le_refl _, Nat.zero_le _, hz.out⟩, ?_, ?_⟩
 ·exact (O8.out.low (Nat.zero_le _)).but g9 (fun k hk e => O8.out.no b8.out (by decide) (by rw [← e]; exact hk))
 ·exact (O7b.low (Nat.zero_le _)).but g9 (fun k hk e => O7b.no b8.out (by decide) (by rw [← e]; exact hk))
 ·intro k hk c
  have q1 := (O8.out.lt k hk).1
  have q2 := (O7.out.lt k c).2
  omega
 ·exact (B7.out.trans (But.of_below B8.out _)).trans g9
 ·rintro k (q | q | q)
  ·exact .inl q
  ·have := (O8.out.lt k q).1
   have := B7.out.size
   exact .inr (by omega)
  ·have := (O7.out.lt k q).1
   have := zw.out
   exact .inr (by omega)
def syF (f : Fl) : Fl := ⟨f.by_, f.la ++ svd f (f.by_.length - f.la.length), 0⟩
theorem sync_any (w : World) (p : Nat) (f : Fl) (vb vl : Value) (h : FlAt w p f vb vl) :
    Calls Tryz.prog 78 #[.pointer (some ⟨p, 0, none⟩)] w fun e w' => e = .returned (.tuple #[]) ∧ ∃ vl', FlAt w' p (syF f) vb vl' ∧ But (FOwn p vb vl) w w' ∧ (∀ k, FOwn p vb vl' k → FOwn p vb vl k ∨ w.heap.size ≤ k) := by
 have H := hide h
 obtain ⟨ta, hta⟩ : ∃ ta, Hid (f.by_.length - f.la.length = ta) := ⟨_, rfl⟩
 obtain ⟨al, cl, rfl, q1, q2⟩ := h.l.form
 have hT : Hid (∀ q, Below w.heap.size w q → Calls Tryz.prog 85 #[.pointer (some ⟨p, 0, none⟩)] q fun e w' => e = .returned (.int .i64 (ta : Int)) ∧ ∃ n, w' = q.drewN n) := fun q hq => by have := tail_any q p f vb _ (h.below hq); rw [hta.out] at this; exact this
 have hS : Hid (∀ q, Below w.heap.size w q → Calls Tryz.prog 107 #[.pointer (some ⟨p, 0, none⟩), .int .i64 (ta : Int)] q fun e w' => ∃ v, e = .returned v ∧ Ob q.heap.size w' v (svd f ta) ∧ Below q.heap.size q w') := fun q hq => saved_any q p ta f vb _ (h.below hq) (by have := hta.out; have := h.le; omega)
 have hsl : (svd f ta).length = ta := svd_len f ta (by have := hta.out; have := h.le; omega)
 have hz : f.la.length + ta ≤ 1099511627776 := by have := hta.out; have := h.le; have := h.sz; omega
 replace hsl := hide hsl
 have KC : Hid (∀ q : World, q.heap[p]? = some (.cells #[vb, .slice al f.la.length cl, .int .i64 (f.sp : Int)] TFl (0, 0)) → q.cell? ⟨p, 1, none⟩ = some (.slice al f.la.length cl)) := fun q hq => (cells3 hq).2.1
 have KB : Hid (∀ q : World, Below w.heap.size w q → q.heap[p]? = some (.cells #[vb, .slice al f.la.length cl, .int .i64 (f.sp : Int)] TFl (0, 0))) := fun q hq => (hq.block p (heap_lt H.out.box)).trans H.out.box
 clear h
 go_enter Tryz.func78, Tryz.ntmps78
 go_upto_region 0 with fail
 have B0 : Hid (Below w.heap.size w w.drew) := (Below.refl _ _).drew
 refine wp_region_T (fun q => q.heap[p]? = some (.cells #[vb, .slice al f.la.length cl, .int .i64 (f.sp : Int)] TFl (0, 0))) 12 (by kernel_rfl) ?_
 generalize w.drew = q at *
 have KP := hide (KB.out _ B0.out)
 refine Ix.tk 0 ⟨some 2, .move (.tmp 0), _, _, _, _⟩ (.pointer (some ⟨p, 0, none⟩)) [12] ?_ KP.out ?_
 ·intro wq hSw
  have y2 := KC.out wq hSw
  go_simp
 (try simp only [zzp, zzb, zzc])
 refine Ix.tk 1 ⟨some 3, .move (.tmp 0), _, _, _, _⟩ (.pointer (some ⟨p, 0, none⟩)) [12] ?_ KP.out ?_
 ·intro wq hSw
  have y2 := KC.out wq hSw
  go_simp
 (try simp only [zzp, zzb, zzc])
 refine Ix.tk 2 ⟨some 4, .nilCheck (.tmp 3), _, _, _, _⟩ (.pointer (some ⟨p, 0, none⟩)) [12] ?_ KP.out ?_
 ·intro wq hSw
  have y2 := KC.out wq hSw
  go_simp
 (try simp only [zzp, zzb, zzc])
 refine Ix.tk 3 ⟨some 5, .fieldAddr 124 (.tmp 4) 1, _, _, _, _⟩ (.pointer (some ⟨p, 1, none⟩)) [12] ?_ KP.out ?_
 ·intro wq hSw
  have y2 := KC.out wq hSw
  go_simp
 (try simp only [zzp, zzb, zzc])
 refine Ix.tk 4 ⟨some 6, .load 30 (.tmp 5), _, _, _, _⟩ (.slice al f.la.length cl) [12] ?_ KP.out ?_
 ·intro wq hSw
  have y2 := KC.out wq hSw
  go_simp
 (try simp only [zzp, zzb, zzc])
 refine Ix.tk 5 ⟨some 7, .move (.tmp 0), _, _, _, _⟩ (.pointer (some ⟨p, 0, none⟩)) [12] ?_ KP.out ?_
 ·intro wq hSw
  have y2 := KC.out wq hSw
  go_simp
 (try simp only [zzp, zzb, zzc])
 refine Ix.tk 6 ⟨some 8, .move (.tmp 0), _, _, _, _⟩ (.pointer (some ⟨p, 0, none⟩)) [12] ?_ KP.out ?_
 ·intro wq hSw
  have y2 := KC.out wq hSw
  go_simp
 (try simp only [zzp, zzb, zzc])
 refine wpAnyT_one (i := 7) (o := ⟨some 9, .call { callee := .value (.func 85), args := #[.tmp 8], argTypes := #[114] }, _, _, _, _⟩) (by kernel_rfl) rfl (fun K hK => ?_)
 go_simp
 go_at_call 85
 refine (hT.out q B0.out).mono ?_
 rintro e w1 ⟨rfl, nq, rfl⟩
 have B1 : Hid (Below w.heap.size w (q.drewN nq)) := B0.out.trans (Qt.below ⟨nq, rfl⟩ _)
 have K1 := hide (KB.out _ B1.out)
 (try go_simp)
 refine hK.out _ _ (fun _ => K1.out) ?_
 clear hK K
 (try simp only [zzp, zzb, zzc])
 generalize q.drewN nq = q1 at *
 refine wpAnyT_one (i := 8) (o := ⟨some 10, .call { callee := .value (.func 107), args := #[.tmp 7, .tmp 9], argTypes := #[114, 3] }, _, _, _, _⟩) (by kernel_rfl) rfl (fun K hK => ?_)
 go_simp
 go_at_call 107
 refine (hS.out q1 B1.out).mono ?_
 rintro e w4 ⟨vs, rfl, O4, B4⟩
 obtain ⟨a4, c4, rfl, _, _⟩ := O4.form
 replace O4 := hide O4
 replace B4 : Hid (Below w.heap.size w w4) := B1.out.trans (B4.mono B1.out.size)
 have K4 := hide (KB.out _ B4.out)
 (try go_simp)
 refine hK.out _ _ (fun _ => K4.out) ?_
 clear hK K
 (try simp only [zzp, zzb, zzc])
 have H4 := hide (H.out.below B4.out)
 obtain ⟨v5, w5, hr, O5, G5, A5⟩ := run_app (B := 0) H4.out.l O4.out.sl (by have := hsl.out; omega) (Nat.zero_le _) 30
 have hL : Hid (f.la ++ svd f ta = (syF f).la) := by show _ = _; unfold syF; rw [hta.out]
 rw [hL.out] at O5
 replace O5 := hide O5
 replace G5 := hide G5
 replace A5 := hide A5
 have K5 : Hid (w5.heap[p]? = some (.cells #[vb, .slice al f.la.length cl, .int .i64 (f.sp : Int)] TFl (0, 0))) := (But.of_grownBy (X := fun k => Value.ownBlock (.slice al f.la.length cl) = some k) G5.out fun k e => e).at K4.out (H4.out.l.no H4.out.box (by decide))
 obtain ⟨a5, c5, e5, _, _⟩ := O5.out.form
 subst e5
 refine wpAnyT_one (i := 9) (o := ⟨some 11, .call { callee := .builtin .append, args := #[.tmp 6, .tmp 10], argTypes := #[30, 30] }, _, _, _, _⟩) (by kernel_rfl) rfl (fun K hK => ?_)
 refine step_app rfl (.tmp 6) (.tmp 10) rfl _ _ _ w5 (by simp [Act.eval]) (by simp [Act.eval]) hr ?_
 refine hK.out _ _ (fun _ => K5.out) ?_
 clear hK K hr
 (try simp only [zzp, zzb, zzc])
 refine Ix.tk 10 ⟨some 12, .nilCheck (.tmp 2), _, _, _, _⟩ (.pointer (some ⟨p, 0, none⟩)) [11,12] ?_ K5.out ?_
 ·intro wq hSw
  have y2 := KC.out wq hSw
  go_simp
 (try simp only [zzp, zzb, zzc])
 refine Ix.tk 11 ⟨some 13, .fieldAddr 124 (.tmp 12) 1, _, _, _, _⟩ (.pointer (some ⟨p, 1, none⟩)) [12] ?_ K5.out ?_
 ·intro wq hSw
  have y2 := KC.out wq hSw
  go_simp
 (try simp only [zzp, zzb, zzc])
 have d1 := (cells3 K5.out).2.1
 have d2 := (frozen3 K5.out).2.1
 refine wpAnyT_one (i := 12) (o := ⟨none, .store 30 (.tmp 13) (.tmp 11), _, _, _, _⟩) (by kernel_rfl) rfl (fun K hK => ?_)
 go_simp
 refine hK.out _ _ (vac (by kernel_rfl)) ?_
 clear hK K d1 d2 KC KB hT hS
 refine wpAnyT_done (by kernel_rfl) ?_ _
 have b7 : Hid ((w5.setCell ⟨p, 1, none⟩ (.slice a5 (syF f).la.length c5)).heap[p]? = some (.cells #[vb, .slice a5 (syF f).la.length c5, .int .i64 (f.sp : Int)] TFl (0, 0))) := by show _ = _; rw [heap_setCell_same _ _ _ _ _ _ K5.out]; simp
 have g7 := hide (But.of_grownBy (X := fun k => k = p) (grown_setCell w5 p 1 (.slice a5 (syF f).la.length c5)) fun k e => by cases e; rfl)
 have x1 := (cells3 b7.out).2.2
 have x2 := (frozen3 b7.out).2.2
 generalize hw7 : (w5.setCell ⟨p, 1, none⟩ (.slice a5 (syF f).la.length c5)) = w7 at *
 replace hw7 := hide hw7
 go_wp2_with fail
 go_end0
 have b8 : (w7.setCell ⟨p, 2, none⟩ (.int .i64 0)).heap[p]? = some (.cells #[vb, .slice a5 (syF f).la.length c5, .int .i64 0] TFl (0, 0)) := by rw [heap_setCell_same _ _ _ _ _ _ b7.out]; simp
 have g8 := g7.out.trans (But.of_grownBy (X := fun k => k = p) (grown_setCell w7 p 2 (.int .i64 0)) fun k e => by cases e; rfl)
 have G5b := But.of_grownBy (X := fun k => Value.ownBlock (.slice al f.la.length cl) = some k) G5.out fun k e => e
 have Ob5 : Ob 0 w5 vb f.by_ := H4.out.b.but G5b (fun k hk c => H4.out.ne k hk c)
 refine ⟨rfl, .slice a5 (syF f).la.length c5, ⟨b8, ?_, ?_, ?_, ?_, Nat.zero_le _, H.out.sz⟩, ?_, ?_⟩
 ·exact Ob5.but g8 (fun k hk e => Ob5.no K5.out (by decide) (by rw [← e]; exact hk))
 ·exact O5.out.but g8 (fun k hk e => O5.out.no K5.out (by decide) (by rw [← e]; exact hk))
 ·intro k hk c
  rcases A5.out with e | e
  ·rw [e] at c
   exact H.out.ne k hk c
  ·rw [e] at c
   have := (H4.out.b.lt k hk).2
   simp at c
   omega
 ·show (syF f).la.length ≤ f.by_.length
  rw [← hL.out, List.length_append, hsl.out]
  have := hta.out
  have := H.out.le
  omega
 ·exact (((But.of_below B4.out _).trans (G5b.mono fun k _ e => .inr (.inr e))).trans (g8.mono fun k _ e => .inl e))
 ·rintro k (q | q | q)
  ·exact .inl (.inl q)
  ·exact .inl (.inr (.inl q))
  ·rcases A5.out with e | e
   ·rw [e] at q
    exact .inl (.inr (.inr q))
   ·rw [e] at q
    have := B4.out.size
    simp at q
    exact .inr (by omega)
def DS.room (S : DS) : Int := max (S.most - (sumL S.F S.dir : Int)) 0
theorem DS.ok.sum {S : DS} (h : S.ok) (hc : S.c7 < 1000000000) : (sumL S.F S.dir : Int) ≤ 16777216000000000 := by
 have h1 := sumL_le S.F S.dir fun e he => h.sz e.2 (runs_mem (List.mem_map.2 ⟨e, he, rfl⟩))
 obtain ⟨d1, _, _⟩ := dir_len h hc
 have : S.dir.length * 16777216 ≤ 1000000000 * 16777216 := Nat.mul_le_mul_right _ (by omega)
 omega
theorem room_any {w : World} {b : Nat} {S : DS} {O : Nat → Prop} {f g : Nat} {pd : Value} {am : Option Nat} {VB VL : Nat → Value} (h : Dsk w b S O f g pd am VB VL) (hc : S.c7 < 1000000000) :
    Calls Tryz.prog 76 #[.pointer (some ⟨b, 0, none⟩)] w fun e w' => e = .returned (.int .i64 S.room) ∧ Below w.heap.size w w' := by
 have c0 : w.cell? ⟨b, 0, none⟩ = some (.int .i64 S.most) := h.dk.box.cells.1
 have c2 : w.cell? ⟨b, 2, none⟩ = some (.map (some f)) := h.dk.box.cells.2.2.1
 have hown : w.ownsMap Tryz.prog TS ptrR f S.dir.length (dirD S.dir) := h.dk.mf
 have hsum := h.ok.sum hc
 have hmost := h.ok.most
 have hkeys := hide h.dk.mf.keys
 have hfl := hide h.dk.mf.lt
 have hF : Hid (∀ q p k, Below w.heap.size w q → get S.dir k = some p → ∃ ao ca, q.cell? ⟨p, 0, none⟩ = some (.slice ao (S.F p).by_.length ca)) := fun q p k hq hp => by
  have hf := (h.fs.at_ p (DS.mem_dir hp)).below hq
  obtain ⟨ao, ca, e, _⟩ := hf.b.form
  exact ⟨ao, ca, by rw [← e]; exact (cells3 hf.box).1⟩
 have hroom : Hid (max (S.most - (sumL S.F S.dir : Int)) 0 = S.room) := rfl
 have hss := hide (leftS_start S.F S.dir)
 have hse : Hid (∀ left : Lit → Bool, (∀ kl, left kl = false) → leftS S.F S.dir left = 0) := fun left hl => leftS_end S.F S.dir hl
 have hst : Hid (∀ (left : Lit → Bool) k p, get S.dir k = some p → left (.string k) = true → leftS S.F S.dir left = leftS S.F S.dir (fun z => left z && !z.sameKey (.string k)) + (S.F p).by_.length) := fun left k p hg hl => leftS_step S.F hkeys.out hg hl
 have hsl : Hid (∀ left : Lit → Bool, leftS S.F S.dir left ≤ sumL S.F S.dir) := fun left => leftS_le S.F S.dir left
 have hhas : Hid (∀ k, Maps.has (dirD S.dir) (.string k) = true → (get S.dir k).isSome = true) := fun k hk => by rw [← dirD_has]; exact hk
 have hrg : Hid (∀ (x : ByteArray) (c : Option Nat) (y : DataW Unit × List MemPlace), (∀ zd, (dirD S.dir).atKey (.string x.data.toList) zd = y.1) → ptrR (.pointer (c.map fun b => ⟨b, 0, none⟩)) = some y → (get S.dir x.data.toList).isSome = true → ∃ p, c = some p ∧ get S.dir x.data.toList = some p) := fun x c y h1 h2 h3 => round_get h1 h2 h3
 generalize S.dir = l at *
 generalize hSM : S.most = M at *
 obtain ⟨N, hN⟩ : ∃ N : Nat, sumL S.F l = N := ⟨_, rfl⟩
 rw [hN] at hss hsl hsum hroom
 generalize S.room = R at *
 generalize S.F = F at *
 clear h hN hkeys hSM
 go_enter Tryz.func76, Tryz.ntmps76
 go_wp2_with (first
  | (at_range; refine wpList_range_own _ rfl _ TM rfl TS TF keyS undM ptrR f l.length (dirD l) rfl hown ?_; intro w0 hrg0 hg0 hs0)
  | go_in)
 go_frame
 go_loopw [3] (fun v wr => ∃ (left : Lit → Bool) (cnt : Nat), wr.ranges Tryz.prog TS ptrR f w.heap.size l.length (dirD l) left cnt ∧ v = .int .i64 (M - (N : Int) + (leftS F l left : Int)) ∧ Hid (∀ k, left (.string k) = true → (get l k).isSome = true) ∧ Hid (Below w.heap.size w wr))
  (fun _ wr => wr.rangeLeft f w.heap.size)
 case atStart =>
  refine ⟨_, _, hrg0, ?_, hhas.out, (Below.refl _ w).grown hg0 (Nat.le_refl _) (fun j hj => by cases hj)⟩
  rw [hss.out]
  congr 1
  omega
 case round =>
  obtain ⟨left, cnt, hrgs, rfl, hlk, hnx⟩ := hrel
  go_wp2_with (first
   | (at_next; refine wpList_next_ranges _ rfl _ rfl TS keyS ptrR Value.string (fun c : Option Nat => .pointer (c.map fun b => ⟨b, 0, none⟩)) (fun key kl hk => keyOf_str_inv hk) (fun v y hv => ptrR_shape hv) f w.heap.size l.length _ _ _ rfl hrgs ?_ ?_)
   | go_in)
  ·intro hc0 hl0
   have e0 := hse.out left hl0
   rw [e0]
   generalize hX : M - (N : Int) + ((0 : Nat) : Int) = X
   have hX2 : Hid (max X 0 = R) := by show _ = _; rw [← hroom.out, ← hX]; simp
   clear hX
   go_wp2_with fail
   go_ret
   exact ⟨by rw [← hX2.out]; rfl, hnx.out⟩
  ·intro x c kl ya yb w1 cnt1 hkey hlx hv hat hrg1 hlt hg1 hs1 hen
   obtain ⟨rfl, hxs⟩ := keyOf_str_lit hkey
   obtain ⟨p, rfl, hp⟩ := hrg.out x c (ya, yb) hat hv (hlk.out _ hlx)
   have hst1 := hst.out left _ p hp hlx
   have hB1 := hide (hnx.out.grown hg1 hnx.out.size (fun j hj => by cases hj; exact Nat.le_refl _))
   obtain ⟨ao, ca, hcell⟩ := hF.out w1 p _ hB1.out hp
   have hsl1 := hsl.out left
   have hlk2 : Hid (∀ k, (fun z : Lit => left z && !z.sameKey (.string x.data.toList)) (.string k) = true → (get l k).isSome = true) := fun k hk => hlk.out k (by simp only [Bool.and_eq_true] at hk; exact hk.1)
   obtain ⟨L1, hL1⟩ : ∃ L1 : Nat, Hid (leftS F l (fun z => left z && !z.sameKey (.string x.data.toList)) = L1) := ⟨_, rfl⟩
   rw [hL1.out] at hst1
   obtain ⟨len, hlen⟩ : ∃ len : Nat, (F p).by_.length = len := ⟨_, rfl⟩
   rw [hlen] at hst1 hcell
   rw [hst1]
   obtain ⟨X, hX⟩ : ∃ X : Int, Hid (M - (N : Int) + ((L1 + len : Nat) : Int) = X) := ⟨_, rfl⟩
   have hw : IntKind.i64.wrap (X - (len : Int)) = X - (len : Int) := by have := hX.out; rw [IntKind.wrap_i64]; omega
   rw [hX.out]
   replace hst1 := hide hst1
   replace hsl1 := hide hsl1
   replace hlt := hide hlt
   replace hp := hide hp
   replace hkey := hide hkey
   replace hv := hide hv
   replace hat := hide hat
   replace hrg1 := hide hrg1
   replace hrgs := hide hrgs
   clear hg1 hs1 hlen hlx
   simp only [Option.map_some] at hen
   go_wp2_with fail
   go_roundw
   case rel =>
    refine ⟨_, cnt1, hrg1.out, ?_, hlk2.out, hB1.out⟩
    rw [hL1.out]
    have := hX.out
    congr 1
    omega
   case measure => rw [hrg1.out.left_eq, hrgs.out.left_eq]; exact hlt.out
def SOff (O : Nat → Prop) (v : Value) : Prop := ∀ b off n c, v = .slice (some ⟨b, off, none⟩) n c → 0 < n → ¬ O b
theorem sl_but {X : Nat → Prop} {w w' : World} {v : Value} {l : List UInt8} (h : Sl w v l) (hb : But X w w') (hx : SOff X v) : Sl w' v l := by
 obtain ⟨ao, cap, rfl, h2, h3, h4, h5⟩ := h
 refine ⟨ao, cap, rfl, h2, h3, h4, fun i hi => ?_⟩
 obtain ⟨b, off, e, hc⟩ := h5 i hi
 subst e
 refine ⟨b, off, rfl, ?_⟩
 rw [← hc]
 have := hb.block b (lt_of_cell hc) (hx b off _ _ rfl (by omega))
 unfold World.cell?
 dsimp only
 rw [this]
theorem SOff.mono {O O' : Nat → Prop} {v : Value} (h : SOff O v) (hs : ∀ k, O' k → O k) : SOff O' v := fun b off n c e z k => h b off n c e z (hs _ k)
def DS.apN (S : DS) (len : Nat) : Nat := (if S.flt.2.1 ≠ 0 then min (min (len : Int) S.room) S.flt.2.2 else min (len : Int) S.room).toNat
theorem apN_le {S : DS} (h : S.ok) (len : Nat) : S.apN len ≤ len ∧ (S.apN len : Int) ≤ S.room := by
 have := h.flt
 have h0 : 0 ≤ S.room := by unfold DS.room; omega
 unfold DS.apN
 split <;> omega
theorem apN_min {S : DS} (_ : S.ok) (len : Nat) (h0 : S.flt.2.1 = 0) : min (len : Int) S.room = (S.apN len : Int) := by
 have h0' : 0 ≤ S.room := by unfold DS.room; omega
 unfold DS.apN
 rw [if_neg (by simpa using h0)]
 omega
theorem apN_part {S : DS} (h : S.ok) (len : Nat) (h0 : S.flt.2.1 ≠ 0) : min (min (len : Int) S.room) S.flt.2.2 = (S.apN len : Int) := by
 have := h.flt
 have h0' : 0 ≤ S.room := by unfold DS.room; omega
 unfold DS.apN
 rw [if_pos h0]
 omega
theorem apN_size {S : DS} (h : S.ok) {s : List UInt8} {p : Nat} (hp : get S.dir s = some p) (len : Nat) : (S.F p).by_.length + S.apN len ≤ 16777216 := by
 have h1 := (apN_le h len).2
 have h2 := h.sz p (DS.mem_dir hp)
 have h3 := sumL_one S.F hp
 have h4 := h.most
 unfold DS.room at h1
 omega
def apF (f : Fl) (b : List UInt8) : Fl := ⟨f.by_ ++ b, f.la, f.sp⟩
def DS.append (S : DS) (s : ByteArray) (b : List UInt8) : DS × Int × Int :=
 match S.find s with
 | (none, e) => (S, 0, e)
 | (some p, _) =>
  ({ (S.beg 1).str S.flt.2.1 with F := upd S.F p (apF (S.F p) (b.take (S.apN b.length))), c8 := S.c8 + (S.apN b.length : Int) }, (S.apN b.length : Int),
   if strF S.flt.2.1 ≠ 0 then strF S.flt.2.1 else if S.apN b.length < b.length then 21 else 0)
theorem Dk.c8 {w : World} {b : Nat} {x : Dc} {f g : Nat} {l l2 : Dr} {P : List Ch} {al : Ar} (h : Dk w b x f g l l2 P al) (n : Int) : Dk (w.setCell ⟨b, 14, none⟩ (.int .i64 n)) b { x with c8 := n } f g l l2 P al := by
 obtain ⟨n1, n2, n3, n4⟩ := h.noB
 have hB := But.of_grownBy (X := fun k => k = b) (grown_setCell w b 14 (.int .i64 n)) fun k e => by cases e; rfl
 refine ⟨?_, h.fm, h.lm, h.mf.but hB n1, h.mg.but hB n2, h.fg, h.pd.but hB n4, fun m e => ⟨(h.am m e).1.but hB (n3 m e), (h.am m e).2⟩, h.an, h.run, h.can, h.ok, h.c0, h.c1⟩
 have := heap_setCell_same w b 14 _ _ (.int .i64 n) h.box
 exact this
theorem Dsk.c8 {w : World} {b : Nat} {S : DS} {O : Nat → Prop} {f g : Nat} {pd : Value} {am : Option Nat} {VB VL : Nat → Value} (h : Dsk w b S O f g pd am VB VL) (n : Int) (hn : 0 ≤ n ∧ n ≤ 16777216 * S.c7) :
    Dsk (w.setCell ⟨b, 14, none⟩ (.int .i64 n)) b { S with c8 := n } O f g pd am VB VL ∧ Sgo w (w.setCell ⟨b, 14, none⟩ (.int .i64 n)) O O := by
 have hB := But.of_grownBy (X := fun k => k = b) (grown_setCell w b 14 (.int .i64 n)) fun k e => by cases e; rfl
 exact h.turn (T := { S with c8 := n }) rfl rfl rfl ⟨h.ok.most, h.ok.sz, h.ok.cnt, h.ok.calm, hn⟩ (h.dk.c8 n) ⟨hB.mono fun k _ e => .inl e, fun k hk => .inl hk⟩
theorem beg_room (S : DS) (j : Nat) : (S.beg j).room = S.room := by
 obtain ⟨e1, e2, e3, e4, e5, e6, e7, e8⟩ := beg_rest S j
 unfold DS.room
 rw [beg_dir, e1, e8]
theorem FlAt.app {w w5 : World} {p : Nat} {f : Fl} {vb vl v5 : Value} {m : List UInt8} (h : FlAt w p f vb vl) (O5 : Ob 0 w5 v5 (f.by_ ++ m)) (G5 : w.grownBy w5 vb.ownBlock) (A5 : v5.ownBlock = vb.ownBlock ∨ v5.ownBlock = some w.heap.size) (hz : f.by_.length + m.length ≤ 1099511627776) :
    w5.heap[p]? = some (.cells #[vb, vl, .int .i64 (f.sp : Int)] TFl (0, 0)) ∧ FlAt (w5.setCell ⟨p, 0, none⟩ v5) p (apF f m) v5 vl ∧ But (FOwn p vb vl) w (w5.setCell ⟨p, 0, none⟩ v5) ∧ (∀ k, FOwn p v5 vl k → FOwn p vb vl k ∨ w.heap.size ≤ k) := by
 have G5b := But.of_grownBy (X := fun k => vb.ownBlock = some k) G5 fun k e => e
 have K5 : w5.heap[p]? = some (.cells #[vb, vl, .int .i64 (f.sp : Int)] TFl (0, 0)) := G5b.at h.box (h.b.no h.box (by decide))
 have g7 := But.of_grownBy (X := fun k => k = p) (grown_setCell w5 p 0 v5) fun k e => by cases e; rfl
 have Ol : Ob 0 w5 vl f.la := h.l.but G5b (fun k hk c => h.ne k c hk)
 refine ⟨K5, ⟨?_, ?_, ?_, ?_, ?_, ?_, ?_⟩, ?_, ?_⟩
 ·rw [heap_setCell_same _ _ _ _ _ _ K5]; simp [apF]
 ·exact O5.but g7 (fun k hk e => O5.no K5 (by decide) (by rw [← e]; exact hk))
 ·exact Ol.but g7 (fun k hk e => Ol.no K5 (by decide) (by rw [← e]; exact hk))
 ·intro k hk c
  rcases A5 with e | e
  ·rw [e] at hk
   exact h.ne k hk c
  ·rw [e] at hk
   have := (h.l.lt k c).2
   simp at hk
   omega
 ·have := h.le; simp [apF]; omega
 ·have := h.sp; have := h.le; simp [apF]; omega
 ·simp [apF]; exact hz
 ·exact (G5b.mono fun k _ e => .inr (.inl e)).trans (g7.mono fun k _ e => .inl e)
 ·rintro k (q | q | q)
  ·exact .inl (.inl q)
  ·rcases A5 with e | e
   ·rw [e] at q; exact .inl (.inr (.inl q))
   ·rw [e] at q; simp at q; exact .inr (by omega)
  ·exact .inl (.inr (.inr q))
theorem append_any {w : World} {b : Nat} {S : DS} {O : Nat → Prop} {f g : Nat} {pd : Value} {am : Option Nat} {VB VL : Nat → Value} (h : Dsk w b S O f g pd am VB VL) (s : ByteArray) (hs : s.size ≤ maxLen) (v : Value) (D : List UInt8) (hv : Sl w v D) (ho : SOff O v) (hc : S.c7 < 900000000) :
    Calls Tryz.prog 16 #[.pointer (some ⟨b, 0, none⟩), .string s, v] w fun e w' => e = .returned (.tuple #[.int .i64 (S.append s D).2.1, .int .i64 (S.append s D).2.2]) ∧ ∃ O', DskE w' b (S.append s D).1 O' ∧ Sgo w w' O O' := by
 have hF := dsk_find h s hs
 by_cases h0 : (S.find s).2 = 0
 ·obtain ⟨p, e, hg, hr, hp⟩ := find_ok h0
  rw [e] at hF
  simp only [Option.map_some] at hF
  have hR : Hid (S.append s D = ({ (S.beg 1).str S.flt.2.1 with F := upd S.F p (apF (S.F p) (D.take (S.apN D.length))), c8 := S.c8 + (S.apN D.length : Int) }, (S.apN D.length : Int), if strF S.flt.2.1 ≠ 0 then strF S.flt.2.1 else if S.apN D.length < D.length then 21 else 0)) := by show _ = _; unfold DS.append; rw [e]
  have hb : Hid (∀ u, Dsk u b S O f g pd am VB VL → _) := fun u hu => dsk_begin hu 1 (by omega) (by omega)
  have hm : Hid (∀ u, Dsk u b (S.beg 1) O f g pd am VB VL → Calls Tryz.prog 76 #[.pointer (some ⟨b, 0, none⟩)] u fun e w' => e = .returned (.int .i64 S.room) ∧ Below u.heap.size u w') := fun u hu => by have := room_any hu (by have := (beg_rest S 1).2.2.2.2.2.1; omega); rw [beg_room] at this; exact this
  obtain ⟨hn1, hn2⟩ := apN_le h.ok D.length
  have hsz := apN_size h.ok hg D.length
  have hmin := apN_min h.ok D.length
  have hpart := apN_part h.ok D.length
  have hft := h.ok.flt
  have H := hide h
  have V := hide hv
  obtain ⟨av, cv, rfl, _, q3, q4, _⟩ := hv
  have q4' : cv ≤ 9223372036854775807 := by unfold maxLen at q4; omega
  have hpb : (S.beg 1).ps = S.ps := beg_ps S 1
  obtain ⟨t, ht⟩ : ∃ t, Hid (S.flt = t) := ⟨_, rfl⟩
  obtain ⟨n, hn⟩ : ∃ n, Hid (S.apN D.length = n) := ⟨_, rfl⟩
  obtain ⟨R, hRm⟩ : ∃ R, Hid (S.room = R) := ⟨_, rfl⟩
  rw [ht.out] at hb hft hmin hpart hR
  rw [hn.out] at hn1 hn2 hsz hmin hpart hR
  rw [hRm.out] at hm hmin hpart hn2
  unfold fv at hb
  obtain ⟨ta, tk, tp⟩ := t
  dsimp only at hb hft hmin hpart hR
  replace hmin := hide hmin
  replace hpart := hide hpart
  replace hft := hide hft
  replace hn2 := hide hn2
  clear h e hr h0 hg hpb
  go_enter Tryz.func16, Tryz.ntmps16
  go_upto_region 5 with (first
   | (go_at_call 75; refine hF.mono ?_; rintro e w1 ⟨rfl, B1⟩; replace B1 := hide B1; have D1 := hide (H.out.below B1.out))
   | (go_at_call 70; refine (hb.out _ D1.out).mono ?_; rintro e w2 ⟨rfl, D2, G2⟩; replace D2 := hide D2; replace G2 := hide G2))
  have B3 := hide ((Below.refl _ w2).alloc (Nat.le_refl _) (.cells #[.int .i64 ta, .int .i64 tk, .int .i64 tp] 118))
  have N3 := hide (heap_alloc_new w2 (.cells #[.int .i64 ta, .int .i64 tk, .int .i64 tp] 118))
  have D3 := hide (D2.out.below B3.out)
  generalize w2.alloc (.cells #[.int .i64 ta, .int .i64 tk, .int .i64 tp] 118) = w3 at *
  have V2 := hide (sl_but (Below.sl B1.out V.out) G2.out.but ho)
  have T3 := hide ((Sgo.of_below (O := O) B1.out).trans (G2.out.trans (Sgo.of_below B3.out)))
  have hlo : Hid (¬ O w2.heap.size ∧ b ≠ w2.heap.size) := ⟨fun c => Nat.lt_irrefl _ (D2.out.lt _ c), fun e => by have := D2.out.lt b (D2.out.ow b (.inl rfl)); omega⟩
  have i1 : (n : Int) ≤ (cv : Int) := by omega
  have i2 : (0 : Int) ≤ (n : Int) := by omega
  have hb8 := H.out.ok.by8
  have hww : IntKind.i64.wrap (S.c8 + (n : Int)) = S.c8 + (n : Int) := by rw [IntKind.wrap_i64]; omega
  have hb8' : Hid (0 ≤ S.c8 + (n : Int) ∧ S.c8 + (n : Int) ≤ 16777216 * (S.c7 + 1)) := by show _ ∧ _; omega
  have hsz' := hide hsz
  clear hF hb D1 V B1 G2 D2 hb8 hc hsz
  by_cases k0 : tk = 0
  ·subst k0
   have hmn := hmin.out rfl
   have i0 : ((0 : Int) != 0) = false := rfl
   go_upto_region 8 with (go_at_call 76; refine (hm.out _ D3.out).mono ?_; rintro e w4 ⟨rfl, B4⟩; replace B4 := hide B4; have N4 : Hid (w4.heap[w2.heap.size]? = some (.cells #[.int .i64 ta, .int .i64 0, .int .i64 tp] 118 (0, 0))) := (B4.out.block _ (heap_lt N3.out)).trans N3.out; obtain ⟨x0, x1, x2⟩ := cells3 N4.out; have D4 := hide (D3.out.below B4.out))
   clear x0 x1 x2
   replace hmn := hide hmn
   have H4 : Hid (FlAt w4 p (S.F p) (VB p) (VL p)) := D4.out.fs.at_ p hp
   obtain ⟨ab, cb, eb, _, _⟩ := H4.out.b.form
   have V4 : Hid (Sl w4 (.slice av n cv) (D.take n)) := sl_take (Below.sl B4.out (Below.sl B3.out V2.out)) hn1
   have KC : Hid (∀ q : World, q.heap[p]? = some (.cells #[VB p, VL p, .int .i64 ((S.F p).sp : Int)] TFl (0, 0)) → q.cell? ⟨p, 0, none⟩ = some (.slice ab (S.F p).by_.length cb)) := fun q hq => by rw [← eb]; exact (cells3 hq).1
   have KP : Hid (w4.drew.heap[p]? = some (.cells #[VB p, VL p, .int .i64 ((S.F p).sp : Int)] TFl (0, 0))) := H4.out.box
   have B5 : Hid (Below w4.heap.size w4 w4.drew) := (Below.refl _ _).drew
   replace eb := hide eb
   refine wp_region_T (fun q => q.heap[p]? = some (.cells #[VB p, VL p, .int .i64 ((S.F p).sp : Int)] TFl (0, 0))) 11 (by kernel_rfl) ?_
   generalize w4.drew = q at *
   refine Ix.tk 0 ⟨some 40, .move (.tmp 8), _, _, _, _⟩ (.pointer (some ⟨p, 0, none⟩)) [11] ?_ KP.out ?_
   ·intro wq hSw
    have y2 := KC.out wq hSw
    go_simp
   (try simp only [zzp, zzb, zzc])
   refine Ix.tk 1 ⟨some 41, .move (.tmp 8), _, _, _, _⟩ (.pointer (some ⟨p, 0, none⟩)) [11] ?_ KP.out ?_
   ·intro wq hSw
    have y2 := KC.out wq hSw
    go_simp
   (try simp only [zzp, zzb, zzc])
   refine Ix.tk 2 ⟨some 42, .nilCheck (.tmp 41), _, _, _, _⟩ (.pointer (some ⟨p, 0, none⟩)) [11] ?_ KP.out ?_
   ·intro wq hSw
    have y2 := KC.out wq hSw
    go_simp
   (try simp only [zzp, zzb, zzc])
   refine Ix.tk 3 ⟨some 43, .fieldAddr 124 (.tmp 42) 0, _, _, _, _⟩ (.pointer (some ⟨p, 0, none⟩)) [11] ?_ KP.out ?_
   ·intro wq hSw
    have y2 := KC.out wq hSw
    go_simp
   (try simp only [zzp, zzb, zzc])
   refine Ix.tk 4 ⟨some 44, .load 30 (.tmp 43), _, _, _, _⟩ (.slice ab (S.F p).by_.length cb) [11] ?_ KP.out ?_
   ·intro wq hSw
    have y2 := KC.out wq hSw
    go_simp
   (try simp only [zzp, zzb, zzc])
   refine Ix.tk 5 ⟨some 45, .move (.tmp 2), _, _, _, _⟩ (.slice av D.length cv) [11] ?_ KP.out ?_
   ·intro wq hSw
    have y2 := KC.out wq hSw
    go_simp
   (try simp only [zzp, zzb, zzc])
   refine Ix.tk 6 ⟨some 46, .move (.tmp 11), _, _, _, _⟩ (.int .i64 (n : Int)) [11] ?_ KP.out ?_
   ·intro wq hSw
    have y2 := KC.out wq hSw
    go_simp
   (try simp only [zzp, zzb, zzc])
   refine Ix.tk 7 ⟨some 47, .slice 30 (.tmp 45) none (some (.tmp 46)) none, _, _, _, _⟩ (.slice av n cv) [11] ?_ KP.out ?_
   ·intro wq hSw
    have y2 := KC.out wq hSw
    go_simp
   (try simp only [zzp, zzb, zzc])
   have Hq := hide (H4.out.below B5.out)
   obtain ⟨v5, w5, hr, O5, G5, A5⟩ := run_app (B := 0) Hq.out.b (V4.out.below4 B5.out) (by have := hsz'.out; rw [List.length_take]; omega) (Nat.zero_le _) 30
   rw [eb.out] at hr
   obtain ⟨K5, F5, U5, W5⟩ := Hq.out.app O5 G5 A5 (by have := hsz'.out; rw [List.length_take]; omega)
   replace K5 := hide K5
   replace F5 := hide F5
   replace U5 := hide U5
   replace W5 := hide W5
   obtain ⟨a5, c5, e5, _, _⟩ := O5.form
   clear O5 G5 A5
   rw [e5] at hr F5 U5 W5
   rw [List.length_append, List.length_take, Nat.min_eq_left hn1] at hr F5 U5 W5
   refine wpAnyT_one (i := 8) (o := ⟨some 48, .call { callee := .builtin .append, args := #[.tmp 44, .tmp 47], argTypes := #[30, 30] }, _, _, _, _⟩) (by kernel_rfl) rfl (fun K hK => ?_)
   refine step_app rfl (.tmp 44) (.tmp 47) rfl _ _ _ w5 (by simp [Act.eval]) (by simp [Act.eval]) hr ?_
   refine hK.out _ _ (fun _ => K5.out) ?_
   clear hK K hr
   (try simp only [zzp, zzb, zzc])
   refine Ix.tk 9 ⟨some 49, .nilCheck (.tmp 40), _, _, _, _⟩ (.pointer (some ⟨p, 0, none⟩)) [10,11] ?_ K5.out ?_
   ·intro wq hSw
    have y2 := KC.out wq hSw
    go_simp
   (try simp only [zzp, zzb, zzc])
   refine Ix.tk 10 ⟨some 50, .fieldAddr 124 (.tmp 49) 0, _, _, _, _⟩ (.pointer (some ⟨p, 0, none⟩)) [11] ?_ K5.out ?_
   ·intro wq hSw
    have y2 := KC.out wq hSw
    go_simp
   (try simp only [zzp, zzb, zzc])
   have d1 := (cells3 K5.out).1
   have d2 := (frozen3 K5.out).1
   refine wpAnyT_one (i := 11) (o := ⟨none, .store 30 (.tmp 50) (.tmp 48), _, _, _, _⟩) (by kernel_rfl) rfl (fun K hK => ?_)
   go_simp
   refine hK.out _ _ (vac (by kernel_rfl)) ?_
   clear hK K d1 d2 KC
   refine wpAnyT_done (by kernel_rfl) ?_ _
   have D5 := hide (D4.out.below B5.out)
   obtain ⟨O6, D6, G6⟩ := D5.out.one hp F5.out U5.out W5.out (by have := hsz'.out; simp only [apF, List.length_append, List.length_take]; omega)
   have zz : Hid (w2.heap.size < w4.heap.size) := heap_lt N4.out
   have T6 := hide (T3.out.trans ((Sgo.of_below B4.out).trans ((Sgo.of_below B5.out).trans G6)))
   have N6 : Hid ((w5.setCell ⟨p, 0, none⟩ (.slice a5 ((S.F p).by_.length + n) c5)).heap[w2.heap.size]? = some (.cells #[.int .i64 ta, .int .i64 0, .int .i64 tp] 118 (0, 0))) := G6.but.at ((B5.out.block _ zz.out).trans N4.out) hlo.out.1
   replace D6 := hide D6
   clear D5 K5 F5 U5 W5 G6 D4 V4 KP B5 H4 Hq T3
   generalize (w5.setCell ⟨p, 0, none⟩ (.slice a5 ((S.F p).by_.length + n) c5)) = w6 at *
   have y1 : w6.cell? ⟨b, 14, none⟩ = some (.int .i64 S.c8) := D6.out.dk.box.all.2
   have y2 : w6.frozen? ⟨b, 14, none⟩ = false := by have := D6.out.dk.cells; simp [World.frozen?, this]
   have D7 := hide (D6.out.c8 (S.c8 + (n : Int)) hb8'.out)
   have N7 : Hid ((w6.setCell ⟨b, 14, none⟩ (.int .i64 (S.c8 + (n : Int)))).heap[w2.heap.size]? = some (.cells #[.int .i64 ta, .int .i64 0, .int .i64 tp] 118 (0, 0))) := (But.of_grownBy (X := fun k => k = b) (grown_setCell w6 b 14 (.int .i64 (S.c8 + (n : Int)))) fun k e => by cases e; rfl).at N6.out (fun e => hlo.out.2 e.symm)
   obtain ⟨x0, x1, x2⟩ := cells3 N7.out
   have hSt := dsk_strike D7.out.1 (ta, 0, tp) (by have := hft.out; show (0 : Int) ≠ 4; omega)
   have T7 := hide (T6.out.trans D7.out.2)
   unfold fv at hSt
   dsimp only at hSt
   have hE : Hid ((({ ({ S.beg 1 with F := upd S.F p (apF (S.F p) (D.take n)) } : DS) with c8 := S.c8 + (n : Int) } : DS).str 0) = (S.append s D).1) := by
    show _ = _
    rw [hR.out]
    unfold DS.str
    split <;> rfl
   have hA1 : Hid ((n : Int) = (S.append s D).2.1) := by show _ = _; rw [hR.out]
   have hA2 : Hid ((if strF 0 ≠ 0 then strF 0 else if n < D.length then 21 else 0) = (S.append s D).2.2) := by show _ = _; rw [hR.out]
   obtain ⟨e0, he⟩ : ∃ e0, Hid (strF 0 = e0) := ⟨_, rfl⟩
   rw [he.out] at hSt hA2
   clear hR hm hmin hpart hmn D6 N6 T6 N4 B4 N3 B3 D3 V2
   by_cases s0 : e0 = 0
   ·subst s0
    by_cases c : n < D.length
    ·have c1 : (n : Int) < (D.length : Int) := by omega
     have hA3 : Hid ((21 : Int) = (S.append s D).2.2) := by show _ = _; rw [← hA2.out, if_neg (by simp), if_pos c]
     clear hA2
     go_wp2_with (go_at_call 69; refine hSt.mono ?_; rintro e w8 ⟨rfl, D8, G8⟩; replace D8 := hide D8; replace G8 := hide G8)
     go_ret2
     refine ⟨by rw [← hA1.out, ← hA3.out]; rfl, O6, ?_, T7.out.trans G8.out⟩
     rw [← hE.out]
     exact D8.out.e
    ·have c1 : ¬ (n : Int) < (D.length : Int) := by omega
     have hA3 : Hid ((0 : Int) = (S.append s D).2.2) := by show _ = _; rw [← hA2.out, if_neg (by simp), if_neg c]
     clear hA2
     go_wp2_with (go_at_call 69; refine hSt.mono ?_; rintro e w8 ⟨rfl, D8, G8⟩; replace D8 := hide D8; replace G8 := hide G8)
     go_ret2
     refine ⟨by rw [← hA1.out, ← hA3.out]; rfl, O6, ?_, T7.out.trans G8.out⟩
     rw [← hE.out]
     exact D8.out.e
   ·have s0' : (e0 != 0) = true := by simpa using s0
    have hA3 : Hid (e0 = (S.append s D).2.2) := by show _ = _; rw [← hA2.out, if_pos s0]
    clear hA2 s0
    go_wp2_with (go_at_call 69; refine hSt.mono ?_; rintro e w8 ⟨rfl, D8, G8⟩; replace D8 := hide D8; replace G8 := hide G8)
    go_ret2
    refine ⟨by rw [← hA1.out, ← hA3.out]; rfl, O6, ?_, T7.out.trans G8.out⟩
    rw [← hE.out]
    exact D8.out.e
  ·have k0' : (tk != 0) = true := by simpa using k0
   have hmn := hpart.out k0
   replace k0 := hide k0
   go_upto_region 8 with (go_at_call 76; refine (hm.out _ D3.out).mono ?_; rintro e w4 ⟨rfl, B4⟩; replace B4 := hide B4; have N4 : Hid (w4.heap[w2.heap.size]? = some (.cells #[.int .i64 ta, .int .i64 tk, .int .i64 tp] 118 (0, 0))) := (B4.out.block _ (heap_lt N3.out)).trans N3.out; obtain ⟨x0, x1, x2⟩ := cells3 N4.out; have D4 := hide (D3.out.below B4.out))
   clear x0 x1 x2
   replace hmn := hide hmn
   have H4 : Hid (FlAt w4 p (S.F p) (VB p) (VL p)) := D4.out.fs.at_ p hp
   obtain ⟨ab, cb, eb, _, _⟩ := H4.out.b.form
   have V4 : Hid (Sl w4 (.slice av n cv) (D.take n)) := sl_take (Below.sl B4.out (Below.sl B3.out V2.out)) hn1
   have KC : Hid (∀ q : World, q.heap[p]? = some (.cells #[VB p, VL p, .int .i64 ((S.F p).sp : Int)] TFl (0, 0)) → q.cell? ⟨p, 0, none⟩ = some (.slice ab (S.F p).by_.length cb)) := fun q hq => by rw [← eb]; exact (cells3 hq).1
   have KP : Hid (w4.drew.heap[p]? = some (.cells #[VB p, VL p, .int .i64 ((S.F p).sp : Int)] TFl (0, 0))) := H4.out.box
   have B5 : Hid (Below w4.heap.size w4 w4.drew) := (Below.refl _ _).drew
   replace eb := hide eb
   refine wp_region_T (fun q => q.heap[p]? = some (.cells #[VB p, VL p, .int .i64 ((S.F p).sp : Int)] TFl (0, 0))) 11 (by kernel_rfl) ?_
   generalize w4.drew = q at *
   refine Ix.tk 0 ⟨some 40, .move (.tmp 8), _, _, _, _⟩ (.pointer (some ⟨p, 0, none⟩)) [11] ?_ KP.out ?_
   ·intro wq hSw
    have y2 := KC.out wq hSw
    go_simp
   (try simp only [zzp, zzb, zzc])
   refine Ix.tk 1 ⟨some 41, .move (.tmp 8), _, _, _, _⟩ (.pointer (some ⟨p, 0, none⟩)) [11] ?_ KP.out ?_
   ·intro wq hSw
    have y2 := KC.out wq hSw
    go_simp
   (try simp only [zzp, zzb, zzc])
   refine Ix.tk 2 ⟨some 42, .nilCheck (.tmp 41), _, _, _, _⟩ (.pointer (some ⟨p, 0, none⟩)) [11] ?_ KP.out ?_
   ·intro wq hSw
    have y2 := KC.out wq hSw
    go_simp
   (try simp only [zzp, zzb, zzc])
   refine Ix.tk 3 ⟨some 43, .fieldAddr 124 (.tmp 42) 0, _, _, _, _⟩ (.pointer (some ⟨p, 0, none⟩)) [11] ?_ KP.out ?_
   ·intro wq hSw
    have y2 := KC.out wq hSw
    go_simp
   (try simp only [zzp, zzb, zzc])
   refine Ix.tk 4 ⟨some 44, .load 30 (.tmp 43), _, _, _, _⟩ (.slice ab (S.F p).by_.length cb) [11] ?_ KP.out ?_
   ·intro wq hSw
    have y2 := KC.out wq hSw
    go_simp
   (try simp only [zzp, zzb, zzc])
   refine Ix.tk 5 ⟨some 45, .move (.tmp 2), _, _, _, _⟩ (.slice av D.length cv) [11] ?_ KP.out ?_
   ·intro wq hSw
    have y2 := KC.out wq hSw
    go_simp
   (try simp only [zzp, zzb, zzc])
   refine Ix.tk 6 ⟨some 46, .move (.tmp 11), _, _, _, _⟩ (.int .i64 (n : Int)) [11] ?_ KP.out ?_
   ·intro wq hSw
    have y2 := KC.out wq hSw
    go_simp
   (try simp only [zzp, zzb, zzc])
   refine Ix.tk 7 ⟨some 47, .slice 30 (.tmp 45) none (some (.tmp 46)) none, _, _, _, _⟩ (.slice av n cv) [11] ?_ KP.out ?_
   ·intro wq hSw
    have y2 := KC.out wq hSw
    go_simp
   (try simp only [zzp, zzb, zzc])
   have Hq := hide (H4.out.below B5.out)
   obtain ⟨v5, w5, hr, O5, G5, A5⟩ := run_app (B := 0) Hq.out.b (V4.out.below4 B5.out) (by have := hsz'.out; rw [List.length_take]; omega) (Nat.zero_le _) 30
   rw [eb.out] at hr
   obtain ⟨K5, F5, U5, W5⟩ := Hq.out.app O5 G5 A5 (by have := hsz'.out; rw [List.length_take]; omega)
   replace K5 := hide K5
   replace F5 := hide F5
   replace U5 := hide U5
   replace W5 := hide W5
   obtain ⟨a5, c5, e5, _, _⟩ := O5.form
   clear O5 G5 A5
   rw [e5] at hr F5 U5 W5
   rw [List.length_append, List.length_take, Nat.min_eq_left hn1] at hr F5 U5 W5
   refine wpAnyT_one (i := 8) (o := ⟨some 48, .call { callee := .builtin .append, args := #[.tmp 44, .tmp 47], argTypes := #[30, 30] }, _, _, _, _⟩) (by kernel_rfl) rfl (fun K hK => ?_)
   refine step_app rfl (.tmp 44) (.tmp 47) rfl _ _ _ w5 (by simp [Act.eval]) (by simp [Act.eval]) hr ?_
   refine hK.out _ _ (fun _ => K5.out) ?_
   clear hK K hr
   (try simp only [zzp, zzb, zzc])
   refine Ix.tk 9 ⟨some 49, .nilCheck (.tmp 40), _, _, _, _⟩ (.pointer (some ⟨p, 0, none⟩)) [10,11] ?_ K5.out ?_
   ·intro wq hSw
    have y2 := KC.out wq hSw
    go_simp
   (try simp only [zzp, zzb, zzc])
   refine Ix.tk 10 ⟨some 50, .fieldAddr 124 (.tmp 49) 0, _, _, _, _⟩ (.pointer (some ⟨p, 0, none⟩)) [11] ?_ K5.out ?_
   ·intro wq hSw
    have y2 := KC.out wq hSw
    go_simp
   (try simp only [zzp, zzb, zzc])
   have d1 := (cells3 K5.out).1
   have d2 := (frozen3 K5.out).1
   refine wpAnyT_one (i := 11) (o := ⟨none, .store 30 (.tmp 50) (.tmp 48), _, _, _, _⟩) (by kernel_rfl) rfl (fun K hK => ?_)
   go_simp
   refine hK.out _ _ (vac (by kernel_rfl)) ?_
   clear hK K d1 d2 KC
   refine wpAnyT_done (by kernel_rfl) ?_ _
   have D5 := hide (D4.out.below B5.out)
   obtain ⟨O6, D6, G6⟩ := D5.out.one hp F5.out U5.out W5.out (by have := hsz'.out; simp only [apF, List.length_append, List.length_take]; omega)
   have zz : Hid (w2.heap.size < w4.heap.size) := heap_lt N4.out
   have T6 := hide (T3.out.trans ((Sgo.of_below B4.out).trans ((Sgo.of_below B5.out).trans G6)))
   have N6 : Hid ((w5.setCell ⟨p, 0, none⟩ (.slice a5 ((S.F p).by_.length + n) c5)).heap[w2.heap.size]? = some (.cells #[.int .i64 ta, .int .i64 tk, .int .i64 tp] 118 (0, 0))) := G6.but.at ((B5.out.block _ zz.out).trans N4.out) hlo.out.1
   replace D6 := hide D6
   clear D5 K5 F5 U5 W5 G6 D4 V4 KP B5 H4 Hq T3
   generalize (w5.setCell ⟨p, 0, none⟩ (.slice a5 ((S.F p).by_.length + n) c5)) = w6 at *
   have y1 : w6.cell? ⟨b, 14, none⟩ = some (.int .i64 S.c8) := D6.out.dk.box.all.2
   have y2 : w6.frozen? ⟨b, 14, none⟩ = false := by have := D6.out.dk.cells; simp [World.frozen?, this]
   have D7 := hide (D6.out.c8 (S.c8 + (n : Int)) hb8'.out)
   have N7 : Hid ((w6.setCell ⟨b, 14, none⟩ (.int .i64 (S.c8 + (n : Int)))).heap[w2.heap.size]? = some (.cells #[.int .i64 ta, .int .i64 tk, .int .i64 tp] 118 (0, 0))) := (But.of_grownBy (X := fun k => k = b) (grown_setCell w6 b 14 (.int .i64 (S.c8 + (n : Int)))) fun k e => by cases e; rfl).at N6.out (fun e => hlo.out.2 e.symm)
   obtain ⟨x0, x1, x2⟩ := cells3 N7.out
   have hSt := dsk_strike D7.out.1 (ta, tk, tp) (by have := hft.out; show (tk : Int) ≠ 4; omega)
   have T7 := hide (T6.out.trans D7.out.2)
   unfold fv at hSt
   dsimp only at hSt
   have hE : Hid ((({ ({ S.beg 1 with F := upd S.F p (apF (S.F p) (D.take n)) } : DS) with c8 := S.c8 + (n : Int) } : DS).str tk) = (S.append s D).1) := by
    show _ = _
    rw [hR.out]
    unfold DS.str
    split <;> rfl
   have hA1 : Hid ((n : Int) = (S.append s D).2.1) := by show _ = _; rw [hR.out]
   have hA2 : Hid ((if strF tk ≠ 0 then strF tk else if n < D.length then 21 else 0) = (S.append s D).2.2) := by show _ = _; rw [hR.out]
   obtain ⟨e0, he⟩ : ∃ e0, Hid (strF tk = e0) := ⟨_, rfl⟩
   rw [he.out] at hSt hA2
   clear hR hm hmin hpart hmn D6 N6 T6 N4 B4 N3 B3 D3 V2
   by_cases s0 : e0 = 0
   ·subst s0
    by_cases c : n < D.length
    ·have c1 : (n : Int) < (D.length : Int) := by omega
     have hA3 : Hid ((21 : Int) = (S.append s D).2.2) := by show _ = _; rw [← hA2.out, if_neg (by simp), if_pos c]
     clear hA2
     go_wp2_with (go_at_call 69; refine hSt.mono ?_; rintro e w8 ⟨rfl, D8, G8⟩; replace D8 := hide D8; replace G8 := hide G8)
     go_ret2
     refine ⟨by rw [← hA1.out, ← hA3.out]; rfl, O6, ?_, T7.out.trans G8.out⟩
     rw [← hE.out]
     exact D8.out.e
    ·have c1 : ¬ (n : Int) < (D.length : Int) := by omega
     have hA3 : Hid ((0 : Int) = (S.append s D).2.2) := by show _ = _; rw [← hA2.out, if_neg (by simp), if_neg c]
     clear hA2
     go_wp2_with (go_at_call 69; refine hSt.mono ?_; rintro e w8 ⟨rfl, D8, G8⟩; replace D8 := hide D8; replace G8 := hide G8)
     go_ret2
     refine ⟨by rw [← hA1.out, ← hA3.out]; rfl, O6, ?_, T7.out.trans G8.out⟩
     rw [← hE.out]
     exact D8.out.e
   ·have s0' : (e0 != 0) = true := by simpa using s0
    have hA3 : Hid (e0 = (S.append s D).2.2) := by show _ = _; rw [← hA2.out, if_pos s0]
    clear hA2 s0
    go_wp2_with (go_at_call 69; refine hSt.mono ?_; rintro e w8 ⟨rfl, D8, G8⟩; replace D8 := hide D8; replace G8 := hide G8)
    go_ret2
    refine ⟨by rw [← hA1.out, ← hA3.out]; rfl, O6, ?_, T7.out.trans G8.out⟩
    rw [← hE.out]
    exact D8.out.e
 ·have hR : Hid (S.append s D = (S, 0, (S.find s).2)) := by
    show _ = _
    have q := find_no h0
    unfold DS.append
    cases hq : S.find s with
    | mk a c => rw [hq] at q; dsimp only at q; subst q; rfl
  rw [hR.out]
  have q := find_no h0
  rw [q] at hF
  simp only [Option.map_none] at hF
  generalize (S.find s).2 = r at *
  have h0' : (r != 0) = true := by simpa using h0
  obtain ⟨av, cv, rfl, _, q3, q4, _⟩ := hv
  have H := hide h
  clear h h0 q hR
  go_enter Tryz.func16, Tryz.ntmps16
  go_wp2_with (go_at_call 75; refine hF.mono ?_; rintro e w1 ⟨rfl, B1⟩; replace B1 := hide B1)
  go_ret2
  exact ⟨rfl, O, (H.out.below B1.out).e, Sgo.of_below B1.out⟩
end Go.Proofs.YtjehpijjneghpaaGreat.Dk
namespace Go.Proofs.YtjehpijjneghpaaGreat.Dk
open Go.RowKit Go.Maps Go.Sort Go.Shelf Go.Proofs.YtjehpijjneghpaaGreat.Nm
theorem Mp.klen {w : World} {b : Nat} {l : Dr} (h : Mp w b l) {e : List UInt8 × Nat} (he : e ∈ l) : e.1.length ≤ maxLen := by
 obtain ⟨es, clock, _, F, _, hD⟩ := h
 have e2 : l.map dent = (es.toList.map (Go.WideElems.rg Tryz.prog TS ptrR)).foldr DataW.insert [] := by
  have : DataW.map (l.map dent) = DataW.map _ := hD
  simpa using this
 have hm : dent e ∈ l.map dent := List.mem_map.2 ⟨e, he, rfl⟩
 rw [e2] at hm
 obtain ⟨x, hx, hr⟩ := List.mem_map.1 (mem_sorted.1 hm)
 obtain ⟨y, hy⟩ := F.reads x hx
 rw [Go.WideElems.rg_of hy] at hr
 have hk := Go.WideElems.rd_key hy
 rw [hr] at hk
 obtain ⟨s, hs⟩ := keyOf_str_inv hk
 rw [hs] at hk
 obtain ⟨e3, e4⟩ := keyOf_str_lit hk
 have e5 : e.1 = s.data.toList := by
  have : Lit.string e.1 = .string s.data.toList := e3
  simpa using this
 rw [e5]
 exact e4
def bsOf (n : List UInt8) : ByteArray := ⟨n.toArray⟩
theorem bsOf_list (n : List UInt8) : (bsOf n).data.toList = n := rfl
theorem nms_mem {l : Dr} {n : List UInt8} : n ∈ nms l ↔ ∃ p, (n, p) ∈ l := by
 unfold nms
 rw [List.mem_mergeSort, List.mem_map]
 constructor
 ·rintro ⟨e, he, rfl⟩
  exact ⟨e.2, he⟩
 ·rintro ⟨p, hp⟩
  exact ⟨_, hp, rfl⟩
theorem nms_get {l : Dr} {n : List UInt8} (h : n ∈ nms l) : ∃ p, get l n = some p := by
 obtain ⟨p, hp⟩ := nms_mem.1 h
 unfold get
 have : (l.find? fun p => p.1 == n).isSome = true := by rw [List.find?_isSome]; exact ⟨_, hp, by simp⟩
 obtain ⟨e, he⟩ := Option.isSome_iff_exists.1 this
 exact ⟨e.2, by rw [he]; rfl⟩
theorem Mp.nlen {w : World} {b : Nat} {l : Dr} (h : Mp w b l) {n : List UInt8} (hn : n ∈ nms l) : (bsOf n).size ≤ maxLen := by
 obtain ⟨p, hp⟩ := nms_mem.1 hn
 exact h.klen hp
theorem row_of_owns {w : World} {B : Nat} {T : TypeId} {v : Value} {n : Nat} {xs : List Value} (h : w.ownsRow B T 1 v n xs) (hx : xs.length = n) : Row w v xs := by
 have h0 := h
 rcases h.2 with ⟨rfl, e⟩ | ⟨g, cap, cur, rfl, hg, hh, a, b, c⟩
 ·have : xs = [] := List.length_eq_zero_iff.1 (by omega)
  subst this
  exact Row.nil w
 ·refine ⟨some ⟨g, 0, none⟩, cap, by rw [hx], fun e => by simp at e, by omega, b, fun i hi => ?_⟩
  have q := World.ownsRow.cells h0 (g := g) rfl i _ (List.getElem?_eq_getElem hi)
  exact ⟨g, 0, rfl, by rw [addr_add] at q; exact q⟩
abbrev Tls := List (List UInt8 × Nat)
def tcells (L : Tls) : List Value := (L.map fun e => [encStr e.1, Value.int .i64 (e.2 : Int)]).flatten
theorem tcells_snoc (L : Tls) (e : List UInt8 × Nat) : tcells (L ++ [e]) = tcells L ++ [encStr e.1, .int .i64 (e.2 : Int)] := by simp [tcells]
theorem tcells_len (L : Tls) : (tcells L).length = L.length * 2 := by
 induction L with
 | nil => rfl
 | cons e r ih =>
  have : tcells (e :: r) = [encStr e.1, .int .i64 (e.2 : Int)] ++ tcells r := by simp [tcells]
  rw [this, List.length_append, ih, List.length_cons]
  simp
  omega
def Tl (B : Nat) (w : World) (v : Value) (L : Tls) : Prop := w.ownsRow B 68 2 v L.length (tcells L)
theorem Tl.nil (B : Nat) (w : World) : Tl B w (.slice none 0 0) [] := World.ownsRow_nil _ _ _ _
def tlOf (F : Nat → Fl) (l : Dr) (n : List UInt8) : Nat := match get l n with | some p => (F p).by_.length - (F p).la.length | none => 0
def DS.front (S : DS) (n : Int) : Dr := runs S.l2 (S.P.take (wthn n S.P.length))
def DS.tails (S : DS) (n : Int) : Tls := (nms (S.front n)).map fun s => (s, tlOf S.F (S.front n) s)
theorem infoTl : (Tryz.prog.info? 68).map (fun i => (i.zero, i.size, i.bytes)) = some (some (.agg #[.string ⟨#[]⟩, .int .i64 0]), 2, 24) := by kernel_rfl
theorem two_new {w : World} {g : Nat} {a b : Value} {T : TypeId} {z : Nat × Nat} (h : w.heap[g]? = some (.cells #[a, b] T z)) : ∀ j u, [a, b][j]? = some u → w.cell? ((⟨g, 0, none⟩ : Addr).add j) = some u := by
 intro j u hu
 rw [addr_add]
 unfold World.cell?
 match j with
 | 0 => simp at hu; simp [h, hu]
 | 1 => simp at hu; simp [h, hu]
 | j + 2 => simp at hu
theorem dsk_directory {w : World} {b : Nat} {S : DS} {O : Nat → Prop} {f g : Nat} {pd : Value} {am : Option Nat} {VB VL : Nat → Value} (h : Dsk w b S O f g pd am VB VL) (hc : S.c7 < 1000000000) (n : Int) (n0 : -9223372036854775808 ≤ n) (n1 : n ≤ 9223372036854775807) :
    Calls Tryz.prog 80 #[.pointer (some ⟨b, 0, none⟩), .int .i64 n] w fun e w' => e = .returned (.map (some w.heap.size)) ∧ Mp w' w.heap.size (S.front n) ∧ Below w.heap.size w w' := by
 have hcn := h.ok.cnt
 exact directory_any w b g (dcells (S.dc f g pd am)) S.l2 S.P pd n h.dk.box rfl rfl h.dk.mg h.dk.pd.row h.dk.ok h.dk.can (by unfold maxLen; omega) n0 n1
theorem front_len {S : DS} (h : S.ok) (hc : S.c7 < 1000000000) (n : Int) : (S.front n).length ≤ 1000000000 := by
 have h1 := h.cnt
 have h2 := runs_len S.l2 (S.P.take (wthn n S.P.length))
 rw [List.length_take] at h2
 unfold DS.front
 omega
theorem mem_front {S : DS} {n : Int} {s : List UInt8} {p : Nat} (h : get (S.front n) s = some p) : p ∈ S.ps := DS.mem_front (List.mem_map.2 ⟨_, get_mem h, rfl⟩)
theorem tails_any {w : World} {b : Nat} {S : DS} {O : Nat → Prop} {f g : Nat} {pd : Value} {am : Option Nat} {VB VL : Nat → Value} (h : Dsk w b S O f g pd am VB VL) (hc : S.c7 < 1000000000) (n : Int) (n0 : -9223372036854775808 ≤ n) (n1 : n ≤ 9223372036854775807) :
    Calls Tryz.prog 27 #[.pointer (some ⟨b, 0, none⟩), .int .i64 n] w fun e w' => ∃ v, e = .returned v ∧ Tl w.heap.size w' v (S.tails n) ∧ Below w.heap.size w w' := by
 have hM := made_any w _ _ h.dk.dp
 rw [show madeD (some (S.dc f g pd am)) = true from rfl] at hM
 have hD := dsk_directory h hc n n0 n1
 have hlen := front_len h.ok hc n
 have H := hide h
 have hfl : Hid (∀ p s, get (S.front n) s = some p → p ∈ S.ps) := fun p s hp => mem_front hp
 have hE : Hid (S.tails n = (nms (S.front n)).map fun s => (s, tlOf S.F (S.front n) s)) := rfl
 rw [hE.out]
 generalize S.front n = l at *
 have hN := hide (nms_len l)
 have hmem : Hid (∀ k (hk : k < (nms l).length), ∃ p, get l (nms l)[k] = some p) := fun k hk => nms_get (List.getElem_mem hk)
 obtain ⟨i0, hi, hz0, hz1, hz2⟩ := info_parts infoTl
 replace hi := hide hi
 clear h hE
 go_enter Tryz.func27, Tryz.ntmps27
 go_wp2_with (first
  | (go_at_call 79; refine hM.mono ?_; rintro e w1 ⟨rfl, e1⟩; subst w1)
  | (go_at_call 80; refine hD.mono ?_; rintro e w1 ⟨rfl, M1, B1⟩; replace M1 := hide M1; replace B1 := hide B1)
  | (go_at_call 81; refine (names_any w.heap.size l w1 M1.out hlen).mono ?_; rintro e w2 ⟨v2, rfl, R2, _, B2⟩; have R3 := row_of_owns R2 (by simp); replace B2 := hide B2; obtain ⟨ao, ca, rfl, r2, r3, r4, r5⟩ := R3; rw [List.length_map] at *; replace r5 := hide r5; clear r2 R2))
 obtain ⟨N, hN2⟩ : ∃ N, Hid ((nms l).length = N) := ⟨_, rfl⟩
 rw [hN2.out] at r3 ⊢
 have Q2 : Hid (Tl w2.heap.size w2 (.slice none 0 0) (((nms l).take 0).map fun s => (s, tlOf S.F l s)) ∧ Below w2.heap.size w2 w2) := ⟨Tl.nil _ _, Below.refl _ _⟩
 have hN3 : N ≤ 1000000000 := by rw [← hN2.out, hN.out]; exact hlen
 have i4 : (ca : Int) ≤ 9223372036854775807 := by unfold maxLen at r4; omega
 have KW : Hid (∀ q, Below w2.heap.size w2 q → Below w1.heap.size w1 q ∧ Below w.heap.size w q) := fun q hq => ⟨B2.out.trans (hq.mono B2.out.size), B1.out.trans ((B2.out.trans (hq.mono B2.out.size)).mono B1.out.size)⟩
 clear hM hD hlen r4
 replace hN3 := hide hN3
 go_loopw [6, 18] (fun v6 i wr => ∃ k : Nat, i = .int .i64 k ∧ k ≤ N ∧ Hid (Tl w2.heap.size wr v6 (((nms l).take k).map fun s => (s, tlOf S.F l s)) ∧ Below w2.heap.size w2 wr)) (fun _ i _ => N - (intOf i).toNat)
 case atStart => exact ⟨0, rfl, Nat.zero_le _, Q2.out⟩
 case round =>
  obtain ⟨k, rfl, hk, hQ⟩ := hrel
  by_cases hlt : k < N
  ·have i1 : (k : Int) < (N : Int) := by omega
   have hkl : k < (nms l).length := by rw [hN2.out]; exact hlt
   obtain ⟨p, hp⟩ := hmem.out k hkl
   obtain ⟨gb, off, rfl, hcl⟩ := r5.out k (by rw [List.length_map]; exact hkl)
   have hcell : wr.cell? ⟨gb, off + k, none⟩ = some (.string (bsOf (nms l)[k])) := by
    rw [hQ.out.2.cell (p := ⟨gb, off + k, none⟩) (lt_of_cell hcl), hcl, List.getElem_map]; rfl
   have hB := KW.out wr hQ.out.2
   have Mr : Mp wr w.heap.size l := M1.out.heap (hB.1.block _ M1.out.lt)
   have hL := Mr.look (s := bsOf (nms l)[k]) (Mr.nlen (List.getElem_mem hkl)) hp
   have hT := tail_any wr p _ _ _ ((H.out.below hB.2).fs.at_ p (hfl.out p _ hp))
   have hTL : Hid (tlOf S.F l (nms l)[k] = (S.F p).by_.length - (S.F p).la.length) := by show _ = _; unfold tlOf; rw [hp]
   rw [← hTL.out] at hT
   have hsn : Hid (((nms l).take (k + 1)).map (fun s => (s, tlOf S.F l s)) = ((nms l).take k).map (fun s => (s, tlOf S.F l s)) ++ [((nms l)[k], tlOf S.F l (nms l)[k])]) := by show _ = _; rw [List.take_succ_eq_append_getElem hkl, List.map_append]; rfl
   unfold TM at hL
   have hLl : Hid ((((nms l).take k).map (fun s => (s, tlOf S.F l s))).length = k) := by show _ = _; rw [List.length_map, List.length_take]; omega
   have O6 := hide hQ.out.1
   have B6 := hide hQ.out.2
   clear hcl Mr hB hp hTL hQ
   generalize ((nms l).take k).map (fun s => (s, tlOf S.F l s)) = L at *
   generalize tlOf S.F l (nms l)[k] = tn at *
   generalize (nms l)[k] = s at *
   clear hkl
   go_wp2_with (first
    | (go_at_call 85; refine hT.mono ?_; rintro e w4 ⟨rfl, nq, e4⟩; have B4 : Hid (Below wr.heap.size wr w4) := (by rw [e4]; exact Qt.below ⟨nq, rfl⟩ _); have O4 : Hid (Tl w2.heap.size w4 u6 L) := (by rw [e4]; exact O6.out); clear e4 hL hT; have N5 := hide (heap_alloc_new w4 (.cells #[.string (bsOf s), .int .i64 (tn : Int)] 68)); have O5 : Hid (Tl w2.heap.size (w4.alloc (.cells #[.string (bsOf s), .int .i64 (tn : Int)] 68)) u6 L) := hide (World.ownsRow.alloc O4.out _))
    | (at_builtin; refine wpList_append_lies _ rfl (.tmp 22) (.tmp 29) 65 rfl w2.heap.size 68 i0 (.agg #[.string ⟨#[]⟩, .int .i64 0]) 2 24 Tryz.underlying65 hi.out hz0 hz1 hz2 rfl (by decide) u6 L.length (tcells L) rfl O5.out ⟨w4.heap.size, 0, none⟩ 1 1 [.string (bsOf s), .int .i64 (tn : Int)] rfl rfl (two_new N5.out) (by simp [Value.oneCell']) (by decide) (by have := hLl.out; have := hN3.out; unfold maxLen; omega) (by have := hLl.out; have := hN3.out; omega) (by have q1 := B6.out.size; have q2 := B4.out.size; simp; omega) (w4.heap.size + 1) (by simp) ?_; intro g2 cap2 w5 ho5 hg5 hat hlt5; replace ho5 := hide ho5; replace hg5 := hide hg5)
    | fail)
   go_roundw
   case rel =>
    refine ⟨k + 1, by go_num, by omega, ?_, ?_⟩
    ·rw [hsn.out]
     unfold Tl
     rw [List.length_append, tcells_snoc]
     exact ho5.out
    ·refine Below.grown (B6.out.trans ((B4.out.trans ((box_below w4 (.cells #[.string (bsOf s), .int .i64 (tn : Int)] 68)).mono B4.out.size)).mono B6.out.size)) hg5.out ?_ ?_
     ·have q1 := B6.out.size; have q2 := B4.out.size; simp; omega
     ·intro j hj
      exact (World.ownsRow.lt O4.out j hj).1
   case measure => simp [intOf]; omega
  ·obtain rfl : k = N := by omega
   rw [List.take_of_length_le (by rw [hN2.out]; omega)] at hQ
   go_wp2_with fail
   go_ret
   refine ⟨_, rfl, ownsRow_base_a hQ.out.1 (KW.out _ (Below.refl _ _)).2.size, (KW.out _ hQ.out.2).2⟩
end Go.Proofs.YtjehpijjneghpaaGreat.Dk
