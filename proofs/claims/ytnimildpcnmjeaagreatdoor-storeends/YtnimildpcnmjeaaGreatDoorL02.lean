/-
  Rename.
-/
import Derived.Test.YtnimildpcnmjeaaGreatDoorL01
import Derived.Laws.Strings
import Derived.Maps.Range
import Derived.Maps.RangeWalk
import Derived.Maps.Ext
import Derived.Deep.RegionHeld
import Derived.Laws.BytesArg
import Derived.Test.YtnimildpcnmjeaaGreatDoorProg
import Derived.Deep.Strs
import Derived.Deep.Slices
set_option maxRecDepth 100000
set_option maxHeartbeats 40000000
set_option linter.unusedVariables false
namespace Go.Proofs.YtnimildpcnmjeaaGreatDoor.Dk
open Go.RowKit Go.Maps Go.Proofs.YtnimildpcnmjeaaGreatDoor.Nm
theorem row2 (w : World) (s t : ByteArray) (T : TypeId) : Row (w.alloc (.cells #[.string s, .string t] T)) (.slice (some ⟨w.heap.size, 0, none⟩) 2 2) ([s, t].map Value.string) := by
 refine ⟨_, 2, rfl, fun e => by simp at e, Nat.le_refl _, by decide, fun i hi => ?_⟩
 have hi2 : i = 0 ∨ i = 1 := by simp at hi; omega
 refine ⟨_, _, rfl, ?_⟩
 rw [Nat.zero_add]
 unfold World.cell?
 simp only [heap_alloc_new]
 rcases hi2 with rfl | rfl <;> rfl
inductive Renamed (w w' : World) (b : Nat) (x : Dc) (f g : Nat) (l l2 : Dr) (P : List Ch) (al : Ar) (s t : ByteArray) : Int → Prop where
 | no (r : Int) (hr : refF (some x) [s, t] = r) (h0 : r ≠ 0) (hd : Dk w' b x f g l l2 P al) (st : Stp w w' b x x) : Renamed w w' b x f g l l2 P al s t r
 | none (r : Int) (hr : refF (some x) [s, t] = 0) (hf : (findF (some x) l s).2 = r) (h0 : r ≠ 0) (hd : Dk w' b x f g l l2 P al) (st : Stp w w' b x x) : Renamed w w' b x f g l l2 P al s t r
 | struck (e : Int) (hr : refF (some x) [s, t] = 0) (hf : (findF (some x) l s).2 = 0) (he : strR (nextF x al).2.1 = e) (h0 : e ≠ 0) (hd : Dk w' b (strX (nextF x al).2.1 (inc x 4)) f g l l2 P (adel al (x.c7 + 1))) (st : Stp w w' b x (strX (nextF x al).2.1 (inc x 4))) : Renamed w w' b x f g l l2 P al s t e
 | same (hr : refF (some x) [s, t] = 0) (hf : (findF (some x) l s).2 = 0) (he : strR (nextF x al).2.1 = 0) (hst : s = t) (hd : Dk w' b (strX (nextF x al).2.1 (inc x 4)) f g l l2 P (adel al (x.c7 + 1))) (st : Stp w w' b x (strX (nextF x al).2.1 (inc x 4))) : Renamed w w' b x f g l l2 P al s t 0
 | done (hr : refF (some x) [s, t] = 0) (hf : (findF (some x) l s).2 = 0) (he : strR (nextF x al).2.1 = 0) (hst : s ≠ t) (pd : Value)
     (hd : Dk w' b { strX (nextF x al).2.1 (inc x 4) with pd := pd } f g ((Ch.rn s t).run l) l2 (P ++ [.rn s t]) (adel al (x.c7 + 1))) (st : Stp w w' b x { strX (nextF x al).2.1 (inc x 4) with pd := pd }) : Renamed w w' b x f g l l2 P al s t 0
theorem find_isSome {x : Option Dc} {l : Dr} {s : ByteArray} (h : (findF x l s).2 = 0) : (get l s.data.toList).isSome = true := by
 revert h
 unfold findF
 split
 ·cases get l s.data.toList with
  | none => intro h; simp at h
  | some p => intro _; rfl
 ·rename_i h0
  intro h
  exact absurd h h0
theorem rename_any (w : World) (b : Nat) (x : Dc) (f g : Nat) (l l2 : Dr) (P : List Ch) (al : Ar) (s t : ByteArray) (hs : s.size ≤ 140737488355328) (ht0 : t.size ≤ 140737488355328) (h : Dk w b x f g l l2 P al) (hc : x.c7 < 4611686018427387904) (hk : (nextF x al).2.1 ≠ 4) (hP : P.length < 1000000000) (hl : l.length < 1000000000) :
    Calls Tryz.prog 127 #[.pointer (some ⟨b, 0, none⟩), .string s, .string t] w fun e w' => ∃ r, e = .returned (.int .i64 r) ∧ Renamed w w' b x f g l l2 P al s t r := by
 have hs2 : s.size ≤ maxLen := by unfold maxLen; omega
 have ht2 : t.size ≤ maxLen := by unfold maxLen; omega
 have hB := hide ((Below.refl _ w).alloc (Nat.le_refl _) (.cells #[.string s, .string t] 9))
 have H1 := hide (h.below hB.out)
 have hr := refuse_any (w.alloc (.cells #[.string s, .string t] 9)) _ _ (some x) [s, t] H1.out.dp (row2 w s t _) (by simp [hs2, ht2])
 have hF := H1.out.find s hs2
 obtain ⟨q, hQ⟩ : ∃ q, Hid (refF (some x) [s, t] = q) := ⟨_, rfl⟩
 rw [hQ.out] at hr
 obtain ⟨v, hv⟩ : ∃ v, Hid ((findF (some x) l s).1 = v) := ⟨_, rfl⟩
 obtain ⟨r, hR⟩ : ∃ r, Hid ((findF (some x) l s).2 = r) := ⟨_, rfl⟩
 rw [hv.out, hR.out] at hF
 generalize hw1 : w.alloc (.cells #[.string s, .string t] 9) = w1 at *
 replace hw1 := hide hw1
 have K1 := hide (Stp.of_below (b := b) (x := x) hB.out)
 by_cases q0 : q = 0
 ·subst q0
  by_cases r0 : r = 0
  ·subst r0
   have hb : Hid (∀ q, Dk q b x f g l l2 P al → _) := fun q hq => begin_any q b x f g l l2 P al 4 (by omega) hq hc
   rw [show (aget al (x.c7 + 1)).getD zf = nextF x al from rfl] at hb
   have hS : Hid (∀ u, Dk u b (inc x 4) f g l l2 P (adel al (x.c7 + 1)) → _) := fun u hu => dk_strikeR u b (inc x 4) f g l l2 P (adel al (x.c7 + 1)) (nextF x al) hu hk
   obtain ⟨tt, ht⟩ : ∃ tt, Hid (nextF x al = tt) := ⟨_, rfl⟩
   rw [ht.out] at hS hb hk
   obtain ⟨e0, he⟩ : ∃ e0, Hid (strR tt.2.1 = e0) := ⟨_, rfl⟩
   rw [he.out] at hS
   obtain ⟨y, hX⟩ : ∃ y, Hid (strX tt.2.1 (inc x 4) = y) := ⟨_, rfl⟩
   rw [hX.out] at hS
   by_cases s0 : e0 = 0
   ·subst s0
    have hC := hide clone_str
    have hcan : Hid ((Ch.rn s t).can l) := find_isSome hR.out
    have hT : Hid (∀ u, Dk u b y f g l l2 P (adel al (x.c7 + 1)) → _) := fun u hu => dk_change u b y f g l l2 P _ (.rn s t) hu ⟨hs2, ht2⟩ hcan.out (by unfold maxLen; omega) hP
    clear h hk
    by_cases st : s = t
    ·subst st
     go_enter Tryz.func127, Tryz.ntmps127
     go_wp2_with (first
      | (go_at_call 61; rw [hw1.out]; refine hr.mono ?_; rintro e w2 ⟨rfl, e1⟩; subst w2)
      | (go_at_call 89; refine hF.mono ?_; rintro e w2 ⟨rfl, B2⟩; replace B2 := hide B2; have D2 := hide (H1.out.below B2.out))
      | (go_at_call 64; refine (hb.out _ D2.out).mono ?_; rintro e w3 ⟨rfl, D3, B3⟩; replace D3 := hide D3; replace B3 := hide B3)
      | (go_at_call 63; refine (hS.out _ D3.out).mono ?_; rintro e w4 ⟨rfl, D4, B4⟩; replace D4 := hide D4; replace B4 := hide B4))
     go_ret
     have T4 : Stp w3 w4 b (inc x 4) y := by rw [← hX.out]; exact Stp.strX B4.out
     refine ⟨0, rfl, .same hQ.out hR.out (by rw [ht.out, he.out]) rfl ?_ ?_⟩
     ·rw [ht.out, hX.out]; exact D4.out
     ·rw [ht.out, hX.out]; exact ((K1.out.trans (Stp.of_below B2.out)).trans (Stp.inc B3.out)).trans T4
    ·have st' : (s.toList == t.toList) = false := by
       rw [ByteArray.toList_eq, ByteArray.toList_eq, beq_eq_false_iff_ne]
       intro e
       apply st
       cases s with
       | mk a => cases t with
        | mk c => simpa using e
     replace st := hide st
     go_enter Tryz.func127, Tryz.ntmps127
     go_wp2_with (first
      | (go_at_call 61; rw [hw1.out]; refine hr.mono ?_; rintro e w2 ⟨rfl, e1⟩; subst w2)
      | (go_at_call 89; refine hF.mono ?_; rintro e w2 ⟨rfl, B2⟩; replace B2 := hide B2; have D2 := hide (H1.out.below B2.out))
      | (go_at_call 64; refine (hb.out _ D2.out).mono ?_; rintro e w3 ⟨rfl, D3, B3⟩; replace D3 := hide D3; replace B3 := hide B3)
      | (go_at_call 63; refine (hS.out _ D3.out).mono ?_; rintro e w4 ⟨rfl, D4, B4⟩; replace D4 := hide D4; replace B4 := hide B4)
      | (go_at_call 114; refine (hC.out s w4 (by omega)).mono ?_; rintro e w5 ⟨rfl, B5⟩; replace B5 := hide B5)
      | (go_at_call 114; refine (hC.out t w5 (by omega)).mono ?_; rintro e w6 ⟨rfl, B6⟩; replace B6 : Hid (Below w4.heap.size w4 w6) := B5.out.trans (B6.mono B5.out.size); have D6 := hide (D4.out.below B6.out))
      | (go_at_call 113; refine (hT.out _ D6.out).mono ?_; rintro e w7 ⟨rfl, pd, D7, B7, O7⟩; replace D7 := hide D7; replace B7 := hide B7; replace O7 := hide O7))
     go_ret
     have T4 : Stp w3 w4 b (inc x 4) y := by rw [← hX.out]; exact Stp.strX B4.out
     refine ⟨0, rfl, .done hQ.out hR.out (by rw [ht.out, he.out]) st.out pd ?_ ?_⟩
     ·rw [ht.out, hX.out]; exact D7.out
     ·rw [ht.out, hX.out]; exact ((((K1.out.trans (Stp.of_below B2.out)).trans (Stp.inc B3.out)).trans T4).trans (Stp.of_below B6.out)).trans (Stp.change B7.out O7.out)
   ·have s0' : (e0 != 0) = true := by simpa using s0
    replace s0 := hide s0
    clear h hk
    go_enter Tryz.func127, Tryz.ntmps127
    go_wp2_with (first
     | (go_at_call 61; rw [hw1.out]; refine hr.mono ?_; rintro e w2 ⟨rfl, e1⟩; subst w2)
     | (go_at_call 89; refine hF.mono ?_; rintro e w2 ⟨rfl, B2⟩; replace B2 := hide B2; have D2 := hide (H1.out.below B2.out))
     | (go_at_call 64; refine (hb.out _ D2.out).mono ?_; rintro e w3 ⟨rfl, D3, B3⟩; replace D3 := hide D3; replace B3 := hide B3)
     | (go_at_call 63; refine (hS.out _ D3.out).mono ?_; rintro e w4 ⟨rfl, D4, B4⟩; replace D4 := hide D4; replace B4 := hide B4))
    go_ret
    have T4 : Stp w3 w4 b (inc x 4) y := by rw [← hX.out]; exact Stp.strX B4.out
    refine ⟨e0, rfl, .struck e0 hQ.out hR.out (by rw [ht.out, he.out]) s0.out ?_ ?_⟩
    ·rw [ht.out, hX.out]; exact D4.out
    ·rw [ht.out, hX.out]; exact ((K1.out.trans (Stp.of_below B2.out)).trans (Stp.inc B3.out)).trans T4
  ·have r0' : (r != 0) = true := by simpa using r0
   replace r0 := hide r0
   clear h hk
   go_enter Tryz.func127, Tryz.ntmps127
   go_wp2_with (first
    | (go_at_call 61; rw [hw1.out]; refine hr.mono ?_; rintro e w2 ⟨rfl, e1⟩; subst w2)
    | (go_at_call 89; refine hF.mono ?_; rintro e w2 ⟨rfl, B2⟩; replace B2 := hide B2))
   go_ret
   exact ⟨r, rfl, .none r hQ.out hR.out r0.out (H1.out.below B2.out) (K1.out.trans (Stp.of_below B2.out))⟩
 ·have q0' : (q != 0) = true := by simpa using q0
  replace q0 := hide q0
  clear h hk hF
  go_enter Tryz.func127, Tryz.ntmps127
  go_wp2_with (go_at_call 61; rw [hw1.out]; refine hr.mono ?_; rintro e w2 ⟨rfl, e1⟩; subst w2)
  go_ret
  exact ⟨q, rfl, .no q hQ.out q0.out H1.out K1.out⟩
structure DS where
 most : Int
 up : Bool
 l2 : Dr
 P : List Ch
 al : Ar
 c0 : Int
 c1 : Int
 c2 : Int
 c3 : Int
 c4 : Int
 c5 : Int
 c6 : Int
 c7 : Int
 c8 : Int
 F : Nat → Fl
def DS.dc (S : DS) (f g : Nat) (pd : Value) (am : Option Nat) : Dc := ⟨S.most, S.up, some f, some g, pd, am, S.c0, S.c1, S.c2, S.c3, S.c4, S.c5, S.c6, S.c7, S.c8⟩
def DS.dir (S : DS) : Dr := runs S.l2 S.P
def Ch.ptr : Ch → Option Nat
 | .cr _ p => some p
 | _ => none
def DS.ps (S : DS) : List Nat := S.l2.map (·.2) ++ S.P.filterMap Ch.ptr
structure DS.ok (S : DS) : Prop where
 most : 0 ≤ S.most ∧ S.most ≤ 16777216
 sz : ∀ p ∈ S.ps, (S.F p).by_.length ≤ 16777216
 cnt : ((S.l2.length + S.P.length : Nat) : Int) ≤ S.c7
 calm : ∀ e ∈ S.al, (1 ≤ e.2.2.1 ∧ e.2.2.1 ≤ 3) ∧ 0 ≤ e.2.2.2
 by8 : 0 ≤ S.c8 ∧ S.c8 ≤ 16777216 * S.c7
structure Fs (w : World) (Ow : Nat → Prop) (ps : List Nat) (F : Nat → Fl) (VB VL : Nat → Value) : Prop where
 at_ : ∀ p ∈ ps, FlAt w p (F p) (VB p) (VL p)
 ap : ∀ p ∈ ps, ∀ q ∈ ps, p ≠ q → ∀ k, FOwn p (VB p) (VL p) k → ¬ FOwn q (VB q) (VL q) k
 no : ∀ p ∈ ps, ∀ k, FOwn p (VB p) (VL p) k → ¬ Ow k
structure Sgo (w w' : World) (O O' : Nat → Prop) : Prop where
 but : But O w w'
 own : ∀ k, O' k → O k ∨ w.heap.size ≤ k
theorem Sgo.refl (w : World) (O : Nat → Prop) : Sgo w w O O := ⟨But.of_below (Below.refl _ _) _, fun _ h => .inl h⟩
theorem Sgo.of_below {w w' : World} {O : Nat → Prop} (h : Below w.heap.size w w') : Sgo w w' O O := ⟨But.of_below h _, fun _ q => .inl q⟩
theorem Sgo.trans {w u w' : World} {O O1 O2 : Nat → Prop} (h : Sgo w u O O1) (k : Sgo u w' O1 O2) : Sgo w w' O O2 := by
 refine ⟨⟨k.but.os.trans h.but.os, k.but.tape.trans h.but.tape, k.but.output.trans h.but.output, Nat.le_trans h.but.size k.but.size, fun i hi hx => ?_⟩, fun i hi => ?_⟩
 ·rw [k.but.block i (Nat.lt_of_lt_of_le hi h.but.size) (fun c => ?_)]
  ·exact h.but.block i hi hx
  ·rcases h.own i c with q | q
   ·exact hx q
   ·omega
 ·rcases k.own i hi with q | q
  ·exact h.own i q
  ·exact .inr (Nat.le_trans h.but.size q)
theorem Fs.but {X : Nat → Prop} {A B : World} {Ow : Nat → Prop} {ps : List Nat} {F : Nat → Fl} {VB VL : Nat → Value} (h : Fs A Ow ps F VB VL) (hb : But X A B) (hx : ∀ p ∈ ps, ∀ k, FOwn p (VB p) (VL p) k → ¬ X k) : Fs B Ow ps F VB VL :=
 ⟨fun p hp => (h.at_ p hp).but hb (hx p hp), h.ap, h.no⟩
theorem Fs.lt {w : World} {Ow : Nat → Prop} {ps : List Nat} {F : Nat → Fl} {VB VL : Nat → Value} (h : Fs w Ow ps F VB VL) {p : Nat} (hp : p ∈ ps) : ∀ k, FOwn p (VB p) (VL p) k → k < w.heap.size := (h.at_ p hp).lt
theorem Fs.stp {w w' : World} {b : Nat} {x x' : Dc} {ps : List Nat} {F : Nat → Fl} {VB VL : Nat → Value} (h : Fs w (Own b x) ps F VB VL) (st : Stp w w' b x x') : Fs w' (Own b x') ps F VB VL := by
 refine ⟨fun p hp => (h.at_ p hp).but st.but (h.no p hp), h.ap, fun p hp k hk c => ?_⟩
 rcases st.own k c with q | q
 ·exact h.no p hp k hk q
 ·have := h.lt hp k hk
  omega
theorem Fs.sub {w : World} {Ow : Nat → Prop} {ps qs : List Nat} {F : Nat → Fl} {VB VL : Nat → Value} (h : Fs w Ow ps F VB VL) (hs : ∀ q ∈ qs, q ∈ ps) : Fs w Ow qs F VB VL :=
 ⟨fun p hp => h.at_ p (hs p hp), fun p hp q hq => h.ap p (hs p hp) q (hs q hq), fun p hp => h.no p (hs p hp)⟩
def upd {α : Type} (F : Nat → α) (p : Nat) (t : α) : Nat → α := fun q => if q = p then t else F q
theorem upd_same {α : Type} (F : Nat → α) (p : Nat) (t : α) : upd F p t p = t := if_pos rfl
theorem upd_ne {α : Type} (F : Nat → α) {p q : Nat} (t : α) (h : q ≠ p) : upd F p t q = F q := if_neg h
theorem Fs.one {w w' : World} {Ow : Nat → Prop} {ps : List Nat} {F : Nat → Fl} {VB VL : Nat → Value} {p : Nat} {t : Fl} {vb vl : Value} (h : Fs w Ow ps F VB VL) (hp : p ∈ ps) (ht : FlAt w' p t vb vl) (hb : But (FOwn p (VB p) (VL p)) w w') (ho : ∀ k, FOwn p vb vl k → FOwn p (VB p) (VL p) k ∨ w.heap.size ≤ k)
    (hO : ∀ k, Ow k → k < w.heap.size) : Fs w' Ow ps (upd F p t) (upd VB p vb) (upd VL p vl) := by
 refine ⟨fun q hq => ?_, fun q hq r hr hne k hk c => ?_, fun q hq k hk c => ?_⟩
 ·by_cases e : q = p
  ·subst e; rw [upd_same, upd_same, upd_same]; exact ht
  ·rw [upd_ne _ _ e, upd_ne _ _ e, upd_ne _ _ e]; exact (h.at_ q hq).but hb (fun k hk c => h.ap q hq p hp e k hk c)
 ·by_cases e : q = p
  ·subst e
   rw [upd_same, upd_same] at hk
   rw [upd_ne _ _ (Ne.symm hne), upd_ne _ _ (Ne.symm hne)] at c
   rcases ho k hk with z | z
   ·exact h.ap q hq r hr hne k z c
   ·have := h.lt hr k c; omega
  ·rw [upd_ne _ _ e, upd_ne _ _ e] at hk
   by_cases e2 : r = p
   ·subst e2
    rw [upd_same, upd_same] at c
    rcases ho k c with z | z
    ·exact h.ap q hq r hr hne k hk z
    ·have := h.lt hq k hk; omega
   ·rw [upd_ne _ _ e2, upd_ne _ _ e2] at c
    exact h.ap q hq r hr hne k hk c
 ·by_cases e : q = p
  ·subst e
   rw [upd_same, upd_same] at hk
   rcases ho k hk with z | z
   ·exact h.no q hq k z c
   ·have := hO k c; omega
  ·rw [upd_ne _ _ e, upd_ne _ _ e] at hk
   exact h.no q hq k hk c
structure Dsk (w : World) (b : Nat) (S : DS) (O : Nat → Prop) (f g : Nat) (pd : Value) (am : Option Nat) (VB VL : Nat → Value) : Prop where
 dk : Dk w b (S.dc f g pd am) f g S.dir S.l2 S.P S.al
 fs : Fs w (Own b (S.dc f g pd am)) S.ps S.F VB VL
 ow : ∀ k, Own b (S.dc f g pd am) k → O k
 of : ∀ p ∈ S.ps, ∀ k, FOwn p (VB p) (VL p) k → O k
 lt : ∀ k, O k → k < w.heap.size
 ok : S.ok
def DskE (w : World) (b : Nat) (S : DS) (O : Nat → Prop) : Prop := ∃ f g pd am VB VL, Dsk w b S O f g pd am VB VL
theorem Dsk.but {X : Nat → Prop} {A B : World} {b : Nat} {S : DS} {O : Nat → Prop} {f g : Nat} {pd : Value} {am : Option Nat} {VB VL : Nat → Value} (h : Dsk A b S O f g pd am VB VL) (hb : But X A B) (hx : ∀ k, O k → ¬ X k) : Dsk B b S O f g pd am VB VL :=
 ⟨h.dk.but hb fun k hk => hx k (h.ow k hk), h.fs.but hb fun p hp k hk => hx k (h.of p hp k hk), h.ow, h.of, fun k hk => Nat.lt_of_lt_of_le (h.lt k hk) hb.size, h.ok⟩
theorem Dsk.below {A B : World} {b : Nat} {S : DS} {O : Nat → Prop} {f g : Nat} {pd : Value} {am : Option Nat} {VB VL : Nat → Value} (h : Dsk A b S O f g pd am VB VL) (hb : Below A.heap.size A B) : Dsk B b S O f g pd am VB VL := h.but (But.of_below hb fun _ => False) fun _ _ c => c
theorem DskE.but {X : Nat → Prop} {A B : World} {b : Nat} {S : DS} {O : Nat → Prop} (h : DskE A b S O) (hb : But X A B) (hx : ∀ k, O k → ¬ X k) : DskE B b S O := by
 obtain ⟨f, g, pd, am, VB, VL, h⟩ := h
 exact ⟨f, g, pd, am, VB, VL, h.but hb hx⟩
theorem DskE.below {A B : World} {b : Nat} {S : DS} {O : Nat → Prop} (h : DskE A b S O) (hb : Below A.heap.size A B) : DskE B b S O := h.but (But.of_below hb fun _ => False) fun _ _ c => c
theorem DskE.lt {w : World} {b : Nat} {S : DS} {O : Nat → Prop} (h : DskE w b S O) : ∀ k, O k → k < w.heap.size := by
 obtain ⟨f, g, pd, am, VB, VL, h⟩ := h
 exact h.lt
theorem ddel_mem {l : Dr} {n : List UInt8} {e : List UInt8 × Nat} (h : e ∈ ddel l n) : e ∈ l := (List.mem_filter.1 h).1
theorem dins_mem {x e : List UInt8 × Nat} {l : Dr} (h : e ∈ dins x l) : e = x ∨ e ∈ l := by
 induction l with
 | nil => simp [dins] at h; exact .inl h
 | cons y r ih =>
  unfold dins at h
  split at h
  ·rcases List.mem_cons.1 h with q | q
   ·exact .inl q
   ·exact .inr q
  ·rcases List.mem_cons.1 h with q | q
   ·exact .inr (by rw [q]; simp)
   ·rcases ih q with z | z
    ·exact .inl z
    ·exact .inr (by simp [z])
theorem dput_mem {l : Dr} {n : List UInt8} {p : Nat} {e : List UInt8 × Nat} (h : e ∈ dput l n p) : e = (n, p) ∨ e ∈ l := by
 rcases dins_mem h with q | q
 ·exact .inl q
 ·exact .inr (ddel_mem q)
theorem get_mem {l : Dr} {n : List UInt8} {p : Nat} (h : get l n = some p) : (n, p) ∈ l := by
 unfold get at h
 cases hf : l.find? fun e => e.1 == n with
 | none => rw [hf] at h; simp at h
 | some e =>
  rw [hf] at h
  simp at h
  have h1 := List.mem_of_find?_eq_some hf
  have h2 := List.find?_some hf
  have : e = (n, p) := by
   obtain ⟨a, c⟩ := e
   simp at h2 h
   rw [h2, h]
  rw [← this]
  exact h1
theorem run_mem {l : Dr} {c : Ch} {p : Nat} (h : p ∈ (c.run l).map (·.2)) : p ∈ l.map (·.2) ∨ c.ptr = some p := by
 rw [List.mem_map] at h
 obtain ⟨e, he, rfl⟩ := h
 cases c with
 | cr n p =>
  rcases dput_mem he with q | q
  ·rw [q]; exact .inr rfl
  ·exact .inl (List.mem_map.2 ⟨e, q, rfl⟩)
 | rm n => exact .inl (List.mem_map.2 ⟨e, ddel_mem he, rfl⟩)
 | rn f t =>
  left
  simp only [Ch.run] at he
  split at he
  ·rename_i p hp
   rcases dput_mem (ddel_mem he) with q | q
   ·rw [q]; exact List.mem_map.2 ⟨_, get_mem hp, rfl⟩
   ·exact List.mem_map.2 ⟨e, q, rfl⟩
  ·exact List.mem_map.2 ⟨e, he, rfl⟩
theorem runs_mem {l : Dr} : ∀ {P : List Ch} {p : Nat}, p ∈ (runs l P).map (·.2) → p ∈ l.map (·.2) ++ P.filterMap Ch.ptr := by
 intro P
 induction P generalizing l with
 | nil => intro p h; simpa [runs] using h
 | cons c r ih =>
  intro p h
  have := ih (l := c.run l) h
  rcases List.mem_append.1 this with q | q
  ·rcases run_mem q with z | z
   ·exact List.mem_append.2 (.inl z)
   ·exact List.mem_append.2 (.inr (List.mem_filterMap.2 ⟨c, by simp, z⟩))
  ·refine List.mem_append.2 (.inr ?_)
   rw [List.mem_filterMap] at q ⊢
   obtain ⟨d, hd, e⟩ := q
   exact ⟨d, by simp [hd], e⟩
theorem DS.mem_dir {S : DS} {n : List UInt8} {p : Nat} (h : get S.dir n = some p) : p ∈ S.ps := runs_mem (List.mem_map.2 ⟨_, get_mem h, rfl⟩)
theorem Dsk.one {w w' : World} {b : Nat} {S : DS} {O : Nat → Prop} {f g : Nat} {pd : Value} {am : Option Nat} {VB VL : Nat → Value} {p : Nat} {t : Fl} {vb vl : Value} (h : Dsk w b S O f g pd am VB VL) (hp : p ∈ S.ps) (ht : FlAt w' p t vb vl) (hb : But (FOwn p (VB p) (VL p)) w w') (ho : ∀ k, FOwn p vb vl k → FOwn p (VB p) (VL p) k ∨ w.heap.size ≤ k)
    (hz : t.by_.length ≤ 16777216) : ∃ O', Dsk w' b { S with F := upd S.F p t } O' f g pd am (upd VB p vb) (upd VL p vl) ∧ Sgo w w' O O' := by
 refine ⟨fun k => O k ∨ (w.heap.size ≤ k ∧ k < w'.heap.size), ⟨?_, ?_, fun k hk => .inl (h.ow k hk), ?_, ?_, ?_⟩, ⟨hb.mono fun k _ c => h.of p hp k c, fun k hk => ?_⟩⟩
 ·exact h.dk.but hb fun k hk c => h.fs.no p hp k c hk
 ·exact h.fs.one hp ht hb ho fun k hk => h.lt k (h.ow k hk)
 ·intro q hq k hk
  by_cases e : q = p
  ·subst e
   rw [upd_same, upd_same] at hk
   rcases ho k hk with z | z
   ·exact .inl (h.of q hp k z)
   ·exact .inr ⟨z, ht.lt k hk⟩
  ·rw [upd_ne _ _ e, upd_ne _ _ e] at hk
   exact .inl (h.of q hq k hk)
 ·rintro k (q | q)
  ·exact Nat.lt_of_lt_of_le (h.lt k q) hb.size
  ·exact q.2
 ·refine ⟨h.ok.most, fun q hq => ?_, h.ok.cnt, h.ok.calm, h.ok.by8⟩
  by_cases e : q = p
  ·subst e; show (upd S.F q t q).by_.length ≤ _; rw [upd_same]; exact hz
  ·show (upd S.F p t q).by_.length ≤ _; rw [upd_ne _ _ e]; exact h.ok.sz q hq
 ·rcases hk with q | q
  ·exact .inl q
  ·exact .inr q.1
def DS.beg (S : DS) : Nat → DS
 | 0 => { S with c0 := S.c0 + 1, c7 := S.c7 + 1, al := adel S.al (S.c7 + 1) }
 | 1 => { S with c1 := S.c1 + 1, c7 := S.c7 + 1, al := adel S.al (S.c7 + 1) }
 | 2 => { S with c2 := S.c2 + 1, c7 := S.c7 + 1, al := adel S.al (S.c7 + 1) }
 | 3 => { S with c3 := S.c3 + 1, c7 := S.c7 + 1, al := adel S.al (S.c7 + 1) }
 | 4 => { S with c4 := S.c4 + 1, c7 := S.c7 + 1, al := adel S.al (S.c7 + 1) }
 | 5 => { S with c5 := S.c5 + 1, c7 := S.c7 + 1, al := adel S.al (S.c7 + 1) }
 | _ => { S with c6 := S.c6 + 1, c7 := S.c7 + 1, al := adel S.al (S.c7 + 1) }
def DS.flt (S : DS) : Ft := (aget S.al (S.c7 + 1)).getD zf
def DS.str (S : DS) (k : Int) : DS := if k = 3 then { S with up := false } else S
theorem beg_dc (S : DS) (f g : Nat) (pd : Value) (am : Option Nat) (j : Nat) : inc (S.dc f g pd am) j = (S.beg j).dc f g pd am := by
 match j with
 | 0 => rfl
 | 1 => rfl
 | 2 => rfl
 | 3 => rfl
 | 4 => rfl
 | 5 => rfl
 | _ + 6 => rfl
theorem beg_rest (S : DS) (j : Nat) : (S.beg j).most = S.most ∧ (S.beg j).up = S.up ∧ (S.beg j).l2 = S.l2 ∧ (S.beg j).P = S.P ∧ (S.beg j).al = adel S.al (S.c7 + 1) ∧ (S.beg j).c7 = S.c7 + 1 ∧ (S.beg j).c8 = S.c8 ∧ (S.beg j).F = S.F := by
 unfold DS.beg
 split <;> exact ⟨rfl, rfl, rfl, rfl, rfl, rfl, rfl, rfl⟩
theorem str_dc (S : DS) (f g : Nat) (pd : Value) (am : Option Nat) (k : Int) : strX k (S.dc f g pd am) = (S.str k).dc f g pd am := by
 unfold strX DS.str
 split <;> rfl
theorem str_rest (S : DS) (k : Int) : (S.str k).most = S.most ∧ (S.str k).l2 = S.l2 ∧ (S.str k).P = S.P ∧ (S.str k).al = S.al ∧ (S.str k).c7 = S.c7 ∧ (S.str k).c8 = S.c8 ∧ (S.str k).F = S.F := by
 unfold DS.str
 split <;> exact ⟨rfl, rfl, rfl, rfl, rfl, rfl, rfl⟩
theorem DS.ok.calm_at {S : DS} (h : S.ok) (n : Int) : (0 ≤ ((aget S.al n).getD zf).2.1 ∧ ((aget S.al n).getD zf).2.1 ≤ 3) ∧ 0 ≤ ((aget S.al n).getD zf).2.2 := by
 unfold aget
 cases hf : S.al.find? fun p => p.1 == n with
 | none => simp [zf]
 | some e =>
  have := h.calm e (List.mem_of_find?_eq_some hf)
  simp
  omega
theorem DS.ok.flt {S : DS} (h : S.ok) : (0 ≤ S.flt.2.1 ∧ S.flt.2.1 ≤ 3) ∧ 0 ≤ S.flt.2.2 := h.calm_at _
theorem DS.ok.flt4 {S : DS} (h : S.ok) : S.flt.2.1 ≠ 4 := by have := h.flt; omega
theorem DS.ok.beg {S : DS} (h : S.ok) (j : Nat) : (S.beg j).ok := by
 obtain ⟨e1, e2, e3, e4, e5, e6, e7, e8⟩ := beg_rest S j
 have e9 : (S.beg j).ps = S.ps := by unfold DS.ps; rw [e3, e4]
 refine ⟨by rw [e1]; exact h.most, by rw [e9, e8]; exact h.sz, ?_, ?_, ?_⟩
 ·rw [e3, e4, e6]; have := h.cnt; omega
 ·rw [e5]; exact fun e he => h.calm e (List.mem_filter.1 he).1
 ·rw [e7, e6]; have := h.by8; omega
theorem DS.ok.str {S : DS} (h : S.ok) (k : Int) : (S.str k).ok := by
 obtain ⟨e1, e3, e4, e5, e6, e7, e8⟩ := str_rest S k
 have e9 : (S.str k).ps = S.ps := by unfold DS.ps; rw [e3, e4]
 exact ⟨by rw [e1]; exact h.most, by rw [e9, e8]; exact h.sz, by rw [e3, e4, e6]; exact h.cnt, by rw [e5]; exact h.calm, by rw [e7, e6]; exact h.by8⟩
theorem Dsk.turn {w w' : World} {b : Nat} {S T : DS} {O : Nat → Prop} {f g : Nat} {pd : Value} {am : Option Nat} {VB VL : Nat → Value} (h : Dsk w b S O f g pd am VB VL) (e3 : T.l2 = S.l2) (e4 : T.P = S.P) (e8 : T.F = S.F) (hok : T.ok) (hd : Dk w' b (T.dc f g pd am) f g S.dir S.l2 S.P T.al) (st : Stp w w' b (S.dc f g pd am) (T.dc f g pd am)) :
    Dsk w' b T O f g pd am VB VL ∧ Sgo w w' O O := by
 have e9 : T.ps = S.ps := by unfold DS.ps; rw [e3, e4]
 have e10 : T.dir = S.dir := by unfold DS.dir; rw [e3, e4]
 refine ⟨⟨by rw [e10, e3, e4]; exact hd, by rw [e9, e8]; exact h.fs.stp st, h.ow, by rw [e9]; exact h.of, fun k hk => Nat.lt_of_lt_of_le (h.lt k hk) st.but.size, hok⟩, ⟨st.but.mono fun k _ c => h.ow k c, fun k hk => .inl hk⟩⟩
theorem dsk_begin {w : World} {b : Nat} {S : DS} {O : Nat → Prop} {f g : Nat} {pd : Value} {am : Option Nat} {VB VL : Nat → Value} (h : Dsk w b S O f g pd am VB VL) (j : Nat) (hj : j < 7) (hc : S.c7 < 1000000000) :
    Calls Tryz.prog 64 #[.pointer (some ⟨b, 0, none⟩), .pointer (some ⟨b, 6 + j, none⟩)] w fun e w' => e = .returned (fv S.flt) ∧ Dsk w' b (S.beg j) O f g pd am VB VL ∧ Sgo w w' O O := by
 refine (begin_any w b (S.dc f g pd am) f g S.dir S.l2 S.P S.al j hj h.dk (by show S.c7 < _; omega)).mono ?_
 rintro e w' ⟨rfl, hd, hb⟩
 obtain ⟨e1, e2, e3, e4, e5, e6, e7, e8⟩ := beg_rest S j
 refine ⟨rfl, h.turn e3 e4 e8 (h.ok.beg j) (by rw [e5, ← beg_dc]; exact hd) ?_⟩
 rw [← beg_dc]
 exact Stp.inc hb
theorem dsk_strike {w : World} {b : Nat} {S : DS} {O : Nat → Prop} {f g : Nat} {pd : Value} {am : Option Nat} {VB VL : Nat → Value} (h : Dsk w b S O f g pd am VB VL) (t : Ft) (hk : t.2.1 ≠ 4) :
    Calls Tryz.prog 103 #[.pointer (some ⟨b, 0, none⟩), fv t] w fun e w' => e = .returned (.int .i64 (strF t.2.1)) ∧ Dsk w' b (S.str t.2.1) O f g pd am VB VL ∧ Sgo w w' O O := by
 refine (dk_strike w b _ f g S.dir S.l2 S.P S.al t h.dk hk).mono ?_
 rintro e w' ⟨rfl, hd, hb⟩
 obtain ⟨e1, e3, e4, e5, e6, e7, e8⟩ := str_rest S t.2.1
 refine ⟨rfl, h.turn e3 e4 e8 (h.ok.str _) (by rw [e5, ← str_dc]; exact hd) ?_⟩
 rw [← str_dc]
 exact Stp.strX hb
theorem dsk_strikeR {w : World} {b : Nat} {S : DS} {O : Nat → Prop} {f g : Nat} {pd : Value} {am : Option Nat} {VB VL : Nat → Value} (h : Dsk w b S O f g pd am VB VL) (t : Ft) (hk : t.2.1 ≠ 4) :
    Calls Tryz.prog 63 #[.pointer (some ⟨b, 0, none⟩), fv t] w fun e w' => e = .returned (.int .i64 (strR t.2.1)) ∧ Dsk w' b (S.str t.2.1) O f g pd am VB VL ∧ Sgo w w' O O := by
 refine (dk_strikeR w b _ f g S.dir S.l2 S.P S.al t h.dk hk).mono ?_
 rintro e w' ⟨rfl, hd, hb⟩
 obtain ⟨e1, e3, e4, e5, e6, e7, e8⟩ := str_rest S t.2.1
 refine ⟨rfl, h.turn e3 e4 e8 (h.ok.str _) (by rw [e5, ← str_dc]; exact hd) ?_⟩
 rw [← str_dc]
 exact Stp.strX hb
def DS.ref (S : DS) (L : List ByteArray) : Int := if S.up then (if L.all (fun s => may s.data.toList) then 0 else 24) else 22
theorem ref_dc (S : DS) (f g : Nat) (pd : Value) (am : Option Nat) (L : List ByteArray) : refF (some (S.dc f g pd am)) L = S.ref L := rfl
def DS.find (S : DS) (s : ByteArray) : Option Nat × Int :=
 if S.ref [s] = 0 then (match get S.dir s.data.toList with | some p => (some p, 0) | none => (none, 6)) else (none, S.ref [s])
theorem find_dc (S : DS) (f g : Nat) (pd : Value) (am : Option Nat) (s : ByteArray) : findF (some (S.dc f g pd am)) S.dir s = (.pointer ((S.find s).1.map fun p => ⟨p, 0, none⟩), (S.find s).2) := by
 unfold findF DS.find
 rw [ref_dc]
 split
 ·cases get S.dir s.data.toList <;> rfl
 ·rfl
theorem find_ok {S : DS} {s : ByteArray} (h : (S.find s).2 = 0) : ∃ p, S.find s = (some p, 0) ∧ get S.dir s.data.toList = some p ∧ S.ref [s] = 0 ∧ p ∈ S.ps := by
 unfold DS.find at h ⊢
 split at h
 ·rename_i h0
  rw [if_pos h0]
  cases hp : get S.dir s.data.toList with
  | some p => exact ⟨p, rfl, rfl, h0, DS.mem_dir hp⟩
  | none => rw [hp] at h; exact absurd h (by decide)
 ·rename_i h0
  exact absurd h h0
theorem find_no {S : DS} {s : ByteArray} (h : (S.find s).2 ≠ 0) : (S.find s).1 = none := by
 unfold DS.find at h ⊢
 split
 ·rename_i h0
  rw [if_pos h0] at h
  cases hp : get S.dir s.data.toList with
  | some p => rw [hp] at h; exact absurd rfl h
  | none => rfl
 ·rfl
theorem dsk_find {w : World} {b : Nat} {S : DS} {O : Nat → Prop} {f g : Nat} {pd : Value} {am : Option Nat} {VB VL : Nat → Value} (h : Dsk w b S O f g pd am VB VL) (s : ByteArray) (hs : s.size ≤ maxLen) :
    Calls Tryz.prog 89 #[.pointer (some ⟨b, 0, none⟩), .string s] w fun e w' => e = .returned (.tuple #[.pointer ((S.find s).1.map fun p => ⟨p, 0, none⟩), .int .i64 (S.find s).2]) ∧ Below w.heap.size w w' := by
 have := h.dk.find s hs
 rw [find_dc] at this
 exact this
def DS.create (S : DS) (s : ByteArray) (p : Nat) : DS × Int :=
 if S.ref [s] ≠ 0 then (S, S.ref [s])
 else if (get S.dir s.data.toList).isSome then (S, 7)
 else if 256 ≤ S.dir.length then (S, 9)
 else if strF S.flt.2.1 ≠ 0 then ((S.beg 0).str S.flt.2.1, strF S.flt.2.1)
 else ({ (S.beg 0).str S.flt.2.1 with P := S.P ++ [.cr s p], F := upd S.F p ⟨[], [], 0⟩ }, 0)
theorem beg_dir (S : DS) (j : Nat) : (S.beg j).dir = S.dir := by obtain ⟨e1, e2, e3, e4, e5, e6, e7, e8⟩ := beg_rest S j; unfold DS.dir; rw [e3, e4]
theorem beg_ps (S : DS) (j : Nat) : (S.beg j).ps = S.ps := by obtain ⟨e1, e2, e3, e4, e5, e6, e7, e8⟩ := beg_rest S j; unfold DS.ps; rw [e3, e4]
def DS.hit (S : DS) (j : Nat) : DS := (S.beg j).str S.flt.2.1
theorem hit_rest (S : DS) (j : Nat) : (S.hit j).most = S.most ∧ (S.hit j).l2 = S.l2 ∧ (S.hit j).P = S.P ∧ (S.hit j).al = adel S.al (S.c7 + 1) ∧ (S.hit j).c7 = S.c7 + 1 ∧ (S.hit j).c8 = S.c8 ∧ (S.hit j).F = S.F := by
 obtain ⟨a1, a2, a3, a4, a5, a6, a7, a8⟩ := beg_rest S j
 obtain ⟨e1, e3, e4, e5, e6, e7, e8⟩ := str_rest (S.beg j) S.flt.2.1
 exact ⟨e1.trans a1, e3.trans a3, e4.trans a4, e5.trans a5, e6.trans a6, e7.trans a7, e8.trans a8⟩
theorem hit_dc (S : DS) (f g : Nat) (pd : Value) (am : Option Nat) (j : Nat) : strX (nextF (S.dc f g pd am) S.al).2.1 (inc (S.dc f g pd am) j) = (S.hit j).dc f g pd am := by
 rw [beg_dc, str_dc]
 rfl
theorem Dsk.hit {w w' : World} {b : Nat} {S : DS} {O : Nat → Prop} {f g : Nat} {pd : Value} {am : Option Nat} {VB VL : Nat → Value} (h : Dsk w b S O f g pd am VB VL) (j : Nat) (hd : Dk w' b (strX (nextF (S.dc f g pd am) S.al).2.1 (inc (S.dc f g pd am) j)) f g S.dir S.l2 S.P (adel S.al ((S.dc f g pd am).c7 + 1)))
    (st : Stp w w' b (S.dc f g pd am) (strX (nextF (S.dc f g pd am) S.al).2.1 (inc (S.dc f g pd am) j))) : Dsk w' b (S.hit j) O f g pd am VB VL ∧ Sgo w w' O O := by
 obtain ⟨e1, e3, e4, e5, e6, e7, e8⟩ := hit_rest S j
 refine h.turn e3 e4 e8 ((h.ok.beg j).str _) ?_ (by rw [← hit_dc]; exact st)
 rw [← hit_dc, e5]
 exact hd
theorem Dsk.more {w w' : World} {b : Nat} {S T : DS} {O : Nat → Prop} {f g : Nat} {pd pd' : Value} {am : Option Nat} {VB VL : Nat → Value} (h : Dsk w b S O f g pd am VB VL) (c : Ch) (hn : c.ptr = none) (e3 : T.l2 = S.l2) (e4 : T.P = S.P ++ [c]) (e8 : T.F = S.F) (hok : T.ok)
    (hd : Dk w' b (T.dc f g pd' am) f g (c.run S.dir) S.l2 (S.P ++ [c]) T.al) (st : Stp w w' b (S.dc f g pd am) (T.dc f g pd' am)) : ∃ O', Dsk w' b T O' f g pd' am VB VL ∧ Sgo w w' O O' := by
 have e9 : T.ps = S.ps := by unfold DS.ps; rw [e3, e4, List.filterMap_append]; simp [hn]
 have e10 : T.dir = c.run S.dir := by unfold DS.dir; rw [e3, e4, runs_snoc]
 refine ⟨fun k => O k ∨ (w.heap.size ≤ k ∧ k < w'.heap.size), ⟨by rw [e10, e3, e4]; exact hd, by rw [e9, e8]; exact h.fs.stp st, ?_, fun p hp k hk => .inl (h.of p (by rw [← e9]; exact hp) k hk), ?_, hok⟩, ⟨st.but.mono fun k _ c => h.ow k c, ?_⟩⟩
 ·intro k hk
  rcases st.own k hk with q | q
  ·exact .inl (h.ow k q)
  ·exact .inr ⟨q, hd.lt k hk⟩
 ·rintro k (q | q)
  ·exact Nat.lt_of_lt_of_le (h.lt k q) st.but.size
  ·exact q.2
 ·rintro k (q | q)
  ·exact .inl q
  ·exact .inr q.1
theorem Dsk.fresh {w : World} {b : Nat} {S : DS} {O : Nat → Prop} {f g : Nat} {pd : Value} {am : Option Nat} {VB VL : Nat → Value} (h : Dsk w b S O f g pd am VB VL) {p : Nat} (hp : w.heap.size ≤ p) : p ∉ S.ps := fun c => by
 have := h.fs.lt c p (.inl rfl)
 omega
theorem Dsk.e {w : World} {b : Nat} {S : DS} {O : Nat → Prop} {f g : Nat} {pd : Value} {am : Option Nat} {VB VL : Nat → Value} (h : Dsk w b S O f g pd am VB VL) : DskE w b S O := ⟨f, g, pd, am, VB, VL, h⟩
theorem ps_snoc (l2 : Dr) (P : List Ch) (s : ByteArray) (p : Nat) : l2.map (·.2) ++ (P ++ [Ch.cr s p]).filterMap Ch.ptr = (l2.map (·.2) ++ P.filterMap Ch.ptr) ++ [p] := by
 rw [List.filterMap_append, ← List.append_assoc]
 rfl
theorem fown_nil {p k : Nat} (h : FOwn p (.slice none 0 0) (.slice none 0 0) k) : k = p := by
 rcases h with q | q | q
 ·exact q
 ·simp [Value.ownBlock] at q
 ·simp [Value.ownBlock] at q
theorem Fs.new {w : World} {Ow : Nat → Prop} {ps : List Nat} {F : Nat → Fl} {VB VL : Nat → Value} {p : Nat} (h : Fs w Ow ps F VB VL) (hp : p ∉ ps) (hf : w.heap[p]? = some (.cells #[.slice none 0 0, .slice none 0 0, .int .i64 0] 170 (0, 0))) (ho : ¬ Ow p) (ha : ∀ q ∈ ps, ¬ FOwn q (VB q) (VL q) p) :
    Fs w Ow (ps ++ [p]) (upd F p ⟨[], [], 0⟩) (upd VB p (.slice none 0 0)) (upd VL p (.slice none 0 0)) := by
 have hne : ∀ q ∈ ps, q ≠ p := fun q hq e => hp (by rw [← e]; exact hq)
 refine ⟨fun q hq => ?_, fun q hq r hr hqr k hk c => ?_, fun q hq k hk c => ?_⟩
 ·rcases List.mem_append.1 hq with z | z
  ·rw [upd_ne _ _ (hne q z), upd_ne _ _ (hne q z), upd_ne _ _ (hne q z)]; exact h.at_ q z
  ·have e := List.mem_singleton.1 z; subst e; rw [upd_same, upd_same, upd_same]; exact FlAt.new hf
 ·rcases List.mem_append.1 hq with z | z
  ·rw [upd_ne _ _ (hne q z), upd_ne _ _ (hne q z)] at hk
   rcases List.mem_append.1 hr with y | y
   ·rw [upd_ne _ _ (hne r y), upd_ne _ _ (hne r y)] at c
    exact h.ap q z r y hqr k hk c
   ·have e := List.mem_singleton.1 y; subst e
    rw [upd_same, upd_same] at c
    have := fown_nil c
    subst this
    exact ha q z hk
  ·have e := List.mem_singleton.1 z; subst e
   rw [upd_same, upd_same] at hk
   have := fown_nil hk
   subst this
   rcases List.mem_append.1 hr with y | y
   ·rw [upd_ne _ _ (hne r y), upd_ne _ _ (hne r y)] at c
    exact ha r y c
   ·exact hqr (List.mem_singleton.1 y).symm
 ·rcases List.mem_append.1 hq with z | z
  ·rw [upd_ne _ _ (hne q z), upd_ne _ _ (hne q z)] at hk
   exact h.no q z k hk c
  ·have e := List.mem_singleton.1 z; subst e
   rw [upd_same, upd_same] at hk
   have := fown_nil hk
   subst this
   exact ho c
def Does (w : World) (b : Nat) (O : Nat → Prop) (R : DS × Int) (e : Ending) (w' : World) : Prop := e = .returned (.int .i64 R.2) ∧ ∃ O', DskE w' b R.1 O' ∧ Sgo w w' O O'
theorem create_dsk {w : World} {b : Nat} {S : DS} {O : Nat → Prop} (h : DskE w b S O) (s : ByteArray) (hs : s.size ≤ 140737488355328) (hc : S.c7 < 1000000000) :
    Calls Tryz.prog 122 #[.pointer (some ⟨b, 0, none⟩), .string s] w fun e w' => ∃ p, w.heap.size ≤ p ∧ p ∉ S.ps ∧ Does w b O (S.create s p) e w' := by
 obtain ⟨f, g, pd, am, VB, VL, h⟩ := h
 have hcn := h.ok.cnt
 refine (create_any w b (S.dc f g pd am) f g S.dir S.l2 S.P S.al s hs h.dk (by show S.c7 < _; omega) h.ok.flt4 (by omega)).mono ?_
 rintro e w' ⟨r, rfl, hr⟩
 have hf := h.fresh (Nat.le_refl w.heap.size)
 have hn : ∀ hd : Dk w' b (S.dc f g pd am) f g S.dir S.l2 S.P S.al, Stp w w' b (S.dc f g pd am) (S.dc f g pd am) → ∃ O', DskE w' b S O' ∧ Sgo w w' O O' := fun hd st => by
  have := h.turn (T := S) rfl rfl rfl h.ok hd st
  exact ⟨O, this.1.e, this.2⟩
 cases hr with
 | no _ hr h0 hd st =>
  refine ⟨w.heap.size, Nat.le_refl _, hf, ?_⟩
  rw [ref_dc] at hr
  have e : S.create s w.heap.size = (S, r) := by unfold DS.create; rw [hr, if_pos h0]
  rw [e]
  exact ⟨rfl, hn hd st⟩
 | there hr ht hd st =>
  refine ⟨w.heap.size, Nat.le_refl _, hf, ?_⟩
  rw [ref_dc] at hr
  have e : S.create s w.heap.size = (S, 7) := by unfold DS.create; rw [hr, if_neg (by simp), if_pos ht]
  rw [e]
  exact ⟨rfl, hn hd st⟩
 | many hr ht hm hd st =>
  refine ⟨w.heap.size, Nat.le_refl _, hf, ?_⟩
  rw [ref_dc] at hr
  have e : S.create s w.heap.size = (S, 9) := by unfold DS.create; rw [hr, if_neg (by simp), ht, if_neg (by simp), if_pos hm]
  rw [e]
  exact ⟨rfl, hn hd st⟩
 | struck _ hr ht hm he h0 hd st =>
  refine ⟨w.heap.size, Nat.le_refl _, hf, ?_⟩
  rw [ref_dc] at hr
  have he' : strF S.flt.2.1 = r := he
  have e : S.create s w.heap.size = (S.hit 0, r) := by unfold DS.create; rw [hr, if_neg (by simp), ht, if_neg (by simp), if_neg (by omega), he', if_pos h0]; rfl
  rw [e]
  have := h.hit 0 hd st
  exact ⟨rfl, O, this.1.e, this.2⟩
 | done hr ht hm he p pd' hp ho hf2 hd st =>
  have hf3 := h.fresh hp
  refine ⟨p, hp, hf3, ?_⟩
  rw [ref_dc] at hr
  have he' : strF S.flt.2.1 = 0 := he
  have e : S.create s p = ({ S.hit 0 with P := S.P ++ [.cr s p], F := upd S.F p ⟨[], [], 0⟩ }, 0) := by unfold DS.create; rw [hr, if_neg (by simp), ht, if_neg (by simp), if_neg (by omega), he', if_neg (by simp)]; rfl
  rw [e]
  obtain ⟨e1, e3, e4, e5, e6, e7, e8⟩ := hit_rest S 0
  obtain ⟨T, hT⟩ : ∃ T : DS, T = { S.hit 0 with P := S.P ++ [.cr s p], F := upd S.F p ⟨[], [], 0⟩ } := ⟨_, rfl⟩
  rw [← hT]
  rw [hit_dc] at ho hd st
  have hx : ({ (S.hit 0).dc f g pd am with pd := pd' } : Dc) = T.dc f g pd' am := by rw [hT]; rfl
  rw [hx] at ho hd st
  have t3 : T.l2 = S.l2 := by rw [hT]; exact e3
  have t4 : T.P = S.P ++ [.cr s p] := by rw [hT]
  have t5 : T.al = adel S.al (S.c7 + 1) := by rw [hT]; exact e5
  have t6 : T.c7 = S.c7 + 1 := by rw [hT]; exact e6
  have t7 : T.c8 = S.c8 := by rw [hT]; exact e7
  have t8 : T.F = upd S.F p ⟨[], [], 0⟩ := by rw [hT]
  have t1 : T.most = S.most := by rw [hT]; exact e1
  have t9 : T.ps = S.ps ++ [p] := by unfold DS.ps; rw [t3, t4, ps_snoc]
  have t10 : T.dir = dput S.dir s.data.toList p := by unfold DS.dir; rw [t3, t4, runs_snoc]; rfl
  refine ⟨rfl, fun k => O k ∨ (w.heap.size ≤ k ∧ k < w'.heap.size), ⟨f, g, pd', am, upd VB p (.slice none 0 0), upd VL p (.slice none 0 0), ⟨?_, ?_, ?_, ?_, ?_, ?_⟩⟩, ⟨st.but.mono fun k _ c => h.ow k c, ?_⟩⟩
  ·rw [t10, t3, t4, t5]; exact hd
  ·rw [t9, t8]
   refine (h.fs.stp st).new hf3 hf2 ho fun q hq c => ?_
   have := h.fs.lt hq p c
   omega
  ·intro k hk
   rcases st.own k hk with q | q
   ·exact .inl (h.ow k q)
   ·exact .inr ⟨q, hd.lt k hk⟩
  ·rw [t9]
   intro q hq k hk
   rcases List.mem_append.1 hq with z | z
   ·have e : q ≠ p := fun e => hf3 (by rw [← e]; exact z)
    rw [upd_ne _ _ e, upd_ne _ _ e] at hk
    exact .inl (h.of q z k hk)
   ·have e := List.mem_singleton.1 z; subst e
    rw [upd_same, upd_same] at hk
    have := fown_nil hk
    subst this
    exact .inr ⟨hp, heap_lt hf2⟩
  ·rintro k (q | q)
   ·exact Nat.lt_of_lt_of_le (h.lt k q) st.but.size
   ·exact q.2
  ·refine ⟨by rw [t1]; exact h.ok.most, ?_, ?_, ?_, ?_⟩
   ·rw [t9, t8]
    intro q hq
    rcases List.mem_append.1 hq with z | z
    ·rw [upd_ne _ _ (fun e => hf3 (by rw [← e]; exact z))]; exact h.ok.sz q z
    ·have e := List.mem_singleton.1 z; subst e; rw [upd_same]; exact Nat.zero_le _
   ·rw [t3, t4, t6, List.length_append, List.length_singleton]; omega
   ·rw [t5]; exact fun e he => h.ok.calm e (List.mem_filter.1 he).1
   ·rw [t7, t6]; have := h.ok.by8; omega
  ·rintro k (q | q)
   ·exact .inl q
   ·exact .inr q.1
theorem hit_more {S : DS} (h : S.ok) (j : Nat) (c : Ch) (hn : c.ptr = none) : ({ S.hit j with P := S.P ++ [c] } : DS).ok := by
 obtain ⟨e1, e3, e4, e5, e6, e7, e8⟩ := hit_rest S j
 obtain ⟨T, hT⟩ : ∃ T : DS, T = { S.hit j with P := S.P ++ [c] } := ⟨_, rfl⟩
 rw [← hT]
 have t3 : T.l2 = S.l2 := by rw [hT]; exact e3
 have t4 : T.P = S.P ++ [c] := by rw [hT]
 have t9 : T.ps = S.ps := by unfold DS.ps; rw [t3, t4, List.filterMap_append]; simp [hn]
 refine ⟨by rw [hT]; show 0 ≤ (S.hit j).most ∧ _; rw [e1]; exact h.most, ?_, ?_, ?_, ?_⟩
 ·rw [t9, hT]; show ∀ p ∈ S.ps, ((S.hit j).F p).by_.length ≤ _; rw [e8]; exact h.sz
 ·rw [t3, t4, hT]; show _ ≤ (S.hit j).c7; rw [e6, List.length_append, List.length_singleton]; have := h.cnt; omega
 ·rw [hT]; show ∀ e ∈ (S.hit j).al, _; rw [e5]; exact fun e he => h.calm e (List.mem_filter.1 he).1
 ·rw [hT]; show 0 ≤ (S.hit j).c8 ∧ (S.hit j).c8 ≤ 16777216 * (S.hit j).c7; rw [e7, e6]; have := h.by8; omega
theorem find2 (S : DS) (f g : Nat) (pd : Value) (am : Option Nat) (s : ByteArray) : (findF (some (S.dc f g pd am)) S.dir s).2 = (S.find s).2 := by rw [find_dc]
theorem dir_len {S : DS} (h : S.ok) (hc : S.c7 < 1000000000) : S.dir.length < 1000000000 ∧ S.P.length < 1000000000 ∧ S.l2.length < 1000000000 := by
 have := h.cnt
 have := runs_len S.l2 S.P
 unfold DS.dir
 omega
def DS.rename (S : DS) (s t : ByteArray) : DS × Int :=
 if S.ref [s, t] ≠ 0 then (S, S.ref [s, t])
 else if (S.find s).2 ≠ 0 then (S, (S.find s).2)
 else if strR S.flt.2.1 ≠ 0 then (S.hit 4, strR S.flt.2.1)
 else if s = t then (S.hit 4, 0)
 else ({ S.hit 4 with P := S.P ++ [.rn s t] }, 0)
def DS.syncDir (S : DS) : DS × Int :=
 if S.ref [] ≠ 0 then (S, S.ref [])
 else if strR S.flt.2.1 ≠ 0 then (S.hit 6, strR S.flt.2.1)
 else ({ S.hit 6 with l2 := S.dir, P := [] }, 0)
theorem syncDir_dsk {w : World} {b : Nat} {S : DS} {O : Nat → Prop} (h : DskE w b S O) (hc : S.c7 < 1000000000) :
    Calls Tryz.prog 42 #[.pointer (some ⟨b, 0, none⟩)] w (Does w b O S.syncDir) := by
 obtain ⟨f, g, pd, am, VB, VL, h⟩ := h
 refine (syncDir_any w b (S.dc f g pd am) f g S.dir S.l2 S.P S.al h.dk (by show S.c7 < _; omega) h.ok.flt4).mono ?_
 have hq : (nextF (S.dc f g pd am) S.al).2.1 = S.flt.2.1 := rfl
 rintro e w' (⟨h0, rfl, hd, st⟩ | ⟨h0, rfl, ⟨s0, hd, st⟩ | ⟨s0, g', hd, st⟩⟩)
 ·rw [ref_dc] at h0 ⊢
  have e : S.syncDir = (S, S.ref []) := by unfold DS.syncDir; rw [if_pos h0]
  rw [e]
  have := h.turn (T := S) rfl rfl rfl h.ok hd st
  exact ⟨rfl, O, this.1.e, this.2⟩
 ·rw [ref_dc] at h0
  have s0' : strR S.flt.2.1 ≠ 0 := s0
  have e : S.syncDir = (S.hit 6, strR S.flt.2.1) := by unfold DS.syncDir; rw [h0, if_neg (by simp), if_pos s0']
  rw [e]
  have := h.hit 6 hd st
  exact ⟨rfl, O, this.1.e, this.2⟩
 ·rw [ref_dc] at h0
  have s0' : strR S.flt.2.1 = 0 := s0
  have e : S.syncDir = ({ S.hit 6 with l2 := S.dir, P := [] }, 0) := by unfold DS.syncDir; rw [h0, if_neg (by simp), if_neg (by simpa using s0')]
  rw [e, hq, show strR S.flt.2.1 = 0 from s0]
  obtain ⟨e1, e3, e4, e5, e6, e7, e8⟩ := hit_rest S 6
  rw [hit_dc] at hd st
  obtain ⟨T, hT⟩ : ∃ T : DS, T = { S.hit 6 with l2 := S.dir, P := [] } := ⟨_, rfl⟩
  rw [← hT]
  have hx : ({ (S.hit 6).dc f g pd am with lm := some g', pd := .slice none 0 0 } : Dc) = T.dc f g' (.slice none 0 0) am := by rw [hT]; rfl
  rw [hx] at hd st
  have t3 : T.l2 = S.dir := by rw [hT]
  have t4 : T.P = [] := by rw [hT]
  have t5 : T.al = adel S.al (S.c7 + 1) := by rw [hT]; exact e5
  have t6 : T.c7 = S.c7 + 1 := by rw [hT]; exact e6
  have t7 : T.c8 = S.c8 := by rw [hT]; exact e7
  have t8 : T.F = S.F := by rw [hT]; exact e8
  have t1 : T.most = S.most := by rw [hT]; exact e1
  have t9 : ∀ p ∈ T.ps, p ∈ S.ps := by
   intro p hp
   unfold DS.ps at hp
   rw [t3, t4] at hp
   simp only [List.filterMap_nil, List.append_nil] at hp
   exact runs_mem hp
  have t10 : T.dir = S.dir := by unfold DS.dir; rw [t3, t4]; rfl
  refine ⟨rfl, fun k => O k ∨ (w.heap.size ≤ k ∧ k < w'.heap.size), ⟨f, g', .slice none 0 0, am, VB, VL, ⟨?_, ?_, ?_, ?_, ?_, ?_⟩⟩, ⟨st.but.mono fun k _ c => h.ow k c, ?_⟩⟩
  ·rw [t10, t3, t4, t5]; exact hd
  ·rw [t8]; exact (h.fs.stp st).sub t9
  ·intro k hk
   rcases st.own k hk with q | q
   ·exact .inl (h.ow k q)
   ·exact .inr ⟨q, hd.lt k hk⟩
  ·exact fun p hp k hk => .inl (h.of p (t9 p hp) k hk)
  ·rintro k (q | q)
   ·exact Nat.lt_of_lt_of_le (h.lt k q) st.but.size
   ·exact q.2
  ·refine ⟨by rw [t1]; exact h.ok.most, fun p hp => by rw [t8]; exact h.ok.sz p (t9 p hp), ?_, ?_, ?_⟩
   ·rw [t3, t4, t6]; have := h.ok.cnt; have := runs_len S.l2 S.P; unfold DS.dir; simp only [List.length_nil]; omega
   ·rw [t5]; exact fun e he => h.ok.calm e (List.mem_filter.1 he).1
   ·rw [t7, t6]; have := h.ok.by8; omega
  ·rintro k (q | q)
   ·exact .inl q
   ·exact .inr q.1
theorem rename_dsk {w : World} {b : Nat} {S : DS} {O : Nat → Prop} (h : DskE w b S O) (s t : ByteArray) (hs : s.size ≤ 140737488355328) (ht : t.size ≤ 140737488355328) (hc : S.c7 < 1000000000) :
    Calls Tryz.prog 127 #[.pointer (some ⟨b, 0, none⟩), .string s, .string t] w (Does w b O (S.rename s t)) := by
 obtain ⟨f, g, pd, am, VB, VL, h⟩ := h
 obtain ⟨d1, d2, d3⟩ := dir_len h.ok hc
 refine (rename_any w b (S.dc f g pd am) f g S.dir S.l2 S.P S.al s t hs ht h.dk (by show S.c7 < _; omega) h.ok.flt4 d2 d1).mono ?_
 rintro e w' ⟨r, rfl, hr⟩
 cases hr with
 | no _ hr h0 hd st =>
  rw [ref_dc] at hr
  have e : S.rename s t = (S, r) := by unfold DS.rename; rw [hr, if_pos h0]
  rw [e]
  have := h.turn (T := S) rfl rfl rfl h.ok hd st
  exact ⟨rfl, O, this.1.e, this.2⟩
 | none _ hr hf h0 hd st =>
  rw [ref_dc] at hr
  rw [find2] at hf
  have e : S.rename s t = (S, r) := by unfold DS.rename; rw [hr, if_neg (by simp), hf, if_pos h0]
  rw [e]
  have := h.turn (T := S) rfl rfl rfl h.ok hd st
  exact ⟨rfl, O, this.1.e, this.2⟩
 | struck _ hr hf he h0 hd st =>
  rw [ref_dc] at hr
  rw [find2] at hf
  have he' : strR S.flt.2.1 = r := he
  have e : S.rename s t = (S.hit 4, r) := by unfold DS.rename; rw [hr, if_neg (by simp), hf, if_neg (by simp), he', if_pos h0]
  rw [e]
  have := h.hit 4 hd st
  exact ⟨rfl, O, this.1.e, this.2⟩
 | same hr hf he hst hd st =>
  rw [ref_dc] at hr
  rw [find2] at hf
  have he' : strR S.flt.2.1 = 0 := he
  have e : S.rename s t = (S.hit 4, 0) := by unfold DS.rename; rw [hr, if_neg (by simp), hf, if_neg (by simp), he', if_neg (by simp), if_pos hst]
  rw [e]
  have := h.hit 4 hd st
  exact ⟨rfl, O, this.1.e, this.2⟩
 | done hr hf he hst pd' hd st =>
  rw [ref_dc] at hr
  rw [find2] at hf
  have he' : strR S.flt.2.1 = 0 := he
  have e : S.rename s t = ({ S.hit 4 with P := S.P ++ [.rn s t] }, 0) := by unfold DS.rename; rw [hr, if_neg (by simp), hf, if_neg (by simp), he', if_neg (by simp), if_neg hst]
  rw [e]
  obtain ⟨e1, e3, e4, e5, e6, e7, e8⟩ := hit_rest S 4
  rw [hit_dc] at hd st
  obtain ⟨O', k1, k2⟩ := h.more (T := { S.hit 4 with P := S.P ++ [.rn s t] }) (.rn s t) rfl e3 rfl e8 (hit_more h.ok 4 _ rfl) (pd' := pd') (by show Dk w' b _ f g _ _ _ (S.hit 4).al; rw [e5]; exact hd) st
  exact ⟨rfl, O', k1.e, k2⟩
def DS.size (S : DS) (s : ByteArray) : Int × Int := match S.find s with | (some p, _) => (((S.F p).by_.length : Int), 0) | (none, e) => (0, e)
theorem read_out {w : World} {b p : Nat} {x : Dc} {f g : Nat} {l l2 : Dr} {P : List Ch} {al : Ar} {t : Fl} {vb vl : Value} (h : Dk w b x f g l l2 P al) (s : ByteArray) (hs : s.size ≤ maxLen) (o n : Int) (hr : refF (some x) [s] = 0) (hg : get l s.data.toList = some p) (hf : FlAt w p t vb vl) (hon : ¬ (0 ≤ o ∧ o ≤ (t.by_.length : Int) ∧ 0 ≤ n ∧ n ≤ (t.by_.length : Int) - o)) :
    Calls Tryz.prog 67 #[.pointer (some ⟨b, 0, none⟩), .string s, .int .i64 o, .int .i64 n] w fun e w' => e = .returned (.tuple #[.slice none 0 0, .int .i64 8]) ∧ Below w.heap.size w w' := by
 have hF := h.find s hs
 rw [findF_ok hr hg] at hF
 have c0 := (cells3 hf.box).1
 obtain ⟨ao, ca, rfl, _, _⟩ := hf.b.form
 have hsz := hf.sz
 clear h hf hr hg
 generalize t.by_.length = N at *
 by_cases i1 : o < 0
 ·clear hon
  go_enter Tryz.func67, Tryz.ntmps67
  go_wp2_with (go_at_call 89; refine hF.mono ?_; rintro e w1 ⟨rfl, B1⟩; have d0 := (B1.cell (p := ⟨p, 0, none⟩) (lt_of_cell c0)).trans c0; replace B1 := hide B1)
  go_ret2
  exact ⟨rfl, B1.out⟩
 by_cases i2 : o > (N : Int)
 ·clear hon
  go_enter Tryz.func67, Tryz.ntmps67
  go_wp2_with (go_at_call 89; refine hF.mono ?_; rintro e w1 ⟨rfl, B1⟩; have d0 := (B1.cell (p := ⟨p, 0, none⟩) (lt_of_cell c0)).trans c0; replace B1 := hide B1)
  go_ret2
  exact ⟨rfl, B1.out⟩
 by_cases i3 : n < 0
 ·clear hon
  go_enter Tryz.func67, Tryz.ntmps67
  go_wp2_with (go_at_call 89; refine hF.mono ?_; rintro e w1 ⟨rfl, B1⟩; have d0 := (B1.cell (p := ⟨p, 0, none⟩) (lt_of_cell c0)).trans c0; replace B1 := hide B1)
  go_ret2
  exact ⟨rfl, B1.out⟩
 have i4 : n > (N : Int) - o := by omega
 have e1 : IntKind.i64.wrap ((N : Int) - o) = (N : Int) - o := by rw [IntKind.wrap_i64]; omega
 clear hon
 go_enter Tryz.func67, Tryz.ntmps67
 go_wp2_with (go_at_call 89; refine hF.mono ?_; rintro e w1 ⟨rfl, B1⟩; have d0 := (B1.cell (p := ⟨p, 0, none⟩) (lt_of_cell c0)).trans c0; replace B1 := hide B1)
 go_ret2
 exact ⟨rfl, B1.out⟩
def DS.read (S : DS) (s : ByteArray) (o n : Int) : List UInt8 × Int := match S.find s with
 | (some p, _) => if 0 ≤ o ∧ o ≤ ((S.F p).by_.length : Int) ∧ 0 ≤ n ∧ n ≤ ((S.F p).by_.length : Int) - o then (((S.F p).by_.drop o.toNat).take n.toNat, 0) else ([], 8)
 | (none, e) => ([], e)
theorem read_dsk {w : World} {b : Nat} {S : DS} {O : Nat → Prop} (h : DskE w b S O) (s : ByteArray) (hs : s.size ≤ maxLen) (o n : Int) :
    Calls Tryz.prog 67 #[.pointer (some ⟨b, 0, none⟩), .string s, .int .i64 o, .int .i64 n] w fun e w' => ∃ v, e = .returned (.tuple #[v, .int .i64 (S.read s o n).2]) ∧ Ob w.heap.size w' v (S.read s o n).1 ∧ Below w.heap.size w w' := by
 obtain ⟨f, g, pd, am, VB, VL, h⟩ := h
 by_cases h0 : (S.find s).2 = 0
 ·obtain ⟨p, e, hg, hr, hp⟩ := find_ok h0
  have e2 : S.read s o n = if 0 ≤ o ∧ o ≤ ((S.F p).by_.length : Int) ∧ 0 ≤ n ∧ n ≤ ((S.F p).by_.length : Int) - o then (((S.F p).by_.drop o.toNat).take n.toNat, 0) else ([], 8) := by unfold DS.read; rw [e]
  rw [e2]
  by_cases c : 0 ≤ o ∧ o ≤ ((S.F p).by_.length : Int) ∧ 0 ≤ n ∧ n ≤ ((S.F p).by_.length : Int) - o
  ·rw [if_pos c]
   have eo : ((o.toNat : Nat) : Int) = o := by omega
   have en : ((n.toNat : Nat) : Int) = n := by omega
   have := read_ok h.dk s hs o.toNat n.toNat (by rw [ref_dc]; exact hr) hg (h.fs.at_ p hp) (by omega)
   rw [eo, en] at this
   exact this
  ·rw [if_neg c]
   refine (read_out h.dk s hs o n (by rw [ref_dc]; exact hr) hg (h.fs.at_ p hp) c).mono ?_
   rintro e w' ⟨rfl, hB⟩
   exact ⟨_, rfl, Ob.nil _ _, hB⟩
 ·have e : S.read s o n = ([], (S.find s).2) := by
    have q := find_no h0
    unfold DS.read
    cases hq : S.find s with
    | mk a c => rw [hq] at q; dsimp only at q; subst q; rfl
  rw [e]
  refine (read_no h.dk s hs o n (by rw [find2]; exact h0)).mono ?_
  rintro e w' ⟨rfl, hB⟩
  rw [find2]
  exact ⟨_, rfl, Ob.nil _ _, hB⟩
def sumL (F : Nat → Fl) (l : Dr) : Nat := (l.map fun e => (F e.2).by_.length).sum
def leftS (F : Nat → Fl) (l : Dr) (left : Lit → Bool) : Nat := (l.map fun e => if left (.string e.1) then (F e.2).by_.length else 0).sum
theorem Mp.keys {w : World} {b : Nat} {l : Dr} (h : Mp w b l) : l.Pairwise (fun p q => p.1 ≠ q.1) := by
 obtain ⟨es, e, hp, _⟩ := World.ownsMap.entries h keyS
 have e2 : l.map dent = es := by
  have : DataW.map (l.map dent) = DataW.map es := e
  simpa using this
 rw [← e2, List.pairwise_map] at hp
 refine hp.imp fun h1 h2 => h1 ?_
 show Lit.string _ = Lit.string _
 rw [h2]
theorem leftS_start (F : Nat → Fl) (l : Dr) : leftS F l (Maps.has (dirD l)) = sumL F l := by
 unfold leftS sumL
 congr 1
 apply List.map_congr_left
 intro e he
 rw [dirD_has]
 have : (get l e.1).isSome = true := by
  unfold get
  rw [Option.isSome_map, List.find?_isSome]
  exact ⟨e, he, by simp⟩
 rw [this]
 rfl
theorem leftS_end (F : Nat → Fl) (l : Dr) {left : Lit → Bool} (h : ∀ kl, left kl = false) : leftS F l left = 0 := by
 unfold leftS
 induction l with
 | nil => rfl
 | cons y r ih =>
  rw [List.map_cons, List.sum_cons, ih, h]
  rfl
theorem sameStr (a k : List UInt8) : (Lit.string a).sameKey (.string k) = (a == k) := rfl
theorem leftS_step (F : Nat → Fl) {l : Dr} {left : Lit → Bool} {k : List UInt8} {p : Nat} (hk : l.Pairwise (fun p q => p.1 ≠ q.1)) (hg : get l k = some p) (hl : left (.string k) = true) :
    leftS F l left = leftS F l (fun z => left z && !z.sameKey (.string k)) + (F p).by_.length := by
 induction l with
 | nil => simp [get] at hg
 | cons y r ih =>
  rw [List.pairwise_cons] at hk
  obtain ⟨h1, h2⟩ := hk
  have u : ∀ q : Lit → Bool, leftS F (y :: r) q = (if q (.string y.1) then (F y.2).by_.length else 0) + leftS F r q := fun q => by simp [leftS]
  rw [u, u]
  by_cases c : y.1 = k
  ·have e : (y.1 == k) = true := by simpa using c
   have hp : y.2 = p := by simpa [get, List.find?_cons, e] using hg
   have hr : leftS F r (fun z => left z && !z.sameKey (.string k)) = leftS F r left := by
    unfold leftS
    congr 1
    apply List.map_congr_left
    intro e he
    have : (e.1 == k) = false := by have := h1 e he; simp; intro q; exact this (by rw [c, q])
    simp only [sameStr, this, Bool.not_false, Bool.and_true]
   rw [hr]
   have z1 : (left (.string y.1) && !(Lit.string y.1).sameKey (.string k)) = false := by rw [sameStr, e]; simp
   have z2 : left (.string y.1) = true := by rw [c]; exact hl
   rw [z1, z2, hp]
   simp
   omega
  ·have e : (y.1 == k) = false := by simpa using c
   have hg2 : get r k = some p := by simpa [get, List.find?_cons, e] using hg
   rw [ih h2 hg2]
   simp only [sameStr, e, Bool.not_false, Bool.and_true]
   omega
theorem sumL_le (F : Nat → Fl) (l : Dr) (h : ∀ e ∈ l, (F e.2).by_.length ≤ 16777216) : sumL F l ≤ l.length * 16777216 := by
 induction l with
 | nil => simp [sumL]
 | cons y r ih =>
  have h1 := h y (by simp)
  have h2 := ih (fun e he => h e (by simp [he]))
  simp only [sumL, List.map_cons, List.sum_cons, List.length_cons] at *
  omega
theorem leftS_le (F : Nat → Fl) (l : Dr) (left : Lit → Bool) : leftS F l left ≤ sumL F l := by
 induction l with
 | nil => simp [sumL, leftS]
 | cons y r ih =>
  simp only [sumL, leftS, List.map_cons, List.sum_cons] at *
  split <;> omega
theorem sumL_one (F : Nat → Fl) {l : Dr} {k : List UInt8} {p : Nat} (h : get l k = some p) : (F p).by_.length ≤ sumL F l := by
 have := get_mem h
 clear h
 induction l with
 | nil => simp at this
 | cons y r ih =>
  simp only [sumL, List.map_cons, List.sum_cons] at *
  rcases List.mem_cons.1 this with q | q
  ·rw [← q]; simp
  ·have := ih q
   omega
theorem keyOf_str_inv {key : Value} {kl : Lit} (h : keyOf Tryz.prog TS key = some kl) : ∃ s : ByteArray, key = .string s := by
 have e : Tryz.prog.underlying TS = some .string := Tryz.underlying9
 cases key <;> simp [keyOf, e, mapKey] at h
 exact ⟨_, rfl⟩
theorem keyOf_str_lit {s : ByteArray} {kl : Lit} (h : keyOf Tryz.prog TS (.string s) = some kl) : kl = .string s.data.toList ∧ s.size ≤ maxLen := by
 have e : Tryz.prog.underlying TS = some .string := Tryz.underlying9
 simp [keyOf, e, mapKey] at h
 exact ⟨h.2.symm, h.1⟩
theorem ptrR_shape {v : Value} {y : DataW Unit × List MemPlace} (h : ptrR v = some y) : ∃ c : Option Nat, v = .pointer (c.map fun b => ⟨b, 0, none⟩) := by
 unfold ptrR at h
 split at h
 ·exact ⟨some _, rfl⟩
 ·exact ⟨none, rfl⟩
 ·simp at h
theorem round_get {l : Dr} {s : ByteArray} {c : Option Nat} {y : DataW Unit × List MemPlace} (hat : ∀ zd, (dirD l).atKey (.string s.data.toList) zd = y.1) (hy : ptrR (.pointer (c.map fun b => ⟨b, 0, none⟩)) = some y) (hh : (get l s.data.toList).isSome = true) : ∃ p, c = some p ∧ get l s.data.toList = some p := by
 obtain ⟨p, hp⟩ := Option.isSome_iff_exists.1 hh
 have := hat .nil
 rw [dirD_at_some hp] at this
 cases c with
 | none => rw [Option.map_none, ptrR_none] at hy; cases hy; cases this
 | some q =>
  rw [Option.map_some, ptrR_some] at hy
  cases hy
  simp at this
  have e : p = q := by omega
  subst e
  exact ⟨_, rfl, hp⟩
end Go.Proofs.YtnimildpcnmjeaaGreatDoor.Dk
namespace Go.Proofs.YtnimildpcnmjeaaGreatDoor.Ix
open Go
variable {P : Program} {ops : Array Oper} {Q : Exit → Act → World → Prop} {md : Region.Mode} {S : World → Prop} {d : Nat}
def pathB (md : Region.Mode) (ops : Array Oper) : Nat → List Nat → Bool
 | _, [] => true
 | p, m :: r => (match ops[m]? with | some o => o.after.any fun e => Region.binds md e && e.on == p | none => false) && pathB md ops m r
theorem not_ready {listed : Array Bool} : ∀ (ms : List Nat) (p : Nat), pathB md ops p ms = true → listed.getD p false = false → (∀ m ∈ ms, listed.getD m true = false) → ∀ m ∈ ms, m ∉ Region.ready md ops listed := by
 intro ms
 induction ms with
 | nil => intro p _ _ _ m hm; cases hm
 | cons a r ih =>
  intro p hp hl hu m hm
  rw [pathB, Bool.and_eq_true] at hp
  obtain ⟨h1, h2⟩ := hp
  have ha : a ∉ Region.ready md ops listed := fun hr => by
   obtain ⟨_, o, ho, hall⟩ := mem_ready.1 hr
   rw [ho] at h1
   simp only [Array.any_eq_true] at h1
   obtain ⟨i, hi, he⟩ := h1
   rw [Bool.and_eq_true] at he
   have := hall _ (Array.getElem_mem hi) he.1
   rw [show (o.after[i]).on = p by simpa using he.2, hl] at this
   cases this
  rcases List.mem_cons.1 hm with rfl | hm
  ·exact ha
  ·have hla : listed.getD a false = false := by
     have := hu a (by simp)
     by_cases hs : a < listed.size
     ·simp [Array.getD, hs] at this ⊢; exact this
     ·simp [Array.getD, hs]
   exact ih a h2 hla (fun m hm => hu m (by simp [hm])) m hm
def wpAnyT (P : Program) (md : Region.Mode) (ops : Array Oper) (Q : Exit → Act → World → Prop) (S : World → Prop) (d : Nat) : Nat → Array Bool → Act → World → Prop
 | 0, listed, a, w => Region.ready md ops listed = [] ∧ Q .normal a w
 | fuel + 1, listed, a, w =>
  (Region.ready md ops listed = [] → Q .normal a w) ∧
  ∀ i ∈ Region.ready md ops listed, wpOp P ops Q i (fun a' w' => ((listed.setIfInBounds i true).getD d false = false → S w') ∧ wpAnyT P md ops Q S d fuel (listed.setIfInBounds i true) a' w') a w
theorem wpAny_of_T : ∀ (fuel : Nat) (listed : Array Bool) (a : Act) (w : World), wpAnyT P md ops Q S d fuel listed a w → wpAny P md ops Q fuel listed a w
 | 0, _, _, _, h => h
 | fuel + 1, _, _, _, h => ⟨h.1, fun i hi => wpOp_mono (fun a' w' h' => wpAny_of_T fuel _ a' w' h'.2) (h.2 i hi)⟩
theorem getD_false {listed : Array Bool} {m : Nat} (h : listed.getD m true = false) : listed.getD m false = false := by
 by_cases hs : m < listed.size
 ·simp [Array.getD, hs] at h ⊢; exact h
 ·simp [Array.getD, hs]
theorem vac {b : Bool} {p : Prop} (hb : b = true) : b = false → p := fun h => by rw [hb] at h; cases h
theorem getD_unlisted {listed : Array Bool} {j m : Nat} (h : listed.getD m true = false) (hne : j ≠ m) : (listed.setIfInBounds j true).getD m true = false := by
 rw [getD_set_ne true hne]; exact h
theorem wpAnyT_first {i : Nat} {oi : Oper} {v : Value} {ms : List Nat} (hi : ops[i]? = some oi) (hsel : ∀ (j : Nat) (o : Oper) cs b, ops[j]? = some o → o.op ≠ .select cs b)
    (hQ : ∀ c a w, Q (.panic c) (a.put oi.dst v) w → Q (.panic c) a w) (hpath : pathB md ops i ms = true) (hdm : d ∈ ms) :
    ∀ (fuel : Nat) (listed : Array Bool) (a : Act) (w : World),
     (∀ j oj, ops[j]? = some oj → j ≠ i → listed.getD j true = false → (∀ e ∈ oj.after, Region.binds md e = true → e.on ≠ i) → oi.apart ops oj = true) →
     i ∈ Region.ready md ops listed → (∀ m ∈ ms, listed.getD m true = false) → YieldsIf P ops S oi v a → S w →
     wpAnyT P md ops Q S d fuel (listed.setIfInBounds i true) (a.put oi.dst v) w → wpAnyT P md ops Q S d (fuel + 1) listed a w := by
 intro fuel
 induction fuel with
 | zero =>
  intro listed a w _ hr _ hy hS H
  refine ⟨fun h => (by rw [h] at hr; cases hr), fun j hj => ?_⟩
  by_cases hji : j = i
  ·subst hji; exact hy.wpOp hi hS ⟨fun _ => hS, H⟩
  ·have := ready_mono hj hji
   rw [H.1] at this
   cases this
 | succ fuel ih =>
  intro listed a w hfree hr hms hy hS H
  refine ⟨fun h => (by rw [h] at hr; cases hr), fun j hj => ?_⟩
  by_cases hji : j = i
  ·subst hji; exact hy.wpOp hi hS ⟨fun _ => hS, H⟩
  ·have hil : listed.getD i false = false := by
     have := (mem_ready.1 hr).1
     by_cases hs : i < listed.size
     ·simp [Array.getD, hs] at this ⊢; exact this
     ·simp [Array.getD, hs]
   have hnm : j ∉ ms := fun h => not_ready ms i hpath hil hms j h hj
   have hjd : j ≠ d := fun e => hnm (by rw [e]; exact hdm)
   have hid : i ≠ d := fun e => not_ready ms i hpath hil hms d hdm (by rw [← e]; exact hr)
   have hdj : ((listed.setIfInBounds i true).setIfInBounds j true).getD d false = false := getD_false (getD_unlisted (getD_unlisted (hms d hdm) hid) hjd)
   have h1 := H.2 j (ready_mono hj hji)
   obtain ⟨hjun, oj, hoj, hall⟩ := mem_ready.1 hj
   have hnot : ∀ e ∈ oj.after, Region.binds md e = true → e.on ≠ i := fun e he hb heq => by
    have h1 := hall e he hb
    rw [heq, hil] at h1
    cases h1
   have h2 := wpOp_putIf hoj (hfree j oj hoj hji hjun hnot) (fun cs b => hsel i oi cs b hi) (fun cs b => hsel j oj cs b hoj) hQ hy h1
   have hfree' : ∀ k ok, ops[k]? = some ok → k ≠ i → (listed.setIfInBounds j true).getD k true = false →
       (∀ e ∈ ok.after, Region.binds md e = true → e.on ≠ i) → oi.apart ops ok = true := fun k ok hk hki hun hno => by
    refine hfree k ok hk hki ?_ hno
    by_cases hjk : j = k
    ·subst hjk; exact hjun
    ·rw [getD_set_ne true hjk] at hun; exact hun
   refine wpOp_mono (fun a' w' h3 => ⟨fun _ => h3.2.1 hdj, ih (listed.setIfInBounds j true) a' w' hfree' (ready_mono hr (Ne.symm hji)) (fun m hm => getD_unlisted (hms m hm) (fun e => hnm (by rw [e]; exact hm))) h3.1 (h3.2.1 hdj) ?_⟩) h2
   rw [Array.setIfInBounds_comm _ _ hji]
   exact h3.2.2
theorem wpAnyT_take {i : Nat} {oi : Oper} {v : Value} (ms : List Nat) {fuel : Nat} {listed : Array Bool} {a : Act} {w : World} (hi : ops[i]? = some oi)
    (hs : Region.noSelect ops = true) (hf : Region.free md ops listed i = true) (hr : (Region.ready md ops listed).contains i = true)
    (hp : (pathB md ops i ms && ms.contains d && ms.all fun m => listed.getD m true == false) = true)
    (hQ : ∀ c a w, Q (.panic c) (a.put oi.dst v) w → Q (.panic c) a w) (hy : YieldsIf P ops S oi v a) (hS : S w)
    (h : wpAnyT P md ops Q S d fuel (listed.setIfInBounds i true) (a.put oi.dst v) w) : wpAnyT P md ops Q S d (fuel + 1) listed a w := by
 simp only [Bool.and_eq_true, List.all_eq_true] at hp
 exact wpAnyT_first hi (Region.noSelect_spec hs) hQ hp.1.1 (by simpa using hp.1.2) fuel listed a w (Region.free_spec hi hf) (by simpa using hr) (fun m hm => by simpa using hp.2 m hm) hy hS h
theorem wpAnyT_one {i : Nat} {o : Oper} {fuel : Nat} {listed : Array Bool} {a : Act} {w : World} (hr : Region.ready md ops listed = [i]) (ho : ops[i]? = some o)
    (h : ∀ K' : Act → World → Prop, Shut (∀ a w, ((listed.setIfInBounds i true).getD d false = false → S w) → wpAnyT P md ops Q S d fuel (listed.setIfInBounds i true) a w → K' a w) → if Region.wanted o (yielded ops a.tmps) = true then Oper.wp P o a w K' Q else K' (a.put o.dst undef) w) :
    wpAnyT P md ops Q S d (fuel + 1) listed a w := by
 refine ⟨fun h0 => (by rw [h0] at hr; cases hr), fun j hj => ?_⟩
 rw [hr, List.mem_singleton] at hj
 subst hj
 exact wpOp_step ho (fun K' hK => h K' (fun a w hS hW => hK a w ⟨hS, hW⟩))
theorem _root_.Go.Proofs.YtnimildpcnmjeaaGreatDoor.zzp (l : List Value) (d : List Deferred) (t : Nat) (v : Value) : (Act.mk l.toArray d).put (some t) v = Act.mk (l.set t v).toArray d := by simp [Act.put]
theorem _root_.Go.Proofs.YtnimildpcnmjeaaGreatDoor.zzq (a : Act) (v : Value) : a.put none v = a := rfl
theorem _root_.Go.Proofs.YtnimildpcnmjeaaGreatDoor.zzb {α : Type} (a b : α) (l : List α) : (a :: l).set 0 b = b :: l := rfl
theorem _root_.Go.Proofs.YtnimildpcnmjeaaGreatDoor.zzc {α : Type} (a b : α) (l : List α) (n : Nat) : (a :: l).set (n + 1) b = a :: l.set n b := rfl
theorem tk (i : Nat) (oi : Oper) (v : Value) (ms : List Nat) {fuel : Nat} {listed : Array Bool} {a : Act} {w : World} (hy : ∀ w, S w → (execOp a.eval oi).run P w = .ok (.value v) w) (hS : S w)
    (h : wpAnyT P md ops Q S d fuel (listed.setIfInBounds i true) (a.put oi.dst v) w) (hi : ops[i]? = some oi := by rfl) (hw : Region.wanted oi (yielded ops a.tmps) = true := by rfl)
    (hs : Region.noSelect ops = true := by kernel_rfl) (hf : Region.free md ops listed i = true := by kernel_rfl) (hr : (Region.ready md ops listed).contains i = true := by kernel_rfl)
    (hp : (pathB md ops i ms && ms.contains d && ms.all fun m => listed.getD m true == false) = true := by kernel_rfl) (hQ : ∀ c a w, Q (.panic c) (a.put oi.dst v) w → Q (.panic c) a w := by exact fun _ _ _ h => h) :
    wpAnyT P md ops Q S d (fuel + 1) listed a w := wpAnyT_take ms hi hs hf hr hp hQ (.inl ⟨hw, hy⟩) hS h
theorem wpAnyT_done {listed : Array Bool} {a : Act} {w : World} (hr : Region.ready md ops listed = []) (h : Q .normal a w) : ∀ fuel, wpAnyT P md ops Q S d fuel listed a w
 | 0 => ⟨hr, h⟩
 | _ + 1 => ⟨fun _ => h, by rw [hr]; simp⟩
theorem wp_region_T {id : Nat} {a : Act} {w : World} (S : World → Prop) (d : Nat) (hm : P.follows .mixedOrders = true)
    (h : wpAnyT P .any ops Q S d ops.size (Array.replicate ops.size false) a w.drew) : (Code.region id ops true).wp P Q a w :=
 wp_region_any hm (wpAny_of_T _ _ _ _ h)
end Go.Proofs.YtnimildpcnmjeaaGreatDoor.Ix
namespace Go.Proofs.YtnimildpcnmjeaaGreatDoor.Dk
open Go.RowKit Go.Maps Go.Proofs.YtnimildpcnmjeaaGreatDoor.Nm
open Ix (wp_region_T wpAnyT wpAnyT_take wpAnyT_one wpAnyT_done vac)
theorem step_app {w : World} {ops : Array Oper} {o : Oper} {a : Act} {K : Act → World → Prop} {Q : Exit → Act → World → Prop} {E : Prop} (hgd : o.guard = none) (x y : Operand)
    (ho : o.op = .call { callee := .builtin .append, args := #[x, y], argTypes := #[54, 54] }) (vx vy v' : Value) (w' : World) (hx : a.eval x = vx) (hy : a.eval y = vy) (hr : (Builtin.append_ #[54, 54] o.type #[vx, vy]).run Tryz.prog w = .ok v' w') (h : K (a.put o.dst v') w') :
    if Region.wanted o (yielded ops a.tmps) = true then Oper.wp Tryz.prog o a w K Q else E := by
 have hw : Region.wanted o (yielded ops a.tmps) = true := by simp [Region.wanted, hgd]
 rw [if_pos hw]
 unfold Oper.wp execOp
 simp only [ho, resolve, invoke, builtin, Sem.run_bind, Sem.run_pure, Result.andThen_ok, List.map_toArray, List.map_cons, List.map_nil, hx, hy, hr]
 exact h
def syF (f : Fl) : Fl := ⟨f.by_, f.la ++ svd f (f.by_.length - f.la.length), 0⟩
theorem sync_any (w : World) (p : Nat) (f : Fl) (vb vl : Value) (h : FlAt w p f vb vl) :
    Calls Tryz.prog 91 #[.pointer (some ⟨p, 0, none⟩)] w fun e w' => e = .returned (.tuple #[]) ∧ ∃ vl', FlAt w' p (syF f) vb vl' ∧ But (FOwn p vb vl) w w' ∧ (∀ k, FOwn p vb vl' k → FOwn p vb vl k ∨ w.heap.size ≤ k) := by
 have H := hide h
 obtain ⟨ta, hta⟩ : ∃ ta, Hid (f.by_.length - f.la.length = ta) := ⟨_, rfl⟩
 obtain ⟨al, cl, rfl, q1, q2⟩ := h.l.form
 have hT : Hid (∀ q, Below w.heap.size w q → Calls Tryz.prog 131 #[.pointer (some ⟨p, 0, none⟩)] q fun e w' => e = .returned (.int .i64 (ta : Int)) ∧ ∃ n, w' = q.drewN n) := fun q hq => by have := tail_any q p f vb _ (h.below hq); rw [hta.out] at this; exact this
 have hS : Hid (∀ q, Below w.heap.size w q → Calls Tryz.prog 132 #[.pointer (some ⟨p, 0, none⟩), .int .i64 (ta : Int)] q fun e w' => ∃ v, e = .returned v ∧ Ob q.heap.size w' v (svd f ta) ∧ Below q.heap.size q w') := fun q hq => saved_any q p ta f vb _ (h.below hq) (by have := hta.out; have := h.le; omega)
 have hsl : (svd f ta).length = ta := svd_len f ta (by have := hta.out; have := h.le; omega)
 have hz : f.la.length + ta ≤ 1099511627776 := by have := hta.out; have := h.le; have := h.sz; omega
 replace hsl := hide hsl
 have KC : Hid (∀ q : World, q.heap[p]? = some (.cells #[vb, .slice al f.la.length cl, .int .i64 (f.sp : Int)] TFl (0, 0)) → q.cell? ⟨p, 1, none⟩ = some (.slice al f.la.length cl)) := fun q hq => (cells3 hq).2.1
 have KB : Hid (∀ q : World, Below w.heap.size w q → q.heap[p]? = some (.cells #[vb, .slice al f.la.length cl, .int .i64 (f.sp : Int)] TFl (0, 0))) := fun q hq => (hq.block p (heap_lt H.out.box)).trans H.out.box
 clear h
 go_enter Tryz.func91, Tryz.ntmps91
 go_upto_region 0 with fail
 have B0 : Hid (Below w.heap.size w w.drew) := (Below.refl _ _).drew
 refine wp_region_T (fun q => q.heap[p]? = some (.cells #[vb, .slice al f.la.length cl, .int .i64 (f.sp : Int)] TFl (0, 0))) 12 (by kernel_rfl) ?_
 generalize w.drew = q at *
 have KP := hide (KB.out _ B0.out)
 refine Ix.tk 0 ⟨some 2, .move (.tmp 0), _, _, _, _⟩ (.pointer (some ⟨p, 0, none⟩)) [12] ?_ KP.out ?_
 ·intro wq hSw
  have y2 := KC.out wq hSw
  go_simp
 (try simp only [zzp, zzb, zzc])
 refine Ix.tk 1 ⟨some 3, .move (.tmp 0), _, _, _, _⟩ (.pointer (some ⟨p, 0, none⟩)) [12] ?_ KP.out ?_
 ·intro wq hSw
  have y2 := KC.out wq hSw
  go_simp
 (try simp only [zzp, zzb, zzc])
 refine Ix.tk 2 ⟨some 4, .nilCheck (.tmp 3), _, _, _, _⟩ (.pointer (some ⟨p, 0, none⟩)) [12] ?_ KP.out ?_
 ·intro wq hSw
  have y2 := KC.out wq hSw
  go_simp
 (try simp only [zzp, zzb, zzc])
 refine Ix.tk 3 ⟨some 5, .fieldAddr 170 (.tmp 4) 1, _, _, _, _⟩ (.pointer (some ⟨p, 1, none⟩)) [12] ?_ KP.out ?_
 ·intro wq hSw
  have y2 := KC.out wq hSw
  go_simp
 (try simp only [zzp, zzb, zzc])
 refine Ix.tk 4 ⟨some 6, .load 54 (.tmp 5), _, _, _, _⟩ (.slice al f.la.length cl) [12] ?_ KP.out ?_
 ·intro wq hSw
  have y2 := KC.out wq hSw
  go_simp
 (try simp only [zzp, zzb, zzc])
 refine Ix.tk 5 ⟨some 7, .move (.tmp 0), _, _, _, _⟩ (.pointer (some ⟨p, 0, none⟩)) [12] ?_ KP.out ?_
 ·intro wq hSw
  have y2 := KC.out wq hSw
  go_simp
 (try simp only [zzp, zzb, zzc])
 refine Ix.tk 6 ⟨some 8, .move (.tmp 0), _, _, _, _⟩ (.pointer (some ⟨p, 0, none⟩)) [12] ?_ KP.out ?_
 ·intro wq hSw
  have y2 := KC.out wq hSw
  go_simp
 (try simp only [zzp, zzb, zzc])
 refine wpAnyT_one (i := 7) (o := ⟨some 9, .call { callee := .value (.func 131), args := #[.tmp 8], argTypes := #[152] }, _, _, _, _⟩) (by kernel_rfl) rfl (fun K hK => ?_)
 go_simp
 go_at_call 131
 refine (hT.out q B0.out).mono ?_
 rintro e w1 ⟨rfl, nq, rfl⟩
 have B1 : Hid (Below w.heap.size w (q.drewN nq)) := B0.out.trans (Qt.below ⟨nq, rfl⟩ _)
 have K1 := hide (KB.out _ B1.out)
 (try go_simp)
 refine hK.out _ _ (fun _ => K1.out) ?_
 clear hK K
 (try simp only [zzp, zzb, zzc])
 generalize q.drewN nq = q1 at *
 refine wpAnyT_one (i := 8) (o := ⟨some 10, .call { callee := .value (.func 132), args := #[.tmp 7, .tmp 9], argTypes := #[152, 3] }, _, _, _, _⟩) (by kernel_rfl) rfl (fun K hK => ?_)
 go_simp
 go_at_call 132
 refine (hS.out q1 B1.out).mono ?_
 rintro e w4 ⟨vs, rfl, O4, B4⟩
 obtain ⟨a4, c4, rfl, _, _⟩ := O4.form
 replace O4 := hide O4
 replace B4 : Hid (Below w.heap.size w w4) := B1.out.trans (B4.mono B1.out.size)
 have K4 := hide (KB.out _ B4.out)
 (try go_simp)
 refine hK.out _ _ (fun _ => K4.out) ?_
 clear hK K
 (try simp only [zzp, zzb, zzc])
 have H4 := hide (H.out.below B4.out)
 obtain ⟨v5, w5, hr, O5, G5, A5⟩ := run_app (B := 0) H4.out.l O4.out.sl (by have := hsl.out; omega) (Nat.zero_le _) 54
 have hL : Hid (f.la ++ svd f ta = (syF f).la) := by show _ = _; unfold syF; rw [hta.out]
 rw [hL.out] at O5
 replace O5 := hide O5
 replace G5 := hide G5
 replace A5 := hide A5
 have K5 : Hid (w5.heap[p]? = some (.cells #[vb, .slice al f.la.length cl, .int .i64 (f.sp : Int)] TFl (0, 0))) := (But.of_grownBy (X := fun k => Value.ownBlock (.slice al f.la.length cl) = some k) G5.out fun k e => e).at K4.out (H4.out.l.no H4.out.box (by decide))
 obtain ⟨a5, c5, e5, _, _⟩ := O5.out.form
 subst e5
 refine wpAnyT_one (i := 9) (o := ⟨some 11, .call { callee := .builtin .append, args := #[.tmp 6, .tmp 10], argTypes := #[54, 54] }, _, _, _, _⟩) (by kernel_rfl) rfl (fun K hK => ?_)
 refine step_app rfl (.tmp 6) (.tmp 10) rfl _ _ _ w5 (by simp [Act.eval]) (by simp [Act.eval]) hr ?_
 refine hK.out _ _ (fun _ => K5.out) ?_
 clear hK K hr
 (try simp only [zzp, zzb, zzc])
 refine Ix.tk 10 ⟨some 12, .nilCheck (.tmp 2), _, _, _, _⟩ (.pointer (some ⟨p, 0, none⟩)) [11,12] ?_ K5.out ?_
 ·intro wq hSw
  have y2 := KC.out wq hSw
  go_simp
 (try simp only [zzp, zzb, zzc])
 refine Ix.tk 11 ⟨some 13, .fieldAddr 170 (.tmp 12) 1, _, _, _, _⟩ (.pointer (some ⟨p, 1, none⟩)) [12] ?_ K5.out ?_
 ·intro wq hSw
  have y2 := KC.out wq hSw
  go_simp
 (try simp only [zzp, zzb, zzc])
 have d1 := (cells3 K5.out).2.1
 have d2 := (frozen3 K5.out).2.1
 refine wpAnyT_one (i := 12) (o := ⟨none, .store 54 (.tmp 13) (.tmp 11), _, _, _, _⟩) (by kernel_rfl) rfl (fun K hK => ?_)
 go_simp
 refine hK.out _ _ (vac (by kernel_rfl)) ?_
 clear hK K d1 d2 KC KB hT hS
 refine wpAnyT_done (by kernel_rfl) ?_ _
 have b7 : Hid ((w5.setCell ⟨p, 1, none⟩ (.slice a5 (syF f).la.length c5)).heap[p]? = some (.cells #[vb, .slice a5 (syF f).la.length c5, .int .i64 (f.sp : Int)] TFl (0, 0))) := by show _ = _; rw [heap_setCell_same _ _ _ _ _ _ K5.out]; simp
 have g7 := hide (But.of_grownBy (X := fun k => k = p) (grown_setCell w5 p 1 (.slice a5 (syF f).la.length c5)) fun k e => by cases e; rfl)
 have x1 := (cells3 b7.out).2.2
 have x2 := (frozen3 b7.out).2.2
 generalize hw7 : (w5.setCell ⟨p, 1, none⟩ (.slice a5 (syF f).la.length c5)) = w7 at *
 replace hw7 := hide hw7
 go_wp2_with fail
 go_end0
 have b8 : (w7.setCell ⟨p, 2, none⟩ (.int .i64 0)).heap[p]? = some (.cells #[vb, .slice a5 (syF f).la.length c5, .int .i64 0] TFl (0, 0)) := by rw [heap_setCell_same _ _ _ _ _ _ b7.out]; simp
 have g8 := g7.out.trans (But.of_grownBy (X := fun k => k = p) (grown_setCell w7 p 2 (.int .i64 0)) fun k e => by cases e; rfl)
 have G5b := But.of_grownBy (X := fun k => Value.ownBlock (.slice al f.la.length cl) = some k) G5.out fun k e => e
 have Ob5 : Ob 0 w5 vb f.by_ := H4.out.b.but G5b (fun k hk c => H4.out.ne k hk c)
 refine ⟨rfl, .slice a5 (syF f).la.length c5, ⟨b8, ?_, ?_, ?_, ?_, Nat.zero_le _, H.out.sz⟩, ?_, ?_⟩
 ·exact Ob5.but g8 (fun k hk e => Ob5.no K5.out (by decide) (by rw [← e]; exact hk))
 ·exact O5.out.but g8 (fun k hk e => O5.out.no K5.out (by decide) (by rw [← e]; exact hk))
 ·intro k hk c
  rcases A5.out with e | e
  ·rw [e] at c
   exact H.out.ne k hk c
  ·rw [e] at c
   have := (H4.out.b.lt k hk).2
   simp at c
   omega
 ·show (syF f).la.length ≤ f.by_.length
  rw [← hL.out, List.length_append, hsl.out]
  have := hta.out
  have := H.out.le
  omega
 ·exact (((But.of_below B4.out _).trans (G5b.mono fun k _ e => .inr (.inr e))).trans (g8.mono fun k _ e => .inl e))
 ·rintro k (q | q | q)
  ·exact .inl (.inl q)
  ·exact .inl (.inr (.inl q))
  ·rcases A5.out with e | e
   ·rw [e] at q
    exact .inl (.inr (.inr q))
   ·rw [e] at q
    have := B4.out.size
    simp at q
    exact .inr (by omega)
def DS.room (S : DS) : Int := max (S.most - (sumL S.F S.dir : Int)) 0
theorem DS.ok.sum {S : DS} (h : S.ok) (hc : S.c7 < 1000000000) : (sumL S.F S.dir : Int) ≤ 16777216000000000 := by
 have h1 := sumL_le S.F S.dir fun e he => h.sz e.2 (runs_mem (List.mem_map.2 ⟨e, he, rfl⟩))
 obtain ⟨d1, _, _⟩ := dir_len h hc
 have : S.dir.length * 16777216 ≤ 1000000000 * 16777216 := Nat.mul_le_mul_right _ (by omega)
 omega
theorem room_any {w : World} {b : Nat} {S : DS} {O : Nat → Prop} {f g : Nat} {pd : Value} {am : Option Nat} {VB VL : Nat → Value} (h : Dsk w b S O f g pd am VB VL) (hc : S.c7 < 1000000000) :
    Calls Tryz.prog 129 #[.pointer (some ⟨b, 0, none⟩)] w fun e w' => e = .returned (.int .i64 S.room) ∧ Below w.heap.size w w' := by
 have c0 : w.cell? ⟨b, 0, none⟩ = some (.int .i64 S.most) := h.dk.box.cells.1
 have c2 : w.cell? ⟨b, 2, none⟩ = some (.map (some f)) := h.dk.box.cells.2.2.1
 have hown : w.ownsMap Tryz.prog TS ptrR f S.dir.length (dirD S.dir) := h.dk.mf
 have hsum := h.ok.sum hc
 have hmost := h.ok.most
 have hkeys := hide h.dk.mf.keys
 have hfl := hide h.dk.mf.lt
 have hF : Hid (∀ q p k, Below w.heap.size w q → get S.dir k = some p → ∃ ao ca, q.cell? ⟨p, 0, none⟩ = some (.slice ao (S.F p).by_.length ca)) := fun q p k hq hp => by
  have hf := (h.fs.at_ p (DS.mem_dir hp)).below hq
  obtain ⟨ao, ca, e, _⟩ := hf.b.form
  exact ⟨ao, ca, by rw [← e]; exact (cells3 hf.box).1⟩
 have hroom : Hid (max (S.most - (sumL S.F S.dir : Int)) 0 = S.room) := rfl
 have hss := hide (leftS_start S.F S.dir)
 have hse : Hid (∀ left : Lit → Bool, (∀ kl, left kl = false) → leftS S.F S.dir left = 0) := fun left hl => leftS_end S.F S.dir hl
 have hst : Hid (∀ (left : Lit → Bool) k p, get S.dir k = some p → left (.string k) = true → leftS S.F S.dir left = leftS S.F S.dir (fun z => left z && !z.sameKey (.string k)) + (S.F p).by_.length) := fun left k p hg hl => leftS_step S.F hkeys.out hg hl
 have hsl : Hid (∀ left : Lit → Bool, leftS S.F S.dir left ≤ sumL S.F S.dir) := fun left => leftS_le S.F S.dir left
 have hhas : Hid (∀ k, Maps.has (dirD S.dir) (.string k) = true → (get S.dir k).isSome = true) := fun k hk => by rw [← dirD_has]; exact hk
 have hrg : Hid (∀ (x : ByteArray) (c : Option Nat) (y : DataW Unit × List MemPlace), (∀ zd, (dirD S.dir).atKey (.string x.data.toList) zd = y.1) → ptrR (.pointer (c.map fun b => ⟨b, 0, none⟩)) = some y → (get S.dir x.data.toList).isSome = true → ∃ p, c = some p ∧ get S.dir x.data.toList = some p) := fun x c y h1 h2 h3 => round_get h1 h2 h3
 generalize S.dir = l at *
 generalize hSM : S.most = M at *
 obtain ⟨N, hN⟩ : ∃ N : Nat, sumL S.F l = N := ⟨_, rfl⟩
 rw [hN] at hss hsl hsum hroom
 generalize S.room = R at *
 generalize S.F = F at *
 clear h hN hkeys hSM
 go_enter Tryz.func129, Tryz.ntmps129
 go_wp2_with (first
  | (at_range; refine wpList_range_own _ rfl _ TM rfl TS TF keyS undM ptrR f l.length (dirD l) rfl hown ?_; intro w0 hrg0 hg0 hs0)
  | go_in)
 go_frame
 go_loopw [3] (fun v wr => ∃ (left : Lit → Bool) (cnt : Nat), wr.ranges Tryz.prog TS ptrR f w.heap.size l.length (dirD l) left cnt ∧ v = .int .i64 (M - (N : Int) + (leftS F l left : Int)) ∧ Hid (∀ k, left (.string k) = true → (get l k).isSome = true) ∧ Hid (Below w.heap.size w wr))
  (fun _ wr => wr.rangeLeft f w.heap.size)
 case atStart =>
  refine ⟨_, _, hrg0, ?_, hhas.out, (Below.refl _ w).grown hg0 (Nat.le_refl _) (fun j hj => by cases hj)⟩
  rw [hss.out]
  congr 1
  omega
 case round =>
  obtain ⟨left, cnt, hrgs, rfl, hlk, hnx⟩ := hrel
  go_wp2_with (first
   | (at_next; refine wpList_next_ranges _ rfl _ rfl TS keyS ptrR Value.string (fun c : Option Nat => .pointer (c.map fun b => ⟨b, 0, none⟩)) (fun key kl hk => keyOf_str_inv hk) (fun v y hv => ptrR_shape hv) f w.heap.size l.length _ _ _ rfl hrgs ?_ ?_)
   | go_in)
  ·intro hc0 hl0
   have e0 := hse.out left hl0
   rw [e0]
   generalize hX : M - (N : Int) + ((0 : Nat) : Int) = X
   have hX2 : Hid (max X 0 = R) := by show _ = _; rw [← hroom.out, ← hX]; simp
   clear hX
   go_wp2_with fail
   go_ret
   exact ⟨by rw [← hX2.out]; rfl, hnx.out⟩
  ·intro x c kl ya yb w1 cnt1 hkey hlx hv hat hrg1 hlt hg1 hs1 hen
   obtain ⟨rfl, hxs⟩ := keyOf_str_lit hkey
   obtain ⟨p, rfl, hp⟩ := hrg.out x c (ya, yb) hat hv (hlk.out _ hlx)
   have hst1 := hst.out left _ p hp hlx
   have hB1 := hide (hnx.out.grown hg1 hnx.out.size (fun j hj => by cases hj; exact Nat.le_refl _))
   obtain ⟨ao, ca, hcell⟩ := hF.out w1 p _ hB1.out hp
   have hsl1 := hsl.out left
   have hlk2 : Hid (∀ k, (fun z : Lit => left z && !z.sameKey (.string x.data.toList)) (.string k) = true → (get l k).isSome = true) := fun k hk => hlk.out k (by simp only [Bool.and_eq_true] at hk; exact hk.1)
   obtain ⟨L1, hL1⟩ : ∃ L1 : Nat, Hid (leftS F l (fun z => left z && !z.sameKey (.string x.data.toList)) = L1) := ⟨_, rfl⟩
   rw [hL1.out] at hst1
   obtain ⟨len, hlen⟩ : ∃ len : Nat, (F p).by_.length = len := ⟨_, rfl⟩
   rw [hlen] at hst1 hcell
   rw [hst1]
   obtain ⟨X, hX⟩ : ∃ X : Int, Hid (M - (N : Int) + ((L1 + len : Nat) : Int) = X) := ⟨_, rfl⟩
   have hw : IntKind.i64.wrap (X - (len : Int)) = X - (len : Int) := by have := hX.out; rw [IntKind.wrap_i64]; omega
   rw [hX.out]
   replace hst1 := hide hst1
   replace hsl1 := hide hsl1
   replace hlt := hide hlt
   replace hp := hide hp
   replace hkey := hide hkey
   replace hv := hide hv
   replace hat := hide hat
   replace hrg1 := hide hrg1
   replace hrgs := hide hrgs
   clear hg1 hs1 hlen hlx
   simp only [Option.map_some] at hen
   go_wp2_with fail
   go_roundw
   case rel =>
    refine ⟨_, cnt1, hrg1.out, ?_, hlk2.out, hB1.out⟩
    rw [hL1.out]
    have := hX.out
    congr 1
    omega
   case measure => rw [hrg1.out.left_eq, hrgs.out.left_eq]; exact hlt.out
def SOff (O : Nat → Prop) (v : Value) : Prop := ∀ b off n c, v = .slice (some ⟨b, off, none⟩) n c → 0 < n → ¬ O b
theorem sl_but {X : Nat → Prop} {w w' : World} {v : Value} {l : List UInt8} (h : Sl w v l) (hb : But X w w') (hx : SOff X v) : Sl w' v l := by
 obtain ⟨ao, cap, rfl, h2, h3, h4, h5⟩ := h
 refine ⟨ao, cap, rfl, h2, h3, h4, fun i hi => ?_⟩
 obtain ⟨b, off, e, hc⟩ := h5 i hi
 subst e
 refine ⟨b, off, rfl, ?_⟩
 rw [← hc]
 have := hb.block b (lt_of_cell hc) (hx b off _ _ rfl (by omega))
 unfold World.cell?
 dsimp only
 rw [this]
def DS.apN (S : DS) (len : Nat) : Nat := (if S.flt.2.1 ≠ 0 then min (min (len : Int) S.room) S.flt.2.2 else min (len : Int) S.room).toNat
theorem apN_le {S : DS} (h : S.ok) (len : Nat) : S.apN len ≤ len ∧ (S.apN len : Int) ≤ S.room := by
 have := h.flt
 have h0 : 0 ≤ S.room := by unfold DS.room; omega
 unfold DS.apN
 split <;> omega
theorem apN_min {S : DS} (_ : S.ok) (len : Nat) (h0 : S.flt.2.1 = 0) : min (len : Int) S.room = (S.apN len : Int) := by
 have h0' : 0 ≤ S.room := by unfold DS.room; omega
 unfold DS.apN
 rw [if_neg (by simpa using h0)]
 omega
theorem apN_part {S : DS} (h : S.ok) (len : Nat) (h0 : S.flt.2.1 ≠ 0) : min (min (len : Int) S.room) S.flt.2.2 = (S.apN len : Int) := by
 have := h.flt
 have h0' : 0 ≤ S.room := by unfold DS.room; omega
 unfold DS.apN
 rw [if_pos h0]
 omega
theorem apN_size {S : DS} (h : S.ok) {s : List UInt8} {p : Nat} (hp : get S.dir s = some p) (len : Nat) : (S.F p).by_.length + S.apN len ≤ 16777216 := by
 have h1 := (apN_le h len).2
 have h2 := h.sz p (DS.mem_dir hp)
 have h3 := sumL_one S.F hp
 have h4 := h.most
 unfold DS.room at h1
 omega
def apF (f : Fl) (b : List UInt8) : Fl := ⟨f.by_ ++ b, f.la, f.sp⟩
def DS.append (S : DS) (s : ByteArray) (b : List UInt8) : DS × Int × Int :=
 match S.find s with
 | (none, e) => (S, 0, e)
 | (some p, _) =>
  ({ (S.beg 1).str S.flt.2.1 with F := upd S.F p (apF (S.F p) (b.take (S.apN b.length))), c8 := S.c8 + (S.apN b.length : Int) }, (S.apN b.length : Int),
   if strF S.flt.2.1 ≠ 0 then strF S.flt.2.1 else if S.apN b.length < b.length then 21 else 0)
theorem Dk.c8 {w : World} {b : Nat} {x : Dc} {f g : Nat} {l l2 : Dr} {P : List Ch} {al : Ar} (h : Dk w b x f g l l2 P al) (n : Int) : Dk (w.setCell ⟨b, 14, none⟩ (.int .i64 n)) b { x with c8 := n } f g l l2 P al := by
 obtain ⟨n1, n2, n3, n4⟩ := h.noB
 have hB := But.of_grownBy (X := fun k => k = b) (grown_setCell w b 14 (.int .i64 n)) fun k e => by cases e; rfl
 refine ⟨?_, h.fm, h.lm, h.mf.but hB n1, h.mg.but hB n2, h.fg, h.pd.but hB n4, fun m e => ⟨(h.am m e).1.but hB (n3 m e), (h.am m e).2⟩, h.an, h.run, h.can, h.ok, h.c0, h.c1⟩
 have := heap_setCell_same w b 14 _ _ (.int .i64 n) h.box
 exact this
theorem Dsk.c8 {w : World} {b : Nat} {S : DS} {O : Nat → Prop} {f g : Nat} {pd : Value} {am : Option Nat} {VB VL : Nat → Value} (h : Dsk w b S O f g pd am VB VL) (n : Int) (hn : 0 ≤ n ∧ n ≤ 16777216 * S.c7) :
    Dsk (w.setCell ⟨b, 14, none⟩ (.int .i64 n)) b { S with c8 := n } O f g pd am VB VL ∧ Sgo w (w.setCell ⟨b, 14, none⟩ (.int .i64 n)) O O := by
 have hB := But.of_grownBy (X := fun k => k = b) (grown_setCell w b 14 (.int .i64 n)) fun k e => by cases e; rfl
 exact h.turn (T := { S with c8 := n }) rfl rfl rfl ⟨h.ok.most, h.ok.sz, h.ok.cnt, h.ok.calm, hn⟩ (h.dk.c8 n) ⟨hB.mono fun k _ e => .inl e, fun k hk => .inl hk⟩
theorem beg_room (S : DS) (j : Nat) : (S.beg j).room = S.room := by
 obtain ⟨e1, e2, e3, e4, e5, e6, e7, e8⟩ := beg_rest S j
 unfold DS.room
 rw [beg_dir, e1, e8]
theorem FlAt.app {w w5 : World} {p : Nat} {f : Fl} {vb vl v5 : Value} {m : List UInt8} (h : FlAt w p f vb vl) (O5 : Ob 0 w5 v5 (f.by_ ++ m)) (G5 : w.grownBy w5 vb.ownBlock) (A5 : v5.ownBlock = vb.ownBlock ∨ v5.ownBlock = some w.heap.size) (hz : f.by_.length + m.length ≤ 1099511627776) :
    w5.heap[p]? = some (.cells #[vb, vl, .int .i64 (f.sp : Int)] TFl (0, 0)) ∧ FlAt (w5.setCell ⟨p, 0, none⟩ v5) p (apF f m) v5 vl ∧ But (FOwn p vb vl) w (w5.setCell ⟨p, 0, none⟩ v5) ∧ (∀ k, FOwn p v5 vl k → FOwn p vb vl k ∨ w.heap.size ≤ k) := by
 have G5b := But.of_grownBy (X := fun k => vb.ownBlock = some k) G5 fun k e => e
 have K5 : w5.heap[p]? = some (.cells #[vb, vl, .int .i64 (f.sp : Int)] TFl (0, 0)) := G5b.at h.box (h.b.no h.box (by decide))
 have g7 := But.of_grownBy (X := fun k => k = p) (grown_setCell w5 p 0 v5) fun k e => by cases e; rfl
 have Ol : Ob 0 w5 vl f.la := h.l.but G5b (fun k hk c => h.ne k c hk)
 refine ⟨K5, ⟨?_, ?_, ?_, ?_, ?_, ?_, ?_⟩, ?_, ?_⟩
 ·rw [heap_setCell_same _ _ _ _ _ _ K5]; simp [apF]
 ·exact O5.but g7 (fun k hk e => O5.no K5 (by decide) (by rw [← e]; exact hk))
 ·exact Ol.but g7 (fun k hk e => Ol.no K5 (by decide) (by rw [← e]; exact hk))
 ·intro k hk c
  rcases A5 with e | e
  ·rw [e] at hk
   exact h.ne k hk c
  ·rw [e] at hk
   have := (h.l.lt k c).2
   simp at hk
   omega
 ·have := h.le; simp [apF]; omega
 ·have := h.sp; have := h.le; simp [apF]; omega
 ·simp [apF]; exact hz
 ·exact (G5b.mono fun k _ e => .inr (.inl e)).trans (g7.mono fun k _ e => .inl e)
 ·rintro k (q | q | q)
  ·exact .inl (.inl q)
  ·rcases A5 with e | e
   ·rw [e] at q; exact .inl (.inr (.inl q))
   ·rw [e] at q; simp at q; exact .inr (by omega)
  ·exact .inl (.inr (.inr q))
theorem append_any {w : World} {b : Nat} {S : DS} {O : Nat → Prop} {f g : Nat} {pd : Value} {am : Option Nat} {VB VL : Nat → Value} (h : Dsk w b S O f g pd am VB VL) (s : ByteArray) (hs : s.size ≤ maxLen) (v : Value) (D : List UInt8) (hv : Sl w v D) (ho : SOff O v) (hc : S.c7 < 900000000) :
    Calls Tryz.prog 86 #[.pointer (some ⟨b, 0, none⟩), .string s, v] w fun e w' => e = .returned (.tuple #[.int .i64 (S.append s D).2.1, .int .i64 (S.append s D).2.2]) ∧ ∃ O', DskE w' b (S.append s D).1 O' ∧ Sgo w w' O O' := by
 have hF := dsk_find h s hs
 by_cases h0 : (S.find s).2 = 0
 ·obtain ⟨p, e, hg, hr, hp⟩ := find_ok h0
  rw [e] at hF
  simp only [Option.map_some] at hF
  have hR : Hid (S.append s D = ({ (S.beg 1).str S.flt.2.1 with F := upd S.F p (apF (S.F p) (D.take (S.apN D.length))), c8 := S.c8 + (S.apN D.length : Int) }, (S.apN D.length : Int), if strF S.flt.2.1 ≠ 0 then strF S.flt.2.1 else if S.apN D.length < D.length then 21 else 0)) := by show _ = _; unfold DS.append; rw [e]
  have hb : Hid (∀ u, Dsk u b S O f g pd am VB VL → _) := fun u hu => dsk_begin hu 1 (by omega) (by omega)
  have hm : Hid (∀ u, Dsk u b (S.beg 1) O f g pd am VB VL → Calls Tryz.prog 129 #[.pointer (some ⟨b, 0, none⟩)] u fun e w' => e = .returned (.int .i64 S.room) ∧ Below u.heap.size u w') := fun u hu => by have := room_any hu (by have := (beg_rest S 1).2.2.2.2.2.1; omega); rw [beg_room] at this; exact this
  obtain ⟨hn1, hn2⟩ := apN_le h.ok D.length
  have hsz := apN_size h.ok hg D.length
  have hmin := apN_min h.ok D.length
  have hpart := apN_part h.ok D.length
  have hft := h.ok.flt
  have H := hide h
  have V := hide hv
  obtain ⟨av, cv, rfl, _, q3, q4, _⟩ := hv
  have q4' : cv ≤ 9223372036854775807 := by unfold maxLen at q4; omega
  have hpb : (S.beg 1).ps = S.ps := beg_ps S 1
  obtain ⟨t, ht⟩ : ∃ t, Hid (S.flt = t) := ⟨_, rfl⟩
  obtain ⟨n, hn⟩ : ∃ n, Hid (S.apN D.length = n) := ⟨_, rfl⟩
  obtain ⟨R, hRm⟩ : ∃ R, Hid (S.room = R) := ⟨_, rfl⟩
  rw [ht.out] at hb hft hmin hpart hR
  rw [hn.out] at hn1 hn2 hsz hmin hpart hR
  rw [hRm.out] at hm hmin hpart hn2
  unfold fv at hb
  obtain ⟨ta, tk, tp⟩ := t
  dsimp only at hb hft hmin hpart hR
  replace hmin := hide hmin
  replace hpart := hide hpart
  replace hft := hide hft
  replace hn2 := hide hn2
  clear h e hr h0 hg hpb
  go_enter Tryz.func86, Tryz.ntmps86
  go_upto_region 5 with (first
   | (go_at_call 89; refine hF.mono ?_; rintro e w1 ⟨rfl, B1⟩; replace B1 := hide B1; have D1 := hide (H.out.below B1.out))
   | (go_at_call 64; refine (hb.out _ D1.out).mono ?_; rintro e w2 ⟨rfl, D2, G2⟩; replace D2 := hide D2; replace G2 := hide G2))
  have B3 := hide ((Below.refl _ w2).alloc (Nat.le_refl _) (.cells #[.int .i64 ta, .int .i64 tk, .int .i64 tp] 126))
  have N3 := hide (heap_alloc_new w2 (.cells #[.int .i64 ta, .int .i64 tk, .int .i64 tp] 126))
  have D3 := hide (D2.out.below B3.out)
  generalize w2.alloc (.cells #[.int .i64 ta, .int .i64 tk, .int .i64 tp] 126) = w3 at *
  have V2 := hide (sl_but (Below.sl B1.out V.out) G2.out.but ho)
  have T3 := hide ((Sgo.of_below (O := O) B1.out).trans (G2.out.trans (Sgo.of_below B3.out)))
  have hlo : Hid (¬ O w2.heap.size ∧ b ≠ w2.heap.size) := ⟨fun c => Nat.lt_irrefl _ (D2.out.lt _ c), fun e => by have := D2.out.lt b (D2.out.ow b (.inl rfl)); omega⟩
  have i1 : (n : Int) ≤ (cv : Int) := by omega
  have i2 : (0 : Int) ≤ (n : Int) := by omega
  have hb8 := H.out.ok.by8
  have hww : IntKind.i64.wrap (S.c8 + (n : Int)) = S.c8 + (n : Int) := by rw [IntKind.wrap_i64]; omega
  have hb8' : Hid (0 ≤ S.c8 + (n : Int) ∧ S.c8 + (n : Int) ≤ 16777216 * (S.c7 + 1)) := by show _ ∧ _; omega
  have hsz' := hide hsz
  clear hF hb D1 V B1 G2 D2 hb8 hc hsz
  by_cases k0 : tk = 0
  ·subst k0
   have hmn := hmin.out rfl
   have i0 : ((0 : Int) != 0) = false := rfl
   go_upto_region 8 with (go_at_call 129; refine (hm.out _ D3.out).mono ?_; rintro e w4 ⟨rfl, B4⟩; replace B4 := hide B4; have N4 : Hid (w4.heap[w2.heap.size]? = some (.cells #[.int .i64 ta, .int .i64 0, .int .i64 tp] 126 (0, 0))) := (B4.out.block _ (heap_lt N3.out)).trans N3.out; obtain ⟨x0, x1, x2⟩ := cells3 N4.out; have D4 := hide (D3.out.below B4.out))
   clear x0 x1 x2
   replace hmn := hide hmn
   have H4 : Hid (FlAt w4 p (S.F p) (VB p) (VL p)) := D4.out.fs.at_ p hp
   obtain ⟨ab, cb, eb, _, _⟩ := H4.out.b.form
   have V4 : Hid (Sl w4 (.slice av n cv) (D.take n)) := sl_take (Below.sl B4.out (Below.sl B3.out V2.out)) hn1
   have KC : Hid (∀ q : World, q.heap[p]? = some (.cells #[VB p, VL p, .int .i64 ((S.F p).sp : Int)] TFl (0, 0)) → q.cell? ⟨p, 0, none⟩ = some (.slice ab (S.F p).by_.length cb)) := fun q hq => by rw [← eb]; exact (cells3 hq).1
   have KP : Hid (w4.drew.heap[p]? = some (.cells #[VB p, VL p, .int .i64 ((S.F p).sp : Int)] TFl (0, 0))) := H4.out.box
   have B5 : Hid (Below w4.heap.size w4 w4.drew) := (Below.refl _ _).drew
   replace eb := hide eb
   refine wp_region_T (fun q => q.heap[p]? = some (.cells #[VB p, VL p, .int .i64 ((S.F p).sp : Int)] TFl (0, 0))) 11 (by kernel_rfl) ?_
   generalize w4.drew = q at *
   refine Ix.tk 0 ⟨some 40, .move (.tmp 8), _, _, _, _⟩ (.pointer (some ⟨p, 0, none⟩)) [11] ?_ KP.out ?_
   ·intro wq hSw
    have y2 := KC.out wq hSw
    go_simp
   (try simp only [zzp, zzb, zzc])
   refine Ix.tk 1 ⟨some 41, .move (.tmp 8), _, _, _, _⟩ (.pointer (some ⟨p, 0, none⟩)) [11] ?_ KP.out ?_
   ·intro wq hSw
    have y2 := KC.out wq hSw
    go_simp
   (try simp only [zzp, zzb, zzc])
   refine Ix.tk 2 ⟨some 42, .nilCheck (.tmp 41), _, _, _, _⟩ (.pointer (some ⟨p, 0, none⟩)) [11] ?_ KP.out ?_
   ·intro wq hSw
    have y2 := KC.out wq hSw
    go_simp
   (try simp only [zzp, zzb, zzc])
   refine Ix.tk 3 ⟨some 43, .fieldAddr 170 (.tmp 42) 0, _, _, _, _⟩ (.pointer (some ⟨p, 0, none⟩)) [11] ?_ KP.out ?_
   ·intro wq hSw
    have y2 := KC.out wq hSw
    go_simp
   (try simp only [zzp, zzb, zzc])
   refine Ix.tk 4 ⟨some 44, .load 54 (.tmp 43), _, _, _, _⟩ (.slice ab (S.F p).by_.length cb) [11] ?_ KP.out ?_
   ·intro wq hSw
    have y2 := KC.out wq hSw
    go_simp
   (try simp only [zzp, zzb, zzc])
   refine Ix.tk 5 ⟨some 45, .move (.tmp 2), _, _, _, _⟩ (.slice av D.length cv) [11] ?_ KP.out ?_
   ·intro wq hSw
    have y2 := KC.out wq hSw
    go_simp
   (try simp only [zzp, zzb, zzc])
   refine Ix.tk 6 ⟨some 46, .move (.tmp 11), _, _, _, _⟩ (.int .i64 (n : Int)) [11] ?_ KP.out ?_
   ·intro wq hSw
    have y2 := KC.out wq hSw
    go_simp
   (try simp only [zzp, zzb, zzc])
   refine Ix.tk 7 ⟨some 47, .slice 54 (.tmp 45) none (some (.tmp 46)) none, _, _, _, _⟩ (.slice av n cv) [11] ?_ KP.out ?_
   ·intro wq hSw
    have y2 := KC.out wq hSw
    go_simp
   (try simp only [zzp, zzb, zzc])
   have Hq := hide (H4.out.below B5.out)
   obtain ⟨v5, w5, hr, O5, G5, A5⟩ := run_app (B := 0) Hq.out.b (V4.out.below4 B5.out) (by have := hsz'.out; rw [List.length_take]; omega) (Nat.zero_le _) 54
   rw [eb.out] at hr
   obtain ⟨K5, F5, U5, W5⟩ := Hq.out.app O5 G5 A5 (by have := hsz'.out; rw [List.length_take]; omega)
   replace K5 := hide K5
   replace F5 := hide F5
   replace U5 := hide U5
   replace W5 := hide W5
   obtain ⟨a5, c5, e5, _, _⟩ := O5.form
   clear O5 G5 A5
   rw [e5] at hr F5 U5 W5
   rw [List.length_append, List.length_take, Nat.min_eq_left hn1] at hr F5 U5 W5
   refine wpAnyT_one (i := 8) (o := ⟨some 48, .call { callee := .builtin .append, args := #[.tmp 44, .tmp 47], argTypes := #[54, 54] }, _, _, _, _⟩) (by kernel_rfl) rfl (fun K hK => ?_)
   refine step_app rfl (.tmp 44) (.tmp 47) rfl _ _ _ w5 (by simp [Act.eval]) (by simp [Act.eval]) hr ?_
   refine hK.out _ _ (fun _ => K5.out) ?_
   clear hK K hr
   (try simp only [zzp, zzb, zzc])
   refine Ix.tk 9 ⟨some 49, .nilCheck (.tmp 40), _, _, _, _⟩ (.pointer (some ⟨p, 0, none⟩)) [10,11] ?_ K5.out ?_
   ·intro wq hSw
    have y2 := KC.out wq hSw
    go_simp
   (try simp only [zzp, zzb, zzc])
   refine Ix.tk 10 ⟨some 50, .fieldAddr 170 (.tmp 49) 0, _, _, _, _⟩ (.pointer (some ⟨p, 0, none⟩)) [11] ?_ K5.out ?_
   ·intro wq hSw
    have y2 := KC.out wq hSw
    go_simp
   (try simp only [zzp, zzb, zzc])
   have d1 := (cells3 K5.out).1
   have d2 := (frozen3 K5.out).1
   refine wpAnyT_one (i := 11) (o := ⟨none, .store 54 (.tmp 50) (.tmp 48), _, _, _, _⟩) (by kernel_rfl) rfl (fun K hK => ?_)
   go_simp
   refine hK.out _ _ (vac (by kernel_rfl)) ?_
   clear hK K d1 d2 KC
   refine wpAnyT_done (by kernel_rfl) ?_ _
   have D5 := hide (D4.out.below B5.out)
   obtain ⟨O6, D6, G6⟩ := D5.out.one hp F5.out U5.out W5.out (by have := hsz'.out; simp only [apF, List.length_append, List.length_take]; omega)
   have zz : Hid (w2.heap.size < w4.heap.size) := heap_lt N4.out
   have T6 := hide (T3.out.trans ((Sgo.of_below B4.out).trans ((Sgo.of_below B5.out).trans G6)))
   have N6 : Hid ((w5.setCell ⟨p, 0, none⟩ (.slice a5 ((S.F p).by_.length + n) c5)).heap[w2.heap.size]? = some (.cells #[.int .i64 ta, .int .i64 0, .int .i64 tp] 126 (0, 0))) := G6.but.at ((B5.out.block _ zz.out).trans N4.out) hlo.out.1
   replace D6 := hide D6
   clear D5 K5 F5 U5 W5 G6 D4 V4 KP B5 H4 Hq T3
   generalize (w5.setCell ⟨p, 0, none⟩ (.slice a5 ((S.F p).by_.length + n) c5)) = w6 at *
   have y1 : w6.cell? ⟨b, 14, none⟩ = some (.int .i64 S.c8) := D6.out.dk.box.all.2
   have y2 : w6.frozen? ⟨b, 14, none⟩ = false := by have := D6.out.dk.cells; simp [World.frozen?, this]
   have D7 := hide (D6.out.c8 (S.c8 + (n : Int)) hb8'.out)
   have N7 : Hid ((w6.setCell ⟨b, 14, none⟩ (.int .i64 (S.c8 + (n : Int)))).heap[w2.heap.size]? = some (.cells #[.int .i64 ta, .int .i64 0, .int .i64 tp] 126 (0, 0))) := (But.of_grownBy (X := fun k => k = b) (grown_setCell w6 b 14 (.int .i64 (S.c8 + (n : Int)))) fun k e => by cases e; rfl).at N6.out (fun e => hlo.out.2 e.symm)
   obtain ⟨x0, x1, x2⟩ := cells3 N7.out
   have hSt := dsk_strike D7.out.1 (ta, 0, tp) (by have := hft.out; show (0 : Int) ≠ 4; omega)
   have T7 := hide (T6.out.trans D7.out.2)
   unfold fv at hSt
   dsimp only at hSt
   have hE : Hid ((({ ({ S.beg 1 with F := upd S.F p (apF (S.F p) (D.take n)) } : DS) with c8 := S.c8 + (n : Int) } : DS).str 0) = (S.append s D).1) := by
    show _ = _
    rw [hR.out]
    unfold DS.str
    split <;> rfl
   have hA1 : Hid ((n : Int) = (S.append s D).2.1) := by show _ = _; rw [hR.out]
   have hA2 : Hid ((if strF 0 ≠ 0 then strF 0 else if n < D.length then 21 else 0) = (S.append s D).2.2) := by show _ = _; rw [hR.out]
   obtain ⟨e0, he⟩ : ∃ e0, Hid (strF 0 = e0) := ⟨_, rfl⟩
   rw [he.out] at hSt hA2
   clear hR hm hmin hpart hmn D6 N6 T6 N4 B4 N3 B3 D3 V2
   by_cases s0 : e0 = 0
   ·subst s0
    by_cases c : n < D.length
    ·have c1 : (n : Int) < (D.length : Int) := by omega
     have hA3 : Hid ((21 : Int) = (S.append s D).2.2) := by show _ = _; rw [← hA2.out, if_neg (by simp), if_pos c]
     clear hA2
     go_wp2_with (go_at_call 103; refine hSt.mono ?_; rintro e w8 ⟨rfl, D8, G8⟩; replace D8 := hide D8; replace G8 := hide G8)
     go_ret2
     refine ⟨by rw [← hA1.out, ← hA3.out]; rfl, O6, ?_, T7.out.trans G8.out⟩
     rw [← hE.out]
     exact D8.out.e
    ·have c1 : ¬ (n : Int) < (D.length : Int) := by omega
     have hA3 : Hid ((0 : Int) = (S.append s D).2.2) := by show _ = _; rw [← hA2.out, if_neg (by simp), if_neg c]
     clear hA2
     go_wp2_with (go_at_call 103; refine hSt.mono ?_; rintro e w8 ⟨rfl, D8, G8⟩; replace D8 := hide D8; replace G8 := hide G8)
     go_ret2
     refine ⟨by rw [← hA1.out, ← hA3.out]; rfl, O6, ?_, T7.out.trans G8.out⟩
     rw [← hE.out]
     exact D8.out.e
   ·have s0' : (e0 != 0) = true := by simpa using s0
    have hA3 : Hid (e0 = (S.append s D).2.2) := by show _ = _; rw [← hA2.out, if_pos s0]
    clear hA2 s0
    go_wp2_with (go_at_call 103; refine hSt.mono ?_; rintro e w8 ⟨rfl, D8, G8⟩; replace D8 := hide D8; replace G8 := hide G8)
    go_ret2
    refine ⟨by rw [← hA1.out, ← hA3.out]; rfl, O6, ?_, T7.out.trans G8.out⟩
    rw [← hE.out]
    exact D8.out.e
  ·have k0' : (tk != 0) = true := by simpa using k0
   have hmn := hpart.out k0
   replace k0 := hide k0
   go_upto_region 8 with (go_at_call 129; refine (hm.out _ D3.out).mono ?_; rintro e w4 ⟨rfl, B4⟩; replace B4 := hide B4; have N4 : Hid (w4.heap[w2.heap.size]? = some (.cells #[.int .i64 ta, .int .i64 tk, .int .i64 tp] 126 (0, 0))) := (B4.out.block _ (heap_lt N3.out)).trans N3.out; obtain ⟨x0, x1, x2⟩ := cells3 N4.out; have D4 := hide (D3.out.below B4.out))
   clear x0 x1 x2
   replace hmn := hide hmn
   have H4 : Hid (FlAt w4 p (S.F p) (VB p) (VL p)) := D4.out.fs.at_ p hp
   obtain ⟨ab, cb, eb, _, _⟩ := H4.out.b.form
   have V4 : Hid (Sl w4 (.slice av n cv) (D.take n)) := sl_take (Below.sl B4.out (Below.sl B3.out V2.out)) hn1
   have KC : Hid (∀ q : World, q.heap[p]? = some (.cells #[VB p, VL p, .int .i64 ((S.F p).sp : Int)] TFl (0, 0)) → q.cell? ⟨p, 0, none⟩ = some (.slice ab (S.F p).by_.length cb)) := fun q hq => by rw [← eb]; exact (cells3 hq).1
   have KP : Hid (w4.drew.heap[p]? = some (.cells #[VB p, VL p, .int .i64 ((S.F p).sp : Int)] TFl (0, 0))) := H4.out.box
   have B5 : Hid (Below w4.heap.size w4 w4.drew) := (Below.refl _ _).drew
   replace eb := hide eb
   refine wp_region_T (fun q => q.heap[p]? = some (.cells #[VB p, VL p, .int .i64 ((S.F p).sp : Int)] TFl (0, 0))) 11 (by kernel_rfl) ?_
   generalize w4.drew = q at *
   refine Ix.tk 0 ⟨some 40, .move (.tmp 8), _, _, _, _⟩ (.pointer (some ⟨p, 0, none⟩)) [11] ?_ KP.out ?_
   ·intro wq hSw
    have y2 := KC.out wq hSw
    go_simp
   (try simp only [zzp, zzb, zzc])
   refine Ix.tk 1 ⟨some 41, .move (.tmp 8), _, _, _, _⟩ (.pointer (some ⟨p, 0, none⟩)) [11] ?_ KP.out ?_
   ·intro wq hSw
    have y2 := KC.out wq hSw
    go_simp
   (try simp only [zzp, zzb, zzc])
   refine Ix.tk 2 ⟨some 42, .nilCheck (.tmp 41), _, _, _, _⟩ (.pointer (some ⟨p, 0, none⟩)) [11] ?_ KP.out ?_
   ·intro wq hSw
    have y2 := KC.out wq hSw
    go_simp
   (try simp only [zzp, zzb, zzc])
   refine Ix.tk 3 ⟨some 43, .fieldAddr 170 (.tmp 42) 0, _, _, _, _⟩ (.pointer (some ⟨p, 0, none⟩)) [11] ?_ KP.out ?_
   ·intro wq hSw
    have y2 := KC.out wq hSw
    go_simp
   (try simp only [zzp, zzb, zzc])
   refine Ix.tk 4 ⟨some 44, .load 54 (.tmp 43), _, _, _, _⟩ (.slice ab (S.F p).by_.length cb) [11] ?_ KP.out ?_
   ·intro wq hSw
    have y2 := KC.out wq hSw
    go_simp
   (try simp only [zzp, zzb, zzc])
   refine Ix.tk 5 ⟨some 45, .move (.tmp 2), _, _, _, _⟩ (.slice av D.length cv) [11] ?_ KP.out ?_
   ·intro wq hSw
    have y2 := KC.out wq hSw
    go_simp
   (try simp only [zzp, zzb, zzc])
   refine Ix.tk 6 ⟨some 46, .move (.tmp 11), _, _, _, _⟩ (.int .i64 (n : Int)) [11] ?_ KP.out ?_
   ·intro wq hSw
    have y2 := KC.out wq hSw
    go_simp
   (try simp only [zzp, zzb, zzc])
   refine Ix.tk 7 ⟨some 47, .slice 54 (.tmp 45) none (some (.tmp 46)) none, _, _, _, _⟩ (.slice av n cv) [11] ?_ KP.out ?_
   ·intro wq hSw
    have y2 := KC.out wq hSw
    go_simp
   (try simp only [zzp, zzb, zzc])
   have Hq := hide (H4.out.below B5.out)
   obtain ⟨v5, w5, hr, O5, G5, A5⟩ := run_app (B := 0) Hq.out.b (V4.out.below4 B5.out) (by have := hsz'.out; rw [List.length_take]; omega) (Nat.zero_le _) 54
   rw [eb.out] at hr
   obtain ⟨K5, F5, U5, W5⟩ := Hq.out.app O5 G5 A5 (by have := hsz'.out; rw [List.length_take]; omega)
   replace K5 := hide K5
   replace F5 := hide F5
   replace U5 := hide U5
   replace W5 := hide W5
   obtain ⟨a5, c5, e5, _, _⟩ := O5.form
   clear O5 G5 A5
   rw [e5] at hr F5 U5 W5
   rw [List.length_append, List.length_take, Nat.min_eq_left hn1] at hr F5 U5 W5
   refine wpAnyT_one (i := 8) (o := ⟨some 48, .call { callee := .builtin .append, args := #[.tmp 44, .tmp 47], argTypes := #[54, 54] }, _, _, _, _⟩) (by kernel_rfl) rfl (fun K hK => ?_)
   refine step_app rfl (.tmp 44) (.tmp 47) rfl _ _ _ w5 (by simp [Act.eval]) (by simp [Act.eval]) hr ?_
   refine hK.out _ _ (fun _ => K5.out) ?_
   clear hK K hr
   (try simp only [zzp, zzb, zzc])
   refine Ix.tk 9 ⟨some 49, .nilCheck (.tmp 40), _, _, _, _⟩ (.pointer (some ⟨p, 0, none⟩)) [10,11] ?_ K5.out ?_
   ·intro wq hSw
    have y2 := KC.out wq hSw
    go_simp
   (try simp only [zzp, zzb, zzc])
   refine Ix.tk 10 ⟨some 50, .fieldAddr 170 (.tmp 49) 0, _, _, _, _⟩ (.pointer (some ⟨p, 0, none⟩)) [11] ?_ K5.out ?_
   ·intro wq hSw
    have y2 := KC.out wq hSw
    go_simp
   (try simp only [zzp, zzb, zzc])
   have d1 := (cells3 K5.out).1
   have d2 := (frozen3 K5.out).1
   refine wpAnyT_one (i := 11) (o := ⟨none, .store 54 (.tmp 50) (.tmp 48), _, _, _, _⟩) (by kernel_rfl) rfl (fun K hK => ?_)
   go_simp
   refine hK.out _ _ (vac (by kernel_rfl)) ?_
   clear hK K d1 d2 KC
   refine wpAnyT_done (by kernel_rfl) ?_ _
   have D5 := hide (D4.out.below B5.out)
   obtain ⟨O6, D6, G6⟩ := D5.out.one hp F5.out U5.out W5.out (by have := hsz'.out; simp only [apF, List.length_append, List.length_take]; omega)
   have zz : Hid (w2.heap.size < w4.heap.size) := heap_lt N4.out
   have T6 := hide (T3.out.trans ((Sgo.of_below B4.out).trans ((Sgo.of_below B5.out).trans G6)))
   have N6 : Hid ((w5.setCell ⟨p, 0, none⟩ (.slice a5 ((S.F p).by_.length + n) c5)).heap[w2.heap.size]? = some (.cells #[.int .i64 ta, .int .i64 tk, .int .i64 tp] 126 (0, 0))) := G6.but.at ((B5.out.block _ zz.out).trans N4.out) hlo.out.1
   replace D6 := hide D6
   clear D5 K5 F5 U5 W5 G6 D4 V4 KP B5 H4 Hq T3
   generalize (w5.setCell ⟨p, 0, none⟩ (.slice a5 ((S.F p).by_.length + n) c5)) = w6 at *
   have y1 : w6.cell? ⟨b, 14, none⟩ = some (.int .i64 S.c8) := D6.out.dk.box.all.2
   have y2 : w6.frozen? ⟨b, 14, none⟩ = false := by have := D6.out.dk.cells; simp [World.frozen?, this]
   have D7 := hide (D6.out.c8 (S.c8 + (n : Int)) hb8'.out)
   have N7 : Hid ((w6.setCell ⟨b, 14, none⟩ (.int .i64 (S.c8 + (n : Int)))).heap[w2.heap.size]? = some (.cells #[.int .i64 ta, .int .i64 tk, .int .i64 tp] 126 (0, 0))) := (But.of_grownBy (X := fun k => k = b) (grown_setCell w6 b 14 (.int .i64 (S.c8 + (n : Int)))) fun k e => by cases e; rfl).at N6.out (fun e => hlo.out.2 e.symm)
   obtain ⟨x0, x1, x2⟩ := cells3 N7.out
   have hSt := dsk_strike D7.out.1 (ta, tk, tp) (by have := hft.out; show (tk : Int) ≠ 4; omega)
   have T7 := hide (T6.out.trans D7.out.2)
   unfold fv at hSt
   dsimp only at hSt
   have hE : Hid ((({ ({ S.beg 1 with F := upd S.F p (apF (S.F p) (D.take n)) } : DS) with c8 := S.c8 + (n : Int) } : DS).str tk) = (S.append s D).1) := by
    show _ = _
    rw [hR.out]
    unfold DS.str
    split <;> rfl
   have hA1 : Hid ((n : Int) = (S.append s D).2.1) := by show _ = _; rw [hR.out]
   have hA2 : Hid ((if strF tk ≠ 0 then strF tk else if n < D.length then 21 else 0) = (S.append s D).2.2) := by show _ = _; rw [hR.out]
   obtain ⟨e0, he⟩ : ∃ e0, Hid (strF tk = e0) := ⟨_, rfl⟩
   rw [he.out] at hSt hA2
   clear hR hm hmin hpart hmn D6 N6 T6 N4 B4 N3 B3 D3 V2
   by_cases s0 : e0 = 0
   ·subst s0
    by_cases c : n < D.length
    ·have c1 : (n : Int) < (D.length : Int) := by omega
     have hA3 : Hid ((21 : Int) = (S.append s D).2.2) := by show _ = _; rw [← hA2.out, if_neg (by simp), if_pos c]
     clear hA2
     go_wp2_with (go_at_call 103; refine hSt.mono ?_; rintro e w8 ⟨rfl, D8, G8⟩; replace D8 := hide D8; replace G8 := hide G8)
     go_ret2
     refine ⟨by rw [← hA1.out, ← hA3.out]; rfl, O6, ?_, T7.out.trans G8.out⟩
     rw [← hE.out]
     exact D8.out.e
    ·have c1 : ¬ (n : Int) < (D.length : Int) := by omega
     have hA3 : Hid ((0 : Int) = (S.append s D).2.2) := by show _ = _; rw [← hA2.out, if_neg (by simp), if_neg c]
     clear hA2
     go_wp2_with (go_at_call 103; refine hSt.mono ?_; rintro e w8 ⟨rfl, D8, G8⟩; replace D8 := hide D8; replace G8 := hide G8)
     go_ret2
     refine ⟨by rw [← hA1.out, ← hA3.out]; rfl, O6, ?_, T7.out.trans G8.out⟩
     rw [← hE.out]
     exact D8.out.e
   ·have s0' : (e0 != 0) = true := by simpa using s0
    have hA3 : Hid (e0 = (S.append s D).2.2) := by show _ = _; rw [← hA2.out, if_pos s0]
    clear hA2 s0
    go_wp2_with (go_at_call 103; refine hSt.mono ?_; rintro e w8 ⟨rfl, D8, G8⟩; replace D8 := hide D8; replace G8 := hide G8)
    go_ret2
    refine ⟨by rw [← hA1.out, ← hA3.out]; rfl, O6, ?_, T7.out.trans G8.out⟩
    rw [← hE.out]
    exact D8.out.e
 ·have hR : Hid (S.append s D = (S, 0, (S.find s).2)) := by
    show _ = _
    have q := find_no h0
    unfold DS.append
    cases hq : S.find s with
    | mk a c => rw [hq] at q; dsimp only at q; subst q; rfl
  rw [hR.out]
  have q := find_no h0
  rw [q] at hF
  simp only [Option.map_none] at hF
  generalize (S.find s).2 = r at *
  have h0' : (r != 0) = true := by simpa using h0
  obtain ⟨av, cv, rfl, _, q3, q4, _⟩ := hv
  have H := hide h
  clear h h0 q hR
  go_enter Tryz.func86, Tryz.ntmps86
  go_wp2_with (go_at_call 89; refine hF.mono ?_; rintro e w1 ⟨rfl, B1⟩; replace B1 := hide B1)
  go_ret2
  exact ⟨rfl, O, (H.out.below B1.out).e, Sgo.of_below B1.out⟩
end Go.Proofs.YtnimildpcnmjeaaGreatDoor.Dk
namespace Go.Proofs.YtnimildpcnmjeaaGreatDoor.Dk
open Go.RowKit Go.Maps Go.Sort Go.Shelf Go.Proofs.YtnimildpcnmjeaaGreatDoor.Nm
def SIn (Z : Nat → Prop) (v : Value) : Prop := ∀ b off n c, v = .slice (some ⟨b, off, none⟩) n c → 0 < n → Z b
open Ix (wp_region_T wpAnyT wpAnyT_take wpAnyT_one wpAnyT_done vac)
def noF : Nat → Fl := fun _ => ⟨[], [], 0⟩
def DS.new (most : Int) : DS := ⟨most, true, [], [], [], 0, 0, 0, 0, 0, 0, 0, 0, 0, noF⟩
theorem new_dsk (w : World) (most : Int) (h0 : 0 ≤ most) (h1 : most ≤ 16777216) :
    Calls Tryz.prog 6 #[.int .i64 most] w fun e w' => ∃ b O, e = .returned (.pointer (some ⟨b, 0, none⟩)) ∧ DskE w' b (DS.new most) O ∧ Below w.heap.size w w' ∧ (∀ k, O k → w.heap.size ≤ k) := by
 refine (new_any w most (by omega) (by omega)).mono ?_
 rintro e w' ⟨hB, ⟨hn, _⟩ | ⟨_, _, rfl, hb, m1, m2⟩⟩
 ·exact absurd ⟨h0, h1⟩ hn
 ·refine ⟨w.heap.size + 2, fun k => w.heap.size ≤ k ∧ k < w'.heap.size, rfl, ⟨w.heap.size, w.heap.size + 1, .slice none 0 0, none, fun _ => undef, fun _ => undef, ⟨?_, ⟨fun p hp => by simp [DS.ps, DS.new] at hp, fun p hp => by simp [DS.ps, DS.new] at hp, fun p hp => by simp [DS.ps, DS.new] at hp⟩, ?_, fun p hp => by simp [DS.ps, DS.new] at hp, fun k hk => hk.2, ?_⟩⟩, hB, fun k hk => hk.1⟩
  ·exact ⟨hb, rfl, rfl, m1, m2, by omega, Pd.nil _, (fun _ e => by cases e), fun _ => rfl, rfl, trivial, (by simp [DS.new]), ⟨Int.le_refl _, Int.le_refl _, Int.le_refl _, Int.le_refl _, Int.le_refl _, Int.le_refl _, Int.le_refl _, Int.le_refl _⟩, ⟨Int.le_refl _, Int.le_refl _, Int.le_refl _, Int.le_refl _, Int.le_refl _, Int.le_refl _, Int.le_refl _⟩⟩
  ·have z := heap_lt hb
   intro k hk
   rcases hk with c | c | c | c | c
   ·rw [c]; exact ⟨by omega, z⟩
   ·simp only [DS.dc, Option.some.injEq] at c; subst c; exact ⟨by omega, by omega⟩
   ·simp only [DS.dc, Option.some.injEq] at c; subst c; exact ⟨by omega, by omega⟩
   ·simp [DS.dc, Value.ownBlock] at c
   ·simp [DS.dc] at c
  ·exact ⟨⟨h0, h1⟩, fun p hp => by simp [DS.ps, DS.new] at hp, Int.le_refl _, (fun e he => by simp [DS.new] at he), ⟨Int.le_refl _, Int.le_refl _⟩⟩
theorem append_dsk {w : World} {b : Nat} {S : DS} {O : Nat → Prop} (h : DskE w b S O) (s : ByteArray) (hs : s.size ≤ maxLen) (v : Value) (D : List UInt8) (hv : Sl w v D) (ho : SOff O v) (hc : S.c7 < 900000000) :
    Calls Tryz.prog 86 #[.pointer (some ⟨b, 0, none⟩), .string s, v] w fun e w' => e = .returned (.tuple #[.int .i64 (S.append s D).2.1, .int .i64 (S.append s D).2.2]) ∧ ∃ O', DskE w' b (S.append s D).1 O' ∧ Sgo w w' O O' := by
 obtain ⟨f, g, pd, am, VB, VL, h⟩ := h
 exact append_any h s hs v D hv ho hc
def spF (f : Fl) : Fl := ⟨f.by_, f.la, f.by_.length - f.la.length⟩
def DS.sync (S : DS) (s : ByteArray) : DS × Int :=
 match S.find s with
 | (none, e) => (S, e)
 | (some p, _) =>
  if S.flt.2.1 = 1 then ({ S.beg 2 with F := upd S.F p (spF (S.F p)) }, 20)
  else if S.flt.2.1 = 3 then ((S.beg 2).str 3, 22)
  else ({ S.beg 2 with F := upd S.F p (syF (S.F p)) }, 0)
theorem syncF_any {w : World} {b : Nat} {S : DS} {O : Nat → Prop} {f g : Nat} {pd : Value} {am : Option Nat} {VB VL : Nat → Value} (h : Dsk w b S O f g pd am VB VL) (s : ByteArray) (hs : s.size ≤ maxLen) (hc : S.c7 < 900000000) :
    Calls Tryz.prog 57 #[.pointer (some ⟨b, 0, none⟩), .string s] w (Does w b O (S.sync s)) := by
 have hF := dsk_find h s hs
 by_cases h0 : (S.find s).2 = 0
 ·obtain ⟨p, e, hg, hr, hp⟩ := find_ok h0
  rw [e] at hF
  simp only [Option.map_some] at hF
  have hR : Hid (S.sync s = if S.flt.2.1 = 1 then ({ S.beg 2 with F := upd S.F p (spF (S.F p)) }, 20) else if S.flt.2.1 = 3 then ((S.beg 2).str 3, 22) else ({ S.beg 2 with F := upd S.F p (syF (S.F p)) }, 0)) := by show _ = _; unfold DS.sync; rw [e]
  have hb : Hid (∀ u, Dsk u b S O f g pd am VB VL → _) := fun u hu => dsk_begin hu 2 (by omega) (by omega)
  have hft := h.ok.flt
  have hsz := hide (h.ok.sz p hp)
  have H := hide h
  obtain ⟨t, ht⟩ : ∃ t, Hid (S.flt = t) := ⟨_, rfl⟩
  rw [ht.out] at hb hft hR
  unfold fv at hb
  obtain ⟨ta, tk, tp⟩ := t
  dsimp only at hb hft hR
  clear h e hr h0 hg
  have hsp : Hid (∀ u, Dsk u b (S.beg 2) O f g pd am VB VL → Calls Tryz.prog 90 #[.pointer (some ⟨p, 0, none⟩)] u fun e w' => e = .returned (.tuple #[]) ∧ ∃ O', Dsk w' b { S.beg 2 with F := upd S.F p (spF (S.F p)) } O' f g pd am (upd VB p (VB p)) (upd VL p (VL p)) ∧ Sgo u w' O O' ∧ But (fun k => k = p) u w') := fun u hu => by
   refine (spoil_any u p (S.F p) (VB p) (VL p) (hu.fs.at_ p hp)).mono ?_
   rintro e w' ⟨rfl, hf, hB⟩
   obtain ⟨O', k1, k2⟩ := hu.one (t := spF (S.F p)) hp hf (hB.mono fun k _ e => .inl e) (fun k hk => .inl hk) hsz.out
   exact ⟨rfl, O', k1, k2, hB⟩
  have hsy : Hid (∀ u, Dsk u b (S.beg 2) O f g pd am VB VL → Calls Tryz.prog 91 #[.pointer (some ⟨p, 0, none⟩)] u fun e w' => e = .returned (.tuple #[]) ∧ ∃ O', DskE w' b { S.beg 2 with F := upd S.F p (syF (S.F p)) } O' ∧ Sgo u w' O O') := fun u hu => by
   refine (sync_any u p (S.F p) (VB p) (VL p) (hu.fs.at_ p hp)).mono ?_
   rintro e w' ⟨rfl, vl', hf, hB, ho⟩
   obtain ⟨O', k1, k2⟩ := hu.one (t := syF (S.F p)) hp hf hB ho hsz.out
   exact ⟨rfl, O', k1.e, k2⟩
  have hpO : Hid (O p) := H.out.of p hp p (.inl rfl)
  by_cases k1 : tk = 1
  ·subst k1
   have hR2 : Hid (S.sync s = ({ S.beg 2 with F := upd S.F p (spF (S.F p)) }, 20)) := by show _ = _; rw [hR.out, if_pos rfl]
   rw [hR2.out]
   clear hR hft hsy
   have hst : Hid (∀ u O' VB' VL', Dsk u b { S.beg 2 with F := upd S.F p (spF (S.F p)) } O' f g pd am VB' VL' → Calls Tryz.prog 63 #[.pointer (some ⟨b, 0, none⟩), .agg #[.int .i64 ta, .int .i64 1, .int .i64 tp]] u fun e w' => e = .returned (.int .i64 20) ∧ Dsk w' b { S.beg 2 with F := upd S.F p (spF (S.F p)) } O' f g pd am VB' VL' ∧ Sgo u w' O' O') := fun u O' VB' VL' hu => dsk_strikeR hu (ta, 1, tp) (by show (1 : Int) ≠ 4; decide)
   go_enter Tryz.func57, Tryz.ntmps57
   go_upto_region 5 with (first
    | (go_at_call 89; refine hF.mono ?_; rintro e w1 ⟨rfl, B1⟩; replace B1 := hide B1; have D1 := hide (H.out.below B1.out))
    | (go_at_call 64; refine (hb.out _ D1.out).mono ?_; rintro e w2 ⟨rfl, D2, G2⟩; replace D2 := hide D2; replace G2 := hide G2))
   have B3 := hide (box_below w2 (.cells #[.int .i64 ta, .int .i64 1, .int .i64 tp] 126))
   have N3 := hide (heap_alloc_new w2 (.cells #[.int .i64 ta, .int .i64 1, .int .i64 tp] 126))
   have D3 := hide (D2.out.below B3.out)
   have hne : Hid (¬ O w2.heap.size) := fun c => Nat.lt_irrefl _ (D2.out.lt _ c)
   have T3 := hide ((Sgo.of_below (O := O) B1.out).trans (G2.out.trans (Sgo.of_below B3.out)))
   generalize w2.alloc (.cells #[.int .i64 ta, .int .i64 1, .int .i64 tp] 126) = w3 at *
   obtain ⟨x0, x1, x2⟩ := cells3 N3.out
   go_wp2_with (first
    | (go_at_call 90; refine (hsp.out _ D3.out).mono ?_; rintro e w4 ⟨rfl, O4, D4, G4, U4⟩; replace D4 := hide D4; replace G4 := hide G4; have N4 := hide (U4.at N3.out (fun e => hne.out (by rw [e]; exact hpO.out))); clear U4; obtain ⟨y0, y1, y2⟩ := cells3 N4.out)
    | (go_at_call 63; refine (hst.out _ _ _ _ D4.out).mono ?_; rintro e w5 ⟨rfl, D5, G5⟩; replace D5 := hide D5; replace G5 := hide G5))
   go_ret
   exact ⟨rfl, O4, D5.out.e, T3.out.trans (G4.out.trans G5.out)⟩
  ·have k1' : (tk == 1) = false := by simpa using k1
   have k4' : (tk == 4) = false := by simp; omega
   by_cases k3 : tk = 3
   ·subst k3
    have hR2 : Hid (S.sync s = ((S.beg 2).str 3, 22)) := by show _ = _; rw [hR.out, if_neg (by decide), if_pos rfl]
    rw [hR2.out]
    clear hR hft hsy hsp
    have hst : Hid (∀ u, Dsk u b (S.beg 2) O f g pd am VB VL → Calls Tryz.prog 63 #[.pointer (some ⟨b, 0, none⟩), .agg #[.int .i64 ta, .int .i64 3, .int .i64 tp]] u fun e w' => e = .returned (.int .i64 22) ∧ Dsk w' b ((S.beg 2).str 3) O f g pd am VB VL ∧ Sgo u w' O O) := fun u hu => dsk_strikeR hu (ta, 3, tp) (by show (3 : Int) ≠ 4; decide)
    go_enter Tryz.func57, Tryz.ntmps57
    go_upto_region 5 with (first
     | (go_at_call 89; refine hF.mono ?_; rintro e w1 ⟨rfl, B1⟩; replace B1 := hide B1; have D1 := hide (H.out.below B1.out))
     | (go_at_call 64; refine (hb.out _ D1.out).mono ?_; rintro e w2 ⟨rfl, D2, G2⟩; replace D2 := hide D2; replace G2 := hide G2))
    have B3 := hide (box_below w2 (.cells #[.int .i64 ta, .int .i64 3, .int .i64 tp] 126))
    have N3 := hide (heap_alloc_new w2 (.cells #[.int .i64 ta, .int .i64 3, .int .i64 tp] 126))
    have D3 := hide (D2.out.below B3.out)
    have T3 := hide ((Sgo.of_below (O := O) B1.out).trans (G2.out.trans (Sgo.of_below B3.out)))
    generalize w2.alloc (.cells #[.int .i64 ta, .int .i64 3, .int .i64 tp] 126) = w3 at *
    obtain ⟨x0, x1, x2⟩ := cells3 N3.out
    go_wp2_with (go_at_call 63; refine (hst.out _ D3.out).mono ?_; rintro e w5 ⟨rfl, D5, G5⟩; replace D5 := hide D5; replace G5 := hide G5)
    go_ret
    exact ⟨rfl, O, D5.out.e, T3.out.trans G5.out⟩
   ·have hR2 : Hid (S.sync s = ({ S.beg 2 with F := upd S.F p (syF (S.F p)) }, 0)) := by show _ = _; rw [hR.out, if_neg k1, if_neg k3]
    rw [hR2.out]
    have hst : Hid (∀ u, Dsk u b (S.beg 2) O f g pd am VB VL → Calls Tryz.prog 63 #[.pointer (some ⟨b, 0, none⟩), .agg #[.int .i64 ta, .int .i64 tk, .int .i64 tp]] u fun e w' => e = .returned (.int .i64 0) ∧ Dsk w' b (S.beg 2) O f g pd am VB VL ∧ Sgo u w' O O) := fun u hu => by
     have := dsk_strikeR hu (ta, tk, tp) (by show tk ≠ 4; omega)
     have e1 : strR tk = 0 := by unfold strR strF; by_cases c : tk = 2 <;> simp [c, k1, k3]
     have e2 : (S.beg 2).str tk = S.beg 2 := by unfold DS.str; rw [if_neg k3]
     dsimp only at this
     rw [e1, e2] at this
     exact this
    clear hR hft hsp k1 k3
    go_enter Tryz.func57, Tryz.ntmps57
    go_upto_region 5 with (first
     | (go_at_call 89; refine hF.mono ?_; rintro e w1 ⟨rfl, B1⟩; replace B1 := hide B1; have D1 := hide (H.out.below B1.out))
     | (go_at_call 64; refine (hb.out _ D1.out).mono ?_; rintro e w2 ⟨rfl, D2, G2⟩; replace D2 := hide D2; replace G2 := hide G2))
    have B3 := hide (box_below w2 (.cells #[.int .i64 ta, .int .i64 tk, .int .i64 tp] 126))
    have N3 := hide (heap_alloc_new w2 (.cells #[.int .i64 ta, .int .i64 tk, .int .i64 tp] 126))
    have D3 := hide (D2.out.below B3.out)
    have T3 := hide ((Sgo.of_below (O := O) B1.out).trans (G2.out.trans (Sgo.of_below B3.out)))
    generalize w2.alloc (.cells #[.int .i64 ta, .int .i64 tk, .int .i64 tp] 126) = w3 at *
    obtain ⟨x0, x1, x2⟩ := cells3 N3.out
    go_wp2_with (first
     | (go_at_call 63; refine (hst.out _ D3.out).mono ?_; rintro e w5 ⟨rfl, D5, G5⟩; replace D5 := hide D5; replace G5 := hide G5)
     | (go_at_call 91; refine (hsy.out _ D5.out).mono ?_; rintro e w6 ⟨rfl, O6, D6, G6⟩; replace D6 := hide D6; replace G6 := hide G6))
    go_ret
    exact ⟨rfl, O6, D6.out, T3.out.trans (G5.out.trans G6.out)⟩
 ·have hR : Hid (S.sync s = (S, (S.find s).2)) := by
    show _ = _
    have q := find_no h0
    unfold DS.sync
    cases hq : S.find s with
    | mk a c => rw [hq] at q; dsimp only at q; subst q; rfl
  rw [hR.out]
  have q := find_no h0
  rw [q] at hF
  simp only [Option.map_none] at hF
  generalize (S.find s).2 = r at *
  have h0' : (r != 0) = true := by simpa using h0
  have H := hide h
  clear h h0 q hR
  go_enter Tryz.func57, Tryz.ntmps57
  go_wp2_with (go_at_call 89; refine hF.mono ?_; rintro e w1 ⟨rfl, B1⟩; replace B1 := hide B1)
  go_ret
  exact ⟨rfl, O, (H.out.below B1.out).e, Sgo.of_below B1.out⟩
theorem flt_none {S : DS} (h : S.al = []) : S.flt = zf := by unfold DS.flt; rw [h]; rfl
theorem hit_none {S : DS} (h : S.al = []) (j : Nat) : S.hit j = S.beg j := by
 unfold DS.hit DS.str
 rw [flt_none h]
 rfl
theorem ref_up {S : DS} (h : S.up = true) {s : ByteArray} (hm : may s.data.toList = true) : S.ref [s] = 0 := by
 unfold DS.ref
 rw [h]
 simp [hm]
theorem find_get {S : DS} (h : S.up = true) {s : ByteArray} (hm : may s.data.toList = true) {p : Nat} (hg : get S.dir s.data.toList = some p) : S.find s = (some p, 0) := by
 unfold DS.find
 rw [ref_up h hm, if_pos rfl, hg]
end Go.Proofs.YtnimildpcnmjeaaGreatDoor.Dk
namespace Go.Proofs.YtnimildpcnmjeaaGreatDoor
open Go.RowKit
end Go.Proofs.YtnimildpcnmjeaaGreatDoor
namespace Go.Proofs.YtnimildpcnmjeaaGreatDoor.Dk
open Go.RowKit Go.Maps Go.Sort Go.Shelf Go.Proofs.YtnimildpcnmjeaaGreatDoor.Nm
structure Cm (S : DS) (M : Nat) (L2 : Dr) (PP : List Ch) (F : Nat → Fl) (c : Int) : Prop where
 up : S.up = true
 al : S.al = []
 most : S.most = (M : Int)
 l2 : S.l2 = L2
 P : S.P = PP
 F : S.F = F
 c7 : S.c7 = c
theorem Cm.dir {S : DS} {M : Nat} {L2 : Dr} {PP : List Ch} {F : Nat → Fl} {c : Int} (h : Cm S M L2 PP F c) : S.dir = runs L2 PP := by unfold DS.dir; rw [h.l2, h.P]
theorem Cm.find {S : DS} {M : Nat} {L2 : Dr} {PP : List Ch} {F : Nat → Fl} {c : Int} (h : Cm S M L2 PP F c) {s : ByteArray} {p : Nat} (hm : may s.data.toList = true) (hg : get (runs L2 PP) s.data.toList = some p) : S.find s = (some p, 0) := find_get h.up hm (by rw [h.dir]; exact hg)
theorem Cm.create {S : DS} {M : Nat} {L2 : Dr} {PP : List Ch} {F : Nat → Fl} {c : Int} (h : Cm S M L2 PP F c) {s : ByteArray} (hm : may s.data.toList = true) (hg : get (runs L2 PP) s.data.toList = none) (hl : (runs L2 PP).length < 256) (p : Nat) :
    (S.create s p).2 = 0 ∧ Cm (S.create s p).1 M L2 (PP ++ [.cr s p]) (upd F p ⟨[], [], 0⟩) (c + 1) := by
 have e : S.create s p = ({ (S.beg 0).str S.flt.2.1 with P := S.P ++ [.cr s p], F := upd S.F p ⟨[], [], 0⟩ }, 0) := by
  unfold DS.create
  rw [ref_up h.up hm, if_neg (by simp), h.dir, hg, if_neg (by simp), if_neg (by omega), flt_none h.al, if_neg (by decide)]
 rw [e, flt_none h.al]
 refine ⟨rfl, ⟨h.up, ?_, h.most, h.l2, ?_, ?_, ?_⟩⟩
 ·show adel S.al _ = []; rw [h.al]; rfl
 ·show S.P ++ _ = _; rw [h.P]
 ·show upd S.F p _ = _; rw [h.F]
 ·show S.c7 + 1 = _; rw [h.c7]
theorem Cm.append {S : DS} {M : Nat} {L2 : Dr} {PP : List Ch} {F : Nat → Fl} {c : Int} (h : Cm S M L2 PP F c) {s : ByteArray} {p : Nat} (hm : may s.data.toList = true) (hg : get (runs L2 PP) s.data.toList = some p) (D : List UInt8) (hD : sumL F (runs L2 PP) + D.length ≤ M) :
    (S.append s D).2.1 = (D.length : Int) ∧ (S.append s D).2.2 = 0 ∧ Cm (S.append s D).1 M L2 PP (upd F p (apF (F p) D)) (c + 1) := by
 have hn : S.apN D.length = D.length := by
  unfold DS.apN DS.room
  rw [flt_none h.al, if_neg (by decide), h.dir, h.F, h.most]
  omega
 have e : S.append s D = ({ (S.beg 1).str S.flt.2.1 with F := upd S.F p (apF (S.F p) (D.take (S.apN D.length))), c8 := S.c8 + (S.apN D.length : Int) }, (S.apN D.length : Int), if strF S.flt.2.1 ≠ 0 then strF S.flt.2.1 else if S.apN D.length < D.length then 21 else 0) := by
  unfold DS.append
  rw [h.find hm hg]
 rw [e, hn, flt_none h.al, List.take_length]
 refine ⟨rfl, ?_, ⟨h.up, ?_, h.most, h.l2, h.P, ?_, ?_⟩⟩
 ·show (if strF 0 ≠ 0 then strF 0 else if D.length < D.length then 21 else 0) = 0
  rw [if_neg (by decide), if_neg (by omega)]
 ·show adel S.al _ = []; rw [h.al]; rfl
 ·show upd S.F p (apF (S.F p) D) = _; rw [h.F]
 ·show S.c7 + 1 = _; rw [h.c7]
theorem Cm.sync {S : DS} {M : Nat} {L2 : Dr} {PP : List Ch} {F : Nat → Fl} {c : Int} (h : Cm S M L2 PP F c) {s : ByteArray} {p : Nat} (hm : may s.data.toList = true) (hg : get (runs L2 PP) s.data.toList = some p) :
    (S.sync s).2 = 0 ∧ Cm (S.sync s).1 M L2 PP (upd F p (syF (F p))) (c + 1) := by
 have e : S.sync s = ({ S.beg 2 with F := upd S.F p (syF (S.F p)) }, 0) := by
  unfold DS.sync
  rw [h.find hm hg]
  dsimp only
  rw [flt_none h.al, if_neg (by decide), if_neg (by decide)]
 rw [e]
 refine ⟨rfl, ⟨h.up, ?_, h.most, h.l2, h.P, ?_, ?_⟩⟩
 ·show adel S.al _ = []; rw [h.al]; rfl
 ·show upd S.F p (syF (S.F p)) = _; rw [h.F]
 ·show S.c7 + 1 = _; rw [h.c7]
theorem Cm.rename {S : DS} {M : Nat} {L2 : Dr} {PP : List Ch} {F : Nat → Fl} {c : Int} (h : Cm S M L2 PP F c) {s t : ByteArray} {p : Nat} (hm : may s.data.toList = true) (hm2 : may t.data.toList = true) (hg : get (runs L2 PP) s.data.toList = some p) (hne : s ≠ t) :
    (S.rename s t).2 = 0 ∧ Cm (S.rename s t).1 M L2 (PP ++ [.rn s t]) F (c + 1) := by
 have hr : S.ref [s, t] = 0 := by unfold DS.ref; rw [h.up]; simp [hm, hm2]
 have e : S.rename s t = ({ S.hit 4 with P := S.P ++ [.rn s t] }, 0) := by
  unfold DS.rename
  rw [hr, if_neg (by simp), h.find hm hg, if_neg (by simp), flt_none h.al, if_neg (by decide), if_neg hne]
 rw [e, hit_none h.al]
 refine ⟨rfl, ⟨h.up, ?_, h.most, h.l2, ?_, h.F, ?_⟩⟩
 ·show adel S.al _ = []; rw [h.al]; rfl
 ·show S.P ++ _ = _; rw [h.P]
 ·show S.c7 + 1 = _; rw [h.c7]
theorem Cm.syncDir {S : DS} {M : Nat} {L2 : Dr} {PP : List Ch} {F : Nat → Fl} {c : Int} (h : Cm S M L2 PP F c) : S.syncDir.2 = 0 ∧ Cm S.syncDir.1 M (runs L2 PP) [] F (c + 1) := by
 have hr : S.ref [] = 0 := by unfold DS.ref; rw [h.up]; rfl
 have e : S.syncDir = ({ S.hit 6 with l2 := S.dir, P := [] }, 0) := by
  unfold DS.syncDir
  rw [hr, if_neg (by simp), flt_none h.al, if_neg (by decide)]
 rw [e, hit_none h.al]
 refine ⟨rfl, ⟨h.up, ?_, h.most, h.dir, rfl, h.F, ?_⟩⟩
 ·show adel S.al _ = []; rw [h.al]; rfl
 ·show S.c7 + 1 = _; rw [h.c7]
def DS.list (S : DS) : List (List UInt8) × Int := if S.up then (nms S.dir, 0) else ([], 22)
theorem list_any {w : World} {b : Nat} {S : DS} {O : Nat → Prop} {f g : Nat} {pd : Value} {am : Option Nat} {VB VL : Nat → Value} (h : Dsk w b S O f g pd am VB VL) (hc : S.c7 < 1000000000) :
    Calls Tryz.prog 40 #[.pointer (some ⟨b, 0, none⟩)] w fun e w' => ∃ v, e = .returned (.tuple #[v, .int .i64 S.list.2]) ∧ w'.ownsRow w.heap.size 9 1 v S.list.1.length (S.list.1.map encStr) ∧ Below w.heap.size w w' := by
 have hr := refuse_any w _ _ (some (S.dc f g pd am)) [] h.dk.dp (row0 w) (by simp)
 rw [ref_dc] at hr
 obtain ⟨d1, _, _⟩ := dir_len h.ok hc
 have hN := names_any f S.dir w h.dk.mf (by omega)
 have c2 : w.cell? ⟨b, 2, none⟩ = some (.map (some f)) := h.dk.box.cells.2.2.1
 obtain ⟨R, hR⟩ : ∃ R, Hid (S.list = R) := ⟨_, rfl⟩
 rw [hR.out]
 cases hu : S.up with
 | true =>
  have e1 : S.ref [] = 0 := by unfold DS.ref; rw [hu]; rfl
  have e2 : Hid (R = (nms S.dir, 0)) := by show _ = _; rw [← hR.out]; unfold DS.list; rw [hu]; rfl
  rw [e1] at hr
  clear h
  go_enter Tryz.func40, Tryz.ntmps40
  go_wp2_with (first
   | (go_at_call 61; refine hr.mono ?_; rintro e w1 ⟨rfl, e1⟩; subst w1)
   | (go_at_call 62; refine hN.mono ?_; rintro e w2 ⟨v2, rfl, R2, _, B2⟩; replace R2 := hide R2; replace B2 := hide B2))
  go_ret2
  exact ⟨v2, by rw [e2.out]; rfl, by rw [e2.out]; exact R2.out, B2.out⟩
 | false =>
  have e1 : S.ref [] = 22 := by unfold DS.ref; rw [hu]; rfl
  have e2 : Hid (R = ([], 22)) := by show _ = _; rw [← hR.out]; unfold DS.list; rw [hu]; rfl
  rw [e1] at hr
  clear h
  go_enter Tryz.func40, Tryz.ntmps40
  go_wp2_with (go_at_call 61; refine hr.mono ?_; rintro e w1 ⟨rfl, e1⟩; subst w1)
  go_ret2
  exact ⟨_, by rw [e2.out]; rfl, by rw [e2.out]; exact World.ownsRow_nil _ _ _ _, Below.refl _ _⟩
end Go.Proofs.YtnimildpcnmjeaaGreatDoor.Dk
namespace Go.Proofs.YtnimildpcnmjeaaGreatDoor.Dk
open Go.ChangeShapes Go.WideShapes Go.ChangeAt Go.RowKit Go.Deep
set_option maxRecDepth 100000
set_option maxRecDepth 100000
end Go.Proofs.YtnimildpcnmjeaaGreatDoor.Dk
namespace Go.Proofs.YtnimildpcnmjeaaGreatDoor.Dk
open Go.RowKit Go.Maps Go.Sort Go.Shelf Go.Proofs.YtnimildpcnmjeaaGreatDoor.Nm
def DS.cs (S : DS) : Array Value := #[.int .i64 S.c0, .int .i64 S.c1, .int .i64 S.c2, .int .i64 S.c3, .int .i64 S.c4, .int .i64 S.c5, .int .i64 S.c6, .int .i64 S.c7, .int .i64 S.c8]
theorem count_dsk {w : World} {b : Nat} {S : DS} {O : Nat → Prop} (h : DskE w b S O) :
    Calls Tryz.prog 11 #[.pointer (some ⟨b, 0, none⟩)] w fun e w' => e = .returned (.agg S.cs) ∧ Below w.heap.size w w' := by
 obtain ⟨f, g, pd, am, VB, VL, h⟩ := h
 have hb := h.dk.cells
 have hB := hide (box_below w (.cells S.cs 42))
 have hb1 : (w.alloc (.cells #[.int .i64 0, .int .i64 0, .int .i64 0, .int .i64 0, .int .i64 0, .int .i64 0, .int .i64 0, .int .i64 0, .int .i64 0] 42)).heap[b]? = some (.cells (dcells (S.dc f g pd am)) TD (0, 0)) := ((box_below w _).block b (heap_lt hb)).trans hb
 have x0 : (w.alloc (.cells #[.int .i64 0, .int .i64 0, .int .i64 0, .int .i64 0, .int .i64 0, .int .i64 0, .int .i64 0, .int .i64 0, .int .i64 0] 42)).cell? ⟨b, 6, none⟩ = some (.int .i64 S.c0) := by simp [World.cell?, hb1, dcells, DS.dc]
 have x1 : (w.alloc (.cells #[.int .i64 0, .int .i64 0, .int .i64 0, .int .i64 0, .int .i64 0, .int .i64 0, .int .i64 0, .int .i64 0, .int .i64 0] 42)).cell? ⟨b, 7, none⟩ = some (.int .i64 S.c1) := by simp [World.cell?, hb1, dcells, DS.dc]
 have x2 : (w.alloc (.cells #[.int .i64 0, .int .i64 0, .int .i64 0, .int .i64 0, .int .i64 0, .int .i64 0, .int .i64 0, .int .i64 0, .int .i64 0] 42)).cell? ⟨b, 8, none⟩ = some (.int .i64 S.c2) := by simp [World.cell?, hb1, dcells, DS.dc]
 have x3 : (w.alloc (.cells #[.int .i64 0, .int .i64 0, .int .i64 0, .int .i64 0, .int .i64 0, .int .i64 0, .int .i64 0, .int .i64 0, .int .i64 0] 42)).cell? ⟨b, 9, none⟩ = some (.int .i64 S.c3) := by simp [World.cell?, hb1, dcells, DS.dc]
 have x4 : (w.alloc (.cells #[.int .i64 0, .int .i64 0, .int .i64 0, .int .i64 0, .int .i64 0, .int .i64 0, .int .i64 0, .int .i64 0, .int .i64 0] 42)).cell? ⟨b, 10, none⟩ = some (.int .i64 S.c4) := by simp [World.cell?, hb1, dcells, DS.dc]
 have x5 : (w.alloc (.cells #[.int .i64 0, .int .i64 0, .int .i64 0, .int .i64 0, .int .i64 0, .int .i64 0, .int .i64 0, .int .i64 0, .int .i64 0] 42)).cell? ⟨b, 11, none⟩ = some (.int .i64 S.c5) := by simp [World.cell?, hb1, dcells, DS.dc]
 have x6 : (w.alloc (.cells #[.int .i64 0, .int .i64 0, .int .i64 0, .int .i64 0, .int .i64 0, .int .i64 0, .int .i64 0, .int .i64 0, .int .i64 0] 42)).cell? ⟨b, 12, none⟩ = some (.int .i64 S.c6) := by simp [World.cell?, hb1, dcells, DS.dc]
 have x7 : (w.alloc (.cells #[.int .i64 0, .int .i64 0, .int .i64 0, .int .i64 0, .int .i64 0, .int .i64 0, .int .i64 0, .int .i64 0, .int .i64 0] 42)).cell? ⟨b, 13, none⟩ = some (.int .i64 S.c7) := by simp [World.cell?, hb1, dcells, DS.dc]
 have x8 : (w.alloc (.cells #[.int .i64 0, .int .i64 0, .int .i64 0, .int .i64 0, .int .i64 0, .int .i64 0, .int .i64 0, .int .i64 0, .int .i64 0] 42)).cell? ⟨b, 14, none⟩ = some (.int .i64 S.c8) := by simp [World.cell?, hb1, dcells, DS.dc]
 clear hb1 hb h
 unfold DS.cs at hB ⊢
 go_enter Tryz.func11, Tryz.ntmps11
 go_wp2_with fail
 go_returns
 exact ⟨rfl, hB.out⟩
theorem pending_dsk {w : World} {b : Nat} {S : DS} {O : Nat → Prop} (h : DskE w b S O) :
    Calls Tryz.prog 41 #[.pointer (some ⟨b, 0, none⟩)] w fun e w' => e = .returned (.int .i64 (S.P.length : Int)) ∧ w' = w := by
 obtain ⟨f, g, pd, am, VB, VL, h⟩ := h
 have c4 : w.cell? ⟨b, 4, none⟩ = some pd := h.dk.box.cells.2.2.2.2.1
 have hr := h.dk.pd.row
 obtain ⟨ao, ca, e, _, r3, r4, _⟩ := hr
 rw [List.length_map] at e r3
 have e' : pd = .slice ao S.P.length ca := e
 subst e'
 clear h
 go_enter Tryz.func41, Tryz.ntmps41
 go_wp2_with fail
 go_ret
 exact ⟨rfl, rfl⟩
theorem row_but {B : Nat} {X : Nat → Prop} {A C : World} {T : TypeId} {n k : Nat} {v : Value} {xs : List Value} (h : A.ownsRow B T k v n xs) (hb : But X A C) (hx : ∀ j, v.ownBlock = some j → ¬ X j) : C.ownsRow B T k v n xs := by
 refine ⟨h.1, ?_⟩
 rcases h.2 with h | ⟨g, cap, cur, rfl, hg, hh, r⟩
 ·exact .inl h
 ·exact .inr ⟨g, cap, cur, rfl, hg, hb.at hh (hx g rfl), r⟩
open Ix (wp_region_T wpAnyT wpAnyT_take wpAnyT_one wpAnyT_done vac)
theorem mem_ddel {l : Dr} {n : List UInt8} {e : List UInt8 × Nat} (h : e ∈ ddel l n) : e ∈ l ∧ e.1 ≠ n := by
 have := List.mem_filter.1 h
 exact ⟨this.1, by simpa using this.2⟩
theorem get_isSome {l : Dr} {n : List UInt8} {p : Nat} (h : (n, p) ∈ l) : (get l n).isSome = true := by
 unfold get
 rw [Option.isSome_map, List.find?_isSome]
 exact ⟨_, h, by simp⟩
theorem wpAnyT_pair {P : Program} {ops : Array Oper} {Q : Exit → Act → World → Prop} {md : Region.Mode} {S : World → Prop} {d : Nat} {i j : Nat} {oi oj : Oper} {fuel : Nat} {listed : Array Bool} {a : Act} {w : World} (G : Value → Value → World → Prop) (hij : i ≠ j) (hr : Region.ready md ops listed = [i, j]) (hoi : ops[i]? = some oi) (hoj : ops[j]? = some oj)
    (hri : Region.ready md ops (listed.setIfInBounds i true) = [j]) (hrj : Region.ready md ops (listed.setIfInBounds j true) = [i])
    (hcomm : ∀ vi vj, (a.put oj.dst vj).put oi.dst vi = (a.put oi.dst vi).put oj.dst vj)
    (hI : ∀ K' : Act → World → Prop, Shut (∀ vi w1, S w1 → (∀ K2 : Act → World → Prop, Shut (∀ vj w2, G vi vj w2 → K2 ((a.put oi.dst vi).put oj.dst vj) w2) → if Region.wanted oj (yielded ops (a.put oi.dst vi).tmps) = true then Oper.wp P oj (a.put oi.dst vi) w1 K2 Q else K2 ((a.put oi.dst vi).put oj.dst undef) w1) → K' (a.put oi.dst vi) w1) → if Region.wanted oi (yielded ops a.tmps) = true then Oper.wp P oi a w K' Q else K' (a.put oi.dst undef) w)
    (hJ : ∀ K' : Act → World → Prop, Shut (∀ vj w1, S w1 → (∀ K2 : Act → World → Prop, Shut (∀ vi w2, G vi vj w2 → K2 ((a.put oj.dst vj).put oi.dst vi) w2) → if Region.wanted oi (yielded ops (a.put oj.dst vj).tmps) = true then Oper.wp P oi (a.put oj.dst vj) w1 K2 Q else K2 ((a.put oj.dst vj).put oi.dst undef) w1) → K' (a.put oj.dst vj) w1) → if Region.wanted oj (yielded ops a.tmps) = true then Oper.wp P oj a w K' Q else K' (a.put oj.dst undef) w)
    (hG : ∀ vi vj w2, G vi vj w2 → S w2)
    (h : ∀ vi vj w2, G vi vj w2 → wpAnyT P md ops Q S d fuel ((listed.setIfInBounds i true).setIfInBounds j true) ((a.put oi.dst vi).put oj.dst vj) w2) :
    wpAnyT P md ops Q S d (fuel + 1 + 1) listed a w := by
 refine ⟨fun h0 => (by rw [h0] at hr; cases hr), fun k hk => ?_⟩
 rw [hr] at hk
 simp only [List.mem_cons, List.not_mem_nil, or_false] at hk
 rcases hk with rfl | rfl
 ·refine wpOp_step hoi (fun K' hK => hI K' (fun vi w1 hS hrest => hK _ w1 ⟨fun _ => hS, ?_⟩))
  refine wpAnyT_one hri hoj (fun K2 hK2 => hrest K2 (fun vj w2 hg => hK2 _ w2 (fun _ => hG vi vj w2 hg) (h vi vj w2 hg)))
 ·refine wpOp_step hoj (fun K' hK => hJ K' (fun vj w1 hS hrest => hK _ w1 ⟨fun _ => hS, ?_⟩))
  refine wpAnyT_one hrj hoi (fun K2 hK2 => hrest K2 (fun vi w2 hg => hK2 _ w2 (fun _ => hG vi vj w2 hg) ?_))
  rw [hcomm, Array.setIfInBounds_comm _ _ (Ne.symm hij)]
  exact h vi vj w2 hg
end Go.Proofs.YtnimildpcnmjeaaGreatDoor.Dk
namespace Go.Proofs.YtnimildpcnmjeaaGreatDoor.Dk
open Go.RowKit Go.Maps Go.Sort Go.Shelf Go.Proofs.YtnimildpcnmjeaaGreatDoor.Nm
variable {σ : Nat → Nat} {S S' : DS}
end Go.Proofs.YtnimildpcnmjeaaGreatDoor.Dk
namespace Go.Proofs.YtnimildpcnmjeaaGreatDoor.Dk
open Go.RowKit Go.Maps Go.Sort Go.Shelf Go.Proofs.YtnimildpcnmjeaaGreatDoor.Nm
theorem get_ddel (l : Dr) (n k : List UInt8) : get (ddel l n) k = if n = k then none else get l k := by
 unfold get ddel
 induction l with
 | nil => simp
 | cons y r ih =>
  by_cases e : y.1 = n
  ·subst e
   rw [List.filter_cons_of_neg (by simp), ih, List.find?_cons]
   by_cases e2 : y.1 = k
   ·simp [e2]
   ·simp only [show (y.1 == k) = false by simpa using e2, if_neg e2]
  ·rw [List.filter_cons_of_pos (by simpa using e), List.find?_cons, List.find?_cons]
   by_cases e2 : y.1 = k
   ·subst e2
    simp [Ne.symm e]
   ·simp only [show (y.1 == k) = false by simpa using e2]
    exact ih
theorem get_dins {x : List UInt8 × Nat} {l : Dr} (hx : ∀ e ∈ l, e.1 ≠ x.1) (k : List UInt8) : get (dins x l) k = if x.1 = k then some x.2 else get l k := by
 induction l with
 | nil => unfold get dins; by_cases e : x.1 = k <;> simp [e]
 | cons y r ih =>
  have ih := ih (fun e he => hx e (by simp [he]))
  have hy := hx y (by simp)
  unfold dins
  split
  ·unfold get
   rw [List.find?_cons]
   by_cases e : x.1 = k
   ·simp [e]
   ·simp only [show (x.1 == k) = false by simpa using e, if_neg e]
  ·unfold get at ih ⊢
   rw [List.find?_cons, List.find?_cons]
   by_cases e : y.1 = k
   ·subst e
    simp [Ne.symm hy]
   ·simp only [show (y.1 == k) = false by simpa using e]
    exact ih
theorem get_dput (l : Dr) (n : List UInt8) (p : Nat) (k : List UInt8) : get (dput l n p) k = if n = k then some p else get l k := by
 unfold dput
 rw [get_dins (fun e he => (mem_ddel he).2), get_ddel]
 split <;> rfl
end Go.Proofs.YtnimildpcnmjeaaGreatDoor.Dk
namespace Go.Proofs.YtnimildpcnmjeaaGreatDoor.St
open Go.RowKit Go.Maps Go.Sort Go.Shelf Go.Proofs.YtnimildpcnmjeaaGreatDoor.Nm Go.Proofs.YtnimildpcnmjeaaGreatDoor.Dk
theorem dins_perm (x : List UInt8 × Nat) : ∀ l : Dr, (dins x l).Perm (x :: l)
 | [] => List.Perm.refl _
 | y :: r => by
  unfold dins
  split
  ·exact List.Perm.refl _
  ·exact ((dins_perm x r).cons y).trans (List.Perm.swap x y r)
theorem ddel_none {l : Dr} {n : List UInt8} (h : Dk.get l n = none) : ddel l n = l := by
 unfold ddel
 rw [List.filter_eq_self]
 intro e he
 have : ¬ e.1 = n := fun c => by
  have := get_isSome (l := l) (n := n) (p := e.2) (by rw [← c]; exact he)
  rw [h] at this
  cases this
 simpa using this
theorem sumL_perm {F : Nat → Fl} {l m : Dr} (h : l.Perm m) : sumL F l = sumL F m := (h.map _).sum_nat
theorem sumL_sub {F : Nat → Fl} {l m : Dr} (h : l.Sublist m) : sumL F l ≤ sumL F m := by
 induction h with
 | slnil => exact Nat.le_refl _
 | cons a _ ih => simp only [sumL, List.map_cons, List.sum_cons] at ih ⊢; omega
 | cons_cons a _ ih => simp only [sumL, List.map_cons, List.sum_cons] at ih ⊢; omega
theorem sumL_cons (F : Nat → Fl) (e : List UInt8 × Nat) (l : Dr) : sumL F (e :: l) = (F e.2).by_.length + sumL F l := rfl
theorem sumL_upd {F : Nat → Fl} {p : Nat} {f : Fl} : ∀ {l : Dr}, p ∉ l.map (·.2) → sumL (upd F p f) l = sumL F l
 | [], _ => rfl
 | e :: r, h => by
  have h1 : e.2 ≠ p := fun c => h (by simp [c])
  have h2 : p ∉ r.map (·.2) := fun c => h (by simp at c ⊢; exact .inr c)
  rw [sumL_cons, sumL_cons, sumL_upd h2, upd_ne _ _ h1]
theorem sumL_turn {F : Nat → Fl} {p : Nat} {f : Fl} : ∀ {l : Dr}, (l.map (·.2)).Nodup → p ∈ l.map (·.2) → sumL (upd F p f) l + (F p).by_.length = sumL F l + f.by_.length
 | [], _, h => by simp at h
 | e :: r, hn, h => by
  rw [List.map_cons, List.nodup_cons] at hn
  by_cases he : e.2 = p
  ·have h2 : p ∉ r.map (·.2) := he ▸ hn.1
   rw [sumL_cons, sumL_cons, sumL_upd h2, he, upd_same]
   omega
  ·have h2 : p ∈ r.map (·.2) := by
     rw [List.map_cons, List.mem_cons] at h
     rcases h with h | h
     ·exact absurd h.symm he
     ·exact h
   have := sumL_turn (F := F) (f := f) hn.2 h2
   rw [sumL_cons, sumL_cons, upd_ne _ _ he]
   omega
theorem ddel_less {F : Nat → Fl} {l : Dr} {n : List UInt8} {p : Nat} (h : (n, p) ∈ l) : sumL F (ddel l n) + (F p).by_.length ≤ sumL F l ∧ (ddel l n).length + 1 ≤ l.length := by
 induction l with
 | nil => cases h
 | cons e r ih =>
  rcases List.mem_cons.1 h with rfl | h
  ·have hs : (ddel ((n, p) :: r) n).Sublist r := by
     unfold ddel
     rw [List.filter_cons_of_neg (by simp)]
     exact List.filter_sublist
   have := sumL_sub (F := F) hs
   have h2 := hs.length_le
   rw [sumL_cons, List.length_cons]
   show _ ≤ (F p).by_.length + _ ∧ _
   omega
  ·obtain ⟨i1, i2⟩ := ih h
   by_cases he : e.1 = n
   ·have e1 : ddel (e :: r) n = ddel r n := by unfold ddel; rw [List.filter_cons_of_neg (by simp [he])]
    rw [e1, sumL_cons, List.length_cons]
    omega
   ·have e1 : ddel (e :: r) n = e :: ddel r n := by unfold ddel; rw [List.filter_cons_of_pos (by simpa using he)]
    rw [e1, sumL_cons, sumL_cons, List.length_cons, List.length_cons]
    omega
structure Ca (S : DS) (M : Nat) (D : Dr) (F : Nat → Fl) (c : Int) : Prop where
 cm : ∃ L2 PP, runs L2 PP = D ∧ Cm S M L2 PP F c
 nd : (D.map (·.1)).Nodup
 np : (D.map (·.2)).Nodup
theorem Ca.c7 {S : DS} {M : Nat} {D : Dr} {F : Nat → Fl} {c : Int} (h : Ca S M D F c) : S.c7 = c := by
 obtain ⟨_, _, _, h⟩ := h.cm
 exact h.c7
theorem Ca.dir {S : DS} {M : Nat} {D : Dr} {F : Nat → Fl} {c : Int} (h : Ca S M D F c) : S.dir = D := by
 obtain ⟨_, _, e, h⟩ := h.cm
 rw [h.dir, e]
theorem Ca.new (M : Nat) : Ca (DS.new (M : Int)) M [] noF 0 := ⟨⟨[], [], rfl, rfl, rfl, rfl, rfl, rfl, rfl, rfl⟩, List.nodup_nil, List.nodup_nil⟩
theorem Ca.find {S : DS} {M : Nat} {D : Dr} {F : Nat → Fl} {c : Int} (h : Ca S M D F c) {s : ByteArray} {p : Nat} (hm : may s.data.toList = true) (hg : Dk.get D s.data.toList = some p) : S.find s = (some p, 0) := by
 obtain ⟨_, _, e, k⟩ := h.cm
 exact k.find hm (by rw [e]; exact hg)
theorem Ca.other {S : DS} {M : Nat} {D : Dr} {F : Nat → Fl} {c : Int} (h : Ca S M D F c) {s t : List UInt8} {p q : Nat} (hs : Dk.get D s = some p) (ht : Dk.get D t = some q) (hne : s ≠ t) : p ≠ q := fun e => by
 subst e
 have h1 := get_mem hs
 have h2 := get_mem ht
 have hn := h.np
 clear h hs ht
 induction D with
 | nil => cases h1
 | cons x r ih =>
  rw [List.map_cons, List.nodup_cons] at hn
  rcases List.mem_cons.1 h1 with e1 | h1
  ·rcases List.mem_cons.1 h2 with e2 | h2
   ·rw [← e1] at e2; cases e2; exact hne rfl
   ·exact hn.1 (by rw [← e1]; exact List.mem_map.2 ⟨_, h2, rfl⟩)
  ·rcases List.mem_cons.1 h2 with e2 | h2
   ·exact hn.1 (by rw [← e2]; exact List.mem_map.2 ⟨_, h1, rfl⟩)
   ·exact ih h1 h2 hn.2
theorem Ca.create {S : DS} {M : Nat} {D : Dr} {F : Nat → Fl} {c : Int} (h : Ca S M D F c) {s : ByteArray} (hm : may s.data.toList = true) (hg : Dk.get D s.data.toList = none) (hl : D.length < 256) {p : Nat} (hp : p ∉ S.ps) :
    (S.create s p).2 = 0 ∧ Ca (S.create s p).1 M (dput D s.data.toList p) (upd F p ⟨[], [], 0⟩) (c + 1) ∧ sumL (upd F p ⟨[], [], 0⟩) (dput D s.data.toList p) = sumL F D ∧ (dput D s.data.toList p).length = D.length + 1 ∧ p ∉ D.map (·.2) := by
 have hd := h.dir
 obtain ⟨L2, PP, e, k⟩ := h.cm
 obtain ⟨a1, a2⟩ := k.create hm (by rw [e]; exact hg) (by rw [e]; exact hl) p
 have hpd : p ∉ D.map (·.2) := fun hc => by
  obtain ⟨x, hx, rfl⟩ := List.mem_map.1 hc
  refine hp ?_
  have : x.2 ∈ (runs S.l2 S.P).map (·.2) := by
   rw [k.l2, k.P, e]
   exact List.mem_map.2 ⟨x, hx, rfl⟩
  exact runs_mem this
 have hput : (dput D s.data.toList p).Perm ((s.data.toList, p) :: D) := by
  have := dins_perm (s.data.toList, p) (ddel D s.data.toList)
  rw [ddel_none hg] at this
  exact (show dput D s.data.toList p = dins (s.data.toList, p) D by unfold dput; rw [ddel_none hg]) ▸ this
 have hsn : s.data.toList ∉ D.map (·.1) := fun hc => by
  obtain ⟨x, hx, hx2⟩ := List.mem_map.1 hc
  have := get_isSome (l := D) (n := s.data.toList) (p := x.2) (by rw [← hx2]; exact hx)
  rw [hg] at this
  cases this
 refine ⟨a1, ⟨⟨L2, _, ?_, a2⟩, ?_, ?_⟩, ?_, ?_, hpd⟩
 ·rw [runs_snoc, e]; rfl
 ·exact ((hput.map (·.1)).nodup_iff).2 (List.nodup_cons.2 ⟨hsn, h.nd⟩)
 ·exact ((hput.map (·.2)).nodup_iff).2 (List.nodup_cons.2 ⟨hpd, h.np⟩)
 ·rw [sumL_perm hput, sumL_cons, sumL_upd hpd, upd_same]
  simp
 ·rw [hput.length_eq]; rfl
theorem Ca.append {S : DS} {M : Nat} {D : Dr} {F : Nat → Fl} {c : Int} (h : Ca S M D F c) {s : ByteArray} {p : Nat} (hm : may s.data.toList = true) (hg : Dk.get D s.data.toList = some p) (B : List UInt8) (hD : sumL F D + B.length ≤ M) :
    (S.append s B).2.2 = 0 ∧ Ca (S.append s B).1 M D (upd F p (apF (F p) B)) (c + 1) ∧ sumL (upd F p (apF (F p) B)) D = sumL F D + B.length := by
 obtain ⟨L2, PP, e, k⟩ := h.cm
 obtain ⟨_, a1, a2⟩ := k.append hm (by rw [e]; exact hg) B (by rw [e]; exact hD)
 refine ⟨a1, ⟨⟨L2, PP, e, a2⟩, h.nd, h.np⟩, ?_⟩
 have hmem : p ∈ D.map (·.2) := List.mem_map.2 ⟨_, get_mem hg, rfl⟩
 have := sumL_turn (F := F) (f := apF (F p) B) h.np hmem
 have h2 : (apF (F p) B).by_.length = (F p).by_.length + B.length := by show ((F p).by_ ++ B).length = _; rw [List.length_append]
 omega
theorem Ca.sync {S : DS} {M : Nat} {D : Dr} {F : Nat → Fl} {c : Int} (h : Ca S M D F c) {s : ByteArray} {p : Nat} (hm : may s.data.toList = true) (hg : Dk.get D s.data.toList = some p) :
    (S.sync s).2 = 0 ∧ Ca (S.sync s).1 M D (upd F p (syF (F p))) (c + 1) ∧ sumL (upd F p (syF (F p))) D = sumL F D := by
 obtain ⟨L2, PP, e, k⟩ := h.cm
 obtain ⟨a1, a2⟩ := k.sync hm (by rw [e]; exact hg)
 refine ⟨a1, ⟨⟨L2, PP, e, a2⟩, h.nd, h.np⟩, ?_⟩
 have hmem : p ∈ D.map (·.2) := List.mem_map.2 ⟨_, get_mem hg, rfl⟩
 have := sumL_turn (F := F) (f := syF (F p)) h.np hmem
 have h2 : (syF (F p)).by_.length = (F p).by_.length := rfl
 omega
theorem Ca.syncDir {S : DS} {M : Nat} {D : Dr} {F : Nat → Fl} {c : Int} (h : Ca S M D F c) : S.syncDir.2 = 0 ∧ Ca S.syncDir.1 M D F (c + 1) := by
 obtain ⟨L2, PP, e, k⟩ := h.cm
 obtain ⟨a1, a2⟩ := k.syncDir
 rw [e] at a2
 exact ⟨a1, ⟨D, [], rfl, a2⟩, h.nd, h.np⟩
def rnD (D : Dr) (s t : List UInt8) (p : Nat) : Dr := ddel (dput D t p) s
theorem Ca.rename {S : DS} {M : Nat} {D : Dr} {F : Nat → Fl} {c : Int} (h : Ca S M D F c) {s t : ByteArray} {p : Nat} (hm : may s.data.toList = true) (hm2 : may t.data.toList = true) (hg : Dk.get D s.data.toList = some p) (hne : s ≠ t) (hne2 : s.data.toList ≠ t.data.toList) :
    (S.rename s t).2 = 0 ∧ Ca (S.rename s t).1 M (rnD D s.data.toList t.data.toList p) F (c + 1) ∧ sumL F (rnD D s.data.toList t.data.toList p) ≤ sumL F D ∧ (rnD D s.data.toList t.data.toList p).length ≤ D.length := by
 obtain ⟨L2, PP, e, k⟩ := h.cm
 obtain ⟨a1, a2⟩ := k.rename hm hm2 (by rw [e]; exact hg) hne
 have hput : (dput D t.data.toList p).Perm ((t.data.toList, p) :: ddel D t.data.toList) := dins_perm _ _
 have hdel : (rnD D s.data.toList t.data.toList p).Perm ((t.data.toList, p) :: ddel (ddel D t.data.toList) s.data.toList) := by
  have := hput.filter fun x => !(x.1 == s.data.toList)
  rw [List.filter_cons_of_pos (by rw [Bool.not_eq_true']; exact beq_eq_false_iff_ne.2 (fun c => hne2 c.symm))] at this
  exact this
 have hs : (ddel (ddel D t.data.toList) s.data.toList).Sublist (ddel D s.data.toList) := by
  unfold ddel
  rw [List.filter_filter, show (fun a : List UInt8 × Nat => (!(a.1 == s.data.toList)) && !(a.1 == t.data.toList)) = (fun a => (!(a.1 == t.data.toList)) && !(a.1 == s.data.toList)) from funext fun a => Bool.and_comm _ _, ← List.filter_filter]
  exact List.filter_sublist
 have hmem := get_mem hg
 obtain ⟨l1, l2⟩ := ddel_less (F := F) hmem
 have hsub : (ddel D s.data.toList).Sublist D := List.filter_sublist
 have hpn : p ∉ (ddel D s.data.toList).map (·.2) := fun hc => by
  obtain ⟨x, hx, hx2⟩ := List.mem_map.1 hc
  obtain ⟨m1, m2⟩ := mem_ddel hx
  have h0 : ∀ D : Dr, (D.map (·.2)).Nodup → (s.data.toList, p) ∈ D → x ∈ D → x.1 ≠ s.data.toList → x.2 ≠ p := by
   intro D hn h1 h2 h3 e
   induction D with
   | nil => cases h1
   | cons y r ih =>
    rw [List.map_cons, List.nodup_cons] at hn
    rcases List.mem_cons.1 h1 with e1 | h1
    ·rcases List.mem_cons.1 h2 with e2 | h2
     ·rw [← e1] at e2; rw [e2] at h3; exact h3 rfl
     ·exact hn.1 (by rw [← e1]; exact List.mem_map.2 ⟨x, h2, e⟩)
    ·rcases List.mem_cons.1 h2 with e2 | h2
     ·exact hn.1 (by rw [← e2, e]; exact List.mem_map.2 ⟨_, h1, rfl⟩)
     ·exact ih hn.2 h1 h2
  exact h0 D h.np hmem m1 m2 hx2
 have htn : t.data.toList ∉ (ddel (ddel D t.data.toList) s.data.toList).map (·.1) := fun hc => by
  obtain ⟨x, hx, hx2⟩ := List.mem_map.1 hc
  exact (mem_ddel (mem_ddel hx).1).2 hx2
 refine ⟨a1, ⟨⟨L2, _, ?_, a2⟩, ?_, ?_⟩, ?_, ?_⟩
 ·rw [runs_snoc, e]
  show (match Dk.get D s.data.toList with | some p => ddel (dput D t.data.toList p) s.data.toList | none => D) = _
  rw [hg]
  rfl
 ·exact ((hdel.map (·.1)).nodup_iff).2 (List.nodup_cons.2 ⟨htn, ((hs.trans hsub).map _).nodup h.nd⟩)
 ·exact ((hdel.map (·.2)).nodup_iff).2 (List.nodup_cons.2 ⟨fun c => hpn ((hs.map _).subset c), ((hs.trans hsub).map _).nodup h.np⟩)
 ·have := sumL_sub (F := F) hs
  rw [sumL_perm hdel, sumL_cons]
  show (F p).by_.length + _ ≤ _
  omega
 ·have := hs.length_le
  rw [hdel.length_eq, List.length_cons]
  omega
theorem get_rnD (D : Dr) {s t : List UInt8} (hne : s ≠ t) (p : Nat) (k : List UInt8) : Dk.get (rnD D s t p) k = if k = t then some p else if k = s then none else Dk.get D k := by
 unfold rnD
 rw [get_ddel, get_dput]
 by_cases h1 : k = t
 ·subst h1
  rw [if_neg hne, if_pos rfl, if_pos rfl]
 ·rw [if_neg (show ¬ t = k from fun c => h1 c.symm), if_neg h1]
  by_cases h2 : k = s
  ·subst h2; simp
  ·rw [if_neg (show ¬ s = k from fun c => h2 c.symm), if_neg h2]
end Go.Proofs.YtnimildpcnmjeaaGreatDoor.St
