/-
  begin, strike of a disk with its files; Create, Rename, Remove, SyncDir by data.
-/
import Derived.Test.YtpflaglfnkmjiaaGreatM03
import Derived.Maps.Range
import Derived.Maps.RangeWalk
import Derived.Maps.Ext
import Derived.Test.YtpflaglfnkmjiaaGreatM02
set_option maxRecDepth 100000
set_option maxHeartbeats 40000000
set_option linter.unusedVariables false
namespace Go.Proofs.YtpflaglfnkmjiaaGreat.Dk
open Go.RowKit Go.Maps Go.Proofs.YtpflaglfnkmjiaaGreat.Nm
def DS.beg (S : DS) : Nat → DS
 | 0 => { S with c0 := S.c0 + 1, c7 := S.c7 + 1, al := adel S.al (S.c7 + 1) }
 | 1 => { S with c1 := S.c1 + 1, c7 := S.c7 + 1, al := adel S.al (S.c7 + 1) }
 | 2 => { S with c2 := S.c2 + 1, c7 := S.c7 + 1, al := adel S.al (S.c7 + 1) }
 | 3 => { S with c3 := S.c3 + 1, c7 := S.c7 + 1, al := adel S.al (S.c7 + 1) }
 | 4 => { S with c4 := S.c4 + 1, c7 := S.c7 + 1, al := adel S.al (S.c7 + 1) }
 | 5 => { S with c5 := S.c5 + 1, c7 := S.c7 + 1, al := adel S.al (S.c7 + 1) }
 | _ => { S with c6 := S.c6 + 1, c7 := S.c7 + 1, al := adel S.al (S.c7 + 1) }
def DS.flt (S : DS) : Ft := (aget S.al (S.c7 + 1)).getD zf
def DS.str (S : DS) (k : Int) : DS := if k = 3 then { S with up := false } else S
theorem beg_dc (S : DS) (f g : Nat) (pd : Value) (am : Option Nat) (j : Nat) : inc (S.dc f g pd am) j = (S.beg j).dc f g pd am := by
 match j with
 | 0 => rfl
 | 1 => rfl
 | 2 => rfl
 | 3 => rfl
 | 4 => rfl
 | 5 => rfl
 | _ + 6 => rfl
theorem beg_rest (S : DS) (j : Nat) : (S.beg j).most = S.most ∧ (S.beg j).up = S.up ∧ (S.beg j).l2 = S.l2 ∧ (S.beg j).P = S.P ∧ (S.beg j).al = adel S.al (S.c7 + 1) ∧ (S.beg j).c7 = S.c7 + 1 ∧ (S.beg j).c8 = S.c8 ∧ (S.beg j).F = S.F := by
 unfold DS.beg
 split <;> exact ⟨rfl, rfl, rfl, rfl, rfl, rfl, rfl, rfl⟩
theorem str_dc (S : DS) (f g : Nat) (pd : Value) (am : Option Nat) (k : Int) : strX k (S.dc f g pd am) = (S.str k).dc f g pd am := by
 unfold strX DS.str
 split <;> rfl
theorem str_rest (S : DS) (k : Int) : (S.str k).most = S.most ∧ (S.str k).l2 = S.l2 ∧ (S.str k).P = S.P ∧ (S.str k).al = S.al ∧ (S.str k).c7 = S.c7 ∧ (S.str k).c8 = S.c8 ∧ (S.str k).F = S.F := by
 unfold DS.str
 split <;> exact ⟨rfl, rfl, rfl, rfl, rfl, rfl, rfl⟩
theorem DS.ok.calm_at {S : DS} (h : S.ok) (n : Int) : (0 ≤ ((aget S.al n).getD zf).2.1 ∧ ((aget S.al n).getD zf).2.1 ≤ 3) ∧ 0 ≤ ((aget S.al n).getD zf).2.2 := by
 unfold aget
 cases hf : S.al.find? fun p => p.1 == n with
 | none => simp [zf]
 | some e =>
  have := h.calm e (List.mem_of_find?_eq_some hf)
  simp
  omega
theorem DS.ok.flt {S : DS} (h : S.ok) : (0 ≤ S.flt.2.1 ∧ S.flt.2.1 ≤ 3) ∧ 0 ≤ S.flt.2.2 := h.calm_at _
theorem DS.ok.flt4 {S : DS} (h : S.ok) : S.flt.2.1 ≠ 4 := by have := h.flt; omega
theorem DS.ok.beg {S : DS} (h : S.ok) (j : Nat) : (S.beg j).ok := by
 obtain ⟨e1, e2, e3, e4, e5, e6, e7, e8⟩ := beg_rest S j
 have e9 : (S.beg j).ps = S.ps := by unfold DS.ps; rw [e3, e4]
 refine ⟨by rw [e1]; exact h.most, by rw [e9, e8]; exact h.sz, ?_, ?_, ?_⟩
 ·rw [e3, e4, e6]; have := h.cnt; omega
 ·rw [e5]; exact fun e he => h.calm e (List.mem_filter.1 he).1
 ·rw [e7, e6]; have := h.by8; omega
theorem DS.ok.str {S : DS} (h : S.ok) (k : Int) : (S.str k).ok := by
 obtain ⟨e1, e3, e4, e5, e6, e7, e8⟩ := str_rest S k
 have e9 : (S.str k).ps = S.ps := by unfold DS.ps; rw [e3, e4]
 exact ⟨by rw [e1]; exact h.most, by rw [e9, e8]; exact h.sz, by rw [e3, e4, e6]; exact h.cnt, by rw [e5]; exact h.calm, by rw [e7, e6]; exact h.by8⟩
theorem Dsk.turn {w w' : World} {b : Nat} {S T : DS} {O : Nat → Prop} {f g : Nat} {pd : Value} {am : Option Nat} {VB VL : Nat → Value} (h : Dsk w b S O f g pd am VB VL) (e3 : T.l2 = S.l2) (e4 : T.P = S.P) (e8 : T.F = S.F) (hok : T.ok) (hd : Dk w' b (T.dc f g pd am) f g S.dir S.l2 S.P T.al) (st : Stp w w' b (S.dc f g pd am) (T.dc f g pd am)) :
    Dsk w' b T O f g pd am VB VL ∧ Sgo w w' O O := by
 have e9 : T.ps = S.ps := by unfold DS.ps; rw [e3, e4]
 have e10 : T.dir = S.dir := by unfold DS.dir; rw [e3, e4]
 refine ⟨⟨by rw [e10, e3, e4]; exact hd, by rw [e9, e8]; exact h.fs.stp st, h.ow, by rw [e9]; exact h.of, fun k hk => Nat.lt_of_lt_of_le (h.lt k hk) st.but.size, hok⟩, ⟨st.but.mono fun k _ c => h.ow k c, fun k hk => .inl hk⟩⟩
theorem dsk_begin {w : World} {b : Nat} {S : DS} {O : Nat → Prop} {f g : Nat} {pd : Value} {am : Option Nat} {VB VL : Nat → Value} (h : Dsk w b S O f g pd am VB VL) (j : Nat) (hj : j < 7) (hc : S.c7 < 1000000000) :
    Calls Tryz.prog 54 #[.pointer (some ⟨b, 0, none⟩), .pointer (some ⟨b, 6 + j, none⟩)] w fun e w' => e = .returned (fv S.flt) ∧ Dsk w' b (S.beg j) O f g pd am VB VL ∧ Sgo w w' O O := by
 refine (begin_any w b (S.dc f g pd am) f g S.dir S.l2 S.P S.al j hj h.dk (by show S.c7 < _; omega)).mono ?_
 rintro e w' ⟨rfl, hd, hb⟩
 obtain ⟨e1, e2, e3, e4, e5, e6, e7, e8⟩ := beg_rest S j
 refine ⟨rfl, h.turn e3 e4 e8 (h.ok.beg j) (by rw [e5, ← beg_dc]; exact hd) ?_⟩
 rw [← beg_dc]
 exact Stp.inc hb
theorem dsk_strike {w : World} {b : Nat} {S : DS} {O : Nat → Prop} {f g : Nat} {pd : Value} {am : Option Nat} {VB VL : Nat → Value} (h : Dsk w b S O f g pd am VB VL) (t : Ft) (hk : t.2.1 ≠ 4) :
    Calls Tryz.prog 115 #[.pointer (some ⟨b, 0, none⟩), fv t] w fun e w' => e = .returned (.int .i64 (strF t.2.1)) ∧ Dsk w' b (S.str t.2.1) O f g pd am VB VL ∧ Sgo w w' O O := by
 refine (dk_strike w b _ f g S.dir S.l2 S.P S.al t h.dk hk).mono ?_
 rintro e w' ⟨rfl, hd, hb⟩
 obtain ⟨e1, e3, e4, e5, e6, e7, e8⟩ := str_rest S t.2.1
 refine ⟨rfl, h.turn e3 e4 e8 (h.ok.str _) (by rw [e5, ← str_dc]; exact hd) ?_⟩
 rw [← str_dc]
 exact Stp.strX hb
theorem dsk_strikeR {w : World} {b : Nat} {S : DS} {O : Nat → Prop} {f g : Nat} {pd : Value} {am : Option Nat} {VB VL : Nat → Value} (h : Dsk w b S O f g pd am VB VL) (t : Ft) (hk : t.2.1 ≠ 4) :
    Calls Tryz.prog 53 #[.pointer (some ⟨b, 0, none⟩), fv t] w fun e w' => e = .returned (.int .i64 (strR t.2.1)) ∧ Dsk w' b (S.str t.2.1) O f g pd am VB VL ∧ Sgo w w' O O := by
 refine (dk_strikeR w b _ f g S.dir S.l2 S.P S.al t h.dk hk).mono ?_
 rintro e w' ⟨rfl, hd, hb⟩
 obtain ⟨e1, e3, e4, e5, e6, e7, e8⟩ := str_rest S t.2.1
 refine ⟨rfl, h.turn e3 e4 e8 (h.ok.str _) (by rw [e5, ← str_dc]; exact hd) ?_⟩
 rw [← str_dc]
 exact Stp.strX hb
def DS.ref (S : DS) (L : List ByteArray) : Int := if S.up then (if L.all (fun s => may s.data.toList) then 0 else 24) else 22
theorem ref_dc (S : DS) (f g : Nat) (pd : Value) (am : Option Nat) (L : List ByteArray) : refF (some (S.dc f g pd am)) L = S.ref L := rfl
def DS.find (S : DS) (s : ByteArray) : Option Nat × Int :=
 if S.ref [s] = 0 then (match get S.dir s.data.toList with | some p => (some p, 0) | none => (none, 6)) else (none, S.ref [s])
theorem find_dc (S : DS) (f g : Nat) (pd : Value) (am : Option Nat) (s : ByteArray) : findF (some (S.dc f g pd am)) S.dir s = (.pointer ((S.find s).1.map fun p => ⟨p, 0, none⟩), (S.find s).2) := by
 unfold findF DS.find
 rw [ref_dc]
 split
 ·cases get S.dir s.data.toList <;> rfl
 ·rfl
theorem find_ok {S : DS} {s : ByteArray} (h : (S.find s).2 = 0) : ∃ p, S.find s = (some p, 0) ∧ get S.dir s.data.toList = some p ∧ S.ref [s] = 0 ∧ p ∈ S.ps := by
 unfold DS.find at h ⊢
 split at h
 ·rename_i h0
  rw [if_pos h0]
  cases hp : get S.dir s.data.toList with
  | some p => exact ⟨p, rfl, rfl, h0, DS.mem_dir hp⟩
  | none => rw [hp] at h; exact absurd h (by decide)
 ·rename_i h0
  exact absurd h h0
theorem find_no {S : DS} {s : ByteArray} (h : (S.find s).2 ≠ 0) : (S.find s).1 = none := by
 unfold DS.find at h ⊢
 split
 ·rename_i h0
  rw [if_pos h0] at h
  cases hp : get S.dir s.data.toList with
  | some p => rw [hp] at h; exact absurd rfl h
  | none => rfl
 ·rfl
theorem dsk_find {w : World} {b : Nat} {S : DS} {O : Nat → Prop} {f g : Nat} {pd : Value} {am : Option Nat} {VB VL : Nat → Value} (h : Dsk w b S O f g pd am VB VL) (s : ByteArray) (hs : s.size ≤ maxLen) :
    Calls Tryz.prog 99 #[.pointer (some ⟨b, 0, none⟩), .string s] w fun e w' => e = .returned (.tuple #[.pointer ((S.find s).1.map fun p => ⟨p, 0, none⟩), .int .i64 (S.find s).2]) ∧ Below w.heap.size w w' := by
 have := h.dk.find s hs
 rw [find_dc] at this
 exact this
def DS.create (S : DS) (s : ByteArray) (p : Nat) : DS × Int :=
 if S.ref [s] ≠ 0 then (S, S.ref [s])
 else if (get S.dir s.data.toList).isSome then (S, 7)
 else if 256 ≤ S.dir.length then (S, 9)
 else if strF S.flt.2.1 ≠ 0 then ((S.beg 0).str S.flt.2.1, strF S.flt.2.1)
 else ({ (S.beg 0).str S.flt.2.1 with P := S.P ++ [.cr s p], F := upd S.F p ⟨[], [], 0⟩ }, 0)
theorem beg_dir (S : DS) (j : Nat) : (S.beg j).dir = S.dir := by obtain ⟨e1, e2, e3, e4, e5, e6, e7, e8⟩ := beg_rest S j; unfold DS.dir; rw [e3, e4]
theorem beg_ps (S : DS) (j : Nat) : (S.beg j).ps = S.ps := by obtain ⟨e1, e2, e3, e4, e5, e6, e7, e8⟩ := beg_rest S j; unfold DS.ps; rw [e3, e4]
def DS.hit (S : DS) (j : Nat) : DS := (S.beg j).str S.flt.2.1
theorem hit_rest (S : DS) (j : Nat) : (S.hit j).most = S.most ∧ (S.hit j).l2 = S.l2 ∧ (S.hit j).P = S.P ∧ (S.hit j).al = adel S.al (S.c7 + 1) ∧ (S.hit j).c7 = S.c7 + 1 ∧ (S.hit j).c8 = S.c8 ∧ (S.hit j).F = S.F := by
 obtain ⟨a1, a2, a3, a4, a5, a6, a7, a8⟩ := beg_rest S j
 obtain ⟨e1, e3, e4, e5, e6, e7, e8⟩ := str_rest (S.beg j) S.flt.2.1
 exact ⟨e1.trans a1, e3.trans a3, e4.trans a4, e5.trans a5, e6.trans a6, e7.trans a7, e8.trans a8⟩
theorem hit_dc (S : DS) (f g : Nat) (pd : Value) (am : Option Nat) (j : Nat) : strX (nextF (S.dc f g pd am) S.al).2.1 (inc (S.dc f g pd am) j) = (S.hit j).dc f g pd am := by
 rw [beg_dc, str_dc]
 rfl
theorem Dsk.hit {w w' : World} {b : Nat} {S : DS} {O : Nat → Prop} {f g : Nat} {pd : Value} {am : Option Nat} {VB VL : Nat → Value} (h : Dsk w b S O f g pd am VB VL) (j : Nat) (hd : Dk w' b (strX (nextF (S.dc f g pd am) S.al).2.1 (inc (S.dc f g pd am) j)) f g S.dir S.l2 S.P (adel S.al ((S.dc f g pd am).c7 + 1)))
    (st : Stp w w' b (S.dc f g pd am) (strX (nextF (S.dc f g pd am) S.al).2.1 (inc (S.dc f g pd am) j))) : Dsk w' b (S.hit j) O f g pd am VB VL ∧ Sgo w w' O O := by
 obtain ⟨e1, e3, e4, e5, e6, e7, e8⟩ := hit_rest S j
 refine h.turn e3 e4 e8 ((h.ok.beg j).str _) ?_ (by rw [← hit_dc]; exact st)
 rw [← hit_dc, e5]
 exact hd
theorem Dsk.fresh {w : World} {b : Nat} {S : DS} {O : Nat → Prop} {f g : Nat} {pd : Value} {am : Option Nat} {VB VL : Nat → Value} (h : Dsk w b S O f g pd am VB VL) {p : Nat} (hp : w.heap.size ≤ p) : p ∉ S.ps := fun c => by
 have := h.fs.lt c p (.inl rfl)
 omega
theorem Dsk.e {w : World} {b : Nat} {S : DS} {O : Nat → Prop} {f g : Nat} {pd : Value} {am : Option Nat} {VB VL : Nat → Value} (h : Dsk w b S O f g pd am VB VL) : DskE w b S O := ⟨f, g, pd, am, VB, VL, h⟩
theorem ps_snoc (l2 : Dr) (P : List Ch) (s : ByteArray) (p : Nat) : l2.map (·.2) ++ (P ++ [Ch.cr s p]).filterMap Ch.ptr = (l2.map (·.2) ++ P.filterMap Ch.ptr) ++ [p] := by
 rw [List.filterMap_append, ← List.append_assoc]
 rfl
theorem fown_nil {p k : Nat} (h : FOwn p (.slice none 0 0) (.slice none 0 0) k) : k = p := by
 rcases h with q | q | q
 ·exact q
 ·simp [Value.ownBlock] at q
 ·simp [Value.ownBlock] at q
theorem Fs.new {w : World} {Ow : Nat → Prop} {ps : List Nat} {F : Nat → Fl} {VB VL : Nat → Value} {p : Nat} (h : Fs w Ow ps F VB VL) (hp : p ∉ ps) (hf : w.heap[p]? = some (.cells #[.slice none 0 0, .slice none 0 0, .int .i64 0] 180 (0, 0))) (ho : ¬ Ow p) (ha : ∀ q ∈ ps, ¬ FOwn q (VB q) (VL q) p) :
    Fs w Ow (ps ++ [p]) (upd F p ⟨[], [], 0⟩) (upd VB p (.slice none 0 0)) (upd VL p (.slice none 0 0)) := by
 have hne : ∀ q ∈ ps, q ≠ p := fun q hq e => hp (by rw [← e]; exact hq)
 refine ⟨fun q hq => ?_, fun q hq r hr hqr k hk c => ?_, fun q hq k hk c => ?_⟩
 ·rcases List.mem_append.1 hq with z | z
  ·rw [upd_ne _ _ (hne q z), upd_ne _ _ (hne q z), upd_ne _ _ (hne q z)]; exact h.at_ q z
  ·have e := List.mem_singleton.1 z; subst e; rw [upd_same, upd_same, upd_same]; exact FlAt.new hf
 ·rcases List.mem_append.1 hq with z | z
  ·rw [upd_ne _ _ (hne q z), upd_ne _ _ (hne q z)] at hk
   rcases List.mem_append.1 hr with y | y
   ·rw [upd_ne _ _ (hne r y), upd_ne _ _ (hne r y)] at c
    exact h.ap q z r y hqr k hk c
   ·have e := List.mem_singleton.1 y; subst e
    rw [upd_same, upd_same] at c
    have := fown_nil c
    subst this
    exact ha q z hk
  ·have e := List.mem_singleton.1 z; subst e
   rw [upd_same, upd_same] at hk
   have := fown_nil hk
   subst this
   rcases List.mem_append.1 hr with y | y
   ·rw [upd_ne _ _ (hne r y), upd_ne _ _ (hne r y)] at c
    exact ha r y c
   ·exact hqr (List.mem_singleton.1 y).symm
 ·rcases List.mem_append.1 hq with z | z
  ·rw [upd_ne _ _ (hne q z), upd_ne _ _ (hne q z)] at hk
   exact h.no q z k hk c
  ·have e := List.mem_singleton.1 z; subst e
   rw [upd_same, upd_same] at hk
   have := fown_nil hk
   subst this
   exact ho c
def Does (w : World) (b : Nat) (O : Nat → Prop) (R : DS × Int) (e : Ending) (w' : World) : Prop := e = .returned (.int .i64 R.2) ∧ ∃ O', DskE w' b R.1 O' ∧ Sgo w w' O O'
theorem create_dsk {w : World} {b : Nat} {S : DS} {O : Nat → Prop} (h : DskE w b S O) (s : ByteArray) (hs : s.size ≤ 140737488355328) (hc : S.c7 < 1000000000) :
    Calls Tryz.prog 48 #[.pointer (some ⟨b, 0, none⟩), .string s] w fun e w' => ∃ p, w.heap.size ≤ p ∧ p ∉ S.ps ∧ Does w b O (S.create s p) e w' := by
 obtain ⟨f, g, pd, am, VB, VL, h⟩ := h
 have hcn := h.ok.cnt
 refine (create_any w b (S.dc f g pd am) f g S.dir S.l2 S.P S.al s hs h.dk (by show S.c7 < _; omega) h.ok.flt4 (by omega)).mono ?_
 rintro e w' ⟨r, rfl, hr⟩
 have hf := h.fresh (Nat.le_refl w.heap.size)
 have hn : ∀ hd : Dk w' b (S.dc f g pd am) f g S.dir S.l2 S.P S.al, Stp w w' b (S.dc f g pd am) (S.dc f g pd am) → ∃ O', DskE w' b S O' ∧ Sgo w w' O O' := fun hd st => by
  have := h.turn (T := S) rfl rfl rfl h.ok hd st
  exact ⟨O, this.1.e, this.2⟩
 cases hr with
 | no _ hr h0 hd st =>
  refine ⟨w.heap.size, Nat.le_refl _, hf, ?_⟩
  rw [ref_dc] at hr
  have e : S.create s w.heap.size = (S, r) := by unfold DS.create; rw [hr, if_pos h0]
  rw [e]
  exact ⟨rfl, hn hd st⟩
 | there hr ht hd st =>
  refine ⟨w.heap.size, Nat.le_refl _, hf, ?_⟩
  rw [ref_dc] at hr
  have e : S.create s w.heap.size = (S, 7) := by unfold DS.create; rw [hr, if_neg (by simp), if_pos ht]
  rw [e]
  exact ⟨rfl, hn hd st⟩
 | many hr ht hm hd st =>
  refine ⟨w.heap.size, Nat.le_refl _, hf, ?_⟩
  rw [ref_dc] at hr
  have e : S.create s w.heap.size = (S, 9) := by unfold DS.create; rw [hr, if_neg (by simp), ht, if_neg (by simp), if_pos hm]
  rw [e]
  exact ⟨rfl, hn hd st⟩
 | struck _ hr ht hm he h0 hd st =>
  refine ⟨w.heap.size, Nat.le_refl _, hf, ?_⟩
  rw [ref_dc] at hr
  have he' : strF S.flt.2.1 = r := he
  have e : S.create s w.heap.size = (S.hit 0, r) := by unfold DS.create; rw [hr, if_neg (by simp), ht, if_neg (by simp), if_neg (by omega), he', if_pos h0]; rfl
  rw [e]
  have := h.hit 0 hd st
  exact ⟨rfl, O, this.1.e, this.2⟩
 | done hr ht hm he p pd' hp ho hf2 hd st =>
  have hf3 := h.fresh hp
  refine ⟨p, hp, hf3, ?_⟩
  rw [ref_dc] at hr
  have he' : strF S.flt.2.1 = 0 := he
  have e : S.create s p = ({ S.hit 0 with P := S.P ++ [.cr s p], F := upd S.F p ⟨[], [], 0⟩ }, 0) := by unfold DS.create; rw [hr, if_neg (by simp), ht, if_neg (by simp), if_neg (by omega), he', if_neg (by simp)]; rfl
  rw [e]
  obtain ⟨e1, e3, e4, e5, e6, e7, e8⟩ := hit_rest S 0
  obtain ⟨T, hT⟩ : ∃ T : DS, T = { S.hit 0 with P := S.P ++ [.cr s p], F := upd S.F p ⟨[], [], 0⟩ } := ⟨_, rfl⟩
  rw [← hT]
  rw [hit_dc] at ho hd st
  have hx : ({ (S.hit 0).dc f g pd am with pd := pd' } : Dc) = T.dc f g pd' am := by rw [hT]; rfl
  rw [hx] at ho hd st
  have t3 : T.l2 = S.l2 := by rw [hT]; exact e3
  have t4 : T.P = S.P ++ [.cr s p] := by rw [hT]
  have t5 : T.al = adel S.al (S.c7 + 1) := by rw [hT]; exact e5
  have t6 : T.c7 = S.c7 + 1 := by rw [hT]; exact e6
  have t7 : T.c8 = S.c8 := by rw [hT]; exact e7
  have t8 : T.F = upd S.F p ⟨[], [], 0⟩ := by rw [hT]
  have t1 : T.most = S.most := by rw [hT]; exact e1
  have t9 : T.ps = S.ps ++ [p] := by unfold DS.ps; rw [t3, t4, ps_snoc]
  have t10 : T.dir = dput S.dir s.data.toList p := by unfold DS.dir; rw [t3, t4, runs_snoc]; rfl
  refine ⟨rfl, fun k => O k ∨ (w.heap.size ≤ k ∧ k < w'.heap.size), ⟨f, g, pd', am, upd VB p (.slice none 0 0), upd VL p (.slice none 0 0), ⟨?_, ?_, ?_, ?_, ?_, ?_⟩⟩, ⟨st.but.mono fun k _ c => h.ow k c, ?_⟩⟩
  ·rw [t10, t3, t4, t5]; exact hd
  ·rw [t9, t8]
   refine (h.fs.stp st).new hf3 hf2 ho fun q hq c => ?_
   have := h.fs.lt hq p c
   omega
  ·intro k hk
   rcases st.own k hk with q | q
   ·exact .inl (h.ow k q)
   ·exact .inr ⟨q, hd.lt k hk⟩
  ·rw [t9]
   intro q hq k hk
   rcases List.mem_append.1 hq with z | z
   ·have e : q ≠ p := fun e => hf3 (by rw [← e]; exact z)
    rw [upd_ne _ _ e, upd_ne _ _ e] at hk
    exact .inl (h.of q z k hk)
   ·have e := List.mem_singleton.1 z; subst e
    rw [upd_same, upd_same] at hk
    have := fown_nil hk
    subst this
    exact .inr ⟨hp, heap_lt hf2⟩
  ·rintro k (q | q)
   ·exact Nat.lt_of_lt_of_le (h.lt k q) st.but.size
   ·exact q.2
  ·refine ⟨by rw [t1]; exact h.ok.most, ?_, ?_, ?_, ?_⟩
   ·rw [t9, t8]
    intro q hq
    rcases List.mem_append.1 hq with z | z
    ·rw [upd_ne _ _ (fun e => hf3 (by rw [← e]; exact z))]; exact h.ok.sz q z
    ·have e := List.mem_singleton.1 z; subst e; rw [upd_same]; exact Nat.zero_le _
   ·rw [t3, t4, t6, List.length_append, List.length_singleton]; omega
   ·rw [t5]; exact fun e he => h.ok.calm e (List.mem_filter.1 he).1
   ·rw [t7, t6]; have := h.ok.by8; omega
  ·rintro k (q | q)
   ·exact .inl q
   ·exact .inr q.1
theorem find2 (S : DS) (f g : Nat) (pd : Value) (am : Option Nat) (s : ByteArray) : (findF (some (S.dc f g pd am)) S.dir s).2 = (S.find s).2 := by rw [find_dc]
theorem dir_len {S : DS} (h : S.ok) (hc : S.c7 < 1000000000) : S.dir.length < 1000000000 ∧ S.P.length < 1000000000 ∧ S.l2.length < 1000000000 := by
 have := h.cnt
 have := runs_len S.l2 S.P
 unfold DS.dir
 omega
def DS.syncDir (S : DS) : DS × Int :=
 if S.ref [] ≠ 0 then (S, S.ref [])
 else if strR S.flt.2.1 ≠ 0 then (S.hit 6, strR S.flt.2.1)
 else ({ S.hit 6 with l2 := S.dir, P := [] }, 0)
theorem syncDir_dsk {w : World} {b : Nat} {S : DS} {O : Nat → Prop} (h : DskE w b S O) (hc : S.c7 < 1000000000) :
    Calls Tryz.prog 14 #[.pointer (some ⟨b, 0, none⟩)] w (Does w b O S.syncDir) := by
 obtain ⟨f, g, pd, am, VB, VL, h⟩ := h
 refine (syncDir_any w b (S.dc f g pd am) f g S.dir S.l2 S.P S.al h.dk (by show S.c7 < _; omega) h.ok.flt4).mono ?_
 have hq : (nextF (S.dc f g pd am) S.al).2.1 = S.flt.2.1 := rfl
 rintro e w' (⟨h0, rfl, hd, st⟩ | ⟨h0, rfl, ⟨s0, hd, st⟩ | ⟨s0, g', hd, st⟩⟩)
 ·rw [ref_dc] at h0 ⊢
  have e : S.syncDir = (S, S.ref []) := by unfold DS.syncDir; rw [if_pos h0]
  rw [e]
  have := h.turn (T := S) rfl rfl rfl h.ok hd st
  exact ⟨rfl, O, this.1.e, this.2⟩
 ·rw [ref_dc] at h0
  have s0' : strR S.flt.2.1 ≠ 0 := s0
  have e : S.syncDir = (S.hit 6, strR S.flt.2.1) := by unfold DS.syncDir; rw [h0, if_neg (by simp), if_pos s0']
  rw [e]
  have := h.hit 6 hd st
  exact ⟨rfl, O, this.1.e, this.2⟩
 ·rw [ref_dc] at h0
  have s0' : strR S.flt.2.1 = 0 := s0
  have e : S.syncDir = ({ S.hit 6 with l2 := S.dir, P := [] }, 0) := by unfold DS.syncDir; rw [h0, if_neg (by simp), if_neg (by simpa using s0')]
  rw [e, hq, show strR S.flt.2.1 = 0 from s0]
  obtain ⟨e1, e3, e4, e5, e6, e7, e8⟩ := hit_rest S 6
  rw [hit_dc] at hd st
  obtain ⟨T, hT⟩ : ∃ T : DS, T = { S.hit 6 with l2 := S.dir, P := [] } := ⟨_, rfl⟩
  rw [← hT]
  have hx : ({ (S.hit 6).dc f g pd am with lm := some g', pd := .slice none 0 0 } : Dc) = T.dc f g' (.slice none 0 0) am := by rw [hT]; rfl
  rw [hx] at hd st
  have t3 : T.l2 = S.dir := by rw [hT]
  have t4 : T.P = [] := by rw [hT]
  have t5 : T.al = adel S.al (S.c7 + 1) := by rw [hT]; exact e5
  have t6 : T.c7 = S.c7 + 1 := by rw [hT]; exact e6
  have t7 : T.c8 = S.c8 := by rw [hT]; exact e7
  have t8 : T.F = S.F := by rw [hT]; exact e8
  have t1 : T.most = S.most := by rw [hT]; exact e1
  have t9 : ∀ p ∈ T.ps, p ∈ S.ps := by
   intro p hp
   unfold DS.ps at hp
   rw [t3, t4] at hp
   simp only [List.filterMap_nil, List.append_nil] at hp
   exact runs_mem hp
  have t10 : T.dir = S.dir := by unfold DS.dir; rw [t3, t4]; rfl
  refine ⟨rfl, fun k => O k ∨ (w.heap.size ≤ k ∧ k < w'.heap.size), ⟨f, g', .slice none 0 0, am, VB, VL, ⟨?_, ?_, ?_, ?_, ?_, ?_⟩⟩, ⟨st.but.mono fun k _ c => h.ow k c, ?_⟩⟩
  ·rw [t10, t3, t4, t5]; exact hd
  ·rw [t8]; exact (h.fs.stp st).sub t9
  ·intro k hk
   rcases st.own k hk with q | q
   ·exact .inl (h.ow k q)
   ·exact .inr ⟨q, hd.lt k hk⟩
  ·exact fun p hp k hk => .inl (h.of p (t9 p hp) k hk)
  ·rintro k (q | q)
   ·exact Nat.lt_of_lt_of_le (h.lt k q) st.but.size
   ·exact q.2
  ·refine ⟨by rw [t1]; exact h.ok.most, fun p hp => by rw [t8]; exact h.ok.sz p (t9 p hp), ?_, ?_, ?_⟩
   ·rw [t3, t4, t6]; have := h.ok.cnt; have := runs_len S.l2 S.P; unfold DS.dir; simp only [List.length_nil]; omega
   ·rw [t5]; exact fun e he => h.ok.calm e (List.mem_filter.1 he).1
   ·rw [t7, t6]; have := h.ok.by8; omega
  ·rintro k (q | q)
   ·exact .inl q
   ·exact .inr q.1
def DS.size (S : DS) (s : ByteArray) : Int × Int := match S.find s with | (some p, _) => (((S.F p).by_.length : Int), 0) | (none, e) => (0, e)
theorem size_dsk {w : World} {b : Nat} {S : DS} {O : Nat → Prop} (h : DskE w b S O) (s : ByteArray) (hs : s.size ≤ maxLen) :
    Calls Tryz.prog 90 #[.pointer (some ⟨b, 0, none⟩), .string s] w fun e w' => e = .returned (.tuple #[.int .i64 (S.size s).1, .int .i64 (S.size s).2]) ∧ Below w.heap.size w w' := by
 obtain ⟨f, g, pd, am, VB, VL, h⟩ := h
 by_cases h0 : (S.find s).2 = 0
 ·obtain ⟨p, e, hg, hr, hp⟩ := find_ok h0
  have := size_ok h.dk s hs (by rw [ref_dc]; exact hr) hg (h.fs.at_ p hp)
  unfold DS.size
  rw [e]
  exact this
 ·have := size_no h.dk s hs (by rw [find2]; exact h0)
  rw [find2] at this
  have e : S.size s = (0, (S.find s).2) := by
   have q := find_no h0
   unfold DS.size
   cases hq : S.find s with
   | mk a c => rw [hq] at q; dsimp only at q; subst q; rfl
  rw [e]
  exact this
theorem read_out {w : World} {b p : Nat} {x : Dc} {f g : Nat} {l l2 : Dr} {P : List Ch} {al : Ar} {t : Fl} {vb vl : Value} (h : Dk w b x f g l l2 P al) (s : ByteArray) (hs : s.size ≤ maxLen) (o n : Int) (hr : refF (some x) [s] = 0) (hg : get l s.data.toList = some p) (hf : FlAt w p t vb vl) (hon : ¬ (0 ≤ o ∧ o ≤ (t.by_.length : Int) ∧ 0 ≤ n ∧ n ≤ (t.by_.length : Int) - o)) :
    Calls Tryz.prog 89 #[.pointer (some ⟨b, 0, none⟩), .string s, .int .i64 o, .int .i64 n] w fun e w' => e = .returned (.tuple #[.slice none 0 0, .int .i64 8]) ∧ Below w.heap.size w w' := by
 have hF := h.find s hs
 rw [findF_ok hr hg] at hF
 have c0 := (cells3 hf.box).1
 obtain ⟨ao, ca, rfl, _, _⟩ := hf.b.form
 have hsz := hf.sz
 clear h hf hr hg
 generalize t.by_.length = N at *
 by_cases i1 : o < 0
 ·clear hon
  go_enter Tryz.func89, Tryz.ntmps89
  go_wp2_with (go_at_call 99; refine hF.mono ?_; rintro e w1 ⟨rfl, B1⟩; have d0 := (B1.cell (p := ⟨p, 0, none⟩) (lt_of_cell c0)).trans c0; replace B1 := hide B1)
  go_ret2
  exact ⟨rfl, B1.out⟩
 by_cases i2 : o > (N : Int)
 ·clear hon
  go_enter Tryz.func89, Tryz.ntmps89
  go_wp2_with (go_at_call 99; refine hF.mono ?_; rintro e w1 ⟨rfl, B1⟩; have d0 := (B1.cell (p := ⟨p, 0, none⟩) (lt_of_cell c0)).trans c0; replace B1 := hide B1)
  go_ret2
  exact ⟨rfl, B1.out⟩
 by_cases i3 : n < 0
 ·clear hon
  go_enter Tryz.func89, Tryz.ntmps89
  go_wp2_with (go_at_call 99; refine hF.mono ?_; rintro e w1 ⟨rfl, B1⟩; have d0 := (B1.cell (p := ⟨p, 0, none⟩) (lt_of_cell c0)).trans c0; replace B1 := hide B1)
  go_ret2
  exact ⟨rfl, B1.out⟩
 have i4 : n > (N : Int) - o := by omega
 have e1 : IntKind.i64.wrap ((N : Int) - o) = (N : Int) - o := by rw [IntKind.wrap_i64]; omega
 clear hon
 go_enter Tryz.func89, Tryz.ntmps89
 go_wp2_with (go_at_call 99; refine hF.mono ?_; rintro e w1 ⟨rfl, B1⟩; have d0 := (B1.cell (p := ⟨p, 0, none⟩) (lt_of_cell c0)).trans c0; replace B1 := hide B1)
 go_ret2
 exact ⟨rfl, B1.out⟩
def DS.read (S : DS) (s : ByteArray) (o n : Int) : List UInt8 × Int := match S.find s with
 | (some p, _) => if 0 ≤ o ∧ o ≤ ((S.F p).by_.length : Int) ∧ 0 ≤ n ∧ n ≤ ((S.F p).by_.length : Int) - o then (((S.F p).by_.drop o.toNat).take n.toNat, 0) else ([], 8)
 | (none, e) => ([], e)
theorem read_dsk {w : World} {b : Nat} {S : DS} {O : Nat → Prop} (h : DskE w b S O) (s : ByteArray) (hs : s.size ≤ maxLen) (o n : Int) :
    Calls Tryz.prog 89 #[.pointer (some ⟨b, 0, none⟩), .string s, .int .i64 o, .int .i64 n] w fun e w' => ∃ v, e = .returned (.tuple #[v, .int .i64 (S.read s o n).2]) ∧ Ob w.heap.size w' v (S.read s o n).1 ∧ Below w.heap.size w w' := by
 obtain ⟨f, g, pd, am, VB, VL, h⟩ := h
 by_cases h0 : (S.find s).2 = 0
 ·obtain ⟨p, e, hg, hr, hp⟩ := find_ok h0
  have e2 : S.read s o n = if 0 ≤ o ∧ o ≤ ((S.F p).by_.length : Int) ∧ 0 ≤ n ∧ n ≤ ((S.F p).by_.length : Int) - o then (((S.F p).by_.drop o.toNat).take n.toNat, 0) else ([], 8) := by unfold DS.read; rw [e]
  rw [e2]
  by_cases c : 0 ≤ o ∧ o ≤ ((S.F p).by_.length : Int) ∧ 0 ≤ n ∧ n ≤ ((S.F p).by_.length : Int) - o
  ·rw [if_pos c]
   have eo : ((o.toNat : Nat) : Int) = o := by omega
   have en : ((n.toNat : Nat) : Int) = n := by omega
   have := read_ok h.dk s hs o.toNat n.toNat (by rw [ref_dc]; exact hr) hg (h.fs.at_ p hp) (by omega)
   rw [eo, en] at this
   exact this
  ·rw [if_neg c]
   refine (read_out h.dk s hs o n (by rw [ref_dc]; exact hr) hg (h.fs.at_ p hp) c).mono ?_
   rintro e w' ⟨rfl, hB⟩
   exact ⟨_, rfl, Ob.nil _ _, hB⟩
 ·have e : S.read s o n = ([], (S.find s).2) := by
    have q := find_no h0
    unfold DS.read
    cases hq : S.find s with
    | mk a c => rw [hq] at q; dsimp only at q; subst q; rfl
  rw [e]
  refine (read_no h.dk s hs o n (by rw [find2]; exact h0)).mono ?_
  rintro e w' ⟨rfl, hB⟩
  rw [find2]
  exact ⟨_, rfl, Ob.nil _ _, hB⟩
def sumL (F : Nat → Fl) (l : Dr) : Nat := (l.map fun e => (F e.2).by_.length).sum
def leftS (F : Nat → Fl) (l : Dr) (left : Lit → Bool) : Nat := (l.map fun e => if left (.string e.1) then (F e.2).by_.length else 0).sum
theorem Mp.keys {w : World} {b : Nat} {l : Dr} (h : Mp w b l) : l.Pairwise (fun p q => p.1 ≠ q.1) := by
 obtain ⟨es, e, hp, _⟩ := World.ownsMap.entries h keyS
 have e2 : l.map dent = es := by
  have : DataW.map (l.map dent) = DataW.map es := e
  simpa using this
 rw [← e2, List.pairwise_map] at hp
 refine hp.imp fun h1 h2 => h1 ?_
 show Lit.string _ = Lit.string _
 rw [h2]
theorem leftS_start (F : Nat → Fl) (l : Dr) : leftS F l (Maps.has (dirD l)) = sumL F l := by
 unfold leftS sumL
 congr 1
 apply List.map_congr_left
 intro e he
 rw [dirD_has]
 have : (get l e.1).isSome = true := by
  unfold get
  rw [Option.isSome_map, List.find?_isSome]
  exact ⟨e, he, by simp⟩
 rw [this]
 rfl
theorem leftS_end (F : Nat → Fl) (l : Dr) {left : Lit → Bool} (h : ∀ kl, left kl = false) : leftS F l left = 0 := by
 unfold leftS
 induction l with
 | nil => rfl
 | cons y r ih =>
  rw [List.map_cons, List.sum_cons, ih, h]
  rfl
theorem sameStr (a k : List UInt8) : (Lit.string a).sameKey (.string k) = (a == k) := rfl
theorem leftS_step (F : Nat → Fl) {l : Dr} {left : Lit → Bool} {k : List UInt8} {p : Nat} (hk : l.Pairwise (fun p q => p.1 ≠ q.1)) (hg : get l k = some p) (hl : left (.string k) = true) :
    leftS F l left = leftS F l (fun z => left z && !z.sameKey (.string k)) + (F p).by_.length := by
 induction l with
 | nil => simp [get] at hg
 | cons y r ih =>
  rw [List.pairwise_cons] at hk
  obtain ⟨h1, h2⟩ := hk
  have u : ∀ q : Lit → Bool, leftS F (y :: r) q = (if q (.string y.1) then (F y.2).by_.length else 0) + leftS F r q := fun q => by simp [leftS]
  rw [u, u]
  by_cases c : y.1 = k
  ·have e : (y.1 == k) = true := by simpa using c
   have hp : y.2 = p := by simpa [get, List.find?_cons, e] using hg
   have hr : leftS F r (fun z => left z && !z.sameKey (.string k)) = leftS F r left := by
    unfold leftS
    congr 1
    apply List.map_congr_left
    intro e he
    have : (e.1 == k) = false := by have := h1 e he; simp; intro q; exact this (by rw [c, q])
    simp only [sameStr, this, Bool.not_false, Bool.and_true]
   rw [hr]
   have z1 : (left (.string y.1) && !(Lit.string y.1).sameKey (.string k)) = false := by rw [sameStr, e]; simp
   have z2 : left (.string y.1) = true := by rw [c]; exact hl
   rw [z1, z2, hp]
   simp
   omega
  ·have e : (y.1 == k) = false := by simpa using c
   have hg2 : get r k = some p := by simpa [get, List.find?_cons, e] using hg
   rw [ih h2 hg2]
   simp only [sameStr, e, Bool.not_false, Bool.and_true]
   omega
theorem sumL_le (F : Nat → Fl) (l : Dr) (h : ∀ e ∈ l, (F e.2).by_.length ≤ 16777216) : sumL F l ≤ l.length * 16777216 := by
 induction l with
 | nil => simp [sumL]
 | cons y r ih =>
  have h1 := h y (by simp)
  have h2 := ih (fun e he => h e (by simp [he]))
  simp only [sumL, List.map_cons, List.sum_cons, List.length_cons] at *
  omega
theorem leftS_le (F : Nat → Fl) (l : Dr) (left : Lit → Bool) : leftS F l left ≤ sumL F l := by
 induction l with
 | nil => simp [sumL, leftS]
 | cons y r ih =>
  simp only [sumL, leftS, List.map_cons, List.sum_cons] at *
  split <;> omega
theorem sumL_one (F : Nat → Fl) {l : Dr} {k : List UInt8} {p : Nat} (h : get l k = some p) : (F p).by_.length ≤ sumL F l := by
 have := get_mem h
 clear h
 induction l with
 | nil => simp at this
 | cons y r ih =>
  simp only [sumL, List.map_cons, List.sum_cons] at *
  rcases List.mem_cons.1 this with q | q
  ·rw [← q]; simp
  ·have := ih q
   omega
theorem keyOf_str_inv {key : Value} {kl : Lit} (h : keyOf Tryz.prog TS key = some kl) : ∃ s : ByteArray, key = .string s := by
 have e : Tryz.prog.underlying TS = some .string := Tryz.underlying9
 cases key <;> simp [keyOf, e, mapKey] at h
 exact ⟨_, rfl⟩
theorem keyOf_str_lit {s : ByteArray} {kl : Lit} (h : keyOf Tryz.prog TS (.string s) = some kl) : kl = .string s.data.toList ∧ s.size ≤ maxLen := by
 have e : Tryz.prog.underlying TS = some .string := Tryz.underlying9
 simp [keyOf, e, mapKey] at h
 exact ⟨h.2.symm, h.1⟩
theorem ptrR_shape {v : Value} {y : DataW Unit × List MemPlace} (h : ptrR v = some y) : ∃ c : Option Nat, v = .pointer (c.map fun b => ⟨b, 0, none⟩) := by
 unfold ptrR at h
 split at h
 ·exact ⟨some _, rfl⟩
 ·exact ⟨none, rfl⟩
 ·simp at h
theorem round_get {l : Dr} {s : ByteArray} {c : Option Nat} {y : DataW Unit × List MemPlace} (hat : ∀ zd, (dirD l).atKey (.string s.data.toList) zd = y.1) (hy : ptrR (.pointer (c.map fun b => ⟨b, 0, none⟩)) = some y) (hh : (get l s.data.toList).isSome = true) : ∃ p, c = some p ∧ get l s.data.toList = some p := by
 obtain ⟨p, hp⟩ := Option.isSome_iff_exists.1 hh
 have := hat .nil
 rw [dirD_at_some hp] at this
 cases c with
 | none => rw [Option.map_none, ptrR_none] at hy; cases hy; cases this
 | some q =>
  rw [Option.map_some, ptrR_some] at hy
  cases hy
  simp at this
  have e : p = q := by omega
  subst e
  exact ⟨_, rfl, hp⟩
open Ix (wp_region_T wpAnyT wpAnyT_take wpAnyT_one wpAnyT_done vac)
theorem step_app {w : World} {ops : Array Oper} {o : Oper} {a : Act} {K : Act → World → Prop} {Q : Exit → Act → World → Prop} {E : Prop} (hgd : o.guard = none) (x y : Operand)
    (ho : o.op = .call { callee := .builtin .append, args := #[x, y], argTypes := #[39, 39] }) (vx vy v' : Value) (w' : World) (hx : a.eval x = vx) (hy : a.eval y = vy) (hr : (Builtin.append_ #[39, 39] o.type #[vx, vy]).run Tryz.prog w = .ok v' w') (h : K (a.put o.dst v') w') :
    if Region.wanted o (yielded ops a.tmps) = true then Oper.wp Tryz.prog o a w K Q else E := by
 have hw : Region.wanted o (yielded ops a.tmps) = true := by simp [Region.wanted, hgd]
 rw [if_pos hw]
 unfold Oper.wp execOp
 simp only [ho, resolve, invoke, builtin, Sem.run_bind, Sem.run_pure, Result.andThen_ok, List.map_toArray, List.map_cons, List.map_nil, hx, hy, hr]
 exact h
theorem crF_len (f : Fl) (N : Int) (J : List UInt8) (h : f.la.length ≤ f.by_.length) : (crF f N J).length ≤ f.by_.length := by
 have hw : wthn N (f.by_.length - f.la.length) ≤ f.by_.length - f.la.length := by unfold wthn; omega
 unfold crF
 rw [List.length_append, List.length_append, svd_len f _ (by omega), List.length_take]
 unfold jnk
 omega
theorem crash_any (w : World) (p : Nat) (f : Fl) (vb vl vj : Value) (N : Int) (J : List UInt8) (h : FlAt w p f vb vl) (hj : Sl w vj J) (n0 : -9223372036854775808 ≤ N) (n1 : N ≤ 9223372036854775807) :
    Calls Tryz.prog 66 #[.pointer (some ⟨p, 0, none⟩), .agg #[.int .i64 N, vj]] w fun e w' => e = .returned (.tuple #[]) ∧ ∃ vb' vl', FlAt w' p ⟨crF f N J, crF f N J, 0⟩ vb' vl' ∧ But (fun k => k = p) w w' ∧ (∀ k, FOwn p vb' vl' k → k = p ∨ w.heap.size ≤ k) := by
 have hB := hide ((Below.refl _ w).alloc (Nat.le_refl _) (.cells #[.int .i64 N, vj] 60))
 have hN := hide (heap_alloc_new w (.cells #[.int .i64 N, vj] 60))
 obtain ⟨w1, hw1⟩ : ∃ w1, Hid (w.alloc (.cells #[.int .i64 N, vj] 60) = w1) := ⟨_, rfl⟩
 rw [hw1.out] at hB hN
 have H1 := hide (h.below hB.out)
 have J1 := hide (Below.sl hB.out hj)
 have k0 : w1.cell? ⟨w.heap.size, 0, none⟩ = some (.int .i64 N) := by simp [World.cell?, hN.out]
 have k1 : w1.cell? ⟨w.heap.size, 1, none⟩ = some vj := by simp [World.cell?, hN.out]
 obtain ⟨ta, hta⟩ : ∃ ta, Hid (f.by_.length - f.la.length = ta) := ⟨_, rfl⟩
 obtain ⟨n, hn⟩ : ∃ n, Hid (wthn N ta = n) := ⟨_, rfl⟩
 have hsz := h.sz
 have i1 : ta ≤ 1099511627776 := by have := hta.out; omega
 have i2 : n ≤ ta := by have := hn.out; unfold wthn at this; omega
 have hT : Hid (∀ q, FlAt q p f vb vl → Calls Tryz.prog 108 #[.pointer (some ⟨p, 0, none⟩)] q fun e w' => e = .returned (.int .i64 (ta : Int)) ∧ ∃ n, w' = q.drewN n) := fun q hq => by have := tail_any q p f vb vl hq; rw [hta.out] at this; exact this
 have hW : Hid (∀ q, Calls Tryz.prog 125 #[.int .i64 N, .int .i64 (ta : Int)] q fun e w' => e = .returned (.int .i64 (n : Int)) ∧ w' = q) := fun q => by have := within_any q N ta n0 n1 (by omega); rw [hn.out] at this; exact this
 clear h hj
 go_enter Tryz.func66, Tryz.ntmps66
 go_upto_region 1 with fail
 rw [hw1.out]
 go_quiet (first
  | (go_at_call 108; exact Calls.quiet_of (hT.out _ (H1.out.below (Qt.below ⟨_, rfl⟩ _))))
  | (go_at_call 125; exact Calls.quiet_of_same (hW.out _)))
 have B2 : Hid (Below w.heap.size w (w1.drewN nq)) := hB.out.trans (Qt.below ⟨nq, rfl⟩ _)
 have H2 : Hid (FlAt (w1.drewN nq) p f vb vl) := H1.out.below (Qt.below ⟨nq, rfl⟩ _)
 have J2 : Hid (Sl (w1.drewN nq) vj J) := Below.sl (Qt.below ⟨nq, rfl⟩ _) J1.out
 replace k1 : (w1.drewN nq).cell? ⟨w.heap.size, 1, none⟩ = some vj := k1
 generalize w1.drewN nq = w2 at *
 clear k0 H1 J1 hB hW hw1 hN
 obtain ⟨aj, cj, rfl, _, q3, q4, _⟩ := J2.out
 obtain ⟨j, hj⟩ : ∃ j, Hid (jnk f N J = j) := ⟨_, rfl⟩
 have hj2 : j = min J.length (min (ta - n) 512) := by rw [← hj.out, ← hn.out, ← hta.out]; rfl
 have hmin : min (min (J.length : Int) ((ta : Int) - (n : Int))) 512 = (j : Int) := by omega
 have hwr : IntKind.i64.wrap ((ta : Int) - (n : Int)) = (ta : Int) - (n : Int) := by rw [IntKind.wrap_i64]; omega
 have i3 : (j : Int) ≤ (cj : Int) := by omega
 have hjl : j ≤ J.length := by omega
 clear hj2
 go_wp2_with fail
 go_quiet ((go_at_call 108; exact Calls.quiet_of (hT.out _ (H2.out.below (Qt.below ⟨_, rfl⟩ _)))))
 have hif : (if (512 : Int) < (if (ta : Int) - (n : Int) < (J.length : Int) then (ta : Int) - (n : Int) else (J.length : Int)) then 512 else (if (ta : Int) - (n : Int) < (J.length : Int) then (ta : Int) - (n : Int) else (J.length : Int))) = (j : Int) := by
  by_cases c : (ta : Int) - (n : Int) < (J.length : Int)
  ·rw [if_pos c]; split <;> omega
  ·rw [if_neg c]; split <;> omega
 rw [hif, Int.toNat_natCast]
 have B3 : Hid (Below w.heap.size w (w2.drewN nq)) := B2.out.trans (Qt.below ⟨nq, rfl⟩ _)
 have H3 : Hid (FlAt (w2.drewN nq) p f vb vl) := H2.out.below (Qt.below ⟨nq, rfl⟩ _)
 have J3 : Hid (Sl (w2.drewN nq) (.slice aj j cj) (J.take j)) := sl_take (Below.sl (Qt.below ⟨nq, rfl⟩ _) J2.out) hjl
 generalize w2.drewN nq = w3 at *
 clear hif hmin hwr hT k1 H2 J2 B2 i3
 obtain ⟨al, cl, rfl, _, _⟩ := H3.out.l.form
 obtain ⟨ll, hll⟩ : ∃ ll, Hid (f.la.length = ll) := ⟨_, rfl⟩
 have c1 : w3.cell? ⟨p, 1, none⟩ = some (.slice al f.la.length cl) := (cells3 H3.out.box).2.1
 have hS : Hid (∀ q, Below w3.heap.size w3 q → Calls Tryz.prog 128 #[.pointer (some ⟨p, 0, none⟩), .int .i64 (n : Int)] q fun e w' => ∃ v, e = .returned v ∧ Ob q.heap.size w' v (svd f n) ∧ Below q.heap.size q w') := fun q hq => saved_any q p n f vb _ (H3.out.below hq) (by have := hta.out; have := H3.out.le; omega)
 have hQ : Hid (∀ q, Below w3.heap.size w3 q → q.cell? ⟨p, 1, none⟩ = some (.slice al f.la.length cl)) := fun q hq => by rw [hq.cell (p := ⟨p, 1, none⟩) (lt_of_cell c1)]; exact c1
 have hcl : Hid ([f.la, svd f n, J.take j].flatten.length ≤ 140737488355328) := by
  show _ ≤ _
  have q1 := hta.out
  have q2 := H3.out.le
  have q3' := svd_len f n (by omega)
  have q4' : j ≤ 512 := by rw [← hj.out]; unfold jnk; omega
  have q5 : (J.take j).length = j := by simp; omega
  simp only [List.flatten_cons, List.flatten_nil, List.append_nil, List.length_append, q3', q5]
  omega
 clear hQ hsz
 have KC : Hid (∀ q, Below w3.heap.size w3 q → q.cell? ⟨p, 1, none⟩ = some (.slice al f.la.length cl)) := fun q hq => by rw [hq.cell (p := ⟨p, 1, none⟩) (lt_of_cell c1)]; exact c1
 clear c1
 go_upto_region 3 with fail
 have KP : Hid (Below w3.heap.size w3 w3.drew) := (Below.refl _ _).drew
 refine wp_region_T (fun q => Below w3.heap.size w3 q) 13 (by kernel_rfl) ?_
 generalize w3.drew = q at *
 refine Ix.tk 0 ⟨some 22, .move (.tmp 0), _, _, _, _⟩ (.pointer (some ⟨p, 0, none⟩)) [13] ?_ KP.out ?_
 ·intro wq hSw
  have y2 := KC.out wq hSw
  go_simp
 (try simp only [zzp, zzb, zzc])
 refine Ix.tk 1 ⟨some 23, .move (.tmp 0), _, _, _, _⟩ (.pointer (some ⟨p, 0, none⟩)) [13] ?_ KP.out ?_
 ·intro wq hSw
  have y2 := KC.out wq hSw
  go_simp
 (try simp only [zzp, zzb, zzc])
 refine Ix.tk 2 ⟨some 24, .nilCheck (.tmp 23), _, _, _, _⟩ (.pointer (some ⟨p, 0, none⟩)) [13] ?_ KP.out ?_
 ·intro wq hSw
  have y2 := KC.out wq hSw
  go_simp
 (try simp only [zzp, zzb, zzc])
 refine Ix.tk 3 ⟨some 25, .fieldAddr 180 (.tmp 24) 1, _, _, _, _⟩ (.pointer (some ⟨p, 1, none⟩)) [13] ?_ KP.out ?_
 ·intro wq hSw
  have y2 := KC.out wq hSw
  go_simp
 (try simp only [zzp, zzb, zzc])
 refine Ix.tk 4 ⟨some 26, .load 39 (.tmp 25), _, _, _, _⟩ (.slice al f.la.length cl) [13] ?_ KP.out ?_
 ·intro wq hSw
  have y2 := KC.out wq hSw
  go_simp
 (try simp only [zzp, zzb, zzc])
 refine Ix.tk 5 ⟨some 27, .move (.tmp 0), _, _, _, _⟩ (.pointer (some ⟨p, 0, none⟩)) [13] ?_ KP.out ?_
 ·intro wq hSw
  have y2 := KC.out wq hSw
  go_simp
 (try simp only [zzp, zzb, zzc])
 refine Ix.tk 6 ⟨some 28, .move (.tmp 4), _, _, _, _⟩ (.int .i64 (n : Int)) [13] ?_ KP.out ?_
 ·intro wq hSw
  have y2 := KC.out wq hSw
  go_simp
 (try simp only [zzp, zzb, zzc])
 refine Ix.tk 8 ⟨some 30, .move (.tmp 5), _, _, _, _⟩ (.slice aj j cj) [13] ?_ KP.out ?_
 ·intro wq hSw
  have y2 := KC.out wq hSw
  go_simp
 (try simp only [zzp, zzb, zzc])
 refine wpAnyT_one (i := 7) (o := ⟨some 29, .call { callee := .value (.func 128), args := #[.tmp 27, .tmp 28], argTypes := #[137, 3] }, _, _, _, _⟩) (by kernel_rfl) rfl (fun K hK => ?_)
 go_simp
 go_at_call 128
 refine (hS.out q KP.out).mono ?_
 rintro e w4 ⟨vs, rfl, O4, B4⟩
 obtain ⟨a4, c4, rfl, _, _⟩ := O4.form
 replace O4 := hide O4
 replace B4 : Hid (Below w3.heap.size w3 w4) := KP.out.trans (B4.mono KP.out.size)
 (try go_simp)
 refine hK.out _ _ (fun _ => B4.out) ?_
 clear hK K
 (try simp only [zzp, zzb, zzc])
 refine wpAnyT_one (i := 9) (o := ⟨some 31, .buildSlice 35 3 #[(0, .tmp 26), (1, .tmp 29), (2, .tmp 30)], _, _, _, _⟩) (by kernel_rfl) rfl (fun K hK => ?_)
 go_simp
 have B5 : Hid (Below w3.heap.size w3 (w4.alloc (.cells #[.slice al f.la.length cl, .slice a4 (svd f n).length c4, .slice aj j cj] 39))) := B4.out.trans ((box_below w4 _).mono B4.out.size)
 have hCon := concat_any (w4.alloc (.cells #[.slice al f.la.length cl, .slice a4 (svd f n).length c4, .slice aj j cj] 39)) _ _ [f.la, svd f n, J.take j] (Row.three _ _ _) (sls3 (Below.sl (box_below w4 _) (H3.out.l.sl.below4 B4.out)) (Below.sl (box_below w4 _) O4.out.sl) (Below.sl (box_below w4 _) (J3.out.below4 B4.out))) hcl.out
 refine hK.out _ _ (fun _ => B5.out) ?_
 clear hK K
 (try simp only [zzp, zzb, zzc])
 generalize w4.heap.size = z4 at *
 generalize (w4.alloc (.cells #[.slice al f.la.length cl, .slice a4 (svd f n).length c4, .slice aj j cj] 39)) = w5 at *
 refine wpAnyT_one (i := 10) (o := ⟨some 32, .call { callee := .value (.func 113), args := #[.tmp 31], argTypes := #[35] }, _, _, _, _⟩) (by kernel_rfl) rfl (fun K hK => ?_)
 go_simp
 go_at_call 113
 refine hCon.mono ?_
 rintro e w6 ⟨v6, rfl, O6, B6⟩
 have hfl : [f.la, svd f n, J.take j].flatten = crF f N J := by unfold crF; rw [hta.out, hn.out, hj.out]; simp
 replace O6 : Ob w5.heap.size w6 v6 (crF f N J) := by rw [← hfl]; exact O6
 clear hfl
 obtain ⟨o6, k6, rfl, _, _⟩ := O6.form
 replace O6 := hide O6
 replace B6 : Hid (Below w3.heap.size w3 w6) := B5.out.trans (B6.mono B5.out.size)
 clear hCon
 (try go_simp)
 refine hK.out _ _ (fun _ => B6.out) ?_
 clear hK K
 (try simp only [zzp, zzb, zzc])
 refine Ix.tk 11 ⟨some 33, .nilCheck (.tmp 22), _, _, _, _⟩ (.pointer (some ⟨p, 0, none⟩)) [12,13] ?_ B6.out ?_
 ·intro wq hSw
  have y2 := KC.out wq hSw
  go_simp
 (try simp only [zzp, zzb, zzc])
 refine Ix.tk 12 ⟨some 34, .fieldAddr 180 (.tmp 33) 1, _, _, _, _⟩ (.pointer (some ⟨p, 1, none⟩)) [13] ?_ B6.out ?_
 ·intro wq hSw
  have y2 := KC.out wq hSw
  go_simp
 (try simp only [zzp, zzb, zzc])
 have b6 : Hid (w6.heap[p]? = some (.cells #[vb, .slice al f.la.length cl, .int .i64 (f.sp : Int)] TFl (0, 0))) := (B6.out.block p (heap_lt H3.out.box)).trans H3.out.box
 have d1 := (cells3 b6.out).2.1
 have d2 := (frozen3 b6.out).2.1
 refine wpAnyT_one (i := 13) (o := ⟨none, .store 39 (.tmp 34) (.tmp 32), _, _, _, _⟩) (by kernel_rfl) rfl (fun K hK => ?_)
 go_simp
 refine hK.out _ _ (vac (by kernel_rfl)) ?_
 clear hK K d1 d2 KC
 refine wpAnyT_done (by kernel_rfl) ?_ _
 have b7 : Hid ((w6.setCell ⟨p, 1, none⟩ (.slice o6 (crF f N J).length k6)).heap[p]? = some (.cells #[vb, .slice o6 (crF f N J).length k6, .int .i64 (f.sp : Int)] TFl (0, 0))) := by show _ = _; rw [heap_setCell_same _ _ _ _ _ _ b6.out]; simp
 have g7 := hide (But.of_grownBy (X := fun k => k = p) (grown_setCell w6 p 1 (.slice o6 (crF f N J).length k6)) fun k e => by cases e; rfl)
 have O7 : Hid (Ob w5.heap.size (w6.setCell ⟨p, 1, none⟩ (.slice o6 (crF f N J).length k6)) (.slice o6 (crF f N J).length k6) (crF f N J)) := O6.out.but g7.out (fun k hk e => O6.out.no b6.out (by decide) (by rw [← e]; exact hk))
 have B7 : Hid (But (fun k => k = p) w (w6.setCell ⟨p, 1, none⟩ (.slice o6 (crF f N J).length k6))) := (But.of_below (B3.out.trans (B6.out.mono B3.out.size)) _).trans g7.out
 have hz : Hid ((crF f N J).length ≤ 1099511627776) := Nat.le_trans (crF_len f N J H3.out.le) H3.out.sz
 have zw : Hid (w.heap.size ≤ w5.heap.size) := Nat.le_trans B3.out.size B5.out.size
 clear O6 B6 g7 b6 hS hcl O4 B4 KP J3 i1 i2
 generalize (w6.setCell ⟨p, 1, none⟩ (.slice o6 (crF f N J).length k6)) = w7 at *
 have hCl := clone_bytes w7 (.slice o6 (crF f N J).length k6) _ O7.out.sl (by have := hz.out; omega)
 obtain ⟨e1, e2, e3⟩ := cells3 b7.out
 generalize hL : crF f N J = L at *
 replace hL := hide hL
 have hF : Hid (∀ q, Below w7.heap.size w7 q → q.heap[p]? = some (.cells #[vb, .slice o6 L.length k6, .int .i64 (f.sp : Int)] TFl (0, 0))) := fun q hq => (hq.block p (heap_lt b7.out)).trans b7.out
 generalize hvb : vb = vb0 at *
 go_wp2_with (go_at_call 107; refine hCl.mono ?_; rintro e w8 ⟨v8, rfl, O8, B8⟩; obtain ⟨o8, k8, rfl, _, _⟩ := O8.form; replace O8 := hide O8; replace B8 := hide B8; have b8 := hide (hF.out _ B8.out); have x1 := (cells3 b8.out).1; have x2 := (frozen3 b8.out).1; have b9 : Hid ((w8.setCell ⟨p, 0, none⟩ (.slice o8 L.length k8)).heap[p]? = some (.cells #[.slice o8 L.length k8, .slice o6 L.length k6, .int .i64 (f.sp : Int)] TFl (0, 0))) := (by show _ = _; rw [heap_setCell_same _ _ _ _ _ _ b8.out]; simp); have y1 := (cells3 b9.out).2.2; have y2 := (frozen3 b9.out).2.2)
 go_end0
 have b10 : ((w8.setCell ⟨p, 0, none⟩ (.slice o8 L.length k8)).setCell ⟨p, 2, none⟩ (.int .i64 0)).heap[p]? = some (.cells #[.slice o8 L.length k8, .slice o6 L.length k6, .int .i64 0] TFl (0, 0)) := by rw [heap_setCell_same _ _ _ _ _ _ b9.out]; simp
 have g9 := (But.of_grownBy (X := fun k => k = p) (grown_setCell w8 p 0 (.slice o8 L.length k8)) fun k e => by cases e; rfl).trans (But.of_grownBy (X := fun k => k = p) (grown_setCell (w8.setCell ⟨p, 0, none⟩ (.slice o8 L.length k8)) p 2 (.int .i64 0)) fun k e => by cases e; rfl)
 have O7b := O7.out.below B8.out
 rw [hL.out]
 refine ⟨rfl, .slice o8 L.length k8, .slice o6 L.length k6, ⟨b10, ?_, ?_, ?_, Nat.le_refl _, Nat.zero_le _, hz.out⟩, ?_, ?_⟩
 ·exact (O8.out.low (Nat.zero_le _)).but g9 (fun k hk e => O8.out.no b8.out (by decide) (by rw [← e]; exact hk))
 ·exact (O7b.low (Nat.zero_le _)).but g9 (fun k hk e => O7b.no b8.out (by decide) (by rw [← e]; exact hk))
 ·intro k hk c
  have q1 := (O8.out.lt k hk).1
  have q2 := (O7.out.lt k c).2
  omega
 ·exact (B7.out.trans (But.of_below B8.out _)).trans g9
 ·rintro k (q | q | q)
  ·exact .inl q
  ·have := (O8.out.lt k q).1
   have := B7.out.size
   exact .inr (by omega)
  ·have := (O7.out.lt k q).1
   have := zw.out
   exact .inr (by omega)
def syF (f : Fl) : Fl := ⟨f.by_, f.la ++ svd f (f.by_.length - f.la.length), 0⟩
theorem sync_any (w : World) (p : Nat) (f : Fl) (vb vl : Value) (h : FlAt w p f vb vl) :
    Calls Tryz.prog 118 #[.pointer (some ⟨p, 0, none⟩)] w fun e w' => e = .returned (.tuple #[]) ∧ ∃ vl', FlAt w' p (syF f) vb vl' ∧ But (FOwn p vb vl) w w' ∧ (∀ k, FOwn p vb vl' k → FOwn p vb vl k ∨ w.heap.size ≤ k) := by
 have H := hide h
 obtain ⟨ta, hta⟩ : ∃ ta, Hid (f.by_.length - f.la.length = ta) := ⟨_, rfl⟩
 obtain ⟨al, cl, rfl, q1, q2⟩ := h.l.form
 have hT : Hid (∀ q, Below w.heap.size w q → Calls Tryz.prog 108 #[.pointer (some ⟨p, 0, none⟩)] q fun e w' => e = .returned (.int .i64 (ta : Int)) ∧ ∃ n, w' = q.drewN n) := fun q hq => by have := tail_any q p f vb _ (h.below hq); rw [hta.out] at this; exact this
 have hS : Hid (∀ q, Below w.heap.size w q → Calls Tryz.prog 128 #[.pointer (some ⟨p, 0, none⟩), .int .i64 (ta : Int)] q fun e w' => ∃ v, e = .returned v ∧ Ob q.heap.size w' v (svd f ta) ∧ Below q.heap.size q w') := fun q hq => saved_any q p ta f vb _ (h.below hq) (by have := hta.out; have := h.le; omega)
 have hsl : (svd f ta).length = ta := svd_len f ta (by have := hta.out; have := h.le; omega)
 have hz : f.la.length + ta ≤ 1099511627776 := by have := hta.out; have := h.le; have := h.sz; omega
 replace hsl := hide hsl
 have KC : Hid (∀ q : World, q.heap[p]? = some (.cells #[vb, .slice al f.la.length cl, .int .i64 (f.sp : Int)] TFl (0, 0)) → q.cell? ⟨p, 1, none⟩ = some (.slice al f.la.length cl)) := fun q hq => (cells3 hq).2.1
 have KB : Hid (∀ q : World, Below w.heap.size w q → q.heap[p]? = some (.cells #[vb, .slice al f.la.length cl, .int .i64 (f.sp : Int)] TFl (0, 0))) := fun q hq => (hq.block p (heap_lt H.out.box)).trans H.out.box
 clear h
 go_enter Tryz.func118, Tryz.ntmps118
 go_upto_region 0 with fail
 have B0 : Hid (Below w.heap.size w w.drew) := (Below.refl _ _).drew
 refine wp_region_T (fun q => q.heap[p]? = some (.cells #[vb, .slice al f.la.length cl, .int .i64 (f.sp : Int)] TFl (0, 0))) 12 (by kernel_rfl) ?_
 generalize w.drew = q at *
 have KP := hide (KB.out _ B0.out)
 refine Ix.tk 0 ⟨some 2, .move (.tmp 0), _, _, _, _⟩ (.pointer (some ⟨p, 0, none⟩)) [12] ?_ KP.out ?_
 ·intro wq hSw
  have y2 := KC.out wq hSw
  go_simp
 (try simp only [zzp, zzb, zzc])
 refine Ix.tk 1 ⟨some 3, .move (.tmp 0), _, _, _, _⟩ (.pointer (some ⟨p, 0, none⟩)) [12] ?_ KP.out ?_
 ·intro wq hSw
  have y2 := KC.out wq hSw
  go_simp
 (try simp only [zzp, zzb, zzc])
 refine Ix.tk 2 ⟨some 4, .nilCheck (.tmp 3), _, _, _, _⟩ (.pointer (some ⟨p, 0, none⟩)) [12] ?_ KP.out ?_
 ·intro wq hSw
  have y2 := KC.out wq hSw
  go_simp
 (try simp only [zzp, zzb, zzc])
 refine Ix.tk 3 ⟨some 5, .fieldAddr 180 (.tmp 4) 1, _, _, _, _⟩ (.pointer (some ⟨p, 1, none⟩)) [12] ?_ KP.out ?_
 ·intro wq hSw
  have y2 := KC.out wq hSw
  go_simp
 (try simp only [zzp, zzb, zzc])
 refine Ix.tk 4 ⟨some 6, .load 39 (.tmp 5), _, _, _, _⟩ (.slice al f.la.length cl) [12] ?_ KP.out ?_
 ·intro wq hSw
  have y2 := KC.out wq hSw
  go_simp
 (try simp only [zzp, zzb, zzc])
 refine Ix.tk 5 ⟨some 7, .move (.tmp 0), _, _, _, _⟩ (.pointer (some ⟨p, 0, none⟩)) [12] ?_ KP.out ?_
 ·intro wq hSw
  have y2 := KC.out wq hSw
  go_simp
 (try simp only [zzp, zzb, zzc])
 refine Ix.tk 6 ⟨some 8, .move (.tmp 0), _, _, _, _⟩ (.pointer (some ⟨p, 0, none⟩)) [12] ?_ KP.out ?_
 ·intro wq hSw
  have y2 := KC.out wq hSw
  go_simp
 (try simp only [zzp, zzb, zzc])
 refine wpAnyT_one (i := 7) (o := ⟨some 9, .call { callee := .value (.func 108), args := #[.tmp 8], argTypes := #[137] }, _, _, _, _⟩) (by kernel_rfl) rfl (fun K hK => ?_)
 go_simp
 go_at_call 108
 refine (hT.out q B0.out).mono ?_
 rintro e w1 ⟨rfl, nq, rfl⟩
 have B1 : Hid (Below w.heap.size w (q.drewN nq)) := B0.out.trans (Qt.below ⟨nq, rfl⟩ _)
 have K1 := hide (KB.out _ B1.out)
 (try go_simp)
 refine hK.out _ _ (fun _ => K1.out) ?_
 clear hK K
 (try simp only [zzp, zzb, zzc])
 generalize q.drewN nq = q1 at *
 refine wpAnyT_one (i := 8) (o := ⟨some 10, .call { callee := .value (.func 128), args := #[.tmp 7, .tmp 9], argTypes := #[137, 3] }, _, _, _, _⟩) (by kernel_rfl) rfl (fun K hK => ?_)
 go_simp
 go_at_call 128
 refine (hS.out q1 B1.out).mono ?_
 rintro e w4 ⟨vs, rfl, O4, B4⟩
 obtain ⟨a4, c4, rfl, _, _⟩ := O4.form
 replace O4 := hide O4
 replace B4 : Hid (Below w.heap.size w w4) := B1.out.trans (B4.mono B1.out.size)
 have K4 := hide (KB.out _ B4.out)
 (try go_simp)
 refine hK.out _ _ (fun _ => K4.out) ?_
 clear hK K
 (try simp only [zzp, zzb, zzc])
 have H4 := hide (H.out.below B4.out)
 obtain ⟨v5, w5, hr, O5, G5, A5⟩ := run_app (B := 0) H4.out.l O4.out.sl (by have := hsl.out; omega) (Nat.zero_le _) 39
 have hL : Hid (f.la ++ svd f ta = (syF f).la) := by show _ = _; unfold syF; rw [hta.out]
 rw [hL.out] at O5
 replace O5 := hide O5
 replace G5 := hide G5
 replace A5 := hide A5
 have K5 : Hid (w5.heap[p]? = some (.cells #[vb, .slice al f.la.length cl, .int .i64 (f.sp : Int)] TFl (0, 0))) := (But.of_grownBy (X := fun k => Value.ownBlock (.slice al f.la.length cl) = some k) G5.out fun k e => e).at K4.out (H4.out.l.no H4.out.box (by decide))
 obtain ⟨a5, c5, e5, _, _⟩ := O5.out.form
 subst e5
 refine wpAnyT_one (i := 9) (o := ⟨some 11, .call { callee := .builtin .append, args := #[.tmp 6, .tmp 10], argTypes := #[39, 39] }, _, _, _, _⟩) (by kernel_rfl) rfl (fun K hK => ?_)
 refine step_app rfl (.tmp 6) (.tmp 10) rfl _ _ _ w5 (by simp [Act.eval]) (by simp [Act.eval]) hr ?_
 refine hK.out _ _ (fun _ => K5.out) ?_
 clear hK K hr
 (try simp only [zzp, zzb, zzc])
 refine Ix.tk 10 ⟨some 12, .nilCheck (.tmp 2), _, _, _, _⟩ (.pointer (some ⟨p, 0, none⟩)) [11,12] ?_ K5.out ?_
 ·intro wq hSw
  have y2 := KC.out wq hSw
  go_simp
 (try simp only [zzp, zzb, zzc])
 refine Ix.tk 11 ⟨some 13, .fieldAddr 180 (.tmp 12) 1, _, _, _, _⟩ (.pointer (some ⟨p, 1, none⟩)) [12] ?_ K5.out ?_
 ·intro wq hSw
  have y2 := KC.out wq hSw
  go_simp
 (try simp only [zzp, zzb, zzc])
 have d1 := (cells3 K5.out).2.1
 have d2 := (frozen3 K5.out).2.1
 refine wpAnyT_one (i := 12) (o := ⟨none, .store 39 (.tmp 13) (.tmp 11), _, _, _, _⟩) (by kernel_rfl) rfl (fun K hK => ?_)
 go_simp
 refine hK.out _ _ (vac (by kernel_rfl)) ?_
 clear hK K d1 d2 KC KB hT hS
 refine wpAnyT_done (by kernel_rfl) ?_ _
 have b7 : Hid ((w5.setCell ⟨p, 1, none⟩ (.slice a5 (syF f).la.length c5)).heap[p]? = some (.cells #[vb, .slice a5 (syF f).la.length c5, .int .i64 (f.sp : Int)] TFl (0, 0))) := by show _ = _; rw [heap_setCell_same _ _ _ _ _ _ K5.out]; simp
 have g7 := hide (But.of_grownBy (X := fun k => k = p) (grown_setCell w5 p 1 (.slice a5 (syF f).la.length c5)) fun k e => by cases e; rfl)
 have x1 := (cells3 b7.out).2.2
 have x2 := (frozen3 b7.out).2.2
 generalize hw7 : (w5.setCell ⟨p, 1, none⟩ (.slice a5 (syF f).la.length c5)) = w7 at *
 replace hw7 := hide hw7
 go_wp2_with fail
 go_end0
 have b8 : (w7.setCell ⟨p, 2, none⟩ (.int .i64 0)).heap[p]? = some (.cells #[vb, .slice a5 (syF f).la.length c5, .int .i64 0] TFl (0, 0)) := by rw [heap_setCell_same _ _ _ _ _ _ b7.out]; simp
 have g8 := g7.out.trans (But.of_grownBy (X := fun k => k = p) (grown_setCell w7 p 2 (.int .i64 0)) fun k e => by cases e; rfl)
 have G5b := But.of_grownBy (X := fun k => Value.ownBlock (.slice al f.la.length cl) = some k) G5.out fun k e => e
 have Ob5 : Ob 0 w5 vb f.by_ := H4.out.b.but G5b (fun k hk c => H4.out.ne k hk c)
 refine ⟨rfl, .slice a5 (syF f).la.length c5, ⟨b8, ?_, ?_, ?_, ?_, Nat.zero_le _, H.out.sz⟩, ?_, ?_⟩
 ·exact Ob5.but g8 (fun k hk e => Ob5.no K5.out (by decide) (by rw [← e]; exact hk))
 ·exact O5.out.but g8 (fun k hk e => O5.out.no K5.out (by decide) (by rw [← e]; exact hk))
 ·intro k hk c
  rcases A5.out with e | e
  ·rw [e] at c
   exact H.out.ne k hk c
  ·rw [e] at c
   have := (H4.out.b.lt k hk).2
   simp at c
   omega
 ·show (syF f).la.length ≤ f.by_.length
  rw [← hL.out, List.length_append, hsl.out]
  have := hta.out
  have := H.out.le
  omega
 ·exact (((But.of_below B4.out _).trans (G5b.mono fun k _ e => .inr (.inr e))).trans (g8.mono fun k _ e => .inl e))
 ·rintro k (q | q | q)
  ·exact .inl (.inl q)
  ·exact .inl (.inr (.inl q))
  ·rcases A5.out with e | e
   ·rw [e] at q
    exact .inl (.inr (.inr q))
   ·rw [e] at q
    have := B4.out.size
    simp at q
    exact .inr (by omega)
def DS.room (S : DS) : Int := max (S.most - (sumL S.F S.dir : Int)) 0
theorem DS.ok.sum {S : DS} (h : S.ok) (hc : S.c7 < 1000000000) : (sumL S.F S.dir : Int) ≤ 16777216000000000 := by
 have h1 := sumL_le S.F S.dir fun e he => h.sz e.2 (runs_mem (List.mem_map.2 ⟨e, he, rfl⟩))
 obtain ⟨d1, _, _⟩ := dir_len h hc
 have : S.dir.length * 16777216 ≤ 1000000000 * 16777216 := Nat.mul_le_mul_right _ (by omega)
 omega
theorem room_any {w : World} {b : Nat} {S : DS} {O : Nat → Prop} {f g : Nat} {pd : Value} {am : Option Nat} {VB VL : Nat → Value} (h : Dsk w b S O f g pd am VB VL) (hc : S.c7 < 1000000000) :
    Calls Tryz.prog 116 #[.pointer (some ⟨b, 0, none⟩)] w fun e w' => e = .returned (.int .i64 S.room) ∧ Below w.heap.size w w' := by
 have c0 : w.cell? ⟨b, 0, none⟩ = some (.int .i64 S.most) := h.dk.box.cells.1
 have c2 : w.cell? ⟨b, 2, none⟩ = some (.map (some f)) := h.dk.box.cells.2.2.1
 have hown : w.ownsMap Tryz.prog TS ptrR f S.dir.length (dirD S.dir) := h.dk.mf
 have hsum := h.ok.sum hc
 have hmost := h.ok.most
 have hkeys := hide h.dk.mf.keys
 have hfl := hide h.dk.mf.lt
 have hF : Hid (∀ q p k, Below w.heap.size w q → get S.dir k = some p → ∃ ao ca, q.cell? ⟨p, 0, none⟩ = some (.slice ao (S.F p).by_.length ca)) := fun q p k hq hp => by
  have hf := (h.fs.at_ p (DS.mem_dir hp)).below hq
  obtain ⟨ao, ca, e, _⟩ := hf.b.form
  exact ⟨ao, ca, by rw [← e]; exact (cells3 hf.box).1⟩
 have hroom : Hid (max (S.most - (sumL S.F S.dir : Int)) 0 = S.room) := rfl
 have hss := hide (leftS_start S.F S.dir)
 have hse : Hid (∀ left : Lit → Bool, (∀ kl, left kl = false) → leftS S.F S.dir left = 0) := fun left hl => leftS_end S.F S.dir hl
 have hst : Hid (∀ (left : Lit → Bool) k p, get S.dir k = some p → left (.string k) = true → leftS S.F S.dir left = leftS S.F S.dir (fun z => left z && !z.sameKey (.string k)) + (S.F p).by_.length) := fun left k p hg hl => leftS_step S.F hkeys.out hg hl
 have hsl : Hid (∀ left : Lit → Bool, leftS S.F S.dir left ≤ sumL S.F S.dir) := fun left => leftS_le S.F S.dir left
 have hhas : Hid (∀ k, Maps.has (dirD S.dir) (.string k) = true → (get S.dir k).isSome = true) := fun k hk => by rw [← dirD_has]; exact hk
 have hrg : Hid (∀ (x : ByteArray) (c : Option Nat) (y : DataW Unit × List MemPlace), (∀ zd, (dirD S.dir).atKey (.string x.data.toList) zd = y.1) → ptrR (.pointer (c.map fun b => ⟨b, 0, none⟩)) = some y → (get S.dir x.data.toList).isSome = true → ∃ p, c = some p ∧ get S.dir x.data.toList = some p) := fun x c y h1 h2 h3 => round_get h1 h2 h3
 generalize S.dir = l at *
 generalize hSM : S.most = M at *
 obtain ⟨N, hN⟩ : ∃ N : Nat, sumL S.F l = N := ⟨_, rfl⟩
 rw [hN] at hss hsl hsum hroom
 generalize S.room = R at *
 generalize S.F = F at *
 clear h hN hkeys hSM
 go_enter Tryz.func116, Tryz.ntmps116
 go_wp2_with (first
  | (at_range; refine wpList_range_own _ rfl _ TM rfl TS TF keyS undM ptrR f l.length (dirD l) rfl hown ?_; intro w0 hrg0 hg0 hs0)
  | go_in)
 go_frame
 go_loopw [3] (fun v wr => ∃ (left : Lit → Bool) (cnt : Nat), wr.ranges Tryz.prog TS ptrR f w.heap.size l.length (dirD l) left cnt ∧ v = .int .i64 (M - (N : Int) + (leftS F l left : Int)) ∧ Hid (∀ k, left (.string k) = true → (get l k).isSome = true) ∧ Hid (Below w.heap.size w wr))
  (fun _ wr => wr.rangeLeft f w.heap.size)
 case atStart =>
  refine ⟨_, _, hrg0, ?_, hhas.out, (Below.refl _ w).grown hg0 (Nat.le_refl _) (fun j hj => by cases hj)⟩
  rw [hss.out]
  congr 1
  omega
 case round =>
  obtain ⟨left, cnt, hrgs, rfl, hlk, hnx⟩ := hrel
  go_wp2_with (first
   | (at_next; refine wpList_next_ranges _ rfl _ rfl TS keyS ptrR Value.string (fun c : Option Nat => .pointer (c.map fun b => ⟨b, 0, none⟩)) (fun key kl hk => keyOf_str_inv hk) (fun v y hv => ptrR_shape hv) f w.heap.size l.length _ _ _ rfl hrgs ?_ ?_)
   | go_in)
  ·intro hc0 hl0
   have e0 := hse.out left hl0
   rw [e0]
   generalize hX : M - (N : Int) + ((0 : Nat) : Int) = X
   have hX2 : Hid (max X 0 = R) := by show _ = _; rw [← hroom.out, ← hX]; simp
   clear hX
   go_wp2_with fail
   go_ret
   exact ⟨by rw [← hX2.out]; rfl, hnx.out⟩
  ·intro x c kl ya yb w1 cnt1 hkey hlx hv hat hrg1 hlt hg1 hs1 hen
   obtain ⟨rfl, hxs⟩ := keyOf_str_lit hkey
   obtain ⟨p, rfl, hp⟩ := hrg.out x c (ya, yb) hat hv (hlk.out _ hlx)
   have hst1 := hst.out left _ p hp hlx
   have hB1 := hide (hnx.out.grown hg1 hnx.out.size (fun j hj => by cases hj; exact Nat.le_refl _))
   obtain ⟨ao, ca, hcell⟩ := hF.out w1 p _ hB1.out hp
   have hsl1 := hsl.out left
   have hlk2 : Hid (∀ k, (fun z : Lit => left z && !z.sameKey (.string x.data.toList)) (.string k) = true → (get l k).isSome = true) := fun k hk => hlk.out k (by simp only [Bool.and_eq_true] at hk; exact hk.1)
   obtain ⟨L1, hL1⟩ : ∃ L1 : Nat, Hid (leftS F l (fun z => left z && !z.sameKey (.string x.data.toList)) = L1) := ⟨_, rfl⟩
   rw [hL1.out] at hst1
   obtain ⟨len, hlen⟩ : ∃ len : Nat, (F p).by_.length = len := ⟨_, rfl⟩
   rw [hlen] at hst1 hcell
   rw [hst1]
   obtain ⟨X, hX⟩ : ∃ X : Int, Hid (M - (N : Int) + ((L1 + len : Nat) : Int) = X) := ⟨_, rfl⟩
   have hw : IntKind.i64.wrap (X - (len : Int)) = X - (len : Int) := by have := hX.out; rw [IntKind.wrap_i64]; omega
   rw [hX.out]
   replace hst1 := hide hst1
   replace hsl1 := hide hsl1
   replace hlt := hide hlt
   replace hp := hide hp
   replace hkey := hide hkey
   replace hv := hide hv
   replace hat := hide hat
   replace hrg1 := hide hrg1
   replace hrgs := hide hrgs
   clear hg1 hs1 hlen hlx
   simp only [Option.map_some] at hen
   go_wp2_with fail
   go_roundw
   case rel =>
    refine ⟨_, cnt1, hrg1.out, ?_, hlk2.out, hB1.out⟩
    rw [hL1.out]
    have := hX.out
    congr 1
    omega
   case measure => rw [hrg1.out.left_eq, hrgs.out.left_eq]; exact hlt.out
def SOff (O : Nat → Prop) (v : Value) : Prop := ∀ b off n c, v = .slice (some ⟨b, off, none⟩) n c → 0 < n → ¬ O b
theorem sl_but {X : Nat → Prop} {w w' : World} {v : Value} {l : List UInt8} (h : Sl w v l) (hb : But X w w') (hx : SOff X v) : Sl w' v l := by
 obtain ⟨ao, cap, rfl, h2, h3, h4, h5⟩ := h
 refine ⟨ao, cap, rfl, h2, h3, h4, fun i hi => ?_⟩
 obtain ⟨b, off, e, hc⟩ := h5 i hi
 subst e
 refine ⟨b, off, rfl, ?_⟩
 rw [← hc]
 have := hb.block b (lt_of_cell hc) (hx b off _ _ rfl (by omega))
 unfold World.cell?
 dsimp only
 rw [this]
def DS.apN (S : DS) (len : Nat) : Nat := (if S.flt.2.1 ≠ 0 then min (min (len : Int) S.room) S.flt.2.2 else min (len : Int) S.room).toNat
theorem apN_le {S : DS} (h : S.ok) (len : Nat) : S.apN len ≤ len ∧ (S.apN len : Int) ≤ S.room := by
 have := h.flt
 have h0 : 0 ≤ S.room := by unfold DS.room; omega
 unfold DS.apN
 split <;> omega
theorem apN_min {S : DS} (_ : S.ok) (len : Nat) (h0 : S.flt.2.1 = 0) : min (len : Int) S.room = (S.apN len : Int) := by
 have h0' : 0 ≤ S.room := by unfold DS.room; omega
 unfold DS.apN
 rw [if_neg (by simpa using h0)]
 omega
theorem apN_part {S : DS} (h : S.ok) (len : Nat) (h0 : S.flt.2.1 ≠ 0) : min (min (len : Int) S.room) S.flt.2.2 = (S.apN len : Int) := by
 have := h.flt
 have h0' : 0 ≤ S.room := by unfold DS.room; omega
 unfold DS.apN
 rw [if_pos h0]
 omega
theorem apN_size {S : DS} (h : S.ok) {s : List UInt8} {p : Nat} (hp : get S.dir s = some p) (len : Nat) : (S.F p).by_.length + S.apN len ≤ 16777216 := by
 have h1 := (apN_le h len).2
 have h2 := h.sz p (DS.mem_dir hp)
 have h3 := sumL_one S.F hp
 have h4 := h.most
 unfold DS.room at h1
 omega
def apF (f : Fl) (b : List UInt8) : Fl := ⟨f.by_ ++ b, f.la, f.sp⟩
def DS.append (S : DS) (s : ByteArray) (b : List UInt8) : DS × Int × Int :=
 match S.find s with
 | (none, e) => (S, 0, e)
 | (some p, _) =>
  ({ (S.beg 1).str S.flt.2.1 with F := upd S.F p (apF (S.F p) (b.take (S.apN b.length))), c8 := S.c8 + (S.apN b.length : Int) }, (S.apN b.length : Int),
   if strF S.flt.2.1 ≠ 0 then strF S.flt.2.1 else if S.apN b.length < b.length then 21 else 0)
theorem Dk.c8 {w : World} {b : Nat} {x : Dc} {f g : Nat} {l l2 : Dr} {P : List Ch} {al : Ar} (h : Dk w b x f g l l2 P al) (n : Int) : Dk (w.setCell ⟨b, 14, none⟩ (.int .i64 n)) b { x with c8 := n } f g l l2 P al := by
 obtain ⟨n1, n2, n3, n4⟩ := h.noB
 have hB := But.of_grownBy (X := fun k => k = b) (grown_setCell w b 14 (.int .i64 n)) fun k e => by cases e; rfl
 refine ⟨?_, h.fm, h.lm, h.mf.but hB n1, h.mg.but hB n2, h.fg, h.pd.but hB n4, fun m e => ⟨(h.am m e).1.but hB (n3 m e), (h.am m e).2⟩, h.an, h.run, h.can, h.ok, h.c0, h.c1⟩
 have := heap_setCell_same w b 14 _ _ (.int .i64 n) h.box
 exact this
theorem Dsk.c8 {w : World} {b : Nat} {S : DS} {O : Nat → Prop} {f g : Nat} {pd : Value} {am : Option Nat} {VB VL : Nat → Value} (h : Dsk w b S O f g pd am VB VL) (n : Int) (hn : 0 ≤ n ∧ n ≤ 16777216 * S.c7) :
    Dsk (w.setCell ⟨b, 14, none⟩ (.int .i64 n)) b { S with c8 := n } O f g pd am VB VL ∧ Sgo w (w.setCell ⟨b, 14, none⟩ (.int .i64 n)) O O := by
 have hB := But.of_grownBy (X := fun k => k = b) (grown_setCell w b 14 (.int .i64 n)) fun k e => by cases e; rfl
 exact h.turn (T := { S with c8 := n }) rfl rfl rfl ⟨h.ok.most, h.ok.sz, h.ok.cnt, h.ok.calm, hn⟩ (h.dk.c8 n) ⟨hB.mono fun k _ e => .inl e, fun k hk => .inl hk⟩
theorem beg_room (S : DS) (j : Nat) : (S.beg j).room = S.room := by
 obtain ⟨e1, e2, e3, e4, e5, e6, e7, e8⟩ := beg_rest S j
 unfold DS.room
 rw [beg_dir, e1, e8]
theorem FlAt.app {w w5 : World} {p : Nat} {f : Fl} {vb vl v5 : Value} {m : List UInt8} (h : FlAt w p f vb vl) (O5 : Ob 0 w5 v5 (f.by_ ++ m)) (G5 : w.grownBy w5 vb.ownBlock) (A5 : v5.ownBlock = vb.ownBlock ∨ v5.ownBlock = some w.heap.size) (hz : f.by_.length + m.length ≤ 1099511627776) :
    w5.heap[p]? = some (.cells #[vb, vl, .int .i64 (f.sp : Int)] TFl (0, 0)) ∧ FlAt (w5.setCell ⟨p, 0, none⟩ v5) p (apF f m) v5 vl ∧ But (FOwn p vb vl) w (w5.setCell ⟨p, 0, none⟩ v5) ∧ (∀ k, FOwn p v5 vl k → FOwn p vb vl k ∨ w.heap.size ≤ k) := by
 have G5b := But.of_grownBy (X := fun k => vb.ownBlock = some k) G5 fun k e => e
 have K5 : w5.heap[p]? = some (.cells #[vb, vl, .int .i64 (f.sp : Int)] TFl (0, 0)) := G5b.at h.box (h.b.no h.box (by decide))
 have g7 := But.of_grownBy (X := fun k => k = p) (grown_setCell w5 p 0 v5) fun k e => by cases e; rfl
 have Ol : Ob 0 w5 vl f.la := h.l.but G5b (fun k hk c => h.ne k c hk)
 refine ⟨K5, ⟨?_, ?_, ?_, ?_, ?_, ?_, ?_⟩, ?_, ?_⟩
 ·rw [heap_setCell_same _ _ _ _ _ _ K5]; simp [apF]
 ·exact O5.but g7 (fun k hk e => O5.no K5 (by decide) (by rw [← e]; exact hk))
 ·exact Ol.but g7 (fun k hk e => Ol.no K5 (by decide) (by rw [← e]; exact hk))
 ·intro k hk c
  rcases A5 with e | e
  ·rw [e] at hk
   exact h.ne k hk c
  ·rw [e] at hk
   have := (h.l.lt k c).2
   simp at hk
   omega
 ·have := h.le; simp [apF]; omega
 ·have := h.sp; have := h.le; simp [apF]; omega
 ·simp [apF]; exact hz
 ·exact (G5b.mono fun k _ e => .inr (.inl e)).trans (g7.mono fun k _ e => .inl e)
 ·rintro k (q | q | q)
  ·exact .inl (.inl q)
  ·rcases A5 with e | e
   ·rw [e] at q; exact .inl (.inr (.inl q))
   ·rw [e] at q; simp at q; exact .inr (by omega)
  ·exact .inl (.inr (.inr q))
theorem append_any {w : World} {b : Nat} {S : DS} {O : Nat → Prop} {f g : Nat} {pd : Value} {am : Option Nat} {VB VL : Nat → Value} (h : Dsk w b S O f g pd am VB VL) (s : ByteArray) (hs : s.size ≤ maxLen) (v : Value) (D : List UInt8) (hv : Sl w v D) (ho : SOff O v) (hc : S.c7 < 900000000) :
    Calls Tryz.prog 49 #[.pointer (some ⟨b, 0, none⟩), .string s, v] w fun e w' => e = .returned (.tuple #[.int .i64 (S.append s D).2.1, .int .i64 (S.append s D).2.2]) ∧ ∃ O', DskE w' b (S.append s D).1 O' ∧ Sgo w w' O O' := by
 have hF := dsk_find h s hs
 by_cases h0 : (S.find s).2 = 0
 ·obtain ⟨p, e, hg, hr, hp⟩ := find_ok h0
  rw [e] at hF
  simp only [Option.map_some] at hF
  have hR : Hid (S.append s D = ({ (S.beg 1).str S.flt.2.1 with F := upd S.F p (apF (S.F p) (D.take (S.apN D.length))), c8 := S.c8 + (S.apN D.length : Int) }, (S.apN D.length : Int), if strF S.flt.2.1 ≠ 0 then strF S.flt.2.1 else if S.apN D.length < D.length then 21 else 0)) := by show _ = _; unfold DS.append; rw [e]
  have hb : Hid (∀ u, Dsk u b S O f g pd am VB VL → _) := fun u hu => dsk_begin hu 1 (by omega) (by omega)
  have hm : Hid (∀ u, Dsk u b (S.beg 1) O f g pd am VB VL → Calls Tryz.prog 116 #[.pointer (some ⟨b, 0, none⟩)] u fun e w' => e = .returned (.int .i64 S.room) ∧ Below u.heap.size u w') := fun u hu => by have := room_any hu (by have := (beg_rest S 1).2.2.2.2.2.1; omega); rw [beg_room] at this; exact this
  obtain ⟨hn1, hn2⟩ := apN_le h.ok D.length
  have hsz := apN_size h.ok hg D.length
  have hmin := apN_min h.ok D.length
  have hpart := apN_part h.ok D.length
  have hft := h.ok.flt
  have H := hide h
  have V := hide hv
  obtain ⟨av, cv, rfl, _, q3, q4, _⟩ := hv
  have q4' : cv ≤ 9223372036854775807 := by unfold maxLen at q4; omega
  have hpb : (S.beg 1).ps = S.ps := beg_ps S 1
  obtain ⟨t, ht⟩ : ∃ t, Hid (S.flt = t) := ⟨_, rfl⟩
  obtain ⟨n, hn⟩ : ∃ n, Hid (S.apN D.length = n) := ⟨_, rfl⟩
  obtain ⟨R, hRm⟩ : ∃ R, Hid (S.room = R) := ⟨_, rfl⟩
  rw [ht.out] at hb hft hmin hpart hR
  rw [hn.out] at hn1 hn2 hsz hmin hpart hR
  rw [hRm.out] at hm hmin hpart hn2
  unfold fv at hb
  obtain ⟨ta, tk, tp⟩ := t
  dsimp only at hb hft hmin hpart hR
  replace hmin := hide hmin
  replace hpart := hide hpart
  replace hft := hide hft
  replace hn2 := hide hn2
  clear h e hr h0 hg hpb
  go_enter Tryz.func49, Tryz.ntmps49
  go_upto_region 5 with (first
   | (go_at_call 99; refine hF.mono ?_; rintro e w1 ⟨rfl, B1⟩; replace B1 := hide B1; have D1 := hide (H.out.below B1.out))
   | (go_at_call 54; refine (hb.out _ D1.out).mono ?_; rintro e w2 ⟨rfl, D2, G2⟩; replace D2 := hide D2; replace G2 := hide G2))
  have B3 := hide ((Below.refl _ w2).alloc (Nat.le_refl _) (.cells #[.int .i64 ta, .int .i64 tk, .int .i64 tp] 118))
  have N3 := hide (heap_alloc_new w2 (.cells #[.int .i64 ta, .int .i64 tk, .int .i64 tp] 118))
  have D3 := hide (D2.out.below B3.out)
  generalize w2.alloc (.cells #[.int .i64 ta, .int .i64 tk, .int .i64 tp] 118) = w3 at *
  have V2 := hide (sl_but (Below.sl B1.out V.out) G2.out.but ho)
  have T3 := hide ((Sgo.of_below (O := O) B1.out).trans (G2.out.trans (Sgo.of_below B3.out)))
  have hlo : Hid (¬ O w2.heap.size ∧ b ≠ w2.heap.size) := ⟨fun c => Nat.lt_irrefl _ (D2.out.lt _ c), fun e => by have := D2.out.lt b (D2.out.ow b (.inl rfl)); omega⟩
  have i1 : (n : Int) ≤ (cv : Int) := by omega
  have i2 : (0 : Int) ≤ (n : Int) := by omega
  have hb8 := H.out.ok.by8
  have hww : IntKind.i64.wrap (S.c8 + (n : Int)) = S.c8 + (n : Int) := by rw [IntKind.wrap_i64]; omega
  have hb8' : Hid (0 ≤ S.c8 + (n : Int) ∧ S.c8 + (n : Int) ≤ 16777216 * (S.c7 + 1)) := by show _ ∧ _; omega
  have hsz' := hide hsz
  clear hF hb D1 V B1 G2 D2 hb8 hc hsz
  by_cases k0 : tk = 0
  ·subst k0
   have hmn := hmin.out rfl
   have i0 : ((0 : Int) != 0) = false := rfl
   go_upto_region 8 with (go_at_call 116; refine (hm.out _ D3.out).mono ?_; rintro e w4 ⟨rfl, B4⟩; replace B4 := hide B4; have N4 : Hid (w4.heap[w2.heap.size]? = some (.cells #[.int .i64 ta, .int .i64 0, .int .i64 tp] 118 (0, 0))) := (B4.out.block _ (heap_lt N3.out)).trans N3.out; obtain ⟨x0, x1, x2⟩ := cells3 N4.out; have D4 := hide (D3.out.below B4.out))
   clear x0 x1 x2
   replace hmn := hide hmn
   have H4 : Hid (FlAt w4 p (S.F p) (VB p) (VL p)) := D4.out.fs.at_ p hp
   obtain ⟨ab, cb, eb, _, _⟩ := H4.out.b.form
   have V4 : Hid (Sl w4 (.slice av n cv) (D.take n)) := sl_take (Below.sl B4.out (Below.sl B3.out V2.out)) hn1
   have KC : Hid (∀ q : World, q.heap[p]? = some (.cells #[VB p, VL p, .int .i64 ((S.F p).sp : Int)] TFl (0, 0)) → q.cell? ⟨p, 0, none⟩ = some (.slice ab (S.F p).by_.length cb)) := fun q hq => by rw [← eb]; exact (cells3 hq).1
   have KP : Hid (w4.drew.heap[p]? = some (.cells #[VB p, VL p, .int .i64 ((S.F p).sp : Int)] TFl (0, 0))) := H4.out.box
   have B5 : Hid (Below w4.heap.size w4 w4.drew) := (Below.refl _ _).drew
   replace eb := hide eb
   refine wp_region_T (fun q => q.heap[p]? = some (.cells #[VB p, VL p, .int .i64 ((S.F p).sp : Int)] TFl (0, 0))) 11 (by kernel_rfl) ?_
   generalize w4.drew = q at *
   refine Ix.tk 0 ⟨some 40, .move (.tmp 8), _, _, _, _⟩ (.pointer (some ⟨p, 0, none⟩)) [11] ?_ KP.out ?_
   ·intro wq hSw
    have y2 := KC.out wq hSw
    go_simp
   (try simp only [zzp, zzb, zzc])
   refine Ix.tk 1 ⟨some 41, .move (.tmp 8), _, _, _, _⟩ (.pointer (some ⟨p, 0, none⟩)) [11] ?_ KP.out ?_
   ·intro wq hSw
    have y2 := KC.out wq hSw
    go_simp
   (try simp only [zzp, zzb, zzc])
   refine Ix.tk 2 ⟨some 42, .nilCheck (.tmp 41), _, _, _, _⟩ (.pointer (some ⟨p, 0, none⟩)) [11] ?_ KP.out ?_
   ·intro wq hSw
    have y2 := KC.out wq hSw
    go_simp
   (try simp only [zzp, zzb, zzc])
   refine Ix.tk 3 ⟨some 43, .fieldAddr 180 (.tmp 42) 0, _, _, _, _⟩ (.pointer (some ⟨p, 0, none⟩)) [11] ?_ KP.out ?_
   ·intro wq hSw
    have y2 := KC.out wq hSw
    go_simp
   (try simp only [zzp, zzb, zzc])
   refine Ix.tk 4 ⟨some 44, .load 39 (.tmp 43), _, _, _, _⟩ (.slice ab (S.F p).by_.length cb) [11] ?_ KP.out ?_
   ·intro wq hSw
    have y2 := KC.out wq hSw
    go_simp
   (try simp only [zzp, zzb, zzc])
   refine Ix.tk 5 ⟨some 45, .move (.tmp 2), _, _, _, _⟩ (.slice av D.length cv) [11] ?_ KP.out ?_
   ·intro wq hSw
    have y2 := KC.out wq hSw
    go_simp
   (try simp only [zzp, zzb, zzc])
   refine Ix.tk 6 ⟨some 46, .move (.tmp 11), _, _, _, _⟩ (.int .i64 (n : Int)) [11] ?_ KP.out ?_
   ·intro wq hSw
    have y2 := KC.out wq hSw
    go_simp
   (try simp only [zzp, zzb, zzc])
   refine Ix.tk 7 ⟨some 47, .slice 39 (.tmp 45) none (some (.tmp 46)) none, _, _, _, _⟩ (.slice av n cv) [11] ?_ KP.out ?_
   ·intro wq hSw
    have y2 := KC.out wq hSw
    go_simp
   (try simp only [zzp, zzb, zzc])
   have Hq := hide (H4.out.below B5.out)
   obtain ⟨v5, w5, hr, O5, G5, A5⟩ := run_app (B := 0) Hq.out.b (V4.out.below4 B5.out) (by have := hsz'.out; rw [List.length_take]; omega) (Nat.zero_le _) 39
   rw [eb.out] at hr
   obtain ⟨K5, F5, U5, W5⟩ := Hq.out.app O5 G5 A5 (by have := hsz'.out; rw [List.length_take]; omega)
   replace K5 := hide K5
   replace F5 := hide F5
   replace U5 := hide U5
   replace W5 := hide W5
   obtain ⟨a5, c5, e5, _, _⟩ := O5.form
   clear O5 G5 A5
   rw [e5] at hr F5 U5 W5
   rw [List.length_append, List.length_take, Nat.min_eq_left hn1] at hr F5 U5 W5
   refine wpAnyT_one (i := 8) (o := ⟨some 48, .call { callee := .builtin .append, args := #[.tmp 44, .tmp 47], argTypes := #[39, 39] }, _, _, _, _⟩) (by kernel_rfl) rfl (fun K hK => ?_)
   refine step_app rfl (.tmp 44) (.tmp 47) rfl _ _ _ w5 (by simp [Act.eval]) (by simp [Act.eval]) hr ?_
   refine hK.out _ _ (fun _ => K5.out) ?_
   clear hK K hr
   (try simp only [zzp, zzb, zzc])
   refine Ix.tk 9 ⟨some 49, .nilCheck (.tmp 40), _, _, _, _⟩ (.pointer (some ⟨p, 0, none⟩)) [10,11] ?_ K5.out ?_
   ·intro wq hSw
    have y2 := KC.out wq hSw
    go_simp
   (try simp only [zzp, zzb, zzc])
   refine Ix.tk 10 ⟨some 50, .fieldAddr 180 (.tmp 49) 0, _, _, _, _⟩ (.pointer (some ⟨p, 0, none⟩)) [11] ?_ K5.out ?_
   ·intro wq hSw
    have y2 := KC.out wq hSw
    go_simp
   (try simp only [zzp, zzb, zzc])
   have d1 := (cells3 K5.out).1
   have d2 := (frozen3 K5.out).1
   refine wpAnyT_one (i := 11) (o := ⟨none, .store 39 (.tmp 50) (.tmp 48), _, _, _, _⟩) (by kernel_rfl) rfl (fun K hK => ?_)
   go_simp
   refine hK.out _ _ (vac (by kernel_rfl)) ?_
   clear hK K d1 d2 KC
   refine wpAnyT_done (by kernel_rfl) ?_ _
   have D5 := hide (D4.out.below B5.out)
   obtain ⟨O6, D6, G6⟩ := D5.out.one hp F5.out U5.out W5.out (by have := hsz'.out; simp only [apF, List.length_append, List.length_take]; omega)
   have zz : Hid (w2.heap.size < w4.heap.size) := heap_lt N4.out
   have T6 := hide (T3.out.trans ((Sgo.of_below B4.out).trans ((Sgo.of_below B5.out).trans G6)))
   have N6 : Hid ((w5.setCell ⟨p, 0, none⟩ (.slice a5 ((S.F p).by_.length + n) c5)).heap[w2.heap.size]? = some (.cells #[.int .i64 ta, .int .i64 0, .int .i64 tp] 118 (0, 0))) := G6.but.at ((B5.out.block _ zz.out).trans N4.out) hlo.out.1
   replace D6 := hide D6
   clear D5 K5 F5 U5 W5 G6 D4 V4 KP B5 H4 Hq T3
   generalize (w5.setCell ⟨p, 0, none⟩ (.slice a5 ((S.F p).by_.length + n) c5)) = w6 at *
   have y1 : w6.cell? ⟨b, 14, none⟩ = some (.int .i64 S.c8) := D6.out.dk.box.all.2
   have y2 : w6.frozen? ⟨b, 14, none⟩ = false := by have := D6.out.dk.cells; simp [World.frozen?, this]
   have D7 := hide (D6.out.c8 (S.c8 + (n : Int)) hb8'.out)
   have N7 : Hid ((w6.setCell ⟨b, 14, none⟩ (.int .i64 (S.c8 + (n : Int)))).heap[w2.heap.size]? = some (.cells #[.int .i64 ta, .int .i64 0, .int .i64 tp] 118 (0, 0))) := (But.of_grownBy (X := fun k => k = b) (grown_setCell w6 b 14 (.int .i64 (S.c8 + (n : Int)))) fun k e => by cases e; rfl).at N6.out (fun e => hlo.out.2 e.symm)
   obtain ⟨x0, x1, x2⟩ := cells3 N7.out
   have hSt := dsk_strike D7.out.1 (ta, 0, tp) (by have := hft.out; show (0 : Int) ≠ 4; omega)
   have T7 := hide (T6.out.trans D7.out.2)
   unfold fv at hSt
   dsimp only at hSt
   have hE : Hid ((({ ({ S.beg 1 with F := upd S.F p (apF (S.F p) (D.take n)) } : DS) with c8 := S.c8 + (n : Int) } : DS).str 0) = (S.append s D).1) := by
    show _ = _
    rw [hR.out]
    unfold DS.str
    split <;> rfl
   have hA1 : Hid ((n : Int) = (S.append s D).2.1) := by show _ = _; rw [hR.out]
   have hA2 : Hid ((if strF 0 ≠ 0 then strF 0 else if n < D.length then 21 else 0) = (S.append s D).2.2) := by show _ = _; rw [hR.out]
   obtain ⟨e0, he⟩ : ∃ e0, Hid (strF 0 = e0) := ⟨_, rfl⟩
   rw [he.out] at hSt hA2
   clear hR hm hmin hpart hmn D6 N6 T6 N4 B4 N3 B3 D3 V2
   by_cases s0 : e0 = 0
   ·subst s0
    by_cases c : n < D.length
    ·have c1 : (n : Int) < (D.length : Int) := by omega
     have hA3 : Hid ((21 : Int) = (S.append s D).2.2) := by show _ = _; rw [← hA2.out, if_neg (by simp), if_pos c]
     clear hA2
     go_wp2_with (go_at_call 115; refine hSt.mono ?_; rintro e w8 ⟨rfl, D8, G8⟩; replace D8 := hide D8; replace G8 := hide G8)
     go_ret2
     refine ⟨by rw [← hA1.out, ← hA3.out]; rfl, O6, ?_, T7.out.trans G8.out⟩
     rw [← hE.out]
     exact D8.out.e
    ·have c1 : ¬ (n : Int) < (D.length : Int) := by omega
     have hA3 : Hid ((0 : Int) = (S.append s D).2.2) := by show _ = _; rw [← hA2.out, if_neg (by simp), if_neg c]
     clear hA2
     go_wp2_with (go_at_call 115; refine hSt.mono ?_; rintro e w8 ⟨rfl, D8, G8⟩; replace D8 := hide D8; replace G8 := hide G8)
     go_ret2
     refine ⟨by rw [← hA1.out, ← hA3.out]; rfl, O6, ?_, T7.out.trans G8.out⟩
     rw [← hE.out]
     exact D8.out.e
   ·have s0' : (e0 != 0) = true := by simpa using s0
    have hA3 : Hid (e0 = (S.append s D).2.2) := by show _ = _; rw [← hA2.out, if_pos s0]
    clear hA2 s0
    go_wp2_with (go_at_call 115; refine hSt.mono ?_; rintro e w8 ⟨rfl, D8, G8⟩; replace D8 := hide D8; replace G8 := hide G8)
    go_ret2
    refine ⟨by rw [← hA1.out, ← hA3.out]; rfl, O6, ?_, T7.out.trans G8.out⟩
    rw [← hE.out]
    exact D8.out.e
  ·have k0' : (tk != 0) = true := by simpa using k0
   have hmn := hpart.out k0
   replace k0 := hide k0
   go_upto_region 8 with (go_at_call 116; refine (hm.out _ D3.out).mono ?_; rintro e w4 ⟨rfl, B4⟩; replace B4 := hide B4; have N4 : Hid (w4.heap[w2.heap.size]? = some (.cells #[.int .i64 ta, .int .i64 tk, .int .i64 tp] 118 (0, 0))) := (B4.out.block _ (heap_lt N3.out)).trans N3.out; obtain ⟨x0, x1, x2⟩ := cells3 N4.out; have D4 := hide (D3.out.below B4.out))
   clear x0 x1 x2
   replace hmn := hide hmn
   have H4 : Hid (FlAt w4 p (S.F p) (VB p) (VL p)) := D4.out.fs.at_ p hp
   obtain ⟨ab, cb, eb, _, _⟩ := H4.out.b.form
   have V4 : Hid (Sl w4 (.slice av n cv) (D.take n)) := sl_take (Below.sl B4.out (Below.sl B3.out V2.out)) hn1
   have KC : Hid (∀ q : World, q.heap[p]? = some (.cells #[VB p, VL p, .int .i64 ((S.F p).sp : Int)] TFl (0, 0)) → q.cell? ⟨p, 0, none⟩ = some (.slice ab (S.F p).by_.length cb)) := fun q hq => by rw [← eb]; exact (cells3 hq).1
   have KP : Hid (w4.drew.heap[p]? = some (.cells #[VB p, VL p, .int .i64 ((S.F p).sp : Int)] TFl (0, 0))) := H4.out.box
   have B5 : Hid (Below w4.heap.size w4 w4.drew) := (Below.refl _ _).drew
   replace eb := hide eb
   refine wp_region_T (fun q => q.heap[p]? = some (.cells #[VB p, VL p, .int .i64 ((S.F p).sp : Int)] TFl (0, 0))) 11 (by kernel_rfl) ?_
   generalize w4.drew = q at *
   refine Ix.tk 0 ⟨some 40, .move (.tmp 8), _, _, _, _⟩ (.pointer (some ⟨p, 0, none⟩)) [11] ?_ KP.out ?_
   ·intro wq hSw
    have y2 := KC.out wq hSw
    go_simp
   (try simp only [zzp, zzb, zzc])
   refine Ix.tk 1 ⟨some 41, .move (.tmp 8), _, _, _, _⟩ (.pointer (some ⟨p, 0, none⟩)) [11] ?_ KP.out ?_
   ·intro wq hSw
    have y2 := KC.out wq hSw
    go_simp
   (try simp only [zzp, zzb, zzc])
   refine Ix.tk 2 ⟨some 42, .nilCheck (.tmp 41), _, _, _, _⟩ (.pointer (some ⟨p, 0, none⟩)) [11] ?_ KP.out ?_
   ·intro wq hSw
    have y2 := KC.out wq hSw
    go_simp
   (try simp only [zzp, zzb, zzc])
   refine Ix.tk 3 ⟨some 43, .fieldAddr 180 (.tmp 42) 0, _, _, _, _⟩ (.pointer (some ⟨p, 0, none⟩)) [11] ?_ KP.out ?_
   ·intro wq hSw
    have y2 := KC.out wq hSw
    go_simp
   (try simp only [zzp, zzb, zzc])
   refine Ix.tk 4 ⟨some 44, .load 39 (.tmp 43), _, _, _, _⟩ (.slice ab (S.F p).by_.length cb) [11] ?_ KP.out ?_
   ·intro wq hSw
    have y2 := KC.out wq hSw
    go_simp
   (try simp only [zzp, zzb, zzc])
   refine Ix.tk 5 ⟨some 45, .move (.tmp 2), _, _, _, _⟩ (.slice av D.length cv) [11] ?_ KP.out ?_
   ·intro wq hSw
    have y2 := KC.out wq hSw
    go_simp
   (try simp only [zzp, zzb, zzc])
   refine Ix.tk 6 ⟨some 46, .move (.tmp 11), _, _, _, _⟩ (.int .i64 (n : Int)) [11] ?_ KP.out ?_
   ·intro wq hSw
    have y2 := KC.out wq hSw
    go_simp
   (try simp only [zzp, zzb, zzc])
   refine Ix.tk 7 ⟨some 47, .slice 39 (.tmp 45) none (some (.tmp 46)) none, _, _, _, _⟩ (.slice av n cv) [11] ?_ KP.out ?_
   ·intro wq hSw
    have y2 := KC.out wq hSw
    go_simp
   (try simp only [zzp, zzb, zzc])
   have Hq := hide (H4.out.below B5.out)
   obtain ⟨v5, w5, hr, O5, G5, A5⟩ := run_app (B := 0) Hq.out.b (V4.out.below4 B5.out) (by have := hsz'.out; rw [List.length_take]; omega) (Nat.zero_le _) 39
   rw [eb.out] at hr
   obtain ⟨K5, F5, U5, W5⟩ := Hq.out.app O5 G5 A5 (by have := hsz'.out; rw [List.length_take]; omega)
   replace K5 := hide K5
   replace F5 := hide F5
   replace U5 := hide U5
   replace W5 := hide W5
   obtain ⟨a5, c5, e5, _, _⟩ := O5.form
   clear O5 G5 A5
   rw [e5] at hr F5 U5 W5
   rw [List.length_append, List.length_take, Nat.min_eq_left hn1] at hr F5 U5 W5
   refine wpAnyT_one (i := 8) (o := ⟨some 48, .call { callee := .builtin .append, args := #[.tmp 44, .tmp 47], argTypes := #[39, 39] }, _, _, _, _⟩) (by kernel_rfl) rfl (fun K hK => ?_)
   refine step_app rfl (.tmp 44) (.tmp 47) rfl _ _ _ w5 (by simp [Act.eval]) (by simp [Act.eval]) hr ?_
   refine hK.out _ _ (fun _ => K5.out) ?_
   clear hK K hr
   (try simp only [zzp, zzb, zzc])
   refine Ix.tk 9 ⟨some 49, .nilCheck (.tmp 40), _, _, _, _⟩ (.pointer (some ⟨p, 0, none⟩)) [10,11] ?_ K5.out ?_
   ·intro wq hSw
    have y2 := KC.out wq hSw
    go_simp
   (try simp only [zzp, zzb, zzc])
   refine Ix.tk 10 ⟨some 50, .fieldAddr 180 (.tmp 49) 0, _, _, _, _⟩ (.pointer (some ⟨p, 0, none⟩)) [11] ?_ K5.out ?_
   ·intro wq hSw
    have y2 := KC.out wq hSw
    go_simp
   (try simp only [zzp, zzb, zzc])
   have d1 := (cells3 K5.out).1
   have d2 := (frozen3 K5.out).1
   refine wpAnyT_one (i := 11) (o := ⟨none, .store 39 (.tmp 50) (.tmp 48), _, _, _, _⟩) (by kernel_rfl) rfl (fun K hK => ?_)
   go_simp
   refine hK.out _ _ (vac (by kernel_rfl)) ?_
   clear hK K d1 d2 KC
   refine wpAnyT_done (by kernel_rfl) ?_ _
   have D5 := hide (D4.out.below B5.out)
   obtain ⟨O6, D6, G6⟩ := D5.out.one hp F5.out U5.out W5.out (by have := hsz'.out; simp only [apF, List.length_append, List.length_take]; omega)
   have zz : Hid (w2.heap.size < w4.heap.size) := heap_lt N4.out
   have T6 := hide (T3.out.trans ((Sgo.of_below B4.out).trans ((Sgo.of_below B5.out).trans G6)))
   have N6 : Hid ((w5.setCell ⟨p, 0, none⟩ (.slice a5 ((S.F p).by_.length + n) c5)).heap[w2.heap.size]? = some (.cells #[.int .i64 ta, .int .i64 tk, .int .i64 tp] 118 (0, 0))) := G6.but.at ((B5.out.block _ zz.out).trans N4.out) hlo.out.1
   replace D6 := hide D6
   clear D5 K5 F5 U5 W5 G6 D4 V4 KP B5 H4 Hq T3
   generalize (w5.setCell ⟨p, 0, none⟩ (.slice a5 ((S.F p).by_.length + n) c5)) = w6 at *
   have y1 : w6.cell? ⟨b, 14, none⟩ = some (.int .i64 S.c8) := D6.out.dk.box.all.2
   have y2 : w6.frozen? ⟨b, 14, none⟩ = false := by have := D6.out.dk.cells; simp [World.frozen?, this]
   have D7 := hide (D6.out.c8 (S.c8 + (n : Int)) hb8'.out)
   have N7 : Hid ((w6.setCell ⟨b, 14, none⟩ (.int .i64 (S.c8 + (n : Int)))).heap[w2.heap.size]? = some (.cells #[.int .i64 ta, .int .i64 tk, .int .i64 tp] 118 (0, 0))) := (But.of_grownBy (X := fun k => k = b) (grown_setCell w6 b 14 (.int .i64 (S.c8 + (n : Int)))) fun k e => by cases e; rfl).at N6.out (fun e => hlo.out.2 e.symm)
   obtain ⟨x0, x1, x2⟩ := cells3 N7.out
   have hSt := dsk_strike D7.out.1 (ta, tk, tp) (by have := hft.out; show (tk : Int) ≠ 4; omega)
   have T7 := hide (T6.out.trans D7.out.2)
   unfold fv at hSt
   dsimp only at hSt
   have hE : Hid ((({ ({ S.beg 1 with F := upd S.F p (apF (S.F p) (D.take n)) } : DS) with c8 := S.c8 + (n : Int) } : DS).str tk) = (S.append s D).1) := by
    show _ = _
    rw [hR.out]
    unfold DS.str
    split <;> rfl
   have hA1 : Hid ((n : Int) = (S.append s D).2.1) := by show _ = _; rw [hR.out]
   have hA2 : Hid ((if strF tk ≠ 0 then strF tk else if n < D.length then 21 else 0) = (S.append s D).2.2) := by show _ = _; rw [hR.out]
   obtain ⟨e0, he⟩ : ∃ e0, Hid (strF tk = e0) := ⟨_, rfl⟩
   rw [he.out] at hSt hA2
   clear hR hm hmin hpart hmn D6 N6 T6 N4 B4 N3 B3 D3 V2
   by_cases s0 : e0 = 0
   ·subst s0
    by_cases c : n < D.length
    ·have c1 : (n : Int) < (D.length : Int) := by omega
     have hA3 : Hid ((21 : Int) = (S.append s D).2.2) := by show _ = _; rw [← hA2.out, if_neg (by simp), if_pos c]
     clear hA2
     go_wp2_with (go_at_call 115; refine hSt.mono ?_; rintro e w8 ⟨rfl, D8, G8⟩; replace D8 := hide D8; replace G8 := hide G8)
     go_ret2
     refine ⟨by rw [← hA1.out, ← hA3.out]; rfl, O6, ?_, T7.out.trans G8.out⟩
     rw [← hE.out]
     exact D8.out.e
    ·have c1 : ¬ (n : Int) < (D.length : Int) := by omega
     have hA3 : Hid ((0 : Int) = (S.append s D).2.2) := by show _ = _; rw [← hA2.out, if_neg (by simp), if_neg c]
     clear hA2
     go_wp2_with (go_at_call 115; refine hSt.mono ?_; rintro e w8 ⟨rfl, D8, G8⟩; replace D8 := hide D8; replace G8 := hide G8)
     go_ret2
     refine ⟨by rw [← hA1.out, ← hA3.out]; rfl, O6, ?_, T7.out.trans G8.out⟩
     rw [← hE.out]
     exact D8.out.e
   ·have s0' : (e0 != 0) = true := by simpa using s0
    have hA3 : Hid (e0 = (S.append s D).2.2) := by show _ = _; rw [← hA2.out, if_pos s0]
    clear hA2 s0
    go_wp2_with (go_at_call 115; refine hSt.mono ?_; rintro e w8 ⟨rfl, D8, G8⟩; replace D8 := hide D8; replace G8 := hide G8)
    go_ret2
    refine ⟨by rw [← hA1.out, ← hA3.out]; rfl, O6, ?_, T7.out.trans G8.out⟩
    rw [← hE.out]
    exact D8.out.e
 ·have hR : Hid (S.append s D = (S, 0, (S.find s).2)) := by
    show _ = _
    have q := find_no h0
    unfold DS.append
    cases hq : S.find s with
    | mk a c => rw [hq] at q; dsimp only at q; subst q; rfl
  rw [hR.out]
  have q := find_no h0
  rw [q] at hF
  simp only [Option.map_none] at hF
  generalize (S.find s).2 = r at *
  have h0' : (r != 0) = true := by simpa using h0
  obtain ⟨av, cv, rfl, _, q3, q4, _⟩ := hv
  have H := hide h
  clear h h0 q hR
  go_enter Tryz.func49, Tryz.ntmps49
  go_wp2_with (go_at_call 99; refine hF.mono ?_; rintro e w1 ⟨rfl, B1⟩; replace B1 := hide B1)
  go_ret2
  exact ⟨rfl, O, (H.out.below B1.out).e, Sgo.of_below B1.out⟩
end Go.Proofs.YtpflaglfnkmjiaaGreat.Dk
namespace Go.Proofs.YtpflaglfnkmjiaaGreat.Dk
open Go.RowKit Go.Maps Go.Sort Go.Shelf Go.Proofs.YtpflaglfnkmjiaaGreat.Nm
theorem Mp.klen {w : World} {b : Nat} {l : Dr} (h : Mp w b l) {e : List UInt8 × Nat} (he : e ∈ l) : e.1.length ≤ maxLen := by
 obtain ⟨es, clock, _, F, _, hD⟩ := h
 have e2 : l.map dent = (es.toList.map (Go.WideElems.rg Tryz.prog TS ptrR)).foldr DataW.insert [] := by
  have : DataW.map (l.map dent) = DataW.map _ := hD
  simpa using this
 have hm : dent e ∈ l.map dent := List.mem_map.2 ⟨e, he, rfl⟩
 rw [e2] at hm
 obtain ⟨x, hx, hr⟩ := List.mem_map.1 (mem_sorted.1 hm)
 obtain ⟨y, hy⟩ := F.reads x hx
 rw [Go.WideElems.rg_of hy] at hr
 have hk := Go.WideElems.rd_key hy
 rw [hr] at hk
 obtain ⟨s, hs⟩ := keyOf_str_inv hk
 rw [hs] at hk
 obtain ⟨e3, e4⟩ := keyOf_str_lit hk
 have e5 : e.1 = s.data.toList := by
  have : Lit.string e.1 = .string s.data.toList := e3
  simpa using this
 rw [e5]
 exact e4
def bsOf (n : List UInt8) : ByteArray := ⟨n.toArray⟩
theorem nms_mem {l : Dr} {n : List UInt8} : n ∈ nms l ↔ ∃ p, (n, p) ∈ l := by
 unfold nms
 rw [List.mem_mergeSort, List.mem_map]
 constructor
 ·rintro ⟨e, he, rfl⟩
  exact ⟨e.2, he⟩
 ·rintro ⟨p, hp⟩
  exact ⟨_, hp, rfl⟩
theorem nms_get {l : Dr} {n : List UInt8} (h : n ∈ nms l) : ∃ p, get l n = some p := by
 obtain ⟨p, hp⟩ := nms_mem.1 h
 unfold get
 have : (l.find? fun p => p.1 == n).isSome = true := by rw [List.find?_isSome]; exact ⟨_, hp, by simp⟩
 obtain ⟨e, he⟩ := Option.isSome_iff_exists.1 this
 exact ⟨e.2, by rw [he]; rfl⟩
theorem Mp.nlen {w : World} {b : Nat} {l : Dr} (h : Mp w b l) {n : List UInt8} (hn : n ∈ nms l) : (bsOf n).size ≤ maxLen := by
 obtain ⟨p, hp⟩ := nms_mem.1 hn
 exact h.klen hp
theorem row_of_owns {w : World} {B : Nat} {T : TypeId} {v : Value} {n : Nat} {xs : List Value} (h : w.ownsRow B T 1 v n xs) (hx : xs.length = n) : Row w v xs := by
 have h0 := h
 rcases h.2 with ⟨rfl, e⟩ | ⟨g, cap, cur, rfl, hg, hh, a, b, c⟩
 ·have : xs = [] := List.length_eq_zero_iff.1 (by omega)
  subst this
  exact Row.nil w
 ·refine ⟨some ⟨g, 0, none⟩, cap, by rw [hx], fun e => by simp at e, by omega, b, fun i hi => ?_⟩
  have q := World.ownsRow.cells h0 (g := g) rfl i _ (List.getElem?_eq_getElem hi)
  exact ⟨g, 0, rfl, by rw [addr_add] at q; exact q⟩
def DS.front (S : DS) (n : Int) : Dr := runs S.l2 (S.P.take (wthn n S.P.length))
theorem dsk_directory {w : World} {b : Nat} {S : DS} {O : Nat → Prop} {f g : Nat} {pd : Value} {am : Option Nat} {VB VL : Nat → Value} (h : Dsk w b S O f g pd am VB VL) (hc : S.c7 < 1000000000) (n : Int) (n0 : -9223372036854775808 ≤ n) (n1 : n ≤ 9223372036854775807) :
    Calls Tryz.prog 64 #[.pointer (some ⟨b, 0, none⟩), .int .i64 n] w fun e w' => e = .returned (.map (some w.heap.size)) ∧ Mp w' w.heap.size (S.front n) ∧ Below w.heap.size w w' := by
 have hcn := h.ok.cnt
 exact directory_any w b g (dcells (S.dc f g pd am)) S.l2 S.P pd n h.dk.box rfl rfl h.dk.mg h.dk.pd.row h.dk.ok h.dk.can (by unfold maxLen; omega) n0 n1
theorem front_len {S : DS} (h : S.ok) (hc : S.c7 < 1000000000) (n : Int) : (S.front n).length ≤ 1000000000 := by
 have h1 := h.cnt
 have h2 := runs_len S.l2 (S.P.take (wthn n S.P.length))
 rw [List.length_take] at h2
 unfold DS.front
 omega
theorem mem_front {S : DS} {n : Int} {s : List UInt8} {p : Nat} (h : get (S.front n) s = some p) : p ∈ S.ps := DS.mem_front (List.mem_map.2 ⟨_, get_mem h, rfl⟩)
end Go.Proofs.YtpflaglfnkmjiaaGreat.Dk
