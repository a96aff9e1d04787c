/-
  begin, strike of a disk with its files; Create, Rename, Remove, SyncDir by data.
-/
import Derived.Test.YtjehpijjneghpaaGreatM07
import Derived.Maps.Range
import Derived.Maps.RangeWalk
import Derived.Maps.Ext
namespace Go.Proofs.YtjehpijjneghpaaGreat.Dk
open Go.RowKit Go.Maps Go.Proofs.YtjehpijjneghpaaGreat.Nm
def DS.beg (S : DS) : Nat → DS
  | 0 => { S with c0 := S.c0 + 1, c7 := S.c7 + 1, al := adel S.al (S.c7 + 1) }
  | 1 => { S with c1 := S.c1 + 1, c7 := S.c7 + 1, al := adel S.al (S.c7 + 1) }
  | 2 => { S with c2 := S.c2 + 1, c7 := S.c7 + 1, al := adel S.al (S.c7 + 1) }
  | 3 => { S with c3 := S.c3 + 1, c7 := S.c7 + 1, al := adel S.al (S.c7 + 1) }
  | 4 => { S with c4 := S.c4 + 1, c7 := S.c7 + 1, al := adel S.al (S.c7 + 1) }
  | 5 => { S with c5 := S.c5 + 1, c7 := S.c7 + 1, al := adel S.al (S.c7 + 1) }
  | _ => { S with c6 := S.c6 + 1, c7 := S.c7 + 1, al := adel S.al (S.c7 + 1) }
def DS.flt (S : DS) : Ft := (aget S.al (S.c7 + 1)).getD zf
def DS.str (S : DS) (k : Int) : DS := if k = 3 then { S with up := false } else S
theorem beg_dc (S : DS) (f g : Nat) (pd : Value) (am : Option Nat) (j : Nat) : inc (S.dc f g pd am) j = (S.beg j).dc f g pd am := by
  match j with
  | 0 => rfl
  | 1 => rfl
  | 2 => rfl
  | 3 => rfl
  | 4 => rfl
  | 5 => rfl
  | _ + 6 => rfl
theorem beg_rest (S : DS) (j : Nat) : (S.beg j).most = S.most ∧ (S.beg j).up = S.up ∧ (S.beg j).l2 = S.l2 ∧ (S.beg j).P = S.P ∧ (S.beg j).al = adel S.al (S.c7 + 1) ∧ (S.beg j).c7 = S.c7 + 1 ∧ (S.beg j).c8 = S.c8 ∧ (S.beg j).F = S.F := by
  unfold DS.beg
  split <;> exact ⟨rfl, rfl, rfl, rfl, rfl, rfl, rfl, rfl⟩
theorem str_dc (S : DS) (f g : Nat) (pd : Value) (am : Option Nat) (k : Int) : strX k (S.dc f g pd am) = (S.str k).dc f g pd am := by
  unfold strX DS.str
  split <;> rfl
theorem str_rest (S : DS) (k : Int) : (S.str k).most = S.most ∧ (S.str k).l2 = S.l2 ∧ (S.str k).P = S.P ∧ (S.str k).al = S.al ∧ (S.str k).c7 = S.c7 ∧ (S.str k).c8 = S.c8 ∧ (S.str k).F = S.F := by
  unfold DS.str
  split <;> exact ⟨rfl, rfl, rfl, rfl, rfl, rfl, rfl⟩
theorem DS.ok.calm_at {S : DS} (h : S.ok) (n : Int) : (0 ≤ ((aget S.al n).getD zf).2.1 ∧ ((aget S.al n).getD zf).2.1 ≤ 3) ∧ 0 ≤ ((aget S.al n).getD zf).2.2 := by
  unfold aget
  cases hf : S.al.find? fun p => p.1 == n with
  | none => simp [zf]
  | some e =>
    have := h.calm e (List.mem_of_find?_eq_some hf)
    simp
    omega
theorem DS.ok.flt {S : DS} (h : S.ok) : (0 ≤ S.flt.2.1 ∧ S.flt.2.1 ≤ 3) ∧ 0 ≤ S.flt.2.2 := h.calm_at _
theorem DS.ok.flt4 {S : DS} (h : S.ok) : S.flt.2.1 ≠ 4 := by have := h.flt; omega
theorem DS.ok.beg {S : DS} (h : S.ok) (j : Nat) : (S.beg j).ok := by
  obtain ⟨e1, e2, e3, e4, e5, e6, e7, e8⟩ := beg_rest S j
  have e9 : (S.beg j).ps = S.ps := by unfold DS.ps; rw [e3, e4]
  refine ⟨by rw [e1]; exact h.most, by rw [e9, e8]; exact h.sz, ?_, ?_, ?_⟩
  · rw [e3, e4, e6]; have := h.cnt; omega
  · rw [e5]; exact fun e he => h.calm e (List.mem_filter.1 he).1
  · rw [e7, e6]; have := h.by8; omega
theorem DS.ok.str {S : DS} (h : S.ok) (k : Int) : (S.str k).ok := by
  obtain ⟨e1, e3, e4, e5, e6, e7, e8⟩ := str_rest S k
  have e9 : (S.str k).ps = S.ps := by unfold DS.ps; rw [e3, e4]
  exact ⟨by rw [e1]; exact h.most, by rw [e9, e8]; exact h.sz, by rw [e3, e4, e6]; exact h.cnt, by rw [e5]; exact h.calm, by rw [e7, e6]; exact h.by8⟩
theorem Dsk.turn {w w' : World} {b : Nat} {S T : DS} {O : Nat → Prop} {f g : Nat} {pd : Value} {am : Option Nat} {VB VL : Nat → Value} (h : Dsk w b S O f g pd am VB VL) (e3 : T.l2 = S.l2) (e4 : T.P = S.P) (e8 : T.F = S.F) (hok : T.ok) (hd : Dk w' b (T.dc f g pd am) f g S.dir S.l2 S.P T.al) (st : Stp w w' b (S.dc f g pd am) (T.dc f g pd am)) :
    Dsk w' b T O f g pd am VB VL ∧ Sgo w w' O O := by
  have e9 : T.ps = S.ps := by unfold DS.ps; rw [e3, e4]
  have e10 : T.dir = S.dir := by unfold DS.dir; rw [e3, e4]
  refine ⟨⟨by rw [e10, e3, e4]; exact hd, by rw [e9, e8]; exact h.fs.stp st, h.ow, by rw [e9]; exact h.of, fun k hk => Nat.lt_of_lt_of_le (h.lt k hk) st.but.size, hok⟩, ⟨st.but.mono fun k _ c => h.ow k c, fun k hk => .inl hk⟩⟩
theorem dsk_begin {w : World} {b : Nat} {S : DS} {O : Nat → Prop} {f g : Nat} {pd : Value} {am : Option Nat} {VB VL : Nat → Value} (h : Dsk w b S O f g pd am VB VL) (j : Nat) (hj : j < 7) (hc : S.c7 < 1000000000) :
    Calls Tryz.prog 70 #[.pointer (some ⟨b, 0, none⟩), .pointer (some ⟨b, 6 + j, none⟩)] w fun e w' => e = .returned (fv S.flt) ∧ Dsk w' b (S.beg j) O f g pd am VB VL ∧ Sgo w w' O O := by
  refine (begin_any w b (S.dc f g pd am) f g S.dir S.l2 S.P S.al j hj h.dk (by show S.c7 < _; omega)).mono ?_
  rintro e w' ⟨rfl, hd, hb⟩
  obtain ⟨e1, e2, e3, e4, e5, e6, e7, e8⟩ := beg_rest S j
  refine ⟨rfl, h.turn e3 e4 e8 (h.ok.beg j) (by rw [e5, ← beg_dc]; exact hd) ?_⟩
  rw [← beg_dc]
  exact Stp.inc hb
theorem dsk_strike {w : World} {b : Nat} {S : DS} {O : Nat → Prop} {f g : Nat} {pd : Value} {am : Option Nat} {VB VL : Nat → Value} (h : Dsk w b S O f g pd am VB VL) (t : Ft) (hk : t.2.1 ≠ 4) :
    Calls Tryz.prog 69 #[.pointer (some ⟨b, 0, none⟩), fv t] w fun e w' => e = .returned (.int .i64 (strF t.2.1)) ∧ Dsk w' b (S.str t.2.1) O f g pd am VB VL ∧ Sgo w w' O O := by
  refine (dk_strike w b _ f g S.dir S.l2 S.P S.al t h.dk hk).mono ?_
  rintro e w' ⟨rfl, hd, hb⟩
  obtain ⟨e1, e3, e4, e5, e6, e7, e8⟩ := str_rest S t.2.1
  refine ⟨rfl, h.turn e3 e4 e8 (h.ok.str _) (by rw [e5, ← str_dc]; exact hd) ?_⟩
  rw [← str_dc]
  exact Stp.strX hb
theorem dsk_strikeR {w : World} {b : Nat} {S : DS} {O : Nat → Prop} {f g : Nat} {pd : Value} {am : Option Nat} {VB VL : Nat → Value} (h : Dsk w b S O f g pd am VB VL) (t : Ft) (hk : t.2.1 ≠ 4) :
    Calls Tryz.prog 73 #[.pointer (some ⟨b, 0, none⟩), fv t] w fun e w' => e = .returned (.int .i64 (strR t.2.1)) ∧ Dsk w' b (S.str t.2.1) O f g pd am VB VL ∧ Sgo w w' O O := by
  refine (dk_strikeR w b _ f g S.dir S.l2 S.P S.al t h.dk hk).mono ?_
  rintro e w' ⟨rfl, hd, hb⟩
  obtain ⟨e1, e3, e4, e5, e6, e7, e8⟩ := str_rest S t.2.1
  refine ⟨rfl, h.turn e3 e4 e8 (h.ok.str _) (by rw [e5, ← str_dc]; exact hd) ?_⟩
  rw [← str_dc]
  exact Stp.strX hb
def DS.ref (S : DS) (L : List ByteArray) : Int := if S.up then (if L.all (fun s => may s.data.toList) then 0 else 24) else 22
theorem ref_dc (S : DS) (f g : Nat) (pd : Value) (am : Option Nat) (L : List ByteArray) : refF (some (S.dc f g pd am)) L = S.ref L := rfl
def DS.find (S : DS) (s : ByteArray) : Option Nat × Int :=
  if S.ref [s] = 0 then (match get S.dir s.data.toList with | some p => (some p, 0) | none => (none, 6)) else (none, S.ref [s])
theorem find_dc (S : DS) (f g : Nat) (pd : Value) (am : Option Nat) (s : ByteArray) : findF (some (S.dc f g pd am)) S.dir s = (.pointer ((S.find s).1.map fun p => ⟨p, 0, none⟩), (S.find s).2) := by
  unfold findF DS.find
  rw [ref_dc]
  split
  · cases get S.dir s.data.toList <;> rfl
  · rfl
theorem find_ok {S : DS} {s : ByteArray} (h : (S.find s).2 = 0) : ∃ p, S.find s = (some p, 0) ∧ get S.dir s.data.toList = some p ∧ S.ref [s] = 0 ∧ p ∈ S.ps := by
  unfold DS.find at h ⊢
  split at h
  · rename_i h0
    rw [if_pos h0]
    cases hp : get S.dir s.data.toList with
    | some p => exact ⟨p, rfl, rfl, h0, DS.mem_dir hp⟩
    | none => rw [hp] at h; exact absurd h (by decide)
  · rename_i h0
    exact absurd h h0
theorem find_no {S : DS} {s : ByteArray} (h : (S.find s).2 ≠ 0) : (S.find s).1 = none := by
  unfold DS.find at h ⊢
  split
  · rename_i h0
    rw [if_pos h0] at h
    cases hp : get S.dir s.data.toList with
    | some p => rw [hp] at h; exact absurd rfl h
    | none => rfl
  · rfl
theorem dsk_find {w : World} {b : Nat} {S : DS} {O : Nat → Prop} {f g : Nat} {pd : Value} {am : Option Nat} {VB VL : Nat → Value} (h : Dsk w b S O f g pd am VB VL) (s : ByteArray) (hs : s.size ≤ maxLen) :
    Calls Tryz.prog 75 #[.pointer (some ⟨b, 0, none⟩), .string s] w fun e w' => e = .returned (.tuple #[.pointer ((S.find s).1.map fun p => ⟨p, 0, none⟩), .int .i64 (S.find s).2]) ∧ Below w.heap.size w w' := by
  have := h.dk.find s hs
  rw [find_dc] at this
  exact this
def DS.create (S : DS) (s : ByteArray) (p : Nat) : DS × Int :=
  if S.ref [s] ≠ 0 then (S, S.ref [s])
  else if (get S.dir s.data.toList).isSome then (S, 7)
  else if 256 ≤ S.dir.length then (S, 9)
  else if strF S.flt.2.1 ≠ 0 then ((S.beg 0).str S.flt.2.1, strF S.flt.2.1)
  else ({ (S.beg 0).str S.flt.2.1 with P := S.P ++ [.cr s p], F := upd S.F p ⟨[], [], 0⟩ }, 0)
theorem beg_dir (S : DS) (j : Nat) : (S.beg j).dir = S.dir := by obtain ⟨e1, e2, e3, e4, e5, e6, e7, e8⟩ := beg_rest S j; unfold DS.dir; rw [e3, e4]
theorem beg_ps (S : DS) (j : Nat) : (S.beg j).ps = S.ps := by obtain ⟨e1, e2, e3, e4, e5, e6, e7, e8⟩ := beg_rest S j; unfold DS.ps; rw [e3, e4]
theorem str_ps (S : DS) (k : Int) : (S.str k).ps = S.ps := by obtain ⟨e1, e3, e4, e5, e6, e7, e8⟩ := str_rest S k; unfold DS.ps; rw [e3, e4]
def DS.hit (S : DS) (j : Nat) : DS := (S.beg j).str S.flt.2.1
theorem hit_rest (S : DS) (j : Nat) : (S.hit j).most = S.most ∧ (S.hit j).l2 = S.l2 ∧ (S.hit j).P = S.P ∧ (S.hit j).al = adel S.al (S.c7 + 1) ∧ (S.hit j).c7 = S.c7 + 1 ∧ (S.hit j).c8 = S.c8 ∧ (S.hit j).F = S.F := by
  obtain ⟨a1, a2, a3, a4, a5, a6, a7, a8⟩ := beg_rest S j
  obtain ⟨e1, e3, e4, e5, e6, e7, e8⟩ := str_rest (S.beg j) S.flt.2.1
  exact ⟨e1.trans a1, e3.trans a3, e4.trans a4, e5.trans a5, e6.trans a6, e7.trans a7, e8.trans a8⟩
theorem hit_dc (S : DS) (f g : Nat) (pd : Value) (am : Option Nat) (j : Nat) : strX (nextF (S.dc f g pd am) S.al).2.1 (inc (S.dc f g pd am) j) = (S.hit j).dc f g pd am := by
  rw [beg_dc, str_dc]
  rfl
theorem Dsk.hit {w w' : World} {b : Nat} {S : DS} {O : Nat → Prop} {f g : Nat} {pd : Value} {am : Option Nat} {VB VL : Nat → Value} (h : Dsk w b S O f g pd am VB VL) (j : Nat) (hd : Dk w' b (strX (nextF (S.dc f g pd am) S.al).2.1 (inc (S.dc f g pd am) j)) f g S.dir S.l2 S.P (adel S.al ((S.dc f g pd am).c7 + 1)))
    (st : Stp w w' b (S.dc f g pd am) (strX (nextF (S.dc f g pd am) S.al).2.1 (inc (S.dc f g pd am) j))) : Dsk w' b (S.hit j) O f g pd am VB VL ∧ Sgo w w' O O := by
  obtain ⟨e1, e3, e4, e5, e6, e7, e8⟩ := hit_rest S j
  refine h.turn e3 e4 e8 ((h.ok.beg j).str _) ?_ (by rw [← hit_dc]; exact st)
  rw [← hit_dc, e5]
  exact hd
theorem Dsk.more {w w' : World} {b : Nat} {S T : DS} {O : Nat → Prop} {f g : Nat} {pd pd' : Value} {am : Option Nat} {VB VL : Nat → Value} (h : Dsk w b S O f g pd am VB VL) (c : Ch) (hn : c.ptr = none) (e3 : T.l2 = S.l2) (e4 : T.P = S.P ++ [c]) (e8 : T.F = S.F) (hok : T.ok)
    (hd : Dk w' b (T.dc f g pd' am) f g (c.run S.dir) S.l2 (S.P ++ [c]) T.al) (st : Stp w w' b (S.dc f g pd am) (T.dc f g pd' am)) : ∃ O', Dsk w' b T O' f g pd' am VB VL ∧ Sgo w w' O O' := by
  have e9 : T.ps = S.ps := by unfold DS.ps; rw [e3, e4, List.filterMap_append]; simp [hn]
  have e10 : T.dir = c.run S.dir := by unfold DS.dir; rw [e3, e4, runs_snoc]
  refine ⟨fun k => O k ∨ (w.heap.size ≤ k ∧ k < w'.heap.size), ⟨by rw [e10, e3, e4]; exact hd, by rw [e9, e8]; exact h.fs.stp st, ?_, fun p hp k hk => .inl (h.of p (by rw [← e9]; exact hp) k hk), ?_, hok⟩, ⟨st.but.mono fun k _ c => h.ow k c, ?_⟩⟩
  · intro k hk
    rcases st.own k hk with q | q
    · exact .inl (h.ow k q)
    · exact .inr ⟨q, hd.lt k hk⟩
  · rintro k (q | q)
    · exact Nat.lt_of_lt_of_le (h.lt k q) st.but.size
    · exact q.2
  · rintro k (q | q)
    · exact .inl q
    · exact .inr q.1
theorem Dsk.fresh {w : World} {b : Nat} {S : DS} {O : Nat → Prop} {f g : Nat} {pd : Value} {am : Option Nat} {VB VL : Nat → Value} (h : Dsk w b S O f g pd am VB VL) {p : Nat} (hp : w.heap.size ≤ p) : p ∉ S.ps := fun c => by
  have := h.fs.lt c p (.inl rfl)
  omega
theorem Dsk.e {w : World} {b : Nat} {S : DS} {O : Nat → Prop} {f g : Nat} {pd : Value} {am : Option Nat} {VB VL : Nat → Value} (h : Dsk w b S O f g pd am VB VL) : DskE w b S O := ⟨f, g, pd, am, VB, VL, h⟩
theorem ps_snoc (l2 : Dr) (P : List Ch) (s : ByteArray) (p : Nat) : l2.map (·.2) ++ (P ++ [Ch.cr s p]).filterMap Ch.ptr = (l2.map (·.2) ++ P.filterMap Ch.ptr) ++ [p] := by
  rw [List.filterMap_append, ← List.append_assoc]
  rfl
theorem fown_nil {p k : Nat} (h : FOwn p (.slice none 0 0) (.slice none 0 0) k) : k = p := by
  rcases h with q | q | q
  · exact q
  · simp [Value.ownBlock] at q
  · simp [Value.ownBlock] at q
theorem Fs.new {w : World} {Ow : Nat → Prop} {ps : List Nat} {F : Nat → Fl} {VB VL : Nat → Value} {p : Nat} (h : Fs w Ow ps F VB VL) (hp : p ∉ ps) (hf : w.heap[p]? = some (.cells #[.slice none 0 0, .slice none 0 0, .int .i64 0] 124 (0, 0))) (ho : ¬ Ow p) (ha : ∀ q ∈ ps, ¬ FOwn q (VB q) (VL q) p) :
    Fs w Ow (ps ++ [p]) (upd F p ⟨[], [], 0⟩) (upd VB p (.slice none 0 0)) (upd VL p (.slice none 0 0)) := by
  have hne : ∀ q ∈ ps, q ≠ p := fun q hq e => hp (by rw [← e]; exact hq)
  refine ⟨fun q hq => ?_, fun q hq r hr hqr k hk c => ?_, fun q hq k hk c => ?_⟩
  · rcases List.mem_append.1 hq with z | z
    · rw [upd_ne _ _ (hne q z), upd_ne _ _ (hne q z), upd_ne _ _ (hne q z)]; exact h.at_ q z
    · have e := List.mem_singleton.1 z; subst e; rw [upd_same, upd_same, upd_same]; exact FlAt.new hf
  · rcases List.mem_append.1 hq with z | z
    · rw [upd_ne _ _ (hne q z), upd_ne _ _ (hne q z)] at hk
      rcases List.mem_append.1 hr with y | y
      · rw [upd_ne _ _ (hne r y), upd_ne _ _ (hne r y)] at c
        exact h.ap q z r y hqr k hk c
      · have e := List.mem_singleton.1 y; subst e
        rw [upd_same, upd_same] at c
        have := fown_nil c
        subst this
        exact ha q z hk
    · have e := List.mem_singleton.1 z; subst e
      rw [upd_same, upd_same] at hk
      have := fown_nil hk
      subst this
      rcases List.mem_append.1 hr with y | y
      · rw [upd_ne _ _ (hne r y), upd_ne _ _ (hne r y)] at c
        exact ha r y c
      · exact hqr (List.mem_singleton.1 y).symm
  · rcases List.mem_append.1 hq with z | z
    · rw [upd_ne _ _ (hne q z), upd_ne _ _ (hne q z)] at hk
      exact h.no q z k hk c
    · have e := List.mem_singleton.1 z; subst e
      rw [upd_same, upd_same] at hk
      have := fown_nil hk
      subst this
      exact ho c
def Does (w : World) (b : Nat) (O : Nat → Prop) (R : DS × Int) (e : Ending) (w' : World) : Prop := e = .returned (.int .i64 R.2) ∧ ∃ O', DskE w' b R.1 O' ∧ Sgo w w' O O'
theorem create_dsk {w : World} {b : Nat} {S : DS} {O : Nat → Prop} (h : DskE w b S O) (s : ByteArray) (hs : s.size ≤ 140737488355328) (hc : S.c7 < 1000000000) :
    Calls Tryz.prog 14 #[.pointer (some ⟨b, 0, none⟩), .string s] w fun e w' => ∃ p, w.heap.size ≤ p ∧ p ∉ S.ps ∧ Does w b O (S.create s p) e w' := by
  obtain ⟨f, g, pd, am, VB, VL, h⟩ := h
  have hcn := h.ok.cnt
  refine (create_any w b (S.dc f g pd am) f g S.dir S.l2 S.P S.al s hs h.dk (by show S.c7 < _; omega) h.ok.flt4 (by omega)).mono ?_
  rintro e w' ⟨r, rfl, hr⟩
  have hf := h.fresh (Nat.le_refl w.heap.size)
  have hn : ∀ hd : Dk w' b (S.dc f g pd am) f g S.dir S.l2 S.P S.al, Stp w w' b (S.dc f g pd am) (S.dc f g pd am) → ∃ O', DskE w' b S O' ∧ Sgo w w' O O' := fun hd st => by
    have := h.turn (T := S) rfl rfl rfl h.ok hd st
    exact ⟨O, this.1.e, this.2⟩
  cases hr with
  | no _ hr h0 hd st =>
    refine ⟨w.heap.size, Nat.le_refl _, hf, ?_⟩
    rw [ref_dc] at hr
    have e : S.create s w.heap.size = (S, r) := by unfold DS.create; rw [hr, if_pos h0]
    rw [e]
    exact ⟨rfl, hn hd st⟩
  | there hr ht hd st =>
    refine ⟨w.heap.size, Nat.le_refl _, hf, ?_⟩
    rw [ref_dc] at hr
    have e : S.create s w.heap.size = (S, 7) := by unfold DS.create; rw [hr, if_neg (by simp), if_pos ht]
    rw [e]
    exact ⟨rfl, hn hd st⟩
  | many hr ht hm hd st =>
    refine ⟨w.heap.size, Nat.le_refl _, hf, ?_⟩
    rw [ref_dc] at hr
    have e : S.create s w.heap.size = (S, 9) := by unfold DS.create; rw [hr, if_neg (by simp), ht, if_neg (by simp), if_pos hm]
    rw [e]
    exact ⟨rfl, hn hd st⟩
  | struck _ hr ht hm he h0 hd st =>
    refine ⟨w.heap.size, Nat.le_refl _, hf, ?_⟩
    rw [ref_dc] at hr
    have he' : strF S.flt.2.1 = r := he
    have e : S.create s w.heap.size = (S.hit 0, r) := by unfold DS.create; rw [hr, if_neg (by simp), ht, if_neg (by simp), if_neg (by omega), he', if_pos h0]; rfl
    rw [e]
    have := h.hit 0 hd st
    exact ⟨rfl, O, this.1.e, this.2⟩
  | done hr ht hm he p pd' hp ho hf2 hd st =>
    have hf3 := h.fresh hp
    refine ⟨p, hp, hf3, ?_⟩
    rw [ref_dc] at hr
    have he' : strF S.flt.2.1 = 0 := he
    have e : S.create s p = ({ S.hit 0 with P := S.P ++ [.cr s p], F := upd S.F p ⟨[], [], 0⟩ }, 0) := by unfold DS.create; rw [hr, if_neg (by simp), ht, if_neg (by simp), if_neg (by omega), he', if_neg (by simp)]; rfl
    rw [e]
    obtain ⟨e1, e3, e4, e5, e6, e7, e8⟩ := hit_rest S 0
    obtain ⟨T, hT⟩ : ∃ T : DS, T = { S.hit 0 with P := S.P ++ [.cr s p], F := upd S.F p ⟨[], [], 0⟩ } := ⟨_, rfl⟩
    rw [← hT]
    rw [hit_dc] at ho hd st
    have hx : ({ (S.hit 0).dc f g pd am with pd := pd' } : Dc) = T.dc f g pd' am := by rw [hT]; rfl
    rw [hx] at ho hd st
    have t3 : T.l2 = S.l2 := by rw [hT]; exact e3
    have t4 : T.P = S.P ++ [.cr s p] := by rw [hT]
    have t5 : T.al = adel S.al (S.c7 + 1) := by rw [hT]; exact e5
    have t6 : T.c7 = S.c7 + 1 := by rw [hT]; exact e6
    have t7 : T.c8 = S.c8 := by rw [hT]; exact e7
    have t8 : T.F = upd S.F p ⟨[], [], 0⟩ := by rw [hT]
    have t1 : T.most = S.most := by rw [hT]; exact e1
    have t9 : T.ps = S.ps ++ [p] := by unfold DS.ps; rw [t3, t4, ps_snoc]
    have t10 : T.dir = dput S.dir s.data.toList p := by unfold DS.dir; rw [t3, t4, runs_snoc]; rfl
    refine ⟨rfl, fun k => O k ∨ (w.heap.size ≤ k ∧ k < w'.heap.size), ⟨f, g, pd', am, upd VB p (.slice none 0 0), upd VL p (.slice none 0 0), ⟨?_, ?_, ?_, ?_, ?_, ?_⟩⟩, ⟨st.but.mono fun k _ c => h.ow k c, ?_⟩⟩
    · rw [t10, t3, t4, t5]; exact hd
    · rw [t9, t8]
      refine (h.fs.stp st).new hf3 hf2 ho fun q hq c => ?_
      have := h.fs.lt hq p c
      omega
    · intro k hk
      rcases st.own k hk with q | q
      · exact .inl (h.ow k q)
      · exact .inr ⟨q, hd.lt k hk⟩
    · rw [t9]
      intro q hq k hk
      rcases List.mem_append.1 hq with z | z
      · have e : q ≠ p := fun e => hf3 (by rw [← e]; exact z)
        rw [upd_ne _ _ e, upd_ne _ _ e] at hk
        exact .inl (h.of q z k hk)
      · have e := List.mem_singleton.1 z; subst e
        rw [upd_same, upd_same] at hk
        have := fown_nil hk
        subst this
        exact .inr ⟨hp, heap_lt hf2⟩
    · rintro k (q | q)
      · exact Nat.lt_of_lt_of_le (h.lt k q) st.but.size
      · exact q.2
    · refine ⟨by rw [t1]; exact h.ok.most, ?_, ?_, ?_, ?_⟩
      · rw [t9, t8]
        intro q hq
        rcases List.mem_append.1 hq with z | z
        · rw [upd_ne _ _ (fun e => hf3 (by rw [← e]; exact z))]; exact h.ok.sz q z
        · have e := List.mem_singleton.1 z; subst e; rw [upd_same]; exact Nat.zero_le _
      · rw [t3, t4, t6, List.length_append, List.length_singleton]; omega
      · rw [t5]; exact fun e he => h.ok.calm e (List.mem_filter.1 he).1
      · rw [t7, t6]; have := h.ok.by8; omega
    · rintro k (q | q)
      · exact .inl q
      · exact .inr q.1
def DS.remove (S : DS) (s : ByteArray) : DS × Int :=
  if (S.find s).2 ≠ 0 then (S, (S.find s).2)
  else if strR S.flt.2.1 ≠ 0 then (S.hit 5, strR S.flt.2.1)
  else ({ S.hit 5 with P := S.P ++ [.rm s] }, 0)
theorem hit_more {S : DS} (h : S.ok) (j : Nat) (c : Ch) (hn : c.ptr = none) : ({ S.hit j with P := S.P ++ [c] } : DS).ok := by
  obtain ⟨e1, e3, e4, e5, e6, e7, e8⟩ := hit_rest S j
  obtain ⟨T, hT⟩ : ∃ T : DS, T = { S.hit j with P := S.P ++ [c] } := ⟨_, rfl⟩
  rw [← hT]
  have t3 : T.l2 = S.l2 := by rw [hT]; exact e3
  have t4 : T.P = S.P ++ [c] := by rw [hT]
  have t9 : T.ps = S.ps := by unfold DS.ps; rw [t3, t4, List.filterMap_append]; simp [hn]
  refine ⟨by rw [hT]; show 0 ≤ (S.hit j).most ∧ _; rw [e1]; exact h.most, ?_, ?_, ?_, ?_⟩
  · rw [t9, hT]; show ∀ p ∈ S.ps, ((S.hit j).F p).by_.length ≤ _; rw [e8]; exact h.sz
  · rw [t3, t4, hT]; show _ ≤ (S.hit j).c7; rw [e6, List.length_append, List.length_singleton]; have := h.cnt; omega
  · rw [hT]; show ∀ e ∈ (S.hit j).al, _; rw [e5]; exact fun e he => h.calm e (List.mem_filter.1 he).1
  · rw [hT]; show 0 ≤ (S.hit j).c8 ∧ (S.hit j).c8 ≤ 16777216 * (S.hit j).c7; rw [e7, e6]; have := h.by8; omega
theorem find2 (S : DS) (f g : Nat) (pd : Value) (am : Option Nat) (s : ByteArray) : (findF (some (S.dc f g pd am)) S.dir s).2 = (S.find s).2 := by rw [find_dc]
theorem dir_len {S : DS} (h : S.ok) (hc : S.c7 < 1000000000) : S.dir.length < 1000000000 ∧ S.P.length < 1000000000 ∧ S.l2.length < 1000000000 := by
  have := h.cnt
  have := runs_len S.l2 S.P
  unfold DS.dir
  omega
theorem remove_dsk {w : World} {b : Nat} {S : DS} {O : Nat → Prop} (h : DskE w b S O) (s : ByteArray) (hs : s.size ≤ 140737488355328) (hc : S.c7 < 1000000000) :
    Calls Tryz.prog 53 #[.pointer (some ⟨b, 0, none⟩), .string s] w (Does w b O (S.remove s)) := by
  obtain ⟨f, g, pd, am, VB, VL, h⟩ := h
  obtain ⟨d1, d2, d3⟩ := dir_len h.ok hc
  refine (remove_any w b (S.dc f g pd am) f g S.dir S.l2 S.P S.al s hs h.dk (by show S.c7 < _; omega) h.ok.flt4 d2 d1).mono ?_
  rintro e w' ⟨r, rfl, hr⟩
  cases hr with
  | no _ hr h0 hd st =>
    rw [find2] at hr
    have e : S.remove s = (S, r) := by unfold DS.remove; rw [hr, if_pos h0]
    rw [e]
    have := h.turn (T := S) rfl rfl rfl h.ok hd st
    exact ⟨rfl, O, this.1.e, this.2⟩
  | struck _ hr he h0 hd st =>
    rw [find2] at hr
    have he' : strR S.flt.2.1 = r := he
    have e : S.remove s = (S.hit 5, r) := by unfold DS.remove; rw [hr, if_neg (by simp), he', if_pos h0]
    rw [e]
    have := h.hit 5 hd st
    exact ⟨rfl, O, this.1.e, this.2⟩
  | done hr he pd' hd st =>
    rw [find2] at hr
    have he' : strR S.flt.2.1 = 0 := he
    have e : S.remove s = ({ S.hit 5 with P := S.P ++ [.rm s] }, 0) := by unfold DS.remove; rw [hr, if_neg (by simp), he', if_neg (by simp)]
    rw [e]
    obtain ⟨e1, e3, e4, e5, e6, e7, e8⟩ := hit_rest S 5
    rw [hit_dc] at hd st
    obtain ⟨O', k1, k2⟩ := h.more (T := { S.hit 5 with P := S.P ++ [.rm s] }) (.rm s) rfl e3 rfl e8 (hit_more h.ok 5 _ rfl) (pd' := pd') (by show Dk w' b _ f g _ _ _ (S.hit 5).al; rw [e5]; exact hd) st
    exact ⟨rfl, O', k1.e, k2⟩
def DS.rename (S : DS) (s t : ByteArray) : DS × Int :=
  if S.ref [s, t] ≠ 0 then (S, S.ref [s, t])
  else if (S.find s).2 ≠ 0 then (S, (S.find s).2)
  else if strR S.flt.2.1 ≠ 0 then (S.hit 4, strR S.flt.2.1)
  else if s = t then (S.hit 4, 0)
  else ({ S.hit 4 with P := S.P ++ [.rn s t] }, 0)
def DS.syncDir (S : DS) : DS × Int :=
  if S.ref [] ≠ 0 then (S, S.ref [])
  else if strR S.flt.2.1 ≠ 0 then (S.hit 6, strR S.flt.2.1)
  else ({ S.hit 6 with l2 := S.dir, P := [] }, 0)
theorem syncDir_dsk {w : World} {b : Nat} {S : DS} {O : Nat → Prop} (h : DskE w b S O) (hc : S.c7 < 1000000000) :
    Calls Tryz.prog 15 #[.pointer (some ⟨b, 0, none⟩)] w (Does w b O S.syncDir) := by
  obtain ⟨f, g, pd, am, VB, VL, h⟩ := h
  refine (syncDir_any w b (S.dc f g pd am) f g S.dir S.l2 S.P S.al h.dk (by show S.c7 < _; omega) h.ok.flt4).mono ?_
  have hq : (nextF (S.dc f g pd am) S.al).2.1 = S.flt.2.1 := rfl
  rintro e w' (⟨h0, rfl, hd, st⟩ | ⟨h0, rfl, ⟨s0, hd, st⟩ | ⟨s0, g', hd, st⟩⟩)
  · rw [ref_dc] at h0 ⊢
    have e : S.syncDir = (S, S.ref []) := by unfold DS.syncDir; rw [if_pos h0]
    rw [e]
    have := h.turn (T := S) rfl rfl rfl h.ok hd st
    exact ⟨rfl, O, this.1.e, this.2⟩
  · rw [ref_dc] at h0
    have s0' : strR S.flt.2.1 ≠ 0 := s0
    have e : S.syncDir = (S.hit 6, strR S.flt.2.1) := by unfold DS.syncDir; rw [h0, if_neg (by simp), if_pos s0']
    rw [e]
    have := h.hit 6 hd st
    exact ⟨rfl, O, this.1.e, this.2⟩
  · rw [ref_dc] at h0
    have s0' : strR S.flt.2.1 = 0 := s0
    have e : S.syncDir = ({ S.hit 6 with l2 := S.dir, P := [] }, 0) := by unfold DS.syncDir; rw [h0, if_neg (by simp), if_neg (by simpa using s0')]
    rw [e, hq, show strR S.flt.2.1 = 0 from s0]
    obtain ⟨e1, e3, e4, e5, e6, e7, e8⟩ := hit_rest S 6
    rw [hit_dc] at hd st
    obtain ⟨T, hT⟩ : ∃ T : DS, T = { S.hit 6 with l2 := S.dir, P := [] } := ⟨_, rfl⟩
    rw [← hT]
    have hx : ({ (S.hit 6).dc f g pd am with lm := some g', pd := .slice none 0 0 } : Dc) = T.dc f g' (.slice none 0 0) am := by rw [hT]; rfl
    rw [hx] at hd st
    have t3 : T.l2 = S.dir := by rw [hT]
    have t4 : T.P = [] := by rw [hT]
    have t5 : T.al = adel S.al (S.c7 + 1) := by rw [hT]; exact e5
    have t6 : T.c7 = S.c7 + 1 := by rw [hT]; exact e6
    have t7 : T.c8 = S.c8 := by rw [hT]; exact e7
    have t8 : T.F = S.F := by rw [hT]; exact e8
    have t1 : T.most = S.most := by rw [hT]; exact e1
    have t9 : ∀ p ∈ T.ps, p ∈ S.ps := by
      intro p hp
      unfold DS.ps at hp
      rw [t3, t4] at hp
      simp only [List.filterMap_nil, List.append_nil] at hp
      exact runs_mem hp
    have t10 : T.dir = S.dir := by unfold DS.dir; rw [t3, t4]; rfl
    refine ⟨rfl, fun k => O k ∨ (w.heap.size ≤ k ∧ k < w'.heap.size), ⟨f, g', .slice none 0 0, am, VB, VL, ⟨?_, ?_, ?_, ?_, ?_, ?_⟩⟩, ⟨st.but.mono fun k _ c => h.ow k c, ?_⟩⟩
    · rw [t10, t3, t4, t5]; exact hd
    · rw [t8]; exact (h.fs.stp st).sub t9
    · intro k hk
      rcases st.own k hk with q | q
      · exact .inl (h.ow k q)
      · exact .inr ⟨q, hd.lt k hk⟩
    · exact fun p hp k hk => .inl (h.of p (t9 p hp) k hk)
    · rintro k (q | q)
      · exact Nat.lt_of_lt_of_le (h.lt k q) st.but.size
      · exact q.2
    · refine ⟨by rw [t1]; exact h.ok.most, fun p hp => by rw [t8]; exact h.ok.sz p (t9 p hp), ?_, ?_, ?_⟩
      · rw [t3, t4, t6]; have := h.ok.cnt; have := runs_len S.l2 S.P; unfold DS.dir; simp only [List.length_nil]; omega
      · rw [t5]; exact fun e he => h.ok.calm e (List.mem_filter.1 he).1
      · rw [t7, t6]; have := h.ok.by8; omega
    · rintro k (q | q)
      · exact .inl q
      · exact .inr q.1
theorem rename_dsk {w : World} {b : Nat} {S : DS} {O : Nat → Prop} (h : DskE w b S O) (s t : ByteArray) (hs : s.size ≤ 140737488355328) (ht : t.size ≤ 140737488355328) (hc : S.c7 < 1000000000) :
    Calls Tryz.prog 51 #[.pointer (some ⟨b, 0, none⟩), .string s, .string t] w (Does w b O (S.rename s t)) := by
  obtain ⟨f, g, pd, am, VB, VL, h⟩ := h
  obtain ⟨d1, d2, d3⟩ := dir_len h.ok hc
  refine (rename_any w b (S.dc f g pd am) f g S.dir S.l2 S.P S.al s t hs ht h.dk (by show S.c7 < _; omega) h.ok.flt4 d2 d1).mono ?_
  rintro e w' ⟨r, rfl, hr⟩
  cases hr with
  | no _ hr h0 hd st =>
    rw [ref_dc] at hr
    have e : S.rename s t = (S, r) := by unfold DS.rename; rw [hr, if_pos h0]
    rw [e]
    have := h.turn (T := S) rfl rfl rfl h.ok hd st
    exact ⟨rfl, O, this.1.e, this.2⟩
  | none _ hr hf h0 hd st =>
    rw [ref_dc] at hr
    rw [find2] at hf
    have e : S.rename s t = (S, r) := by unfold DS.rename; rw [hr, if_neg (by simp), hf, if_pos h0]
    rw [e]
    have := h.turn (T := S) rfl rfl rfl h.ok hd st
    exact ⟨rfl, O, this.1.e, this.2⟩
  | struck _ hr hf he h0 hd st =>
    rw [ref_dc] at hr
    rw [find2] at hf
    have he' : strR S.flt.2.1 = r := he
    have e : S.rename s t = (S.hit 4, r) := by unfold DS.rename; rw [hr, if_neg (by simp), hf, if_neg (by simp), he', if_pos h0]
    rw [e]
    have := h.hit 4 hd st
    exact ⟨rfl, O, this.1.e, this.2⟩
  | same hr hf he hst hd st =>
    rw [ref_dc] at hr
    rw [find2] at hf
    have he' : strR S.flt.2.1 = 0 := he
    have e : S.rename s t = (S.hit 4, 0) := by unfold DS.rename; rw [hr, if_neg (by simp), hf, if_neg (by simp), he', if_neg (by simp), if_pos hst]
    rw [e]
    have := h.hit 4 hd st
    exact ⟨rfl, O, this.1.e, this.2⟩
  | done hr hf he hst pd' hd st =>
    rw [ref_dc] at hr
    rw [find2] at hf
    have he' : strR S.flt.2.1 = 0 := he
    have e : S.rename s t = ({ S.hit 4 with P := S.P ++ [.rn s t] }, 0) := by unfold DS.rename; rw [hr, if_neg (by simp), hf, if_neg (by simp), he', if_neg (by simp), if_neg hst]
    rw [e]
    obtain ⟨e1, e3, e4, e5, e6, e7, e8⟩ := hit_rest S 4
    rw [hit_dc] at hd st
    obtain ⟨O', k1, k2⟩ := h.more (T := { S.hit 4 with P := S.P ++ [.rn s t] }) (.rn s t) rfl e3 rfl e8 (hit_more h.ok 4 _ rfl) (pd' := pd') (by show Dk w' b _ f g _ _ _ (S.hit 4).al; rw [e5]; exact hd) st
    exact ⟨rfl, O', k1.e, k2⟩
def DS.size (S : DS) (s : ByteArray) : Int × Int := match S.find s with | (some p, _) => (((S.F p).by_.length : Int), 0) | (none, e) => (0, e)
theorem size_dsk {w : World} {b : Nat} {S : DS} {O : Nat → Prop} (h : DskE w b S O) (s : ByteArray) (hs : s.size ≤ maxLen) :
    Calls Tryz.prog 19 #[.pointer (some ⟨b, 0, none⟩), .string s] w fun e w' => e = .returned (.tuple #[.int .i64 (S.size s).1, .int .i64 (S.size s).2]) ∧ Below w.heap.size w w' := by
  obtain ⟨f, g, pd, am, VB, VL, h⟩ := h
  by_cases h0 : (S.find s).2 = 0
  · obtain ⟨p, e, hg, hr, hp⟩ := find_ok h0
    have := size_ok h.dk s hs (by rw [ref_dc]; exact hr) hg (h.fs.at_ p hp)
    unfold DS.size
    rw [e]
    exact this
  · have := size_no h.dk s hs (by rw [find2]; exact h0)
    rw [find2] at this
    have e : S.size s = (0, (S.find s).2) := by
      have q := find_no h0
      unfold DS.size
      cases hq : S.find s with
      | mk a c => rw [hq] at q; dsimp only at q; subst q; rfl
    rw [e]
    exact this
theorem read_out {w : World} {b p : Nat} {x : Dc} {f g : Nat} {l l2 : Dr} {P : List Ch} {al : Ar} {t : Fl} {vb vl : Value} (h : Dk w b x f g l l2 P al) (s : ByteArray) (hs : s.size ≤ maxLen) (o n : Int) (hr : refF (some x) [s] = 0) (hg : get l s.data.toList = some p) (hf : FlAt w p t vb vl) (hon : ¬ (0 ≤ o ∧ o ≤ (t.by_.length : Int) ∧ 0 ≤ n ∧ n ≤ (t.by_.length : Int) - o)) :
    Calls Tryz.prog 20 #[.pointer (some ⟨b, 0, none⟩), .string s, .int .i64 o, .int .i64 n] w fun e w' => e = .returned (.tuple #[.slice none 0 0, .int .i64 8]) ∧ Below w.heap.size w w' := by
  have hF := h.find s hs
  rw [findF_ok hr hg] at hF
  have c0 := (cells3 hf.box).1
  obtain ⟨ao, ca, rfl, _, _⟩ := hf.b.form
  have hsz := hf.sz
  clear h hf hr hg
  generalize t.by_.length = N at *
  by_cases i1 : o < 0
  · clear hon
    go_enter Tryz.func20, Tryz.ntmps20
    go_wp2_with (go_at_call 75; refine hF.mono ?_; rintro e w1 ⟨rfl, B1⟩; have d0 := (B1.cell (p := ⟨p, 0, none⟩) (lt_of_cell c0)).trans c0; replace B1 := hide B1)
    go_ret2
    exact ⟨rfl, B1.out⟩
  by_cases i2 : o > (N : Int)
  · clear hon
    go_enter Tryz.func20, Tryz.ntmps20
    go_wp2_with (go_at_call 75; refine hF.mono ?_; rintro e w1 ⟨rfl, B1⟩; have d0 := (B1.cell (p := ⟨p, 0, none⟩) (lt_of_cell c0)).trans c0; replace B1 := hide B1)
    go_ret2
    exact ⟨rfl, B1.out⟩
  by_cases i3 : n < 0
  · clear hon
    go_enter Tryz.func20, Tryz.ntmps20
    go_wp2_with (go_at_call 75; refine hF.mono ?_; rintro e w1 ⟨rfl, B1⟩; have d0 := (B1.cell (p := ⟨p, 0, none⟩) (lt_of_cell c0)).trans c0; replace B1 := hide B1)
    go_ret2
    exact ⟨rfl, B1.out⟩
  have i4 : n > (N : Int) - o := by omega
  have e1 : IntKind.i64.wrap ((N : Int) - o) = (N : Int) - o := by rw [IntKind.wrap_i64]; omega
  clear hon
  go_enter Tryz.func20, Tryz.ntmps20
  go_wp2_with (go_at_call 75; refine hF.mono ?_; rintro e w1 ⟨rfl, B1⟩; have d0 := (B1.cell (p := ⟨p, 0, none⟩) (lt_of_cell c0)).trans c0; replace B1 := hide B1)
  go_ret2
  exact ⟨rfl, B1.out⟩
def DS.read (S : DS) (s : ByteArray) (o n : Int) : List UInt8 × Int := match S.find s with
  | (some p, _) => if 0 ≤ o ∧ o ≤ ((S.F p).by_.length : Int) ∧ 0 ≤ n ∧ n ≤ ((S.F p).by_.length : Int) - o then (((S.F p).by_.drop o.toNat).take n.toNat, 0) else ([], 8)
  | (none, e) => ([], e)
theorem read_dsk {w : World} {b : Nat} {S : DS} {O : Nat → Prop} (h : DskE w b S O) (s : ByteArray) (hs : s.size ≤ maxLen) (o n : Int) :
    Calls Tryz.prog 20 #[.pointer (some ⟨b, 0, none⟩), .string s, .int .i64 o, .int .i64 n] w fun e w' => ∃ v, e = .returned (.tuple #[v, .int .i64 (S.read s o n).2]) ∧ Ob w.heap.size w' v (S.read s o n).1 ∧ Below w.heap.size w w' := by
  obtain ⟨f, g, pd, am, VB, VL, h⟩ := h
  by_cases h0 : (S.find s).2 = 0
  · obtain ⟨p, e, hg, hr, hp⟩ := find_ok h0
    have e2 : S.read s o n = if 0 ≤ o ∧ o ≤ ((S.F p).by_.length : Int) ∧ 0 ≤ n ∧ n ≤ ((S.F p).by_.length : Int) - o then (((S.F p).by_.drop o.toNat).take n.toNat, 0) else ([], 8) := by unfold DS.read; rw [e]
    rw [e2]
    by_cases c : 0 ≤ o ∧ o ≤ ((S.F p).by_.length : Int) ∧ 0 ≤ n ∧ n ≤ ((S.F p).by_.length : Int) - o
    · rw [if_pos c]
      have eo : ((o.toNat : Nat) : Int) = o := by omega
      have en : ((n.toNat : Nat) : Int) = n := by omega
      have := read_ok h.dk s hs o.toNat n.toNat (by rw [ref_dc]; exact hr) hg (h.fs.at_ p hp) (by omega)
      rw [eo, en] at this
      exact this
    · rw [if_neg c]
      refine (read_out h.dk s hs o n (by rw [ref_dc]; exact hr) hg (h.fs.at_ p hp) c).mono ?_
      rintro e w' ⟨rfl, hB⟩
      exact ⟨_, rfl, Ob.nil _ _, hB⟩
  · have e : S.read s o n = ([], (S.find s).2) := by
      have q := find_no h0
      unfold DS.read
      cases hq : S.find s with
      | mk a c => rw [hq] at q; dsimp only at q; subst q; rfl
    rw [e]
    refine (read_no h.dk s hs o n (by rw [find2]; exact h0)).mono ?_
    rintro e w' ⟨rfl, hB⟩
    rw [find2]
    exact ⟨_, rfl, Ob.nil _ _, hB⟩
def sumL (F : Nat → Fl) (l : Dr) : Nat := (l.map fun e => (F e.2).by_.length).sum
def leftS (F : Nat → Fl) (l : Dr) (left : Lit → Bool) : Nat := (l.map fun e => if left (.string e.1) then (F e.2).by_.length else 0).sum
theorem Mp.keys {w : World} {b : Nat} {l : Dr} (h : Mp w b l) : l.Pairwise (fun p q => p.1 ≠ q.1) := by
  obtain ⟨es, e, hp, _⟩ := World.ownsMap.entries h keyS
  have e2 : l.map dent = es := by
    have : DataW.map (l.map dent) = DataW.map es := e
    simpa using this
  rw [← e2, List.pairwise_map] at hp
  refine hp.imp fun h1 h2 => h1 ?_
  show Lit.string _ = Lit.string _
  rw [h2]
theorem leftS_start (F : Nat → Fl) (l : Dr) : leftS F l (Maps.has (dirD l)) = sumL F l := by
  unfold leftS sumL
  congr 1
  apply List.map_congr_left
  intro e he
  rw [dirD_has]
  have : (get l e.1).isSome = true := by
    unfold get
    rw [Option.isSome_map, List.find?_isSome]
    exact ⟨e, he, by simp⟩
  rw [this]
  rfl
theorem leftS_end (F : Nat → Fl) (l : Dr) {left : Lit → Bool} (h : ∀ kl, left kl = false) : leftS F l left = 0 := by
  unfold leftS
  induction l with
  | nil => rfl
  | cons y r ih =>
    rw [List.map_cons, List.sum_cons, ih, h]
    rfl
theorem sameStr (a k : List UInt8) : (Lit.string a).sameKey (.string k) = (a == k) := rfl
theorem leftS_step (F : Nat → Fl) {l : Dr} {left : Lit → Bool} {k : List UInt8} {p : Nat} (hk : l.Pairwise (fun p q => p.1 ≠ q.1)) (hg : get l k = some p) (hl : left (.string k) = true) :
    leftS F l left = leftS F l (fun z => left z && !z.sameKey (.string k)) + (F p).by_.length := by
  induction l with
  | nil => simp [get] at hg
  | cons y r ih =>
    rw [List.pairwise_cons] at hk
    obtain ⟨h1, h2⟩ := hk
    have u : ∀ q : Lit → Bool, leftS F (y :: r) q = (if q (.string y.1) then (F y.2).by_.length else 0) + leftS F r q := fun q => by simp [leftS]
    rw [u, u]
    by_cases c : y.1 = k
    · have e : (y.1 == k) = true := by simpa using c
      have hp : y.2 = p := by simpa [get, List.find?_cons, e] using hg
      have hr : leftS F r (fun z => left z && !z.sameKey (.string k)) = leftS F r left := by
        unfold leftS
        congr 1
        apply List.map_congr_left
        intro e he
        have : (e.1 == k) = false := by have := h1 e he; simp; intro q; exact this (by rw [c, q])
        simp only [sameStr, this, Bool.not_false, Bool.and_true]
      rw [hr]
      have z1 : (left (.string y.1) && !(Lit.string y.1).sameKey (.string k)) = false := by rw [sameStr, e]; simp
      have z2 : left (.string y.1) = true := by rw [c]; exact hl
      rw [z1, z2, hp]
      simp
      omega
    · have e : (y.1 == k) = false := by simpa using c
      have hg2 : get r k = some p := by simpa [get, List.find?_cons, e] using hg
      rw [ih h2 hg2]
      simp only [sameStr, e, Bool.not_false, Bool.and_true]
      omega
theorem sumL_le (F : Nat → Fl) (l : Dr) (h : ∀ e ∈ l, (F e.2).by_.length ≤ 16777216) : sumL F l ≤ l.length * 16777216 := by
  induction l with
  | nil => simp [sumL]
  | cons y r ih =>
    have h1 := h y (by simp)
    have h2 := ih (fun e he => h e (by simp [he]))
    simp only [sumL, List.map_cons, List.sum_cons, List.length_cons] at *
    omega
theorem leftS_le (F : Nat → Fl) (l : Dr) (left : Lit → Bool) : leftS F l left ≤ sumL F l := by
  induction l with
  | nil => simp [sumL, leftS]
  | cons y r ih =>
    simp only [sumL, leftS, List.map_cons, List.sum_cons] at *
    split <;> omega
theorem sumL_one (F : Nat → Fl) {l : Dr} {k : List UInt8} {p : Nat} (h : get l k = some p) : (F p).by_.length ≤ sumL F l := by
  have := get_mem h
  clear h
  induction l with
  | nil => simp at this
  | cons y r ih =>
    simp only [sumL, List.map_cons, List.sum_cons] at *
    rcases List.mem_cons.1 this with q | q
    · rw [← q]; simp
    · have := ih q
      omega
theorem keyOf_str_inv {key : Value} {kl : Lit} (h : keyOf Tryz.prog TS key = some kl) : ∃ s : ByteArray, key = .string s := by
  have e : Tryz.prog.underlying TS = some .string := Tryz.underlying9
  cases key <;> simp [keyOf, e, mapKey] at h
  exact ⟨_, rfl⟩
theorem keyOf_str_lit {s : ByteArray} {kl : Lit} (h : keyOf Tryz.prog TS (.string s) = some kl) : kl = .string s.data.toList ∧ s.size ≤ maxLen := by
  have e : Tryz.prog.underlying TS = some .string := Tryz.underlying9
  simp [keyOf, e, mapKey] at h
  exact ⟨h.2.symm, h.1⟩
theorem ptrR_shape {v : Value} {y : DataW Unit × List MemPlace} (h : ptrR v = some y) : ∃ c : Option Nat, v = .pointer (c.map fun b => ⟨b, 0, none⟩) := by
  unfold ptrR at h
  split at h
  · exact ⟨some _, rfl⟩
  · exact ⟨none, rfl⟩
  · simp at h
theorem round_get {l : Dr} {s : ByteArray} {c : Option Nat} {y : DataW Unit × List MemPlace} (hat : ∀ zd, (dirD l).atKey (.string s.data.toList) zd = y.1) (hy : ptrR (.pointer (c.map fun b => ⟨b, 0, none⟩)) = some y) (hh : (get l s.data.toList).isSome = true) : ∃ p, c = some p ∧ get l s.data.toList = some p := by
  obtain ⟨p, hp⟩ := Option.isSome_iff_exists.1 hh
  have := hat .nil
  rw [dirD_at_some hp] at this
  cases c with
  | none => rw [Option.map_none, ptrR_none] at hy; cases hy; cases this
  | some q =>
    rw [Option.map_some, ptrR_some] at hy
    cases hy
    simp at this
    have e : p = q := by omega
    subst e
    exact ⟨_, rfl, hp⟩
end Go.Proofs.YtjehpijjneghpaaGreat.Dk
