/-
  Crash: what it leaves, by data; a fate in memory; what holds between its rounds.
-/
import Derived.Test.YtdelknejmapeaaaDlJ
namespace Go.Proofs.Ytdelknejmapeaaa.Dk
open Go.RowKit Go.Maps Go.Sort Go.Shelf Go.Proofs.Ytdelknejmapeaaa.Nm

/-- What a fate keeps: so many bytes of the tail, and junk. -/
abbrev Kep := Int × List UInt8
def crFl (f : Fl) (k : Kep) : Fl := ⟨crF f k.1 k.2, crF f k.1 k.2, 0⟩
def crash1 (F : Nat → Fl) (l : Dr) (s : List UInt8) (k : Kep) : Nat → Fl := match get l s with | some p => upd F p (crFl (F p) k) | none => F
def crashL (l : Dr) : List (List UInt8) → List Kep → (Nat → Fl) → (Nat → Fl)
  | [], _, F => F
  | s :: r, ks, F => crashL l r ks.tail (crash1 F l s (ks.headD (0, [])))
theorem crashL_snoc (l : Dr) (A : List (List UInt8)) (s : List UInt8) (ks : List Kep) (F : Nat → Fl) : crashL l (A ++ [s]) ks F = crash1 (crashL l A ks F) l s (ks.getD A.length (0, [])) := by
  induction A generalizing ks F with
  | nil => cases ks <;> rfl
  | cons a r ih =>
    simp only [List.cons_append, crashL, ih, List.length_cons]
    congr 1
    cases ks with
    | nil => simp
    | cons k q => simp
/-- Crash, by data. -/
def DS.crash (S : DS) (d : Int) (ks : List Kep) : DS := { S with up := true, l2 := S.front d, P := [], al := [], F := crashL (S.front d) (nms (S.front d)) ks S.F }
def SIn (Z : Nat → Prop) (v : Value) : Prop := ∀ b off n c, v = .slice (some ⟨b, off, none⟩) n c → 0 < n → Z b
/-- The list v of keeps, which lies in blocks of Z. -/
def Kp (Z : Nat → Prop) (w : World) (v : Value) (ks : List Kep) : Prop :=
  ∃ ao cap, v = .slice ao ks.length cap ∧ ks.length ≤ cap ∧ cap ≤ maxLen ∧ ∀ i (h : i < ks.length), ∃ b off vj, ao = some ⟨b, off, none⟩ ∧ Z b ∧ w.cell? ⟨b, off + i * 2, none⟩ = some (.int .i64 ks[i].1) ∧ w.cell? ⟨b, off + i * 2 + 1, none⟩ = some vj ∧ Sl w vj ks[i].2 ∧ SIn Z vj ∧ -9223372036854775808 ≤ ks[i].1 ∧ ks[i].1 ≤ 9223372036854775807
theorem cell_but {X : Nat → Prop} {w w' : World} {b o : Nat} {u : Value} (h : w.cell? ⟨b, o, none⟩ = some u) (hb : But X w w') (hx : ¬ X b) : w'.cell? ⟨b, o, none⟩ = some u := by
  rw [← h]
  have := hb.block b (lt_of_cell h) hx
  unfold World.cell?
  dsimp only
  rw [this]
theorem Kp.but {Z X : Nat → Prop} {w w' : World} {v : Value} {ks : List Kep} (h : Kp Z w v ks) (hb : But X w w') (hx : ∀ k, Z k → ¬ X k) : Kp Z w' v ks := by
  obtain ⟨ao, cap, e, h1, h2, h3⟩ := h
  refine ⟨ao, cap, e, h1, h2, fun i hi => ?_⟩
  obtain ⟨b, off, vj, e1, z, c1, c2, sl, si, n0, n1⟩ := h3 i hi
  exact ⟨b, off, vj, e1, z, cell_but c1 hb (hx b z), cell_but c2 hb (hx b z), sl_but sl hb (fun b' o n c e z k => hx b' (si b' o n c e z) k), si, n0, n1⟩
theorem Kp.below {Z : Nat → Prop} {w w' : World} {v : Value} {ks : List Kep} (h : Kp Z w v ks) (hb : Below w.heap.size w w') : Kp Z w' v ks := h.but (But.of_below hb fun _ => False) fun _ _ c => c
/-- Between the rounds of Crash. -/
structure CrI (w3 wr : World) (O : Nat → Prop) (b m : Nat) (cs : Array Value) (l : Dr) (ps : List Nat) (F : Nat → Fl) (VB VL : Nat → Value) : Prop where
  box : wr.heap[b]? = some (.cells cs TD (0, 0))
  mp : Mp wr m l
  fs : Fs wr (fun k => k = b ∨ k = m) ps F VB VL
  but : But O w3 wr
  own : ∀ p ∈ ps, ∀ k, FOwn p (VB p) (VL p) k → O k ∨ w3.heap.size ≤ k
  sz : ∀ p ∈ ps, (F p).by_.length ≤ 16777216
theorem CrI.below {w3 wr w' : World} {O : Nat → Prop} {b m : Nat} {cs : Array Value} {l : Dr} {ps : List Nat} {F : Nat → Fl} {VB VL : Nat → Value} (h : CrI w3 wr O b m cs l ps F VB VL) (hb : Below wr.heap.size wr w') : CrI w3 w' O b m cs l ps F VB VL :=
  ⟨(hb.block b (heap_lt h.box)).trans h.box, h.mp.heap (hb.block m h.mp.lt), h.fs.but (But.of_below hb fun _ => False) (fun _ _ _ _ c => c), h.but.trans (But.of_below hb _), h.own, h.sz⟩
theorem but_trans_new {w3 q w' : World} {O Y : Nat → Prop} (h : But O w3 q) (k : But Y q w') (hy : ∀ i, Y i → O i ∨ w3.heap.size ≤ i) : But O w3 w' :=
  ⟨k.os.trans h.os, k.tape.trans h.tape, k.output.trans h.output, Nat.le_trans h.size k.size, fun i hi hx => by
    rw [k.block i (Nat.lt_of_lt_of_le hi h.size) (fun c => ?_)]
    · exact h.block i hi hx
    · rcases hy i c with z | z
      · exact hx z
      · omega⟩
theorem CrI.step {w3 q w' : World} {O : Nat → Prop} {b m p : Nat} {cs : Array Value} {l : Dr} {ps : List Nat} {F : Nat → Fl} {VB VL : Nat → Value} {k : Kep} {vb vl : Value} (h : CrI w3 q O b m cs l ps F VB VL) (hp : p ∈ ps) (hf : FlAt w' p (crFl (F p) k) vb vl) (hb : But (fun k => k = p) q w') (ho : ∀ k, FOwn p vb vl k → k = p ∨ q.heap.size ≤ k) :
    CrI w3 w' O b m cs l ps (upd F p (crFl (F p) k)) (upd VB p vb) (upd VL p vl) := by
  have hbp : b ≠ p := fun e => h.fs.no p hp p (.inl rfl) (.inl e.symm)
  have hmp : m ≠ p := fun e => h.fs.no p hp p (.inl rfl) (.inr e.symm)
  refine ⟨hb.at h.box hbp, h.mp.but hb hmp, h.fs.one hp hf (hb.mono fun k _ e => .inl e) (fun k hk => ?_) ?_, but_trans_new h.but hb (fun i e => by rw [e]; exact h.own p hp p (.inl rfl)), fun r hr i hi => ?_, fun r hr => ?_⟩
  · rcases ho k hk with e | e
    · exact .inl (.inl e)
    · exact .inr e
  · rintro k (e | e)
    · rw [e]; exact heap_lt h.box
    · rw [e]; exact h.mp.lt
  · by_cases e : r = p
    · subst e
      rw [upd_same, upd_same] at hi
      rcases ho i hi with z | z
      · rw [z]; exact h.own r hr r (.inl rfl)
      · exact .inr (Nat.le_trans h.but.size z)
    · rw [upd_ne _ _ e, upd_ne _ _ e] at hi
      exact h.own r hr i hi
  · by_cases e : r = p
    · subst e
      rw [upd_same]
      have := crF_len (F r) k.1 k.2 (h.fs.at_ r hr).le
      have := h.sz r hr
      show (crF (F r) k.1 k.2).length ≤ _
      omega
    · rw [upd_ne _ _ e]
      exact h.sz r hr
/-- Behind the rounds: the directory is the lasting one. -/
theorem CrI.done {w w3 wr w' : World} {O : Nat → Prop} {b m m' : Nat} {S T : DS} {f g : Nat} {pd : Value} {am : Option Nat} {cs : Array Value} {l : Dr} {F : Nat → Fl} {VB VL : Nat → Value} (h0 : Dk w b (S.dc f g pd am) f g S.dir S.l2 S.P S.al) (hok : S.ok) (hlt : ∀ k, O k → k < w.heap.size) (hob : O b) (hw3 : Below w.heap.size w w3 ∨ But O w w3) (hz3 : w.heap.size ≤ w3.heap.size) (hm : w.heap.size ≤ m)
    (h : CrI w3 wr O b m cs l S.ps F VB VL) (hb : But (fun k => k = b) wr w') (hm' : wr.heap.size ≤ m') (hbx : Bx w' b (T.dc m m' (.slice none 0 0) none)) (mm : Mp w' m l) (mm' : Mp w' m' l)
    (e1 : T.most = S.most) (e2 : T.l2 = l) (e3 : T.P = []) (e4 : T.al = []) (e5 : T.c0 = S.c0 ∧ T.c1 = S.c1 ∧ T.c2 = S.c2 ∧ T.c3 = S.c3 ∧ T.c4 = S.c4 ∧ T.c5 = S.c5 ∧ T.c6 = S.c6 ∧ T.c7 = S.c7 ∧ T.c8 = S.c8) (e6 : T.F = F) (hl : (l.length : Int) ≤ S.c7) (hsub : ∀ p ∈ l.map (·.2), p ∈ S.ps) :
    ∃ O', DskE w' b T O' ∧ Sgo w w' O O' := by
  obtain ⟨q0, q1, q2, q3, q4, q5, q6, q7, q8⟩ := e5
  have hdir : T.dir = l := by unfold DS.dir; rw [e2, e3]; rfl
  have hps : ∀ p ∈ T.ps, p ∈ S.ps := by
    intro p hp
    unfold DS.ps at hp
    rw [e2, e3] at hp
    simp only [List.filterMap_nil, List.append_nil] at hp
    exact hsub p hp
  have hnb : ∀ p ∈ S.ps, ∀ k, FOwn p (VB p) (VL p) k → ¬ k = b := fun p hp k hk e => h.fs.no p hp k hk (.inl e)
  have W : But O w wr := by
    rcases hw3 with z | z
    · exact but_trans_new (But.of_below z O) h.but (fun i e => .inl e)
    · exact z.trans h.but
  have W' : But O w w' := W.trans (hb.mono fun k _ e => by rw [e]; exact hob)
  refine ⟨fun k => O k ∨ (w.heap.size ≤ k ∧ k < w'.heap.size), ⟨m, m', .slice none 0 0, none, VB, VL, ⟨?_, ?_, ?_, ?_, ?_, ?_⟩⟩, ⟨W', ?_⟩⟩
  · rw [hdir, e2, e3, e4]
    refine ⟨hbx, rfl, rfl, mm, mm', ?_, Pd.nil _, (fun _ e => by cases e), fun _ => rfl, rfl, trivial, (by simp), ?_, ?_⟩
    · have := h.mp.lt; omega
    · show 0 ≤ T.c0 ∧ 0 ≤ T.c1 ∧ 0 ≤ T.c2 ∧ 0 ≤ T.c3 ∧ 0 ≤ T.c4 ∧ 0 ≤ T.c5 ∧ 0 ≤ T.c6 ∧ 0 ≤ T.c7
      rw [q0, q1, q2, q3, q4, q5, q6, q7]; exact h0.c0
    · show T.c0 ≤ T.c7 ∧ T.c1 ≤ T.c7 ∧ T.c2 ≤ T.c7 ∧ T.c3 ≤ T.c7 ∧ T.c4 ≤ T.c7 ∧ T.c5 ≤ T.c7 ∧ T.c6 ≤ T.c7
      rw [q0, q1, q2, q3, q4, q5, q6, q7]; exact h0.c1
  · rw [e6]
    have k1 := (h.fs.but hb hnb).sub hps
    refine ⟨k1.at_, k1.ap, fun p hp k hk c => ?_⟩
    rcases c with c | c | c | c | c
    · exact k1.no p hp k hk (.inl c)
    · simp only [DS.dc, Option.some.injEq] at c; exact k1.no p hp k hk (.inr c.symm)
    · simp only [DS.dc, Option.some.injEq] at c
      have := (h.fs.at_ p (hps p hp)).lt k hk
      omega
    · simp [DS.dc, Value.ownBlock] at c
    · simp [DS.dc] at c
  · intro k hk
    rcases hk with c | c | c | c | c
    · rw [c]; exact .inl hob
    · simp only [DS.dc, Option.some.injEq] at c; subst c; exact .inr ⟨hm, mm.lt⟩
    · simp only [DS.dc, Option.some.injEq] at c; subst c; exact .inr ⟨Nat.le_trans W.size hm', mm'.lt⟩
    · simp [DS.dc, Value.ownBlock] at c
    · simp [DS.dc] at c
  · intro p hp k hk
    rcases h.own p (hps p hp) k hk with z | z
    · exact .inl z
    · exact .inr ⟨Nat.le_trans hz3 z, Nat.lt_of_lt_of_le ((h.fs.at_ p (hps p hp)).lt k hk) hb.size⟩
  · rintro k (z | z)
    · exact Nat.lt_of_lt_of_le (hlt k z) W'.size
    · exact z.2
  · refine ⟨by rw [e1]; exact hok.most, fun p hp => by rw [e6]; exact h.sz p (hps p hp), by rw [e2, e3, q7]; simpa using hl, by rw [e4]; simp, by rw [q8, q7]; exact hok.by8⟩
  · rintro k (z | z)
    · exact .inl z
    · exact .inr z.1
end Go.Proofs.Ytdelknejmapeaaa.Dk
