/-
  Append: what it leaves, by data; the count of bytes.
-/
import Derived.Test.YtdelknejmapeaaaDlG
namespace Go.Proofs.Ytdelknejmapeaaa.Dk
open Go.RowKit Go.Maps Go.Proofs.Ytdelknejmapeaaa.Nm

/-- A slice that lies in no block of O. -/
def SOff (O : Nat → Prop) (v : Value) : Prop := ∀ b off n c, v = .slice (some ⟨b, off, none⟩) n c → 0 < n → ¬ O b
theorem sl_but {X : Nat → Prop} {w w' : World} {v : Value} {l : List UInt8} (h : Sl w v l) (hb : But X w w') (hx : SOff X v) : Sl w' v l := by
  obtain ⟨ao, cap, rfl, h2, h3, h4, h5⟩ := h
  refine ⟨ao, cap, rfl, h2, h3, h4, fun i hi => ?_⟩
  obtain ⟨b, off, e, hc⟩ := h5 i hi
  subst e
  refine ⟨b, off, rfl, ?_⟩
  rw [← hc]
  have := hb.block b (lt_of_cell hc) (hx b off _ _ rfl (by omega))
  unfold World.cell?
  dsimp only
  rw [this]
theorem SOff.mono {O O' : Nat → Prop} {v : Value} (h : SOff O v) (hs : ∀ k, O' k → O k) : SOff O' v := fun b off n c e z k => h b off n c e z (hs _ k)
/-- How many bytes go in. -/
def DS.apN (S : DS) (len : Nat) : Nat := (if S.flt.2.1 ≠ 0 then min (min (len : Int) S.room) S.flt.2.2 else min (len : Int) S.room).toNat
theorem apN_le {S : DS} (h : S.ok) (len : Nat) : S.apN len ≤ len ∧ (S.apN len : Int) ≤ S.room := by
  have := h.flt
  have h0 : 0 ≤ S.room := by unfold DS.room; omega
  unfold DS.apN
  split <;> omega
theorem apN_min {S : DS} (_ : S.ok) (len : Nat) (h0 : S.flt.2.1 = 0) : min (len : Int) S.room = (S.apN len : Int) := by
  have h0' : 0 ≤ S.room := by unfold DS.room; omega
  unfold DS.apN
  rw [if_neg (by simpa using h0)]
  omega
theorem apN_part {S : DS} (h : S.ok) (len : Nat) (h0 : S.flt.2.1 ≠ 0) : min (min (len : Int) S.room) S.flt.2.2 = (S.apN len : Int) := by
  have := h.flt
  have h0' : 0 ≤ S.room := by unfold DS.room; omega
  unfold DS.apN
  rw [if_pos h0]
  omega
theorem apN_size {S : DS} (h : S.ok) {s : List UInt8} {p : Nat} (hp : get S.dir s = some p) (len : Nat) : (S.F p).by_.length + S.apN len ≤ 16777216 := by
  have h1 := (apN_le h len).2
  have h2 := h.sz p (DS.mem_dir hp)
  have h3 := sumL_one S.F hp
  have h4 := h.most
  unfold DS.room at h1
  omega
def apF (f : Fl) (b : List UInt8) : Fl := ⟨f.by_ ++ b, f.la, f.sp⟩
/-- Append, by data: the disk, how many, the error. -/
def DS.append (S : DS) (s : ByteArray) (b : List UInt8) : DS × Int × Int :=
  match S.find s with
  | (none, e) => (S, 0, e)
  | (some p, _) =>
    ({ (S.beg 1).str S.flt.2.1 with F := upd S.F p (apF (S.F p) (b.take (S.apN b.length))), c8 := S.c8 + (S.apN b.length : Int) }, (S.apN b.length : Int),
      if strF S.flt.2.1 ≠ 0 then strF S.flt.2.1 else if S.apN b.length < b.length then 21 else 0)
theorem Dk.c8 {w : World} {b : Nat} {x : Dc} {f g : Nat} {l l2 : Dr} {P : List Ch} {al : Ar} (h : Dk w b x f g l l2 P al) (n : Int) : Dk (w.setCell ⟨b, 14, none⟩ (.int .i64 n)) b { x with c8 := n } f g l l2 P al := by
  obtain ⟨n1, n2, n3, n4⟩ := h.noB
  have hB := But.of_grownBy (X := fun k => k = b) (grown_setCell w b 14 (.int .i64 n)) fun k e => by cases e; rfl
  refine ⟨?_, h.fm, h.lm, h.mf.but hB n1, h.mg.but hB n2, h.fg, h.pd.but hB n4, fun m e => ⟨(h.am m e).1.but hB (n3 m e), (h.am m e).2⟩, h.an, h.run, h.can, h.ok, h.c0, h.c1⟩
  have := heap_setCell_same w b 14 _ _ (.int .i64 n) h.box
  exact this
theorem Dsk.c8 {w : World} {b : Nat} {S : DS} {O : Nat → Prop} {f g : Nat} {pd : Value} {am : Option Nat} {VB VL : Nat → Value} (h : Dsk w b S O f g pd am VB VL) (n : Int) (hn : 0 ≤ n ∧ n ≤ 16777216 * S.c7) :
    Dsk (w.setCell ⟨b, 14, none⟩ (.int .i64 n)) b { S with c8 := n } O f g pd am VB VL ∧ Sgo w (w.setCell ⟨b, 14, none⟩ (.int .i64 n)) O O := by
  have hB := But.of_grownBy (X := fun k => k = b) (grown_setCell w b 14 (.int .i64 n)) fun k e => by cases e; rfl
  exact h.turn (T := { S with c8 := n }) rfl rfl rfl ⟨h.ok.most, h.ok.sz, h.ok.cnt, h.ok.calm, hn⟩ (h.dk.c8 n) ⟨hB.mono fun k _ e => .inl e, fun k hk => .inl hk⟩
theorem beg_room (S : DS) (j : Nat) : (S.beg j).room = S.room := by
  obtain ⟨e1, e2, e3, e4, e5, e6, e7, e8⟩ := beg_rest S j
  unfold DS.room
  rw [beg_dir, e1, e8]
/-- append to a file, in memory. -/
theorem FlAt.app {w w5 : World} {p : Nat} {f : Fl} {vb vl v5 : Value} {m : List UInt8} (h : FlAt w p f vb vl) (O5 : Ob 0 w5 v5 (f.by_ ++ m)) (G5 : w.grownBy w5 vb.ownBlock) (A5 : v5.ownBlock = vb.ownBlock ∨ v5.ownBlock = some w.heap.size) (hz : f.by_.length + m.length ≤ 1099511627776) :
    w5.heap[p]? = some (.cells #[vb, vl, .int .i64 (f.sp : Int)] TFl (0, 0)) ∧ FlAt (w5.setCell ⟨p, 0, none⟩ v5) p (apF f m) v5 vl ∧ But (FOwn p vb vl) w (w5.setCell ⟨p, 0, none⟩ v5) ∧ (∀ k, FOwn p v5 vl k → FOwn p vb vl k ∨ w.heap.size ≤ k) := by
  have G5b := But.of_grownBy (X := fun k => vb.ownBlock = some k) G5 fun k e => e
  have K5 : w5.heap[p]? = some (.cells #[vb, vl, .int .i64 (f.sp : Int)] TFl (0, 0)) := G5b.at h.box (h.b.no h.box (by decide))
  have g7 := But.of_grownBy (X := fun k => k = p) (grown_setCell w5 p 0 v5) fun k e => by cases e; rfl
  have Ol : Ob 0 w5 vl f.la := h.l.but G5b (fun k hk c => h.ne k c hk)
  refine ⟨K5, ⟨?_, ?_, ?_, ?_, ?_, ?_, ?_⟩, ?_, ?_⟩
  · rw [heap_setCell_same _ _ _ _ _ _ K5]; simp [apF]
  · exact O5.but g7 (fun k hk e => O5.no K5 (by decide) (by rw [← e]; exact hk))
  · exact Ol.but g7 (fun k hk e => Ol.no K5 (by decide) (by rw [← e]; exact hk))
  · intro k hk c
    rcases A5 with e | e
    · rw [e] at hk
      exact h.ne k hk c
    · rw [e] at hk
      have := (h.l.lt k c).2
      simp at hk
      omega
  · have := h.le; simp [apF]; omega
  · have := h.sp; have := h.le; simp [apF]; omega
  · simp [apF]; exact hz
  · exact (G5b.mono fun k _ e => .inr (.inl e)).trans (g7.mono fun k _ e => .inl e)
  · rintro k (q | q | q)
    · exact .inl (.inl q)
    · rcases A5 with e | e
      · rw [e] at q; exact .inl (.inr (.inl q))
      · rw [e] at q; simp at q; exact .inr (by omega)
    · exact .inl (.inr (.inr q))
end Go.Proofs.Ytdelknejmapeaaa.Dk
