/-
  DiskSpoils: the walk.
-/
import Derived.Test.YtdelknejmapeaaaDmC
import Derived.Test.YtdelknejmapeaaaDmC0
import Derived.Test.YtdelknejmapeaaaEq
namespace Go.Proofs.Ytdelknejmapeaaa.Dk
open Go.RowKit Go.Maps Go.Sort Go.Shelf Go.Proofs.Ytdelknejmapeaaa.Nm

theorem Ob.sgo {B : Nat} {q w' : World} {v : Value} {l : List UInt8} {O O' : Nat → Prop} (h : Ob B q v l) (hn : ∀ k, v.ownBlock = some k → ¬ O k) (g : Sgo q w' O O') : Ob B w' v l ∧ (∀ k, v.ownBlock = some k → ¬ O' k) := by
  refine ⟨h.but g.but hn, fun k hk c => ?_⟩
  rcases g.own k c with z | z
  · exact hn k hk z
  · have := (h.lt k hk).2; omega
def sF : ByteArray := ⟨#[102]⟩
theorem may_f : may sF.data.toList = true := by decide
def nw1 (M : Int) (s : ByteArray) (p : Nat) : DS := ⟨M, true, [], [.cr s p], [], 1, 0, 0, 0, 0, 0, 0, 1, 0, noF⟩
def nw2 (M : Int) (s : ByteArray) (p : Nat) : DS := ⟨M, true, [(s.data.toList, p)], [], [], 1, 0, 0, 0, 0, 0, 1, 2, 0, noF⟩
theorem nw_create (M : Int) (p : Nat) : (DS.new M).create sF p = (nw1 M sF p, 0) := by
  have e : (DS.new M).create sF p = (⟨M, true, [], [.cr sF p], [], 1, 0, 0, 0, 0, 0, 0, 1, 0, upd noF p ⟨[], [], 0⟩⟩, 0) := by kernel_rfl
  rw [e, upd_noF]
  rfl
theorem nw_sync (M : Int) (p : Nat) : (nw1 M sF p).syncDir = (nw2 M sF p, 0) := by kernel_rfl
theorem nw_one (M : Nat) (p : Nat) : One (nw2 (M : Int) sF p) sF M p ⟨[], [], 0⟩ 2 [] := ⟨rfl, rfl, rfl, rfl, rfl, rfl, rfl, Nat.le_refl _⟩
/-- A disk of one file, in memory that was not there at w. -/
structure OI (w q : World) (b : Nat) (S : DS) (O : Nat → Prop) (p : Nat) (t : Fl) (c : Int) (l : Ar) : Prop where
  d : DskE q b S O
  o : One S sF 1048576 p t c l
  bel : Below w.heap.size w q
  lo : ∀ k, O k → w.heap.size ≤ k
theorem OI.below {w q q' : World} {b : Nat} {S : DS} {O : Nat → Prop} {p : Nat} {t : Fl} {c : Int} {l : Ar} (h : OI w q b S O p t c l) (hb : Below q.heap.size q q') : OI w q' b S O p t c l :=
  ⟨h.d.below hb, h.o, h.bel.trans (hb.mono h.bel.size), h.lo⟩
theorem OI.step {w q q' : World} {b : Nat} {S S' : DS} {O O' : Nat → Prop} {p : Nat} {t t' : Fl} {c c' : Int} {l l' : Ar} (h : OI w q b S O p t c l) (hd : DskE q' b S' O') (ho : One S' sF 1048576 p t' c' l') (hg : Sgo q q' O O') : OI w q' b S' O' p t' c' l' :=
  ⟨hd, ho, hg.under h.lo (Nat.le_refl _) h.bel, hg.low h.bel.size h.lo⟩
theorem fts_one {w : World} {g : Nat} {a k p : Int} {T : TypeId} {z : Nat × Nat} (h : w.heap[g]? = some (.cells #[.int .i64 a, .int .i64 k, .int .i64 p] T z)) : Fts w (.slice (some ⟨g, 0, none⟩) 1 1) [(a, k, p)] := by
  refine ⟨some ⟨g, 0, none⟩, 1, rfl, Nat.le_refl _, by decide, fun i hi => ?_⟩
  obtain rfl : i = 0 := by simp at hi; omega
  exact ⟨g, 0, rfl, by simp [World.cell?, h], by simp [World.cell?, h], by simp [World.cell?, h]⟩
theorem syF_ap (t : Fl) (D : List UInt8) (h : t.la = t.by_) (h0 : t.sp = 0) : syF (apF t D) = ⟨t.by_ ++ D, t.by_ ++ D, 0⟩ := by
  obtain ⟨x, y, z⟩ := t
  dsimp only at h h0
  subst h h0
  exact syF_plain y D
end Go.Proofs.Ytdelknejmapeaaa.Dk
