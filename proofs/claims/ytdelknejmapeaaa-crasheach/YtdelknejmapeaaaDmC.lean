/-
  One file, by data: appended to, synced, spoilt, crashed.
-/
import Derived.Test.YtdelknejmapeaaaDlO
import Derived.Test.YtdelknejmapeaaaDmA
namespace Go.Proofs.Ytdelknejmapeaaa.Dk
open Go.RowKit Go.Maps Go.Sort Go.Shelf Go.Proofs.Ytdelknejmapeaaa.Nm

/-- A disk with the one file s, which lasts by name; c operations; l armed. -/
structure One (S : DS) (s : ByteArray) (M : Nat) (p : Nat) (t : Fl) (c : Int) (l : Ar) : Prop where
  up : S.up = true
  most : S.most = (M : Int)
  l2 : S.l2 = [(s.data.toList, p)]
  P : S.P = []
  al : S.al = l
  c7 : S.c7 = c
  F : S.F p = t
  le : t.la.length ≤ t.by_.length
theorem One.dir {S : DS} {s : ByteArray} {M p : Nat} {t : Fl} {c : Int} {l : Ar} (h : One S s M p t c l) : S.dir = [(s.data.toList, p)] := by unfold DS.dir; rw [h.l2, h.P]; rfl
theorem get_one (n : List UInt8) (p : Nat) : get [(n, p)] n = some p := by simp [get]
theorem One.find {S : DS} {s : ByteArray} {M p : Nat} {t : Fl} {c : Int} {l : Ar} (h : One S s M p t c l) (hm : may s.data.toList = true) : S.find s = (some p, 0) := find_get h.up hm (by rw [h.dir]; exact get_one _ _)
theorem One.room {S : DS} {s : ByteArray} {M p : Nat} {t : Fl} {c : Int} {l : Ar} (h : One S s M p t c l) (hb : t.by_.length ≤ M) : S.room = ((M - t.by_.length : Nat) : Int) := by
  unfold DS.room
  rw [h.dir, h.most]
  simp only [sumL, List.map_cons, List.map_nil, List.sum_cons, List.sum_nil, h.F]
  omega
theorem One.append {S : DS} {s : ByteArray} {M p : Nat} {t : Fl} {c : Int} (h : One S s M p t c []) (hm : may s.data.toList = true) (D : List UInt8) (hD : t.by_.length + D.length ≤ M) :
    (S.append s D).2.1 = (D.length : Int) ∧ (S.append s D).2.2 = 0 ∧ One (S.append s D).1 s M p (apF t D) (c + 1) [] := by
  have hn : S.apN D.length = D.length := by
    unfold DS.apN
    rw [flt_none h.al, if_neg (by decide), h.room (by omega)]
    omega
  have e : S.append s D = ({ (S.beg 1).str S.flt.2.1 with F := upd S.F p (apF (S.F p) (D.take (S.apN D.length))), c8 := S.c8 + (S.apN D.length : Int) }, (S.apN D.length : Int), if strF S.flt.2.1 ≠ 0 then strF S.flt.2.1 else if S.apN D.length < D.length then 21 else 0) := by
    unfold DS.append
    rw [h.find hm]
  rw [e, hn, flt_none h.al, List.take_length]
  refine ⟨rfl, ?_, ⟨h.up, h.most, h.l2, h.P, ?_, ?_, ?_, ?_⟩⟩
  · show (if strF 0 ≠ 0 then strF 0 else if D.length < D.length then 21 else 0) = 0
    rw [if_neg (by decide), if_neg (by omega)]
  · show adel S.al _ = []
    rw [h.al]; rfl
  · show S.c7 + 1 = _
    rw [h.c7]
  · show upd S.F p _ p = _
    rw [upd_same, h.F]
  · have := h.le; simp [apF]; omega
theorem One.sync {S : DS} {s : ByteArray} {M p : Nat} {t : Fl} {c : Int} (h : One S s M p t c []) (hm : may s.data.toList = true) (hl : (syF t).la.length ≤ t.by_.length) : (S.sync s).2 = 0 ∧ One (S.sync s).1 s M p (syF t) (c + 1) [] := by
  have e : S.sync s = ({ S.beg 2 with F := upd S.F p (syF (S.F p)) }, 0) := by
    unfold DS.sync
    rw [h.find hm]
    dsimp only
    rw [flt_none h.al, if_neg (by decide), if_neg (by decide)]
  rw [e]
  refine ⟨rfl, ⟨h.up, h.most, h.l2, h.P, ?_, ?_, ?_, hl⟩⟩
  · show adel S.al _ = []
    rw [h.al]; rfl
  · show S.c7 + 1 = _
    rw [h.c7]
  · show upd S.F p _ p = _
    rw [upd_same, h.F]
theorem One.arm {S : DS} {s : ByteArray} {M p : Nat} {t : Fl} {c : Int} {l : Ar} (h : One S s M p t c l) : (S.arm [(1, 1, 0)]).2 = 0 ∧ One (S.arm [(1, 1, 0)]).1 s M p t c [(c + 1, (1, 1, 0))] := by
  have e : S.arm [(1, 1, 0)] = ({ S with al := [(S.c7 + 1, (1, 1, 0))] }, 0) := by
    unfold DS.arm
    rw [if_neg (by decide)]
    rfl
  rw [e]
  refine ⟨rfl, ⟨h.up, h.most, h.l2, h.P, ?_, h.c7, h.F, h.le⟩⟩
  show [(S.c7 + 1, _)] = _
  rw [h.c7]
theorem One.fail {S : DS} {s : ByteArray} {M p : Nat} {t : Fl} {c : Int} (h : One S s M p t c [(c + 1, (1, 1, 0))]) (hm : may s.data.toList = true) : (S.sync s).2 = 20 ∧ One (S.sync s).1 s M p (spF t) (c + 1) [] := by
  have hf : S.flt = (1, 1, 0) := by unfold DS.flt aget; rw [h.al, h.c7]; simp
  have e : S.sync s = ({ S.beg 2 with F := upd S.F p (spF (S.F p)) }, 20) := by
    unfold DS.sync
    rw [h.find hm]
    dsimp only
    rw [hf, if_pos rfl]
  rw [e]
  refine ⟨rfl, ⟨h.up, h.most, h.l2, h.P, ?_, ?_, ?_, h.le⟩⟩
  · show adel S.al (S.c7 + 1) = []
    rw [h.al, h.c7]; simp [adel]
  · show S.c7 + 1 = _
    rw [h.c7]
  · show upd S.F p _ p = _
    rw [upd_same, h.F]
theorem One.read {S : DS} {s : ByteArray} {M p : Nat} {t : Fl} {c : Int} {l : Ar} (h : One S s M p t c l) (hm : may s.data.toList = true) : S.read s 0 (t.by_.length : Int) = (t.by_, 0) := by
  unfold DS.read
  rw [h.find hm]
  dsimp only
  rw [h.F, if_pos (by omega)]
  simp
theorem One.crash {S : DS} {s : ByteArray} {M p : Nat} {t : Fl} {c : Int} {l : Ar} (h : One S s M p t c l) : One (S.crash 0 []) s M p (crFl t (0, [])) c [] := by
  have hf : S.front 0 = [(s.data.toList, p)] := by unfold DS.front; rw [h.P, h.l2]; rfl
  have e : S.crash 0 [] = { S with up := true, l2 := [(s.data.toList, p)], P := [], al := [], F := upd S.F p (crFl (S.F p) (0, [])) } := by
    unfold DS.crash
    rw [hf, nms_one]
    have : crashL [(s.data.toList, p)] [s.data.toList] [] S.F = upd S.F p (crFl (S.F p) (0, [])) := by
      simp only [crashL, crash1, get_one]
      rfl
    rw [this]
  rw [e]
  exact ⟨rfl, h.most, rfl, rfl, rfl, h.c7, by show upd S.F p _ p = _; rw [upd_same, h.F], Nat.le_refl _⟩
theorem syF_plain (a b : List UInt8) : syF ⟨a ++ b, a, 0⟩ = ⟨a ++ b, a ++ b, 0⟩ := by
  have h0 : (a ++ b).length - a.length = b.length := by rw [List.length_append]; omega
  have h1 : ((a ++ b).drop a.length).take b.length = b := by rw [List.drop_left, List.take_length]
  simp only [syF, svd, h0, h1]
  simp
theorem syF_spoilt (a b c : List UInt8) : syF ⟨a ++ b ++ c, a, b.length⟩ = ⟨a ++ b ++ c, a ++ List.replicate b.length 0 ++ c, 0⟩ := by
  have h0 : (a ++ b ++ c).length - a.length = b.length + c.length := by simp only [List.length_append]; omega
  have h1 : ((a ++ b ++ c).drop a.length).take (b.length + c.length) = b ++ c := by
    rw [List.append_assoc, List.drop_left, ← List.length_append, List.take_length]
  simp only [syF, svd, h0, h1]
  rw [Nat.min_eq_left (by omega), List.drop_left, ← List.append_assoc]
theorem crF_whole (x y : List UInt8) (h : y.length = x.length) : crFl ⟨x, y, 0⟩ (0, []) = ⟨y, y, 0⟩ := by
  have : crF ⟨x, y, 0⟩ 0 [] = y := by
    unfold crF
    simp [h, wthn, svd]
  unfold crFl
  rw [this]
end Go.Proofs.Ytdelknejmapeaaa.Dk
