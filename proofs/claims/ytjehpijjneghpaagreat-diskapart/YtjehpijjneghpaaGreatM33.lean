/-
  The document's disk as one of the program's kind: files.
-/
import Derived.Test.YtjehpijjneghpaaGreatM32
import Derived.Test.YtjehpijjneghpaaGreatM19
import Derived.Test.YtjehpijjneghpaaGreatM30
import Derived.Test.YtjehpijjneghpaaGreatM01
namespace Go.Proofs.YtjehpijjneghpaaGreat.Re
open Go.RowKit Go.Maps Go.Sort Go.Shelf Go.Proofs.YtjehpijjneghpaaGreat.Nm Go.Proofs.YtjehpijjneghpaaGreat.Dk
set_option linter.unusedVariables false
variable {R : RB} {al : Ar}
theorem lenOf_fOf (R : RB) (p : Nat) : R.lenOf p = (R.fOf p).1.length := by unfold RB.lenOf RB.fOf; cases R.F[p]? <;> rfl
theorem fOf_la (I : RI R) (p : Nat) : (R.fOf p).2.1.length ≤ (R.fOf p).1.length ∧ (R.fOf p).1.length ≤ 16777216 := by
  unfold RB.fOf
  cases h : R.F[p]? with
  | none => exact ⟨Nat.le_refl _, Nat.zero_le _⟩
  | some f => exact I.fi f (List.mem_of_getElem? h)
theorem ds_sum (I : RI R) (al : Ar) : sumL (R.ds al).F (R.ds al).dir = R.sum R.dir.length := by
  rw [ds_dir I]
  unfold sumL RB.sum
  rw [List.take_length]
  congr 1
  refine List.map_congr_left fun e _ => ?_
  rw [lenOf_fOf]
  rfl
theorem ds_room (I : RI R) (al : Ar) : (R.ds al).room = R.room := by
  unfold DS.room RB.room
  rw [ds_sum I]
  rfl
theorem ds_apN (I : RI R) (A : ArmR R al) (n : Nat) : (R.ds al).apN n = R.apN n := by
  unfold DS.apN RB.apN
  rw [ds_flt A, ds_room I]
theorem sum_le (I : RI R) (k : Nat) : R.sum k ≤ R.dir.length * 16777216 := by
  unfold RB.sum
  have : ∀ l : Dr, (l.map fun e => R.lenOf e.2).sum ≤ l.length * 16777216 := fun l => by
    induction l with
    | nil => simp
    | cons e r ih =>
      have := (fOf_la I e.2).2
      have h2 := lenOf_fOf R e.2
      simp only [List.map_cons, List.sum_cons, List.length_cons]
      omega
  have h1 := this (R.dir.take k)
  have h2 : (R.dir.take k).length ≤ R.dir.length := by rw [List.length_take]; omega
  exact Nat.le_trans h1 (Nat.mul_le_mul_right 16777216 h2)
theorem sum_one (I : RI R) {s : List UInt8} {p : Nat} (h : Dk.get R.dir s = some p) : R.lenOf p ≤ R.sum R.dir.length := by
  have h1 := sumL_one (R.ds []).F (l := R.dir) h
  have h2 := ds_sum I []
  rw [ds_dir I] at h2
  rw [h2] at h1
  rw [lenOf_fOf]
  exact h1
theorem ap_size (I : RI R) {s : ByteArray} (h : refN R.down R.dir s true = 0) (n : Nat) : R.lenOf (R.pOf s) + R.apN n ≤ 16777216 := by
  obtain ⟨_, _, h3⟩ := refN_there I.dirF h
  have h1 := sum_one I h3
  have h2 := (rapN_le R n).2
  have h4 := I.most
  have h5 := (fOf_la I (R.pOf s)).2
  rw [← lenOf_fOf] at h5
  unfold RB.room at h2
  omega
theorem ri_append (I : RI R) (s : ByteArray) (D : List UInt8) : RI (R.append s D).1 := by
  unfold RB.append
  split
  · exact I
  · rename_i h0
    have h0 : refN R.down R.dir s true = 0 := by simpa using h0
    obtain ⟨_, hp, _⟩ := refN_there I.dirF h0
    obtain ⟨b1, _⟩ := beg_same R 1
    obtain ⟨e1, _, e3, _⟩ := beg_more R 1
    have hsz := ap_size I h0 D.length
    have hla := fOf_la I (R.pOf s)
    rw [lenOf_fOf] at hsz
    refine ri_put (ri_one (ri_beg I 1) (by rw [b1]; exact hp) ⟨?_, ?_⟩) ?_
    · simp only [List.length_append]; omega
    · have := (rapN_le R D.length).1
      simp only [List.length_append, List.length_take]; omega
    · show 0 ≤ R.c8 + (R.apN D.length : Int) ∧ R.c8 + (R.apN D.length : Int) ≤ 16777216 * (R.beg 1).c7
      rw [e1]
      have := I.c8
      omega
theorem ds_append (I : RI R) (A : ArmR R al) (s : ByteArray) (D : List UInt8) : ∃ al', (R.ds al).append s D = ((R.append s D).1.ds al', (R.append s D).2) ∧ ArmR (R.append s D).1 al' := by
  have hf := I.flt.1
  by_cases h0 : refN R.down R.dir s true = 0
  · have e1 : R.append s D = (((R.beg 1).one (R.pOf s) ((R.fOf (R.pOf s)).1 ++ D.take (R.apN D.length), (R.fOf (R.pOf s)).2)).put (R.c8 + (R.apN D.length : Int)), (R.apN D.length : Int), if R.flt.2.1 ≠ 0 then toldN R.flt.2.1 else if R.apN D.length < D.length then 21 else 0) := by unfold RB.append; rw [if_neg (by simp [h0])]
    obtain ⟨_, hp, _⟩ := refN_there I.dirF h0
    obtain ⟨b1, _⟩ := beg_same R 1
    have hp1 : R.pOf s < (R.beg 1).F.length := by rw [b1]; exact hp
    have hh := ds_hit A 1
    unfold DS.hit at hh
    rw [ds_flt A] at hh
    have eS : (R.ds al).append s D = ({ (R.beg 1).ds (adel al (R.c7 + 1)) with F := upd (R.ds al).F (R.pOf s) (apF ((R.ds al).F (R.pOf s)) (D.take (R.apN D.length))), c8 := R.c8 + (R.apN D.length : Int) }, (R.apN D.length : Int), if strF R.flt.2.1 ≠ 0 then strF R.flt.2.1 else if R.apN D.length < D.length then 21 else 0) := by
      unfold DS.append
      rw [ds_find I, if_pos h0]
      simp only [ds_apN I A, ds_flt A, hh]
      rfl
    rw [eS, e1]
    refine ⟨_, ?_, (A.beg 1).of rfl rfl rfl⟩
    have ed := ds_one hp1 ((R.fOf (R.pOf s)).1 ++ D.take (R.apN D.length), (R.fOf (R.pOf s)).2) (adel al (R.c7 + 1))
    have e2 : (((R.beg 1).one (R.pOf s) ((R.fOf (R.pOf s)).1 ++ D.take (R.apN D.length), (R.fOf (R.pOf s)).2)).put (R.c8 + (R.apN D.length : Int))).ds (adel al (R.c7 + 1)) = { ((R.beg 1).one (R.pOf s) ((R.fOf (R.pOf s)).1 ++ D.take (R.apN D.length), (R.fOf (R.pOf s)).2)).ds (adel al (R.c7 + 1)) with c8 := R.c8 + (R.apN D.length : Int) } := rfl
    have e3 : (if strF R.flt.2.1 ≠ 0 then strF R.flt.2.1 else if R.apN D.length < D.length then 21 else 0) = (if R.flt.2.1 ≠ 0 then toldN R.flt.2.1 else if R.apN D.length < D.length then (21 : Int) else 0) := by
      by_cases h3 : R.flt.2.1 = 0
      · simp [h3, strF]
      · rw [if_pos ((strF_told hf).1.2 h3), if_pos h3, (strF_told hf).2 h3]
    rw [e3, e2, ed]
    rfl
  · have e1 : R.append s D = (R, 0, refN R.down R.dir s true) := by unfold RB.append; rw [if_pos h0]
    refine ⟨al, ?_, by rw [e1]; exact A⟩
    unfold DS.append
    rw [ds_find I, if_neg h0, e1]
theorem ri_sync (I : RI R) (s : ByteArray) : RI (R.sync s).1 := by
  unfold RB.sync
  split
  · exact I
  · rename_i h0
    have h0 : refN R.down R.dir s true = 0 := by simpa using h0
    obtain ⟨_, hp, _⟩ := refN_there I.dirF h0
    obtain ⟨b1, _⟩ := beg_same R 2
    have hla := fOf_la I (R.pOf s)
    split
    · exact ri_one (ri_beg I 2) (by rw [b1]; exact hp) ⟨hla.1, hla.2⟩
    · split
      · exact ri_beg I 2
      · refine ri_one (ri_beg I 2) (by rw [b1]; exact hp) ⟨?_, hla.2⟩
        have := svd_len (flD (R.fOf (R.pOf s))) ((R.fOf (R.pOf s)).1.length - (R.fOf (R.pOf s)).2.1.length) (by show (R.fOf (R.pOf s)).2.1.length + _ ≤ (R.fOf (R.pOf s)).1.length; omega)
        simp only [List.length_append, this]
        omega
theorem ds_sync (I : RI R) (A : ArmR R al) (s : ByteArray) : ∃ al', (R.ds al).sync s = ((R.sync s).1.ds al', (R.sync s).2) ∧ ArmR (R.sync s).1 al' := by
  by_cases h0 : refN R.down R.dir s true = 0
  · obtain ⟨_, hp, _⟩ := refN_there I.dirF h0
    obtain ⟨b1, _⟩ := beg_same R 2
    have hp1 : R.pOf s < (R.beg 2).F.length := by rw [b1]; exact hp
    have eS : (R.ds al).sync s = if R.flt.2.1 = 1 then ({ (R.ds al).beg 2 with F := upd (R.ds al).F (R.pOf s) (spF ((R.ds al).F (R.pOf s))) }, 20) else if R.flt.2.1 = 3 then (((R.ds al).beg 2).str 3, 22) else ({ (R.ds al).beg 2 with F := upd (R.ds al).F (R.pOf s) (syF ((R.ds al).F (R.pOf s))) }, 0) := by
      unfold DS.sync
      rw [ds_find I, if_pos h0]
      simp only [ds_flt A]
    have eR : R.sync s = if R.flt.2.1 = 1 then ((R.beg 2).one (R.pOf s) ((R.fOf (R.pOf s)).1, (R.fOf (R.pOf s)).2.1, ((R.fOf (R.pOf s)).1.length : Int)), 20) else if R.flt.2.1 = 3 then (R.beg 2, 22) else ((R.beg 2).one (R.pOf s) ((R.fOf (R.pOf s)).1, (R.fOf (R.pOf s)).2.1 ++ svd (flD (R.fOf (R.pOf s))) ((R.fOf (R.pOf s)).1.length - (R.fOf (R.pOf s)).2.1.length), 0), 0) := by unfold RB.sync; rw [if_neg (by simp [h0])]
    rw [eS, eR]
    by_cases k1 : R.flt.2.1 = 1
    · rw [if_pos k1, if_pos k1]
      refine ⟨adel al (R.c7 + 1), ?_, (A.beg 2).of rfl rfl rfl⟩
      rw [ds_one hp1, ds_beg A (by rw [k1]; decide)]
      have : spF ((R.ds al).F (R.pOf s)) = flD ((R.fOf (R.pOf s)).1, (R.fOf (R.pOf s)).2.1, ((R.fOf (R.pOf s)).1.length : Int)) := by
        show spF (flD (R.fOf (R.pOf s))) = _
        unfold spF flD
        simp only [Fl.mk.injEq, true_and]
        omega
      rw [this]
      rfl
    · by_cases k3 : R.flt.2.1 = 3
      · rw [if_neg k1, if_neg k1, if_pos k3, if_pos k3]
        refine ⟨adel al (R.c7 + 1), ?_, A.beg 2⟩
        have hh := ds_hit A 2
        unfold DS.hit at hh
        rw [ds_flt A, k3] at hh
        rw [hh]
      · rw [if_neg k1, if_neg k1, if_neg k3, if_neg k3]
        refine ⟨adel al (R.c7 + 1), ?_, (A.beg 2).of rfl rfl rfl⟩
        rw [ds_one hp1, ds_beg A k3]
        have : syF ((R.ds al).F (R.pOf s)) = flD ((R.fOf (R.pOf s)).1, (R.fOf (R.pOf s)).2.1 ++ svd (flD (R.fOf (R.pOf s))) ((R.fOf (R.pOf s)).1.length - (R.fOf (R.pOf s)).2.1.length), 0) := by
          show syF (flD (R.fOf (R.pOf s))) = _
          unfold syF flD
          simp only [Fl.mk.injEq, true_and]
          omega
        rw [this]
        rfl
  · have e1 : R.sync s = (R, refN R.down R.dir s true) := by unfold RB.sync; rw [if_pos h0]
    refine ⟨al, ?_, by rw [e1]; exact A⟩
    unfold DS.sync
    rw [ds_find I, if_neg h0, e1]
theorem ri_cut (I : RI R) (s : ByteArray) (n : Int) : RI (R.cut s n).1 := by
  unfold RB.cut
  split
  · exact I
  · rename_i h0
    have h0 : refN R.down R.dir s true = 0 := by simpa using h0
    obtain ⟨_, hp, _⟩ := refN_there I.dirF h0
    obtain ⟨b1, _⟩ := beg_same R 3
    have hla := fOf_la I (R.pOf s)
    split
    · exact I
    · split
      · exact ri_beg I 3
      · refine ri_one (ri_beg I 3) (by rw [b1]; exact hp) ⟨?_, ?_⟩
        · simp only [ctF, List.length_take]; omega
        · simp only [ctF, List.length_take]; omega
theorem ds_cut (I : RI R) (A : ArmR R al) (s : ByteArray) (n : Int) : ∃ al', (R.ds al).cut s n = ((R.cut s n).1.ds al', (R.cut s n).2) ∧ ArmR (R.cut s n).1 al' := by
  have hf := I.flt.1
  by_cases h0 : refN R.down R.dir s true = 0
  · obtain ⟨_, hp, _⟩ := refN_there I.dirF h0
    obtain ⟨b1, _⟩ := beg_same R 3
    have hp1 : R.pOf s < (R.beg 3).F.length := by rw [b1]; exact hp
    have hh := ds_hit A 3
    unfold DS.hit at hh
    rw [ds_flt A] at hh
    have eS : (R.ds al).cut s n = if n < 0 ∨ (R.lenOf (R.pOf s) : Int) < n then (R.ds al, 8) else if strN R.flt.2.1 ≠ 0 then ((R.beg 3).ds (adel al (R.c7 + 1)), strN R.flt.2.1) else ({ (R.ds al).beg 3 with F := upd (R.ds al).F (R.pOf s) (cuF ((R.ds al).F (R.pOf s)) n.toNat) }, 0) := by
      unfold DS.cut
      rw [ds_find I, if_pos h0]
      simp only [ds_flt A, hh, strR_strN hf]
      rw [lenOf_fOf]
      rfl
    have eR : R.cut s n = if n < 0 ∨ (R.lenOf (R.pOf s) : Int) < n then (R, 8) else if strN R.flt.2.1 ≠ 0 then (R.beg 3, strN R.flt.2.1) else ((R.beg 3).one (R.pOf s) (ctF (R.fOf (R.pOf s)) n), 0) := by unfold RB.cut; rw [if_neg (by simp [h0])]
    rw [eS, eR]
    by_cases hn : n < 0 ∨ (R.lenOf (R.pOf s) : Int) < n
    · rw [if_pos hn, if_pos hn]
      exact ⟨al, rfl, A⟩
    · rw [if_neg hn, if_neg hn]
      by_cases h1 : strN R.flt.2.1 = 0
      · rw [if_neg (by simp [h1]), if_neg (by simp [h1])]
        refine ⟨adel al (R.c7 + 1), ?_, (A.beg 3).of rfl rfl rfl⟩
        rw [ds_one hp1, ds_beg A (fun c => by rw [c] at h1; revert h1; decide)]
        have : cuF ((R.ds al).F (R.pOf s)) n.toNat = flD (ctF (R.fOf (R.pOf s)) n) := by
          show cuF (flD (R.fOf (R.pOf s))) n.toNat = _
          unfold cuF flD ctF
          simp only [Fl.mk.injEq, true_and, List.length_take]
          omega
        rw [this]
        rfl
      · rw [if_pos h1, if_pos h1]
        exact ⟨_, rfl, A.beg 3⟩
  · have e1 : R.cut s n = (R, refN R.down R.dir s true) := by unfold RB.cut; rw [if_pos h0]
    refine ⟨al, ?_, by rw [e1]; exact A⟩
    unfold DS.cut
    rw [ds_find I, if_neg h0, e1]
end Go.Proofs.YtjehpijjneghpaaGreat.Re
namespace Go.Proofs.YtjehpijjneghpaaGreat.Re
open Go.RowKit Go.Maps Go.Sort Go.Shelf Go.Proofs.YtjehpijjneghpaaGreat.Nm Go.Proofs.YtjehpijjneghpaaGreat.Dk
set_option linter.unusedVariables false
variable {R : RB} {al : Ar}
theorem nms_rise {l : Dr} (h : Rise l) : nms l = l.map (·.1) := by
  unfold nms
  refine List.mergeSort_of_pairwise ?_
  rw [List.pairwise_map]
  refine h.imp fun {a b} hab => ?_
  rw [before_lt] at hab
  simp only [decide_eq_true_eq] at hab ⊢
  exact List.le_of_lt hab
theorem get_at {l : Dr} (h : Rise l) {k : Nat} (hk : k < l.length) : Dk.get l l[k].1 = some l[k].2 := get_of_mem (rise_keys h) (List.getElem_mem hk)
theorem crR_same (L : Dr) (ks : List Kep) (R : RB) : ∀ k, (crR L ks k R).old = R.old ∧ (crR L ks k R).pe = R.pe ∧ (crR L ks k R).most = R.most ∧ (crR L ks k R).c7 = R.c7 ∧ (crR L ks k R).c8 = R.c8 ∧ (crR L ks k R).si = R.si ∧ (crR L ks k R).c0 = R.c0 ∧ (crR L ks k R).c1 = R.c1 ∧ (crR L ks k R).c2 = R.c2 ∧ (crR L ks k R).c3 = R.c3 ∧ (crR L ks k R).c4 = R.c4 ∧ (crR L ks k R).c5 = R.c5 ∧ (crR L ks k R).c6 = R.c6
  | 0 => ⟨rfl, rfl, rfl, rfl, rfl, rfl, rfl, rfl, rfl, rfl, rfl, rfl, rfl⟩
  | k + 1 => crR_same L ks R k
theorem crD_fl (f : FD) (k : Kep) : flD (crD f k) = crFl (flD f) k := by
  unfold crD crFl
  show Fl.mk _ _ _ = Fl.mk _ _ _
  simp only [Fl.mk.injEq, true_and]
  omega
theorem crR_F {L : Dr} (hr : Rise L) (hg : ∀ e ∈ L, e.2 < R.F.length) (ks : List Kep) : ∀ k, k ≤ L.length → crashL L ((L.map (·.1)).take k) ks (fun p => flD (R.fOf p)) = fun p => flD ((crR L ks k R).fOf p)
  | 0, _ => rfl
  | k + 1, h => by
    have hk : k < L.length := by omega
    have hk' : k < (L.map (·.1)).length := by rw [List.length_map]; exact hk
    rw [List.take_succ_eq_append_getElem hk', crashL_snoc, crR_F hr hg ks k (by omega)]
    have e1 : (L.map (·.1))[k] = L[k].1 := List.getElem_map _
    have e2 : ((L.map (·.1)).take k).length = k := by rw [List.length_take]; omega
    rw [e1, e2]
    unfold crash1
    rw [get_at hr hk]
    have hLk : ((L[k]?).map (·.2)).getD 0 = L[k].2 := by rw [List.getElem?_eq_getElem hk]; rfl
    have hp : L[k].2 < (crR L ks k R).F.length := by rw [crR_len]; exact hg _ (List.getElem_mem hk)
    have e3 : crR L ks (k + 1) R = (crR L ks k R).one L[k].2 (crD ((crR L ks k R).fOf L[k].2) (ks.getD k (0, []))) := by
      show (crR L ks k R).one (((L[k]?).map (·.2)).getD 0) (crD ((crR L ks k R).fOf (((L[k]?).map (·.2)).getD 0)) (ks.getD k (0, []))) = _
      rw [hLk]
    funext q
    rw [e3, fOf_one _ hp]
    show upd (fun p => flD ((crR L ks k R).fOf p)) L[k].2 (crFl (flD ((crR L ks k R).fOf L[k].2)) (ks.getD k (0, []))) q = _
    unfold upd
    by_cases e : q = L[k].2
    · rw [if_pos e, if_pos e, crD_fl]
    · rw [if_neg e, if_neg e]
theorem RI.frontR (I : RI R) (n : Int) : Rise (R.front n) := rise_runR I.rise
theorem ds_crash (I : RI R) (al : Ar) (d : Int) (ks : List Kep) : (R.ds al).crash d ks = (R.crash d ks).ds [] := by
  obtain ⟨h1, h2, h3, h4, h5, h6, h7, h8, h9, h10, h11, h12, h13⟩ := crR_same (R.front d) ks R (R.front d).length
  have hF := crR_F (I.frontR d) (I.front d) ks (R.front d).length (Nat.le_refl _)
  rw [List.take_of_length_le (by rw [List.length_map]; exact Nat.le_refl _)] at hF
  unfold DS.crash
  rw [ds_front I, nms_rise (I.frontR d)]
  show DS.mk _ _ _ _ _ _ _ _ _ _ _ _ _ _ (crashL (R.front d) ((R.front d).map (·.1)) ks (fun p => flD (R.fOf p))) = _
  rw [hF]
  unfold RB.crash RB.ds RB.reset
  simp only [h3, h4, h5, h7, h8, h9, h10, h11, h12, h13]
  rfl
theorem crR_fi {L : Dr} (ks : List Kep) (I : RI R) : ∀ k, ∀ f ∈ (crR L ks k R).F, f.2.1.length ≤ f.1.length ∧ f.1.length ≤ 16777216
  | 0 => I.fi
  | k + 1 => fun f hf => by
    have ih := crR_fi (L := L) ks I k
    rcases List.mem_or_eq_of_mem_set hf with q | q
    · exact ih f q
    · subst q
      refine ⟨Nat.le_refl _, ?_⟩
      show (crF _ _ _).length ≤ _
      unfold RB.fOf
      cases hx : (crR L ks k R).F[(L[k]?.map (·.2)).getD 0]? with
      | none => simp [flD, crF, svd, jnk]
      | some g =>
        have hg := ih g (List.mem_of_getElem? hx)
        have := crF_len (flD g) (ks.getD k (0, [])).1 (ks.getD k (0, [])).2 hg.1
        have h2 : (flD g).by_.length = g.1.length := rfl
        simp only [Option.getD_some]
        omega
theorem ri_crash (I : RI R) (d : Int) (ks : List Kep) : RI (R.crash d ks) := by
  obtain ⟨h1, h2, h3, h4, h5, h6, h7, h8, h9, h10, h11, h12, h13⟩ := crR_same (R.front d) ks R (R.front d).length
  have hl := crR_len (R.front d) ks R (R.front d).length
  have hfl := front_len R d
  have hok : (R.crash d ks).ok := by
    obtain ⟨l0, l1, l2, l3, l4, l5, l6, l7, l8⟩ := I.ok.lo
    obtain ⟨m0, m1, m2, m3, m4, m5, m6, m8⟩ := I.ok.hi
    refine ⟨?_, ?_, fun f hf => (by cases hf)⟩
    · unfold RB.crash RB.reset
      simp only [h4, h6, h7, h8, h9, h10, h11, h12, h13]
      exact ⟨l0, l1, l2, l3, l4, l5, l6, l7, l8⟩
    · unfold RB.crash RB.reset
      simp only [h4, h6, h7, h8, h9, h10, h11, h12, h13]
      exact ⟨m0, m1, m2, m3, m4, m5, m6, m8⟩
  have hcn := I.cnt
  refine ⟨hok, ?_, rfl, I.frontR d, trivial, ?_, fun c hc => (by cases hc), crR_fi ks I _, ?_, ?_, ?_, fun f hf => (by cases hf), fun k => ?_⟩
  · show 0 ≤ (crR (R.front d) ks (R.front d).length R).most ∧ (crR (R.front d) ks (R.front d).length R).most ≤ 16777216
    rw [h3]; exact I.most
  · show ∀ e ∈ R.front d, e.2 < (crR (R.front d) ks (R.front d).length R).F.length
    rw [hl]; exact I.front d
  · show (((R.front d).length + ([] : List RC).length : Nat) : Int) ≤ (crR (R.front d) ks (R.front d).length R).c7
    rw [h4]
    simp only [List.length_nil]
    omega
  · show ((crR (R.front d) ks (R.front d).length R).F.length : Int) ≤ (crR (R.front d) ks (R.front d).length R).c7
    rw [h4, hl]; exact I.fl
  · show 0 ≤ (crR (R.front d) ks (R.front d).length R).c8 ∧ (crR (R.front d) ks (R.front d).length R).c8 ≤ 16777216 * (crR (R.front d) ks (R.front d).length R).c7
    rw [h4, h5]; exact I.c8
  · show (runR (R.front d) (([] : List RC).take k)).length ≤ 256
    rw [runR_nil]
    exact I.few d.toNat
theorem arm_none (R : RB) (d : Int) (ks : List Kep) : ArmR (R.crash d ks) [] := fun n hn => rfl
theorem snocI {α : Type} {P : List α → Prop} (A : List α) (nil : P []) (snoc : ∀ A f, P A → P (A ++ [f])) : P A := by
  rw [← List.reverse_reverse A]
  induction A.reverse with
  | nil => exact nil
  | cons x r ih => rw [List.reverse_cons]; exact snoc _ _ ih
theorem mayL_snoc (A : List Ft) (f : Ft) : MayL (A ++ [f]) (A ++ [f]).length ↔ MayL A A.length ∧ mayF f = true ∧ ∀ g ∈ A, g.1 ≠ f.1 := by
  constructor
  · intro h
    refine ⟨fun i hi _ => ?_, ?_, ?_⟩
    · have := h i (by rw [List.length_append]; omega) (by rw [List.length_append]; omega)
      rw [List.getElem_append_left hi] at this
      refine ⟨this.1, fun k hk => ?_⟩
      have q := this.2 k hk
      rw [List.getElem_append_left (by omega)] at q
      exact q
    · have := (h A.length (by rw [List.length_append]; simp) (by rw [List.length_append]; simp)).1
      simpa using this
    · intro g hg
      obtain ⟨k, hk, rfl⟩ := List.getElem_of_mem hg
      have := (h A.length (by rw [List.length_append]; simp) (by rw [List.length_append]; simp)).2 k hk
      rw [List.getElem_append_left hk] at this
      simpa using this
  · rintro ⟨h1, h2, h3⟩ i hi _
    by_cases q : i < A.length
    · have := h1 i q q
      rw [List.getElem_append_left q]
      refine ⟨this.1, fun k hk => ?_⟩
      rw [List.getElem_append_left (by omega)]
      exact this.2 k hk
    · have hie : i = A.length := by rw [List.length_append] at hi; simp at hi; omega
      subst hie
      refine ⟨by simpa using h2, fun k hk => ?_⟩
      rw [List.getElem_append_left hk]
      have := h3 _ (List.getElem_mem hk)
      simpa using this
theorem find_none {A : List Ft} {n : Int} : (A.find? fun f => f.1 == n) = none ↔ ∀ g ∈ A, g.1 ≠ n := by simp
theorem armL_spec (c : Int) (A : List Ft) : (MayL A A.length → ∃ l, armL c A [] = some l ∧ ∀ n : Int, aget l n = A.find? fun f => f.1 == n - c) ∧ (¬ MayL A A.length → armL c A [] = none) := by
  induction A using snocI with
  | nil => exact ⟨fun _ => ⟨[], rfl, fun n => rfl⟩, fun h => absurd (fun i hi => by simp at hi) h⟩
  | snoc A f ih =>
    rw [mayL_snoc, armL_snoc]
    constructor
    · rintro ⟨h1, h2, h3⟩
      obtain ⟨l, e, hl⟩ := ih.1 h1
      rw [e]
      have hn : aget l (c + f.1) = none := by rw [hl, show c + f.1 - c = f.1 by omega]; exact find_none.2 h3
      refine ⟨aput l (c + f.1) f, by simp only; rw [if_pos ⟨h2, hn⟩], fun n => ?_⟩
      rw [aget_aput, hl, List.find?_append]
      by_cases q : c + f.1 = n
      · have h4 : (A.find? fun g => g.1 == n - c) = none := find_none.2 (fun g hg => by have := h3 g hg; omega)
        rw [if_pos q, h4]
        have : (f.1 == n - c) = true := by simp; omega
        simp [this]
      · rw [if_neg q]
        have : (f.1 == n - c) = false := by simp; omega
        simp [this]
    · intro h
      by_cases h1 : MayL A A.length
      · obtain ⟨l, e, hl⟩ := ih.1 h1
        rw [e]
        simp only
        rw [if_neg]
        rintro ⟨h2, h3⟩
        refine h ⟨h1, h2, ?_⟩
        rw [hl, show c + f.1 - c = f.1 by omega] at h3
        exact find_none.1 h3
      · rw [ih.2 h1]
open Classical in
noncomputable def RB.arm (R : RB) (fs : List Ft) : RB × Int := if fs.length ≤ 64 ∧ MayL fs fs.length then (R.armed fs, 0) else (R, 1)
theorem ri_arm (I : RI R) (fs : List Ft) (h4 : ∀ t ∈ fs, t.2.1 ≠ 4) : RI (R.arm fs).1 := by
  unfold RB.arm
  split
  · rename_i h
    obtain ⟨l0, l1, l2, l3, l4, l5, l6, l7, l8⟩ := I.ok.lo
    obtain ⟨m0, m1, m2, m3, m4, m5, m6, m8⟩ := I.ok.hi
    refine ⟨⟨⟨l0, l1, l2, l3, l4, l5, l6, l7, Int.le_refl _⟩, ⟨m0, m1, m2, m3, m4, m5, m6, l7⟩, h4⟩, I.most, I.dir, I.rise, I.chs, I.old, I.pe, I.fi, I.cnt, I.fl, I.c8, fun f hf => ?_, I.few⟩
    have hf : f ∈ fs := hf
    obtain ⟨i, hi, rfl⟩ := List.getElem_of_mem hf
    have h1 := (mayF_iff _).1 (h.2 i hi hi).1
    have h2 := h4 _ hf
    omega
  · exact I
theorem ds_arm (I : RI R) (A : ArmR R al) (fs : List Ft) : ∃ al', (R.ds al).arm fs = ((R.arm fs).1.ds al', (R.arm fs).2) ∧ ArmR (R.arm fs).1 al' := by
  have hs := armL_spec R.c7 fs
  have ec : (R.ds al).c7 = R.c7 := rfl
  unfold DS.arm
  rw [ec]
  by_cases h1 : fs.length ≤ 64
  · rw [if_neg (by omega)]
    by_cases h2 : MayL fs fs.length
    · obtain ⟨l, e, hl⟩ := hs.1 h2
      have e1 : R.arm fs = (R.armed fs, 0) := by unfold RB.arm; rw [if_pos ⟨h1, h2⟩]
      rw [e, e1]
      refine ⟨l, rfl, fun n hn => ?_⟩
      show aget l n = fs.find? fun f => f.1 == n - R.c7 + 0
      rw [hl, Int.add_zero]
    · have e1 : R.arm fs = (R, 1) := by unfold RB.arm; rw [if_neg (fun c => h2 c.2)]
      rw [hs.2 h2, e1]
      exact ⟨al, rfl, A⟩
  · have e1 : R.arm fs = (R, 1) := by unfold RB.arm; rw [if_neg (fun c => h1 c.1)]
    rw [if_pos (by omega), e1]
    exact ⟨al, rfl, A⟩
theorem ds_size (I : RI R) (al : Ar) (s : ByteArray) : (R.ds al).size s = R.size s := by
  unfold DS.size RB.size
  rw [ds_find I]
  by_cases h0 : refN R.down R.dir s true = 0
  · rw [if_pos h0, if_neg (by simp [h0]), lenOf_fOf]; rfl
  · rw [if_neg h0, if_pos h0]
def RB.read (R : RB) (s : ByteArray) (o n : Int) : List UInt8 × Int :=
  if refN R.down R.dir s true ≠ 0 then ([], refN R.down R.dir s true)
  else if 0 ≤ o ∧ 0 ≤ n ∧ o + n ≤ (R.lenOf (R.pOf s) : Int) then (((R.byOf (R.pOf s)).drop o.toNat).take n.toNat, 0) else ([], 8)
theorem byOf_fOf (R : RB) (p : Nat) : R.byOf p = (R.fOf p).1 := by unfold RB.byOf RB.fOf; cases R.F[p]? <;> rfl
theorem ds_read (I : RI R) (al : Ar) (s : ByteArray) (o n : Int) : (R.ds al).read s o n = R.read s o n := by
  unfold DS.read RB.read
  rw [ds_find I]
  by_cases h0 : refN R.down R.dir s true = 0
  · rw [if_pos h0, if_neg (by simp [h0]), lenOf_fOf, byOf_fOf]
    show (if 0 ≤ o ∧ o ≤ ((R.fOf (R.pOf s)).1.length : Int) ∧ 0 ≤ n ∧ n ≤ ((R.fOf (R.pOf s)).1.length : Int) - o then _ else _) = _
    by_cases h1 : 0 ≤ o ∧ 0 ≤ n ∧ o + n ≤ ((R.fOf (R.pOf s)).1.length : Int)
    · rw [if_pos h1, if_pos (by omega)]; rfl
    · rw [if_neg h1, if_neg (by omega)]
  · rw [if_neg h0, if_pos h0]
theorem ds_list (I : RI R) (al : Ar) : (R.ds al).list = R.list := by
  unfold DS.list RB.list
  rw [ds_dir I, nms_rise I.dirR]
  show (if (!R.down) = true then _ else _) = _
  cases R.down <;> rfl
theorem files_at {l : Dr} (h : Rise l) (G : Nat → List UInt8) : filesOf G l = l.map fun e => (e.1, G e.2) := by
  unfold filesOf
  rw [nms_rise h, List.map_map]
  refine List.map_congr_left fun e he => ?_
  show (e.1, flOf G l e.1) = _
  unfold flOf
  rw [get_of_mem (rise_keys h) he]
theorem ds_files (I : RI R) (al : Ar) : (R.ds al).files = R.all := by
  unfold DS.files
  rw [ds_dir I, files_at I.dirR]
  rfl
theorem ds_lasts (I : RI R) (al : Ar) : (R.ds al).lasts = R.lasts := by
  unfold DS.lasts
  show filesOf _ R.old = _
  rw [files_at I.rise]
  rfl
theorem tlOf_fOf (R : RB) (p : Nat) : R.tlOf p = (R.fOf p).1.length - (R.fOf p).2.1.length := by unfold RB.tlOf RB.fOf; cases R.F[p]? <;> rfl
theorem ds_tails (I : RI R) (al : Ar) (n : Int) : (R.ds al).tails n = R.tails n := by
  unfold DS.tails RB.tails
  rw [ds_front I, nms_rise (I.frontR n), List.map_map]
  refine List.map_congr_left fun e he => ?_
  show (e.1, tlOf (R.ds al).F (R.front n) e.1) = _
  unfold tlOf
  rw [get_of_mem (rise_keys (I.frontR n)) he, tlOf_fOf]
  rfl
theorem ri_new (most : Int) (h : 0 ≤ most ∧ most ≤ 16777216) : RI (RB.new most) := by
  refine ⟨⟨by simp [RB.new], by simp [RB.new], fun f hf => (by cases hf)⟩, h, rfl, List.Pairwise.nil, trivial, fun e he => (by cases he), fun c hc => (by cases hc), fun f hf => (by cases hf), by simp [RB.new], by simp [RB.new], by simp [RB.new], fun f hf => (by cases hf), fun k => ?_⟩
  show (runR [] (([] : List RC).take k)).length ≤ 256
  rw [runR_nil]
  exact Nat.zero_le _
structure Rel (S : DS) (R : RB) : Prop where
  ri : RI R
  arm : ArmR R S.al
  uq : S.uq
  like : ∃ σ, Dk.Alike σ S (R.ds S.al)
theorem rel_new (most : Int) (h : 0 ≤ most ∧ most ≤ 16777216) : Rel (DS.new most) (RB.new most) := by
  refine ⟨ri_new most h, fun n hn => rfl, ⟨fun e he => (by cases he), fun e he => (by cases he), by simp [ptrs, DS.new]⟩, id, ?_⟩
  refine ⟨rfl, rfl, rfl, rfl, rfl, rfl, rfl, rfl, rfl, rfl, rfl, rfl, rfl, rfl, fun p hp => (by simp [DS.ps, DS.new] at hp), fun p hp => (by simp [DS.ps, DS.new] at hp)⟩
theorem Rel.of {S : DS} {τ : Nat → Nat} (I : RI R) (A : ArmR R al) (u : S.uq) (L : Dk.Alike τ S (R.ds al)) : Rel S R := by
  have e : al = S.al := L.al
  subst e
  exact ⟨I, A, u, τ, L⟩
variable {S : DS}
theorem Rel.create (h : Rel S R) (s : ByteArray) {p : Nat} (hp : p ∉ S.ps) : Rel (S.create s p).1 (R.create s).1 ∧ (S.create s p).2 = (R.create s).2 := by
  obtain ⟨σ, L⟩ := h.like
  obtain ⟨al', e, A⟩ := ds_create h.ri h.arm s
  obtain ⟨⟨τ, L2⟩, e2⟩ := L.create s hp (p' := R.F.length) (fun c => Nat.lt_irrefl _ (ds_ps h.ri S.al _ c))
  rw [e] at L2 e2
  exact ⟨Rel.of (ri_create h.ri s) A (uq_create h.uq s p hp) L2, e2.symm⟩
theorem Rel.remove (h : Rel S R) (s : ByteArray) : Rel (S.remove s).1 (R.remove s).1 ∧ (S.remove s).2 = (R.remove s).2 := by
  obtain ⟨σ, L⟩ := h.like
  obtain ⟨al', e, A⟩ := ds_remove h.ri h.arm s
  obtain ⟨L2, e2⟩ := L.remove s
  rw [e] at L2 e2
  exact ⟨Rel.of (ri_remove h.ri s) A (uq_remove h.uq s) L2, e2.symm⟩
theorem Rel.rename (h : Rel S R) (f t : ByteArray) : Rel (S.rename f t).1 (R.rename f t).1 ∧ (S.rename f t).2 = (R.rename f t).2 := by
  obtain ⟨σ, L⟩ := h.like
  obtain ⟨al', e, A⟩ := ds_rename h.ri h.arm f t
  obtain ⟨L2, e2⟩ := L.rename f t
  rw [e] at L2 e2
  exact ⟨Rel.of (ri_rename h.ri f t) A (uq_rename h.uq f t) L2, e2.symm⟩
theorem Rel.syncDir (h : Rel S R) : Rel S.syncDir.1 R.syncDir.1 ∧ S.syncDir.2 = R.syncDir.2 := by
  obtain ⟨σ, L⟩ := h.like
  obtain ⟨al', e, A⟩ := ds_syncDir h.ri h.arm
  obtain ⟨L2, e2⟩ := L.syncDir
  rw [e] at L2 e2
  exact ⟨Rel.of (ri_syncDir h.ri) A (uq_syncDir h.uq) L2, e2.symm⟩
theorem Rel.append (h : Rel S R) (s : ByteArray) (D : List UInt8) : Rel (S.append s D).1 (R.append s D).1 ∧ (S.append s D).2 = (R.append s D).2 := by
  obtain ⟨σ, L⟩ := h.like
  obtain ⟨al', e, A⟩ := ds_append h.ri h.arm s D
  obtain ⟨L2, e2⟩ := L.append s D
  rw [e] at L2 e2
  exact ⟨Rel.of (ri_append h.ri s D) A (uq_append h.uq s D) L2, e2.symm⟩
theorem Rel.sync (h : Rel S R) (s : ByteArray) : Rel (S.sync s).1 (R.sync s).1 ∧ (S.sync s).2 = (R.sync s).2 := by
  obtain ⟨σ, L⟩ := h.like
  obtain ⟨al', e, A⟩ := ds_sync h.ri h.arm s
  obtain ⟨L2, e2⟩ := L.sync s
  rw [e] at L2 e2
  exact ⟨Rel.of (ri_sync h.ri s) A (uq_sync h.uq s) L2, e2.symm⟩
theorem Rel.cut (h : Rel S R) (s : ByteArray) (n : Int) : Rel (S.cut s n).1 (R.cut s n).1 ∧ (S.cut s n).2 = (R.cut s n).2 := by
  obtain ⟨σ, L⟩ := h.like
  obtain ⟨al', e, A⟩ := ds_cut h.ri h.arm s n
  obtain ⟨L2, e2⟩ := L.cut s n
  rw [e] at L2 e2
  exact ⟨Rel.of (ri_cut h.ri s n) A (uq_cut h.uq s n) L2, e2.symm⟩
theorem Rel.crash (h : Rel S R) (d : Int) (ks : List Kep) : Rel (S.crash d ks) (R.crash d ks) := by
  obtain ⟨σ, L⟩ := h.like
  have L2 := L.crash d ks
  rw [ds_crash h.ri] at L2
  exact Rel.of (ri_crash h.ri d ks) (arm_none R d ks) (uq_crash h.uq d ks) L2
theorem Alike.armed {σ : Nat → Nat} {S' : DS} (h : Dk.Alike σ S S') (fs : List Ft) : Dk.Alike σ (S.arm fs).1 (S'.arm fs).1 ∧ (S'.arm fs).2 = (S.arm fs).2 := by
  unfold DS.arm
  rw [h.c7]
  by_cases h1 : 64 < fs.length
  · rw [if_pos h1, if_pos h1]; exact ⟨h, rfl⟩
  · rw [if_neg h1, if_neg h1]
    cases armL S.c7 fs [] with
    | none => exact ⟨h, rfl⟩
    | some l => exact ⟨⟨h.most, h.up, rfl, h.c0, h.c1, h.c2, h.c3, h.c4, h.c5, h.c6, rfl, h.c8, h.l2, h.P, h.F, h.inj⟩, rfl⟩
theorem uq_arm (h : S.uq) (fs : List Ft) : (S.arm fs).1.uq := by
  unfold DS.arm
  split
  · exact h
  · split
    · exact h
    · exact h
theorem Rel.armed (h : Rel S R) (fs : List Ft) (h4 : ∀ t ∈ fs, t.2.1 ≠ 4) : Rel (S.arm fs).1 (R.arm fs).1 ∧ (S.arm fs).2 = (R.arm fs).2 := by
  obtain ⟨σ, L⟩ := h.like
  obtain ⟨al', e, A⟩ := ds_arm h.ri h.arm fs
  obtain ⟨L2, e2⟩ := Alike.armed L fs
  rw [e] at L2 e2
  exact ⟨Rel.of (ri_arm h.ri fs h4) A (uq_arm h.uq fs) L2, e2.symm⟩
theorem Alike.back {σ τ : Nat → Nat} {S' S'' : DS} (h1 : Dk.Alike σ S S') (h2 : Dk.Alike τ S S'') : ∃ ρ, Dk.Alike ρ S' S'' := by
  refine ⟨fun x => τ (bk S.ps σ x), ?_⟩
  have hb : ∀ p ∈ S.ps, bk S.ps σ (σ p) = p := fun p hp => bk_mv h1.inj hp
  have hP : ∀ p ∈ S'.ps, ∃ q ∈ S.ps, p = σ q := fun p hp => by rw [h1.ps] at hp; obtain ⟨q, hq, e⟩ := List.mem_map.1 hp; exact ⟨q, hq, e.symm⟩
  refine ⟨by rw [h1.most, h2.most], by rw [h1.up, h2.up], by rw [h1.al, h2.al], by rw [h1.c0, h2.c0], by rw [h1.c1, h2.c1], by rw [h1.c2, h2.c2], by rw [h1.c3, h2.c3], by rw [h1.c4, h2.c4], by rw [h1.c5, h2.c5], by rw [h1.c6, h2.c6], by rw [h1.c7, h2.c7], by rw [h1.c8, h2.c8], ?_, ?_, ?_, ?_⟩
  · rw [h1.l2, h2.l2]
    unfold mvD
    rw [List.map_map]
    refine List.map_congr_left fun e he => ?_
    show (e.1, τ e.2) = (e.1, τ (bk S.ps σ (σ e.2)))
    rw [hb _ (List.mem_append_left _ (List.mem_map.2 ⟨e, he, rfl⟩))]
  · rw [h1.P, h2.P, List.map_map]
    refine List.map_congr_left fun c hc => ?_
    cases c with
    | cr n p =>
      show Ch.cr n (τ p) = Ch.cr n (τ (bk S.ps σ (σ p)))
      rw [hb _ (List.mem_append_right _ (List.mem_filterMap.2 ⟨_, hc, rfl⟩))]
    | rn f t => rfl
    | rm n => rfl
  · intro p hp
    obtain ⟨q, hq, rfl⟩ := hP p hp
    show S''.F (τ (bk S.ps σ (σ q))) = _
    rw [hb q hq, h2.F q hq, h1.F q hq]
  · intro p hp q hq e
    obtain ⟨p', hp', rfl⟩ := hP p hp
    obtain ⟨q', hq', rfl⟩ := hP q hq
    have e : τ (bk S.ps σ (σ p')) = τ (bk S.ps σ (σ q')) := e
    rw [hb p' hp', hb q' hq'] at e
    rw [h2.inj p' hp' q' hq' e]
theorem Alike.uq {σ : Nat → Nat} {S' : DS} (h : Dk.Alike σ S S') (hu : S.uq) : S'.uq := by
  have mem : ∀ e ∈ S'.l2, ∃ e0 ∈ S.l2, e = (e0.1, σ e0.2) := fun e he => by rw [h.l2] at he; unfold mvD at he; obtain ⟨x, hx, q⟩ := List.mem_map.1 he; exact ⟨x, hx, q.symm⟩
  have in2 : ∀ e ∈ S.l2, e.2 ∈ S.ps := fun e he => List.mem_append_left _ (List.mem_map.2 ⟨e, he, rfl⟩)
  have hpt : ptrs S'.P = (ptrs S.P).map σ := by unfold ptrs; rw [h.P, ptrs_mv]
  have inp : ∀ p ∈ ptrs S.P, p ∈ S.ps := fun p hp => List.mem_append_right _ hp
  refine ⟨fun e he e' he' q => ?_, fun e he c => ?_, ?_⟩
  · obtain ⟨x, hx, rfl⟩ := mem e he
    obtain ⟨y, hy, rfl⟩ := mem e' he'
    exact hu.inj x hx y hy (h.inj _ (in2 x hx) _ (in2 y hy) q)
  · obtain ⟨x, hx, rfl⟩ := mem e he
    rw [hpt] at c
    obtain ⟨y, hy, q⟩ := List.mem_map.1 c
    have := h.inj _ (inp y hy) _ (in2 x hx) q
    exact hu.ap x hx (by rw [← this]; exact hy)
  · rw [hpt]
    show List.Pairwise _ _
    rw [List.pairwise_map]
    exact List.Pairwise.imp_of_mem (fun {x y} hx hy q c => q (h.inj x (inp x hx) y (inp y hy) c)) hu.nd
theorem Rel.alike {σ : Nat → Nat} {S' : DS} (h : Rel S R) (L : Dk.Alike σ S S') : Rel S' R := by
  obtain ⟨τ, L2⟩ := h.like
  obtain ⟨ρ, L3⟩ := Alike.back L L2
  exact Rel.of h.ri h.arm (Alike.uq L h.uq) L3
theorem Rel.size (h : Rel S R) (s : ByteArray) : S.size s = R.size s := by obtain ⟨σ, L⟩ := h.like; rw [← ds_size h.ri S.al, L.size]
theorem Rel.read (h : Rel S R) (s : ByteArray) (o n : Int) : S.read s o n = R.read s o n := by obtain ⟨σ, L⟩ := h.like; rw [← ds_read h.ri S.al, L.read]
theorem Rel.tails (h : Rel S R) (n : Int) : S.tails n = R.tails n := by obtain ⟨σ, L⟩ := h.like; rw [← ds_tails h.ri S.al, L.tails]
theorem Rel.files (h : Rel S R) : S.files = R.all := by obtain ⟨σ, L⟩ := h.like; rw [← ds_files h.ri S.al, L.files]
theorem Rel.lasts (h : Rel S R) : S.lasts = R.lasts := by obtain ⟨σ, L⟩ := h.like; rw [← ds_lasts h.ri S.al, L.lasts]
theorem Rel.list (h : Rel S R) : S.list = R.list := by
  obtain ⟨σ, L⟩ := h.like
  rw [← ds_list h.ri S.al]
  unfold DS.list
  rw [L.up, L.dir, nms_mv]
theorem Rel.up (h : Rel S R) : S.up = !R.down := by obtain ⟨σ, L⟩ := h.like; exact L.up.symm
theorem Rel.pend (h : Rel S R) : S.P.length = R.pe.length := by
  obtain ⟨σ, L⟩ := h.like
  have e : (R.ds S.al).P.length = S.P.length := by rw [L.P, List.length_map]
  rw [← e]
  show (R.pe.map RC.ch).length = _
  rw [List.length_map]
theorem Rel.cnts (h : Rel S R) : S.c0 = R.c0 ∧ S.c1 = R.c1 ∧ S.c2 = R.c2 ∧ S.c3 = R.c3 ∧ S.c4 = R.c4 ∧ S.c5 = R.c5 ∧ S.c6 = R.c6 ∧ S.c7 = R.c7 ∧ S.c8 = R.c8 := by
  obtain ⟨σ, L⟩ := h.like
  exact ⟨L.c0.symm, L.c1.symm, L.c2.symm, L.c3.symm, L.c4.symm, L.c5.symm, L.c6.symm, L.c7.symm, L.c8.symm⟩
end Go.Proofs.YtjehpijjneghpaaGreat.Re
namespace Go.Proofs.YtjehpijjneghpaaGreat.Dk
open Go.RowKit Go.Maps Go.Sort Go.Shelf Go.Proofs.YtjehpijjneghpaaGreat.Nm
set_option linter.unusedVariables false
theorem copy_dsk {w : World} {b : Nat} {S : DS} {O : Nat → Prop} (h : DskE w b S O) (hu : S.uq) (hc : S.c7 < 900000000) :
    Calls Tryz.prog 41 #[.pointer (some ⟨b, 0, none⟩)] w fun e w' => ∃ b' σ S' O', e = .returned (.pointer (some ⟨b', 0, none⟩)) ∧ Alike σ S S' ∧ DskE w' b' S' O' ∧ (∀ k, O' k → w.heap.size ≤ k) ∧ Below w.heap.size w w' := by
  obtain ⟨f, g, pd, am, VB, VL, h⟩ := h
  exact copyD_any h hu hc
end Go.Proofs.YtjehpijjneghpaaGreat.Dk
namespace Go.Proofs.YtjehpijjneghpaaGreat
open Go.RowKit
def LentAt (w : World) (g : Nat) (v : Value) (l : List UInt8) : Prop :=
  ∃ cap, v = .slice (some ⟨g, 0, none⟩) l.length cap ∧ w.ownsRow 0 5 1 (.slice (some ⟨g, 0, none⟩) (l.length + 2) cap) (l.length + 2) (bvals (l ++ [171, 172]))
theorem LentAt.sl {w : World} {g : Nat} {v : Value} {l : List UInt8} (h : LentAt w g v l) : Sl w v l := by
  obtain ⟨cap, rfl, ho⟩ := h
  obtain ⟨ao, ca, hv, g2, g3, g4, g5⟩ := Sl.of_owns2 (l := l ++ [171, 172]) ho (by simp)
  simp only [Value.slice.injEq] at hv
  obtain ⟨rfl, _, rfl⟩ := hv
  simp only [List.length_append, List.length_cons, List.length_nil] at g3
  refine ⟨_, _, rfl, fun e => by simp at e, by omega, g4, fun i hi => ?_⟩
  obtain ⟨b, off, e1, hc⟩ := g5 i (by simp; omega)
  exact ⟨b, off, e1, by rw [hc]; simp [List.getElem_append_left hi]⟩
theorem LentAt.below {w w' : World} {g : Nat} {v : Value} {l : List UInt8} (h : LentAt w g v l) (hb : Below w.heap.size w w') : LentAt w' g v l := by
  obtain ⟨cap, e, ho⟩ := h
  exact ⟨cap, e, ownsRow_below ho hb⟩
theorem LentAt.lt {w : World} {g : Nat} {v : Value} {l : List UInt8} (h : LentAt w g v l) : g < w.heap.size := by
  obtain ⟨cap, e, ho⟩ := h
  exact (ho.lt g rfl).2
set_option maxHeartbeats 400000 in
theorem lent_any (w : World) (x : Value) (l : List UInt8) (hx : Sl w x l) (hlen : l.length + 2 ≤ 140737488355328) :
    Calls Tryz.prog 45 #[x] w fun e w' => ∃ g v', e = .returned v' ∧ LentAt w' g v' l ∧ Below w.heap.size w w' ∧ w.heap.size ≤ g := by
  have hx0 := hx
  obtain ⟨ao, ca, rfl, h2, h3, h4, h5⟩ := hx
  clear h2 h5 h4 h3
  go_enter Tryz.func45, Tryz.ntmps45
  go_wp2_with (at_builtin; refine wpList_append_bytes rfl (.const (.slice none 0 0)) (.tmp 4) 30 rfl w.heap.size 5 Tryz.infoU8 Tryz.underlying30 _ _ [] l rfl (World.ownsRow_nil _ _ _ _) rfl hx0 (by simp; omega) (Nat.le_refl _) ?_)
  intro v1 w1 o1 b1
  have hz1 := b1.size
  clear hx0
  go_wp2_with (at_builtin; refine wpList_append_bytes rfl (.tmp 6) (.tmp 7) 30 rfl w.heap.size 5 Tryz.infoU8 Tryz.underlying30 _ _ l [171, 172] rfl (o1.alloc _) rfl (sl_lit w1 [171, 172] 5 (by decide) _ rfl) (by simpa using hlen) (by simp; omega) ?_)
  intro v2 w2 o2 b2
  have b12 : Below w.heap.size w w2 := (b1.alloc hz1 _).trans b2
  have o3 : w2.ownsRow w.heap.size 5 1 v2 (l.length + 2) (bvals (l ++ [171, 172])) := by simpa using o2
  obtain ⟨p1, p2⟩ := id o3
  rcases p2 with ⟨_, hn⟩ | ⟨g, cap, cur, rfl, hg, hh, hn, hm, hs, ht⟩
  · omega
  · have hm' : cap ≤ 9223372036854775807 := by unfold maxLen at hm; omega
    have HO : Hid (w2.ownsRow 0 5 1 (.slice (some ⟨g, 0, none⟩) (l.length + 2) cap) (l.length + 2) (bvals (l ++ [171, 172]))) := ⟨p1, .inr ⟨g, cap, cur, rfl, Nat.zero_le _, hh, hn, hm, hs, ht⟩⟩
    clear o1 o2 o3 p1 hh hs ht b1 b2
    go_wp2
    go_ret
    exact ⟨g, _, rfl, ⟨cap, rfl, HO.out⟩, b12, hg⟩
theorem xor85 (c : UInt8) : ∃ d : UInt8, bits BinOp.xor IntKind.u8 ((c.toNat : Nat) : Int) 85 = ((d.toNat : Nat) : Int) := by
  have h := u8_xor_nat c.toNat 85 c.toNat_lt (by decide)
  have hl : c.toNat ^^^ 85 < 256 := by
    have := Nat.xor_lt_two_pow (n := 8) c.toNat_lt (show 85 < 2 ^ 8 by decide)
    simpa using this
  exact ⟨UInt8.ofNat (c.toNat ^^^ 85), by rw [UInt8.toNat_ofNat_of_lt' hl]; exact h⟩
set_option maxRecDepth 100000 in
set_option maxHeartbeats 1000000 in
theorem back_any (w0 w : World) (g : Nat) (v y : Value) (l : List UInt8) (hb0 : Below w0.heap.size w0 w) (hy : Sl w0 y l) (hv : LentAt w g v l) (hg : w0.heap.size ≤ g) (hlen : l.length ≤ 140737488355328) :
    Calls Tryz.prog 47 #[v, y] w fun e w' => e = .returned (.bool true) ∧ w.grownBy w' (some g) := by
  obtain ⟨cap, rfl, ho⟩ := hv
  obtain ⟨bo, cb, rfl, k2, k3, k4, k5⟩ := hy
  clear k2 k3 k4
  have hcap : l.length + 2 ≤ cap ∧ cap ≤ 9223372036854775807 := by
    obtain ⟨_, p2⟩ := id ho
    rcases p2 with ⟨h, _⟩ | ⟨_, c, _, h, _, _, hn, hm, _⟩
    · simp at h
    · simp only [Value.slice.injEq] at h
      obtain ⟨_, _, rfl⟩ := h
      unfold maxLen at hm
      omega
  obtain ⟨hc1, hc2⟩ := hcap
  have m1 : w.cell? ⟨g, l.length, none⟩ = some (.int .u8 171) := by rw [ho.cellAt l.length (by omega)]; simp [bvals, bval]
  have m2 : w.cell? ⟨g, l.length + 1, none⟩ = some (.int .u8 172) := by rw [ho.cellAt (l.length + 1) (by omega)]; simp [bvals, bval]
  have hn' : (((l.length : Nat) : Int) != ((l.length : Nat) : Int)) = false := by simp
  go_enter Tryz.func47, Tryz.ntmps47
  go_wp2
  clear hn' m1 m2
  go_loopw [5, 6] (fun o i wr => ∃ (k : Nat) (D : List UInt8), k ≤ l.length ∧ o = .bool true ∧ i = .int .i64 k ∧ Hid (D.length = k) ∧ wr.ownsRow 0 5 1 (.slice (some ⟨g, 0, none⟩) (l.length + 2) cap) (l.length + 2) (bvals (D ++ (l ++ [171, 172]).drop k)) ∧ w.grownBy wr (some g)) (fun _ i _ => l.length - (intOf i).toNat)
  case atStart => exact ⟨0, [], Nat.zero_le _, rfl, rfl, rfl, by simpa using ho, Qt.grown (Qt.refl _) _⟩
  case round =>
    clear ho
    obtain ⟨k, D, hk, rfl, rfl, hD, ho, hgr⟩ := hrel
    by_cases hlt : k < l.length
    · obtain ⟨b1, o1, rfl, hb⟩ := k5.at (by omega)
      have d2 := hb k hlt
      have hlt2 := lt_of_cell d2
      have c2 : wr.cell? ⟨b1, o1 + k, none⟩ = some (.int .u8 (l[k].toNat : Int)) := by
        refine hgr.cell (a := ⟨b1, o1 + k, none⟩) ?_ ?_
        · rw [hb0.cell (p := ⟨b1, o1 + k, none⟩) hlt2]; exact d2
        · simp only [ne_eq, Option.some.injEq]; intro e; have : b1 < w0.heap.size := hlt2; omega
      have hdr : (l ++ [171, 172]).drop k = l[k] :: (l ++ [171, 172]).drop (k + 1) := by
        rw [List.drop_eq_getElem_cons (by simp; omega), List.getElem_append_left hlt]
      have c1 : wr.cell? ⟨g, k, none⟩ = some (.int .u8 (l[k].toNat : Int)) := by
        rw [ho.cellAt k (by omega), hdr, bvals_get (by simp [hD.out])]
        simp [hD.out]
      have f1 := ho.frozenAt k
      obtain ⟨x, hx⟩ := xor85 l[k]
      have HX : Hid (bits BinOp.xor IntKind.u8 ((l[k].toNat : Nat) : Int) 85 = ((x.toNat : Nat) : Int)) := hx
      have HO : Hid ((wr.setCell ⟨g, k, none⟩ (bval x)).ownsRow 0 5 1 (.slice (some ⟨g, 0, none⟩) (l.length + 2) cap) (l.length + 2) (bvals ((D ++ [x]) ++ (l ++ [171, 172]).drop (k + 1)))) := by
        have h := (ho.stored k (bval x)).1
        rw [hdr] at h
        have e : (bvals (D ++ l[k] :: (l ++ [171, 172]).drop (k + 1))).set k (bval x) = bvals ((D ++ [x]) ++ (l ++ [171, 172]).drop (k + 1)) := by
          rw [bvals_append, List.set_append_right _ _ (by rw [bvals_length, hD.out]; omega), bvals_length, hD.out, Nat.sub_self]
          simp [bvals]
        rw [e] at h
        exact h
      have HG : Hid (w.grownBy (wr.setCell ⟨g, k, none⟩ (bval x)) (some g)) := grown_trans hgr (grown_setCell wr g k (bval x))
      generalize l[k] = c at *
      clear hx hb d2 hdr ho hgr
      go_wp2
      go_quiet (fail)
      go_wp2
      go_roundw
      case rel =>
        rw [HX.out]
        exact ⟨k + 1, D ++ [x], by omega, rfl, by go_num, by show _ = _; simp [hD.out], HO.out, grown_trans HG.out (Qt.grown ⟨_, rfl⟩ _)⟩
      case measure => simp [intOf]; omega
    · go_wp2
      go_ret
      exact ⟨rfl, hgr⟩
end Go.Proofs.YtjehpijjneghpaaGreat
