/-
  Lists of segments of a call's own; their copies; which go, and their Nums.
-/
import Derived.Test.YtdhjlongdfgejaaCtD
import Derived.Test.YtdhjlongdfgejaaLent
namespace Go.Proofs.Ytdhjlongdfgejaa.Ct
open Go.RowKit

theorem infoSeg : (Try.prog.info? 53).map (fun i => (i.zero, i.size, i.bytes)) = some (some (.agg #[.int .i64 0, .int .i64 0, .int .u32 0, .int .i64 0, .int .i64 0]), 5, 40) := by kernel_rfl
theorem infoI64 : (Try.prog.info? 2).map (fun i => (i.zero, i.size, i.bytes)) = some (some (.int .i64 0), 1, 8) := by kernel_rfl
theorem scells_len (l : List Sg) : (scells l).length = l.length * 5 := by
  induction l with
  | nil => rfl
  | cons s r ih =>
    have : scells (s :: r) = scell s ++ scells r := by simp [scells]
    rw [this, List.length_append, ih]
    simp [scell]; omega
theorem scells_append (l m : List Sg) : scells (l ++ m) = scells l ++ scells m := by simp [scells]
theorem scells_get (l : List Sg) : ∀ i (_ : i < l.length), ∀ j, j < 5 → (scells l)[i * 5 + j]? = (scell (sg l i))[j]? := by
  induction l with
  | nil => intro i h; simp at h
  | cons s r ih =>
    intro i h j hj
    have e : scells (s :: r) = scell s ++ scells r := by simp [scells]
    have h5 : (scell s).length = 5 := rfl
    match i with
    | 0 => rw [e, Nat.zero_mul, Nat.zero_add, List.getElem?_append_left (by omega)]; rfl
    | i + 1 =>
      rw [e, List.getElem?_append_right (by omega), h5, show (i + 1) * 5 + j - 5 = i * 5 + j by omega, ih i (by simpa using h) j hj]
      rfl
theorem scells_one (l : List Sg) : ∀ u ∈ scells l, u.oneCell' = true := by
  intro u hu
  simp only [scells, List.mem_flatMap] at hu
  obtain ⟨e, _, hu⟩ := hu
  simp [scell] at hu
  rcases hu with rfl | rfl | rfl | rfl | rfl <;> rfl
/-- The segments l as a list v of the call's own, from block B on. -/
def Own (B : Nat) (w : World) (v : Value) (l : List Sg) : Prop := AIn l ∧ w.ownsRow B 53 5 v l.length (scells l)
theorem Own.nil (B : Nat) (w : World) : Own B w (.slice none 0 0) [] := ⟨fun s hs => by simp at hs, World.ownsRow_nil _ _ _ _⟩
theorem Own.low {B B' : Nat} {w : World} {v : Value} {l : List Sg} (h : Own B w v l) (hb : B' ≤ B) : Own B' w v l := by
  refine ⟨h.1, h.2.1, ?_⟩
  rcases h.2.2 with h | ⟨g, cap, cur, rfl, hg, r⟩
  · exact .inl h
  · exact .inr ⟨g, cap, cur, rfl, Nat.le_trans hb hg, r⟩
theorem Own.but {X : Nat → Prop} {B : Nat} {w w' : World} {v : Value} {l : List Sg} (h : Own B w v l) (hb : But X w w') (hx : ∀ k, v.ownBlock = some k → ¬ X k) : Own B w' v l := by
  refine ⟨h.1, h.2.1, ?_⟩
  rcases h.2.2 with h | ⟨g, cap, cur, rfl, hg, hh, r⟩
  · exact .inl h
  · exact .inr ⟨g, cap, cur, rfl, hg, hb.at hh (hx g rfl), r⟩
theorem Own.below {B : Nat} {w w' : World} {v : Value} {l : List Sg} (h : Own B w v l) (hb : Below w.heap.size w w') : Own B w' v l := h.but (But.of_below hb fun _ => False) fun _ _ c => c
theorem Own.form {B : Nat} {w : World} {v : Value} {l : List Sg} (h : Own B w v l) : ∃ ao ca, v = .slice ao l.length ca ∧ l.length ≤ ca ∧ ca ≤ 9223372036854775807 := by
  rcases h.2.2 with ⟨rfl, e⟩ | ⟨g, cap, cur, rfl, _, _, a, b, _⟩
  · exact ⟨_, _, by rw [e], by omega, by omega⟩
  · exact ⟨_, _, rfl, a, by unfold maxLen at b; omega⟩
theorem Own.sgs {B : Nat} {w : World} {v : Value} {l : List Sg} (h : Own B w v l) : Sgs w v l := by
  refine ⟨h.1, ?_⟩
  rcases h.2.2 with ⟨rfl, e⟩ | ⟨g, cap, cur, rfl, _, hh, a, b, c, d⟩
  · exact ⟨none, 0, by rw [e], fun _ => ⟨List.length_eq_zero_iff.1 e, rfl⟩, by omega, Nat.zero_le _, fun i hi => by omega⟩
  · refine ⟨_, cap, rfl, fun e => by simp at e, a, b, fun i hi => ⟨g, 0, rfl, ?_⟩⟩
    have hc : ∀ j, j < 5 → w.cell? ⟨g, i * 5 + j, none⟩ = (scell (sg l i))[j]? := by
      intro j hj
      rw [← scells_get l i hi j hj, ← d, List.getElem?_take_of_lt (by omega)]
      simp [World.cell?, hh]
    rw [Nat.zero_add]
    exact ⟨by rw [← Nat.add_zero (i * 5), hc 0 (by omega)]; rfl, by rw [hc 1 (by omega)]; rfl, by rw [hc 2 (by omega)]; rfl, by rw [hc 3 (by omega)]; rfl, by rw [hc 4 (by omega)]; rfl⟩
theorem Own.no {B : Nat} {w : World} {v : Value} {l : List Sg} {b : Nat} {cs : Array Value} {T : TypeId} {fz : Nat × Nat} (h : Own B w v l) (hb : w.heap[b]? = some (.cells cs T fz)) (hT : T ≠ 53) : v.ownBlock ≠ some b := fun e1 => by
  rcases h.2.2 with ⟨rfl, _⟩ | ⟨g, cap, cur, rfl, hg, hh, r⟩
  · simp [Value.ownBlock] at e1
  · simp [Value.ownBlock] at e1
    subst e1
    rw [hb] at hh
    simp at hh
    exact hT hh.2.1
theorem Own.lt {B : Nat} {w : World} {v : Value} {l : List Sg} (h : Own B w v l) : ∀ k, v.ownBlock = some k → B ≤ k ∧ k < w.heap.size := fun k hk => World.ownsRow.lt h.2 k hk
/-- The cells of a list, one by one. -/
theorem Sgs.news {w : World} {ad : Addr} {n ca : Nat} {l : List Sg} (h : Sgs w (.slice (some ad) n ca) l) : ∀ j u, (scells l)[j]? = some u → w.cell? (ad.add j) = some u := by
  intro j u hu
  have hj : j < l.length * 5 := by
    have := (List.getElem?_eq_some_iff.1 hu).1
    rw [scells_len] at this
    exact this
  obtain ⟨_, ao, cap, e, _, _, _, h5⟩ := h
  simp only [Value.slice.injEq] at e
  obtain ⟨rfl, _, _⟩ := e
  obtain ⟨b, off, e, g0, g1, g2, g3, g4⟩ := h5 (j / 5) (by omega)
  simp only [Option.some.injEq] at e
  subst e
  rw [addr_add]
  have hd : j / 5 * 5 + j % 5 = j := by omega
  rw [← hd, scells_get l (j / 5) (by omega) (j % 5) (by omega)] at hu
  have hm : j % 5 < 5 := by omega
  rw [← hd, ← Nat.add_assoc]
  generalize j % 5 = r at *
  match r, hm with
  | 0, _ => simp only [scell, List.getElem?_cons_zero, Option.some.injEq] at hu; subst hu; exact g0
  | 1, _ => simp only [scell, List.getElem?_cons_succ, List.getElem?_cons_zero, Option.some.injEq] at hu; subst hu; exact g1
  | 2, _ => simp only [scell, List.getElem?_cons_succ, List.getElem?_cons_zero, Option.some.injEq] at hu; subst hu; exact g2
  | 3, _ => simp only [scell, List.getElem?_cons_succ, List.getElem?_cons_zero, Option.some.injEq] at hu; subst hu; exact g3
  | 4, _ => simp only [scell, List.getElem?_cons_succ, List.getElem?_cons_zero, Option.some.injEq] at hu; subst hu; exact g4
theorem sg_take {l : List Sg} {k i : Nat} (h : i < k) : sg (l.take k) i = sg l i := by
  unfold sg
  rw [List.getD_eq_getElem?_getD, List.getD_eq_getElem?_getD, List.getElem?_take_of_lt h]
theorem sg_drop (l : List Sg) (k i : Nat) : sg (l.drop k) i = sg l (k + i) := by
  unfold sg
  rw [List.getD_eq_getElem?_getD, List.getD_eq_getElem?_getD, List.getElem?_drop]
theorem AIn.take {l : List Sg} (h : AIn l) (k : Nat) : AIn (l.take k) := fun s hs => h s (List.mem_of_mem_take hs)
theorem AIn.drop {l : List Sg} (h : AIn l) (k : Nat) : AIn (l.drop k) := fun s hs => h s (List.mem_of_mem_drop hs)
theorem Sgs.take {w : World} {ao : Option Addr} {n ca : Nat} {l : List Sg} (h : Sgs w (.slice ao n ca) l) (k : Nat) (hk : k ≤ l.length) : Sgs w (.slice ao k ca) (l.take k) := by
  obtain ⟨h0, ao', cap, e, h2, h3, h4, h5⟩ := h
  simp only [Value.slice.injEq] at e
  obtain ⟨rfl, _, rfl⟩ := e
  have hl : (l.take k).length = k := by simp; omega
  refine ⟨h0.take k, ao, ca, by rw [hl], fun e => ?_, by omega, h4, fun i hi => ?_⟩
  · obtain ⟨rfl, r⟩ := h2 e; exact ⟨by simp, r⟩
  · obtain ⟨b, off, e1, g⟩ := h5 i (by omega)
    rw [sg_take (by omega)]
    exact ⟨b, off, e1, g⟩
theorem Sgs.drop {w : World} {b off n ca : Nat} {l : List Sg} (h : Sgs w (.slice (some ⟨b, off, none⟩) n ca) l) (k : Nat) (hk : k < l.length) : Sgs w (.slice (some ⟨b, off + k * 5, none⟩) (n - k) (ca - k)) (l.drop k) := by
  obtain ⟨h0, ao', cap, e, h2, h3, h4, h5⟩ := h
  simp only [Value.slice.injEq] at e
  obtain ⟨rfl, rfl, rfl⟩ := e
  have hl : (l.drop k).length = l.length - k := List.length_drop
  refine ⟨h0.drop k, _, ca - k, by rw [hl], fun e => by simp at e, by omega, by unfold maxLen at *; omega, fun i hi => ?_⟩
  obtain ⟨b', off', e1, g⟩ := h5 (k + i) (by omega)
  simp only [Option.some.injEq, Addr.mk.injEq, and_true] at e1
  obtain ⟨rfl, rfl⟩ := e1
  rw [sg_drop]
  exact ⟨b, off + k * 5, rfl, by rw [show off + k * 5 + i * 5 = off + (k + i) * 5 by omega]; exact g⟩
set_option maxHeartbeats 1000000 in
theorem clone_any (w : World) (v : Value) (l : List Sg) (hv : Sgs w v l) (hl : l.length ≤ 100) :
    Calls Try.prog 37 #[v] w fun e w' => ∃ v', e = .returned v' ∧ Own w.heap.size w' v' l ∧ Below w.heap.size w w' := by
  have he := fun (u : World) (ao : Option Addr) (n c n' c' : Nat) => Lib.run_eql_slice_nil (P := Try.prog) u 27 53 ao n c n' c' Try.underlying27
  obtain ⟨ao, ca, rfl, q1, q2⟩ := hv.form
  cases ao with
  | none =>
    obtain ⟨_, ao', ca', e, h2, _⟩ := hv
    simp only [Value.slice.injEq] at e
    obtain ⟨rfl, _, rfl⟩ := e
    obtain ⟨rfl, rfl⟩ := h2 rfl
    simp only [List.length_nil]
    go_enter Try.func37, Try.ntmps37
    go_wp2_with fail
    go_ret
    exact ⟨_, rfl, Own.nil _ _, Below.refl _ _⟩
  | some ad =>
    have HN := hide (fun o => (hv.below (box_below w o)).news)
    obtain ⟨i0, hi, hz0, hz1, hz2⟩ := info_parts infoSeg
    have OWN := hide (World.ownsRow_made (base := w.heap.size) (e := 53) (size := 5) w #[] 0 (Nat.le_refl _) (Nat.zero_le _) rfl)
    have hcl := hide (scells_len l)
    have hA := hide hv.1
    obtain ⟨N, hN⟩ : ∃ N, Hid (l.length = N) := ⟨_, rfl⟩
    rw [hN.out] at hcl hl ⊢
    clear hv
    go_enter Try.func37, Try.ntmps37
    go_wp2_with (at_builtin; refine wpList_append_own_at _ rfl (.tmp 5) (.tmp 6) 27 rfl w.heap.size 53 i0 (.agg #[.int .i64 0, .int .i64 0, .int .u32 0, .int .i64 0, .int .i64 0]) 5 40 Try.underlying27 hi hz0 hz1 hz2 rfl (by decide) _ 0 [] rfl OWN.out ad N ca (scells l) rfl hcl.out (HN.out _) (scells_one l) (by unfold maxLen; omega) (by omega) (by simp) ?_; intro v' w1 hown' hgrow hnil hat; rw [List.nil_append, Nat.zero_add] at hown'; replace hown' := hide hown'; have hgr := hide hgrow; clear hgrow hnil hat)
    go_ret
    refine ⟨_, rfl, ⟨hA.out, by rw [hN.out]; exact hown'.out⟩, ?_⟩
    exact Below.grown (box_below w _) hgr.out (by simp) (fun k hk => by cases hk; exact Nat.le_refl _)
#print axioms clone_any
set_option maxHeartbeats 1000000 in
theorem below_any (w : World) (v : Value) (g fi : Int) (l : List Sg) (n : Int) (k : Nat) (hv : Sgs w v l) (hm : May g fi l) (hk : IsCut l n k) :
    Calls Try.prog 39 #[v, .int .i64 n] w fun e w' => e = .returned (.int .i64 (k : Int)) ∧ Below w.heap.size w w' := by
  obtain ⟨N, hN⟩ : ∃ N, Hid (l.length = N) := ⟨_, rfl⟩
  obtain ⟨b, off, ca, rfl, q1, q2, hc⟩ := hv.at hm.n1
  have HC := hide hc
  have HK := hide hk
  have hkN := hk.lt
  have hn2 := hm.n2
  rw [hN.out] at HC q1 hkN hn2 ⊢
  clear hv hm hc hk
  go_enter Try.func39, Try.ntmps39
  go_wp2_with fail
  go_loopw [5] (fun vi wr => ∃ i : Nat, i ≤ k ∧ vi = .int .i64 (i : Int) ∧ Hid (Below w.heap.size w wr)) (fun vi _ => k - (intOf vi).toNat)
  case atStart => exact ⟨0, Nat.zero_le _, rfl, Below.refl _ _⟩
  case round =>
    obtain ⟨i, hi, rfl, hW⟩ := hrel
    obtain ⟨k0, k1, k2, k3, k4⟩ := (HC.out i (by omega)).below hW.out
    have hlt : (i : Int) < (N : Int) := by omega
    have CALL := hide (fun u => sealed_any u (sg l i))
    have S1 := hide ((HC.out i (by omega)).below hW.out)
    have hs1 : Hid (i < k → sldF (sg l i) ∧ (sg l i).en ≤ n) := HK.out.be i
    have hs2 : Hid (i = k → ¬ (sldF (sg l i) ∧ (sg l i).en ≤ n)) := fun e => by rw [e]; exact HK.out.no
    generalize sg l i = s at *
    obtain ⟨nm, ba, se, en, sz⟩ := s
    dsimp only at k0 k1 k2 k3 k4 CALL
    go_wp2_with fail
    refine (CALL.out _).mono ?_
    rintro e w1 ⟨⟨rfl, h⟩ | ⟨rfl, h⟩, b1⟩
    · obtain ⟨j0, j1, j2, j3, j4⟩ := S1.out.below b1
      have B1 := hide (keepF hW.out b1)
      clear b1 k0 k1 k2 k3 k4 CALL
      dsimp only at j3
      by_cases he : en ≤ n
      · have hik : i < k := Nat.lt_of_le_of_ne hi fun e => hs2.out e ⟨h, he⟩
        go_wp2_with fail
        go_roundw
        case rel => exact ⟨i + 1, by omega, by go_num, B1⟩
        case measure => simp [intOf]; omega
      · obtain rfl : i = k := Nat.le_antisymm hi (Nat.not_lt.1 fun c => he (hs1.out c).2)
        go_wp2_with fail
        go_ret
        exact ⟨rfl, B1.out⟩
    · obtain rfl : i = k := Nat.le_antisymm hi (Nat.not_lt.1 fun c => h (hs1.out c).1)
      have B1 := hide (keepF hW.out b1)
      clear b1 k0 k1 k2 k3 k4 CALL
      go_wp2_with fail
      go_ret
      exact ⟨rfl, B1.out⟩
#print axioms below_any
end Go.Proofs.Ytdhjlongdfgejaa.Ct
