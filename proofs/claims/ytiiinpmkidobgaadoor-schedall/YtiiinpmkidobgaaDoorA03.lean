/-
  Who goes next.
-/
import Derived.Test.YtiiinpmkidobgaaDoorA02
import Derived.Test.YtiiinpmkidobgaaDoorA01
import Derived.Deep.CutBlock
namespace Go.Proofs.YtiiinpmkidobgaaDoor.Sd
open Go.RowKit
set_option linter.unusedVariables false
set_option linter.unusedSimpArgs false
set_option maxRecDepth 100000
/-- Where the first stands that is above a number; the list's length where none does. -/
def ixA : List Int → Int → Nat
  | [], _ => 0
  | x :: r, y => if y < x then 0 else ixA r y + 1
theorem ixA_le (l : List Int) (y : Int) : ixA l y ≤ l.length := by
  induction l with
  | nil => exact Nat.le_refl _
  | cons b r ih => unfold ixA; split <;> simp <;> omega
theorem ixA_low (l : List Int) (y : Int) : ∀ j x, j < ixA l y → l[j]? = some x → ¬ y < x := by
  induction l with
  | nil => intro j x hj; simp [ixA] at hj
  | cons b r ih =>
    intro j x hj hx
    unfold ixA at hj
    split at hj
    · omega
    · match j with
      | 0 => simp at hx; subst hx; assumption
      | j + 1 => exact ih j x (by omega) (by simpa using hx)
theorem ixA_at (l : List Int) (y x : Int) (h : l[ixA l y]? = some x) : y < x := by
  induction l with
  | nil => simp [ixA] at h
  | cons b r ih =>
    unfold ixA at h
    split at h
    · simp at h; subst h; assumption
    · exact ih (by simpa using h)
theorem above_any (w : World) (x y : Int) (kb : Nat) (h : w.cell? ⟨kb, 0, none⟩ = some (.int .i64 y)) : Calls Tryd.prog 43 #[.int .i64 x, .pointer (some ⟨kb, 0, none⟩)] w fun e w' => e = .returned (.bool (decide (y < x))) ∧ w' = w := by
  go_enter Tryd.func43, Tryd.ntmps43
  go_wp2_with fail
  go_ret
  exact ⟨rfl, rfl⟩
def ixF (l : List Int) (y : Int) : Int := if ixA l y < l.length then (ixA l y : Int) else -1
set_option maxHeartbeats 1000000 in
theorem ixf_any (w : World) (B : Nat) (v : Value) (l : List Int) (kb : Nat) (y : Int) (hv : Nms B w v l) (hl : l.length ≤ 1000) (hk : w.cell? ⟨kb, 0, none⟩ = some (.int .i64 y)) : Calls Tryd.prog 42 #[v, .func (.func 43) #[] #[.pointer (some ⟨kb, 0, none⟩)]] w fun e w' => e = .returned (.int .i64 (ixF l y)) ∧ w' = w := by
  obtain ⟨ao, ca, rfl, k1, k2⟩ := hv.form
  have HLo := hide (ixA_low l y)
  have HAt := hide (ixA_at l y)
  have hcl := ixA_le l y
  unfold ixF
  obtain ⟨C, hC⟩ : ∃ C, Hid (ixA l y = C) := ⟨_, rfl⟩
  obtain ⟨N, hN⟩ : ∃ N, Hid (l.length = N) := ⟨_, rfl⟩
  rw [hC.out] at HLo HAt hcl ⊢
  rw [hN.out] at hcl hl k1 ⊢
  have HK := hide hk
  have K2 := hide k2
  clear hv k2
  go_enter Tryd.func42, Tryd.ntmps42
  go_wp2_with fail
  go_loopw [8] (fun s wr => ∃ j : Nat, s = .int .i64 (j : Int) ∧ j ≤ C ∧ wr = w) (fun s wr => N - (intOf s).toNat)
  case atStart => exact ⟨0, rfl, Nat.zero_le _, rfl⟩
  case round =>
    obtain ⟨j, rfl, hj, hw⟩ := hrel
    rw [hw]
    by_cases hlt : j < N
    · have i1 : (j : Int) < (N : Int) := by omega
      have i2 : (j : Int) < (ca : Int) := by omega
      obtain ⟨x, hx⟩ : ∃ x, l[j]? = some x := ⟨_, List.getElem?_eq_getElem (by rw [hN.out]; exact hlt)⟩
      obtain ⟨g, rfl, r0⟩ := K2.out j x hx
      have AB := hide (above_any w x y kb HK.out)
      by_cases hjc : j < C
      · have hno := HLo.out j x hjc hx
        have d0 : decide (y < x) = false := decide_eq_false (by omega)
        rw [d0] at AB
        replace hx := hide hx
        go_wp2_with (go_at_call 43; refine AB.out.mono ?_; rintro e w2 ⟨rfl, hw2⟩; rw [hw2]; clear hw2 w2)
        go_roundw
        case rel => exact ⟨j + 1, by go_num, hjc, trivial⟩
        case measure => simp only [intOf]; omega
      · obtain rfl : j = C := by omega
        have hyes := HAt.out x hx
        have d0 : decide (y < x) = true := decide_eq_true hyes
        rw [d0] at AB
        replace hx := hide hx
        have hjN : Hid (j < N) := hlt
        go_wp2_with (go_at_call 43; refine AB.out.mono ?_; rintro e w2 ⟨rfl, hw2⟩; rw [hw2]; clear hw2 w2)
        go_ret
        exact ⟨rfl, rfl⟩
    · have i1 : ¬ (j : Int) < (N : Int) := by omega
      have hCN : Hid (¬ C < N) := by show ¬ _; omega
      go_wp2_with fail
      go_ret
      exact ⟨rfl, rfl⟩
def lastS (S : St) : Int := match S.tr.getLast? with
  | some x => (x.1 : Int)
  | none => -1
/-- Whose turn it is, of those that are ready. -/
def pickN (L : List Nat) (made : Nat) (picks : List Int) (last : Int) : Nat := match picks[made]? with
  | some k => L.getD (k.toNat % L.length) 0
  | none => L.getD (if ixA (ns L) last < L.length then ixA (ns L) last else 0) 0
theorem ns_len (L : List Nat) : (ns L).length = L.length := by unfold ns; rw [List.length_map]
theorem ns_get (L : List Nat) {j : Nat} (h : j < L.length) : (ns L)[j]? = some ((L.getD j 0 : Nat) : Int) := by
  unfold ns
  rw [List.getElem?_map, List.getElem?_eq_getElem h, List.getD_eq_getElem?_getD, List.getElem?_eq_getElem h]
  rfl
theorem turns_form {B : Nat} {w : World} {v : Value} {l : List (Nat × Nat)} (h : w.ownsRow B 39 2 v l.length (tcells l)) : ∃ ao ca, v = .slice ao l.length ca ∧ l.length ≤ ca ∧ ca ≤ 9223372036854775807 ∧ ∀ i x, l[i]? = some x → ∃ g, ao = some ⟨g, 0, none⟩ ∧ w.cell? ⟨g, i * 2, none⟩ = some (.int .i64 (x.1 : Int)) ∧ w.cell? ⟨g, i * 2 + 1, none⟩ = some (.int .i64 (x.2 : Int)) := by
  have tc : ∀ (l : List (Nat × Nat)) (i : Nat) (x : Nat × Nat), l[i]? = some x → (tcells l)[i * 2]? = some (.int .i64 (x.1 : Int)) ∧ (tcells l)[i * 2 + 1]? = some (.int .i64 (x.2 : Int)) := by
    intro l
    induction l with
    | nil => intro i x hx; simp at hx
    | cons a r ih =>
      intro i x hx
      match i with
      | 0 => simp at hx; subst hx; exact ⟨rfl, rfl⟩
      | i + 1 =>
        have := ih i x (by simpa using hx)
        rw [show (i + 1) * 2 = i * 2 + 1 + 1 by omega]
        exact this
  rcases h.2 with ⟨e, hz⟩ | ⟨g, cap, cur, rfl, hg, h1, h2, h3, h4, h5⟩
  · refine ⟨none, 0, by rw [hz]; exact e, by omega, by omega, fun i x hi => ?_⟩
    rw [List.length_eq_zero_iff.1 hz] at hi
    simp at hi
  · refine ⟨_, cap, rfl, h2, by unfold maxLen at h3; exact h3, fun i x hi => ⟨g, rfl, ?_⟩⟩
    have hil := (List.getElem?_eq_some_iff.1 hi).1
    obtain ⟨t1, t2⟩ := tc l i x hi
    rw [← h5, List.getElem?_take_of_lt (by omega)] at t1 t2
    rw [cell_of h1, cell_of h1, ← Array.getElem?_toList, ← Array.getElem?_toList]
    exact ⟨t1, t2⟩
set_option maxHeartbeats 4000000 in
theorem choose_any (w0 w : World) (us : List Value) (rb : Nat) (X : V) (S : St) (h : At w0 us w rb X S) (ok : Ok S) (B : Nat) (v vp : Value) (L : List Nat) (picks : List Int) (hv : Nms B w v (ns L)) (hL : 0 < L.length) (hL2 : L.length ≤ 16) (hp : Row w vp (picks.map (Value.int .i64))) (hp0 : ∀ k ∈ picks, 0 ≤ k ∧ k ≤ 9223372036854775807) :
    Calls Tryd.prog 38 #[.pointer (some ⟨rb, 0, none⟩), v, vp] w fun e w' => e = .returned (.int .i64 ((pickN L S.tr.length picks (lastS S) : Nat) : Int)) ∧ Below w.heap.size w w' := by
  obtain ⟨ao, ca, e, k1, k2⟩ := hv.form
  rw [ns_len] at e k1
  obtain ⟨ap, cp, e2, p1, p2, p3, p4⟩ := hp
  rw [List.length_map] at e2 p2
  have htr := ok.tr
  obtain ⟨ta, tc, te, t1, t2, t3⟩ := turns_form h.tr
  obtain ⟨-, -, r2⟩ := h.rcell
  rw [te] at r2
  obtain ⟨T, hT⟩ : ∃ T, Hid (S.tr.length = T) := ⟨_, rfl⟩
  rw [hT.out] at r2 t1 htr ⊢
  obtain ⟨N, hN⟩ : ∃ N, Hid (L.length = N) := ⟨_, rfl⟩
  rw [hN.out] at e hL hL2 k1
  obtain ⟨Q, hQ⟩ : ∃ Q, Hid (picks.length = Q) := ⟨_, rfl⟩
  rw [hQ.out] at e2 p2
  have hNp : (0 : Int) < (N : Int) := by omega
  have hn0 : ((N : Int) == 0) = false := by simp; omega
  have gt : ∀ j, j < N → ∃ g, ao = some ⟨g, 0, none⟩ ∧ w.cell? ⟨g, j, none⟩ = some (.int .i64 ((L.getD j 0 : Nat) : Int)) := fun j hj => k2 j _ (ns_get L (by rw [hN.out]; exact hj))
  by_cases hm : T < Q
  · obtain ⟨k, hk⟩ : ∃ k, picks[T]? = some k := ⟨_, List.getElem?_eq_getElem (by rw [hQ.out]; exact hm)⟩
    obtain ⟨kn, rfl⟩ := nat_of (hp0 k (List.mem_of_getElem? hk)).1
    have hkm := (hp0 _ (List.mem_of_getElem? hk)).2
    obtain ⟨pb, po, rfl, pc⟩ := p4 T (by rw [List.length_map, hQ.out]; exact hm)
    have pc' : w.cell? ⟨pb, po + T, none⟩ = some (.int .i64 (kn : Int)) := by
      rw [pc]
      congr 1
      have : (picks.map (Value.int .i64))[T]? = some (.int .i64 (kn : Int)) := by rw [List.getElem?_map, hk]; rfl
      exact (List.getElem?_eq_some_iff.1 this).2
    have EP : Hid (pickN L T picks (lastS S) = L.getD (kn % N) 0) := by show _ = _; unfold pickN; rw [hk]; simp only [Int.toNat_natCast]; rw [hN.out]
    obtain ⟨g, rfl, gc⟩ := gt (kn % N) (Nat.mod_lt _ hL)
    rw [EP.out]
    have m1 : (T : Int) < (Q : Int) := by omega
    have hmod : Int.tmod (kn : Int) (N : Int) = ((kn % N : Nat) : Int) := by rw [Int.tmod_eq_emod_of_nonneg (by omega)]; rfl
    obtain ⟨md, hmd⟩ : ∃ md, Hid (kn % N = md) := ⟨_, rfl⟩
    have hml : (md : Int) < (N : Int) := by rw [← hmd.out]; exact_mod_cast Nat.mod_lt _ hL
    rw [hmd.out] at hmod gc ⊢
    have em : wrap64 (Int.tmod (kn : Int) (N : Int)) = (md : Int) := by rw [hmod]; unfold wrap64; omega
    subst e e2
    clear hp0 p4 pc k2 gt t3 hv h ok te EP
    go_enter Tryd.func38, Tryd.ntmps38
    go_wp2_with fail
    go_ret
    exact ⟨rfl, Below.refl _ _⟩
  · have m1 : ¬ (T : Int) < (Q : Int) := by omega
    have hk : picks[T]? = none := List.getElem?_eq_none_iff.2 (by rw [hQ.out]; omega)
    have EP : Hid (pickN L T picks (lastS S) = L.getD (if ixA (ns L) (lastS S) < N then ixA (ns L) (lastS S) else 0) 0) := by show _ = _; unfold pickN; rw [hk]; simp only; rw [hN.out]
    rw [EP.out]
    have B1 := box_below w (.cells #[.int .i64 (lastS S)] 3)
    have C1 : (w.alloc (.cells #[.int .i64 (lastS S)] 3)).cell? ⟨w.heap.size, 0, none⟩ = some (.int .i64 (lastS S)) := by rw [cell_of (heap_alloc_new w _)]; rfl
    have IX := hide (ixf_any _ B v (ns L) w.heap.size (lastS S) (hv.below B1) (by rw [ns_len, hN.out]; omega) C1)
    unfold ixF at IX
    rw [ns_len, hN.out] at IX
    obtain ⟨ix, hix⟩ : ∃ ix, Hid ((if ixA (ns L) (lastS S) < N then ixA (ns L) (lastS S) else 0) = ix) := ⟨_, rfl⟩
    have hixN : ix < N := by rw [← hix.out]; split; assumption; exact hL
    obtain ⟨mx, hmx⟩ : ∃ mx : Int, Hid ((if ixA (ns L) (lastS S) < N then (ixA (ns L) (lastS S) : Int) else -1) = mx) := ⟨_, rfl⟩
    have hmax : (mx = (ix : Int) ∨ (mx = -1 ∧ ix = 0)) := by
      rw [← hmx.out, ← hix.out]
      split
      · exact .inl rfl
      · exact .inr ⟨rfl, rfl⟩
    rw [hmx.out] at IX
    rw [hix.out]
    obtain ⟨g, rfl, gc⟩ := gt ix hixN
    have gc' := alloc_cell (.cells #[.int .i64 (lastS S)] 3) gc
    have hi1 : (ix : Int) < (N : Int) := by omega
    have BW := hide B1
    by_cases hz : T = 0
    · have hl : lastS S = -1 := by unfold lastS; rw [List.length_eq_zero_iff.1 (hT.out.trans hz)]; rfl
      rw [hl] at IX gc' BW
      subst hz
      subst e e2
      clear hp0 p4 k2 gt t3 hv h ok te EP B1 C1 hk
      rcases hmax with rfl | ⟨rfl, rfl⟩
      · go_enter Tryd.func38, Tryd.ntmps38
        go_wp2_with (go_at_call 42; refine IX.out.mono ?_; rintro e w2 ⟨rfl, hw2⟩; rw [hw2]; clear hw2 w2)
        go_ret
        exact ⟨rfl, BW.out⟩
      · go_enter Tryd.func38, Tryd.ntmps38
        go_wp2_with (go_at_call 42; refine IX.out.mono ?_; rintro e w2 ⟨rfl, hw2⟩; rw [hw2]; clear hw2 w2)
        go_ret
        exact ⟨rfl, BW.out⟩
    · have z1 : (0 : Int) < (T : Int) := by omega
      obtain ⟨y, hy⟩ : ∃ y, S.tr[T - 1]? = some y := ⟨_, List.getElem?_eq_getElem (by rw [hT.out]; omega)⟩
      have hl : lastS S = (y.1 : Int) := by unfold lastS; rw [List.getLast?_eq_getElem?, hT.out, hy]
      obtain ⟨tg, rfl, tc1, -⟩ := t3 (T - 1) y hy
      have et : wrap64 ((T : Int) - 1) = ((T - 1 : Nat) : Int) := by unfold wrap64; omega
      obtain ⟨T1, hT1⟩ : ∃ T1, Hid (T - 1 = T1) := ⟨_, rfl⟩
      rw [hT1.out] at et tc1
      have hT2 : (T1 : Int) < (T : Int) := by rw [← hT1.out]; omega
      have tc' := alloc_cell (.cells #[.int .i64 (-1)] 3) tc1
      have r2' := alloc_cell (.cells #[.int .i64 (-1)] 3) r2
      have hsub : (T : Int) - 1 = (T1 : Int) := by rw [← hT1.out]; omega
      rw [hl] at IX gc' BW
      subst e e2
      clear hp0 p4 k2 gt t3 hv h ok te EP B1 C1 hk hy hl
      rcases hmax with rfl | ⟨rfl, rfl⟩
      · go_enter Tryd.func38, Tryd.ntmps38
        go_wp2_with (go_at_call 42; refine IX.out.mono ?_; rintro e w2 ⟨rfl, hw2⟩; rw [hw2]; clear hw2 w2)
        go_ret
        exact ⟨rfl, BW.out⟩
      · go_enter Tryd.func38, Tryd.ntmps38
        go_wp2_with (go_at_call 42; refine IX.out.mono ?_; rintro e w2 ⟨rfl, hw2⟩; rw [hw2]; clear hw2 w2)
        go_ret
        exact ⟨rfl, BW.out⟩
end Go.Proofs.YtiiinpmkidobgaaDoor.Sd

/-
  A run stays as it may be.
-/
namespace Go.Proofs.YtiiinpmkidobgaaDoor.Sd
open Go.RowKit
set_option linter.unusedVariables false
set_option linter.unusedSimpArgs false
set_option maxRecDepth 100000
theorem mem_set {tk : List Tk} {i : Nat} {t t' : Tk} (h : t ∈ tk.set i t') : t = t' ∨ t ∈ tk := by
  rcases List.mem_or_eq_of_mem_set h with h | h
  · exact .inr h
  · exact .inl h
theorem Ok.set {S : St} (h : Ok S) {i : Nat} {t' : Tk} (ht : OkT S.tk.length t') : Ok { S with tk := S.tk.set i t' } :=
  ⟨by simpa using h.n, h.r1, h.r2, fun t hm => by
    rcases mem_set hm with rfl | e
    · simpa using ht
    · simpa using h.tk t e, by simpa using h.lk, by simpa using h.sl, h.sn, h.qu, h.tr⟩
theorem Ok.t {S : St} (h : Ok S) {i : Nat} {t : Tk} (hi : S.tk[i]? = some t) : OkT S.tk.length t := h.tk t (List.mem_of_getElem? hi)
theorem Ok.adv {S : St} (h : Ok S) {i : Nat} (hp : ∀ t, S.tk[i]? = some t → t.pc ≤ 511) : Ok (adv S i) := by
  unfold Sd.adv
  split
  · next t ht =>
    have o := h.t ht
    exact h.set ⟨o.len, o.ac, by have := hp t ht; show t.pc + 1 ≤ 512; omega, o.ld⟩
  · exact h
theorem Ok.lock {S : St} (h : Ok S) (a : Nat) {o : Option Nat} (ho : ∀ j, o = some j → j < S.tk.length) : Ok { S with lk := up S.lk a o } :=
  ⟨h.n, h.r1, h.r2, h.tk, fun i j hj => by
    have hj' : up S.lk a o i = some j := hj
    unfold up at hj'
    split at hj'
    · exact ho j hj'
    · exact h.lk i j hj', h.sl, h.sn, h.qu, h.tr⟩
theorem Ok.reg {S : St} (h : Ok S) (g : Nat → Int) : Ok { S with rg := g } := ⟨h.n, h.r1, h.r2, h.tk, h.lk, h.sl, h.sn, h.qu, h.tr⟩
theorem Ok.que {S : St} (h : Ok S) (a : Nat) {l : List Int} (hl : l.length ≤ S.room) : Ok { S with qu := up S.qu a l } :=
  ⟨h.n, h.r1, h.r2, h.tk, h.lk, h.sl, h.sn, fun i => by
    show (up S.qu a l i).length ≤ S.room
    unfold up
    split
    · exact hl
    · exact h.qu i, h.tr⟩
theorem Ok.slp {S : St} (h : Ok S) (a : Nat) {l : List Nat} (h1 : ∀ j ∈ l, j < S.tk.length) (h2 : l.length ≤ S.tr.length) : Ok { S with sl := up S.sl a l } :=
  ⟨h.n, h.r1, h.r2, h.tk, h.lk, fun i j hj => by
    have hj' : j ∈ up S.sl a l i := hj
    unfold up at hj'
    split at hj'
    · exact h1 j hj'
    · exact h.sl i j hj', fun i => by
    show (up S.sl a l i).length ≤ S.tr.length
    unfold up
    split
    · exact h2
    · exact h.sn i, h.qu, h.tr⟩
theorem wk1_ok {n : Nat} {tk : List Tk} (h : ∀ t ∈ tk, OkT n t) (j : Nat) : ∀ t ∈ wk1 tk j, OkT n t := by
  unfold wk1
  split
  · next x hx =>
    intro t ht
    rcases mem_set ht with rfl | e
    · have o := h x (List.mem_of_getElem? hx)
      exact ⟨o.len, o.ac, o.pc, o.ld⟩
    · exact h t e
  · exact h
theorem wk_ok {n : Nat} (l : List Nat) : ∀ tk : List Tk, (∀ t ∈ tk, OkT n t) → ∀ t ∈ wk tk l, OkT n t := by
  induction l with
  | nil => intro tk h; exact h
  | cons a r ih => intro tk h; exact ih _ (wk1_ok h a)
theorem Ok.wake {S : St} (h : Ok S) (c n : Nat) : Ok (wakeS S c n) := by
  have h1 : Ok { S with sl := up S.sl c ((S.sl c).drop n) } := h.slp c (fun j hj => h.sl c j (List.mem_of_mem_drop hj)) (Nat.le_trans (by simp) (h.sn c))
  have hl := wk_len ((S.sl c).take n) S.tk
  exact ⟨by show (wk S.tk _).length ≤ 16; rw [hl]; exact h.n, h.r1, h.r2, by show ∀ t ∈ wk S.tk _, OkT (wk S.tk _).length t; rw [hl]; exact wk_ok _ _ h.tk, by show ∀ i j, S.lk i = some j → j < (wk S.tk _).length; rw [hl]; exact h.lk, by show ∀ i, ∀ j ∈ up S.sl c _ i, j < (wk S.tk _).length; rw [hl]; exact h1.sl, h1.sn, h.qu, h.tr⟩
theorem wake_pc {S : St} {c n i : Nat} {t t' : Tk} (h : S.tk[i]? = some t) (h' : (wakeS S c n).tk[i]? = some t') : t'.pc = t.pc := wk_pc _ _ _ _ _ h h'
/-- What is so of one that is ready. -/
theorem how3 {S : St} {t : Tk} (h : howS S t = 3) : t.dd = false ∧ ∃ a, t.ac[t.pc]? = some a ∧ t.sl ≠ 1 ∧ (a.k = 1 → S.lk a.a.toNat = none) ∧ (a.k = 3 → t.sl = 2 → S.lk a.b.toNat = none) ∧ (a.k = 6 → (S.qu a.a.toNat).length < S.room) ∧ (a.k = 7 → S.qu a.a.toNat ≠ []) := by
  unfold howS at h
  split at h
  · omega
  · next hd =>
    refine ⟨by simpa using hd, ?_⟩
    split at h
    · omega
    · next a ha =>
      refine ⟨a, ha, ?_⟩
      split at h
      · omega
      · next h1 =>
        split at h
        · omega
        · next h2 =>
          split at h
          · omega
          · next h3 =>
            split at h
            · omega
            · next h4 =>
              split at h
              · omega
              · next h5 =>
                refine ⟨h1, fun e => ?_, fun e e2 => ?_, fun e => ?_, fun e c => ?_⟩
                · exact Classical.byContradiction fun c => h2 ⟨e, c⟩
                · exact Classical.byContradiction fun c => h3 ⟨e, e2, c⟩
                · exact Nat.lt_of_not_le fun c => h4 ⟨e, c⟩
                · exact h5 ⟨e, by rw [c]; rfl⟩
theorem ok_do {S : St} (h : Ok S) {i : Nat} {t : Tk} (hi : S.tk[i]? = some t) {a : Ac} (ha : t.ac[t.pc]? = some a) (hs : ∀ c, (S.sl c).length < S.tr.length) (h6 : a.k = 6 → (S.qu a.a.toNat).length < S.room) {S' : St} (hd : doS S i t a = .ok S') : Ok S' ∧ S'.tr = S.tr := by
  have hil := (List.getElem?_eq_some_iff.1 hi).1
  have o := h.t hi
  have hpl : t.pc < t.ac.length := (List.getElem?_eq_some_iff.1 ha).1
  have hp : t.pc ≤ 255 := by have := o.len; omega
  have oa := o.ac a (List.mem_of_getElem? ha)
  have A : ∀ {S1 : St}, Ok S1 → S1.tk[i]? = some t → Ok (adv S1 i) := fun ho he => ho.adv fun t1 e => by rw [he] at e; cases e; omega
  have adv_tr : ∀ S1 : St, (adv S1 i).tr = S1.tr := fun S1 => by unfold Sd.adv; split <;> rfl
  unfold doS at hd
  have hn := oa.n
  unfold nOk at hn
  by_cases e1 : a.k = 1
  · rw [if_pos e1] at hd; cases hd; exact ⟨A (h.lock _ fun j e => by cases e; exact hil) hi, adv_tr _⟩
  rw [if_neg e1] at hd
  by_cases e2 : a.k = 2
  · rw [if_pos e2] at hd
    by_cases hl : S.lk a.a.toNat = some i
    · rw [if_pos hl] at hd; cases hd; exact ⟨A (h.lock _ fun j e => by cases e) hi, adv_tr _⟩
    · rw [if_neg hl] at hd; cases hd
  rw [if_neg e2] at hd
  by_cases e3 : a.k = 3
  · rw [if_pos e3] at hd
    by_cases hsl : t.sl = 0
    · rw [if_pos hsl] at hd
      by_cases hl : S.lk a.b.toNat = some i
      · rw [if_pos hl] at hd
        cases hd
        refine ⟨?_, rfl⟩
        have h1 := h.lock a.b.toNat (o := none) fun j e => by cases e
        have h2 := h1.set (i := i) (t' := { t with sl := 1 }) ⟨o.len, o.ac, o.pc, o.ld⟩
        exact h2.slp a.a.toNat (l := S.sl a.a.toNat ++ [i]) (fun j hj => by
          show j < (S.tk.set i _).length
          rw [List.length_set]
          rcases List.mem_append.1 hj with e | e
          · exact h.sl _ j e
          · simp at e; subst e; exact hil) (by have := hs a.a.toNat; simp; exact this)
      · rw [if_neg hl] at hd; cases hd
    · rw [if_neg hsl] at hd
      cases hd
      have h1 := h.lock a.b.toNat (o := some i) fun j e => by cases e; exact hil
      have h2 := h1.set (i := i) (t' := { t with sl := 0 }) ⟨o.len, o.ac, o.pc, o.ld⟩
      exact ⟨h2.adv fun t1 e => by rw [show (S.tk.set i { t with sl := 0 })[i]? = some { t with sl := 0 } from set_same hi] at e; cases e; show t.pc ≤ 511; omega, adv_tr _⟩
  rw [if_neg e3] at hd
  by_cases e4 : a.k = 4
  · rw [if_pos e4] at hd
    cases hd
    exact ⟨(h.wake _ _).adv fun t1 e => by rw [wake_pc hi e]; omega, adv_tr _⟩
  rw [if_neg e4] at hd
  by_cases e5 : a.k = 5
  · rw [if_pos e5] at hd
    cases hd
    exact ⟨(h.wake _ _).adv fun t1 e => by rw [wake_pc hi e]; omega, adv_tr _⟩
  rw [if_neg e5] at hd
  by_cases e6 : a.k = 6
  · rw [if_pos e6] at hd; cases hd; exact ⟨A (h.que _ (by have := h6 e6; simp; omega)) hi, adv_tr _⟩
  rw [if_neg e6] at hd
  by_cases e7 : a.k = 7
  · rw [if_pos e7] at hd
    cases hx : S.qu a.a.toNat with
    | nil => rw [hx] at hd; cases hd; exact ⟨h, rfl⟩
    | cons x r =>
      rw [hx] at hd
      cases hd
      have h1 := h.que a.a.toNat (l := r) (by have := h.qu a.a.toNat; rw [hx] at this; simp at this; omega)
      exact ⟨A (h1.reg _) hi, adv_tr _⟩
  rw [if_neg e7] at hd
  by_cases e8 : a.k = 8
  · rw [if_pos e8] at hd; cases hd; exact ⟨A (h.reg _) hi, adv_tr _⟩
  rw [if_neg e8] at hd
  by_cases e9 : a.k = 9
  · rw [if_pos e9] at hd; cases hd; exact ⟨A (h.reg _) hi, adv_tr _⟩
  rw [if_neg e9] at hd
  by_cases e10 : a.k = 10
  · rw [if_pos e10] at hd
    cases hd
    rw [if_neg (by omega), if_pos e10] at hn
    refine ⟨?_, by rw [adv_tr]; split <;> rfl⟩
    split
    · have h2 := h.set (i := i) (t' := { t with pc := t.pc + a.n.toNat }) ⟨o.len, o.ac, by show t.pc + a.n.toNat ≤ 512; omega, o.ld⟩
      exact h2.adv fun t1 e => by rw [show (S.tk.set i { t with pc := t.pc + a.n.toNat })[i]? = some { t with pc := t.pc + a.n.toNat } from set_same hi] at e; cases e; show t.pc + a.n.toNat ≤ 511; omega
    · exact A h hi
  rw [if_neg e10] at hd
  by_cases e12 : a.k = 12
  · rw [if_pos e12] at hd; cases hd
  rw [if_neg e12] at hd
  by_cases e13 : a.k = 13
  · rw [if_pos e13] at hd
    cases hd
    rw [if_neg (by omega), if_neg (by omega), if_pos e13] at hn
    have h2 := h.set (i := i) (t' := { t with gd := true, ld := a.n.toNat }) ⟨o.len, o.ac, o.pc, by have := o.len; show a.n.toNat ≤ 256; omega⟩
    exact ⟨h2.adv fun t1 e => by rw [show (S.tk.set i { t with gd := true, ld := a.n.toNat })[i]? = some { t with gd := true, ld := a.n.toNat } from set_same hi] at e; cases e; show t.pc ≤ 511; omega, adv_tr _⟩
  rw [if_neg e13] at hd
  cases hd
  exact ⟨A h hi, adv_tr _⟩
theorem ok_land {S : St} (h : Ok S) {i : Nat} {t : Tk} (hi : S.tk[i]? = some t) (n : Int) : Ok (landS S i t n) ∧ (landS S i t n).tr = S.tr := by
  have o := h.t hi
  unfold landS
  split
  · exact ⟨h.set ⟨o.len, o.ac, o.pc, o.ld⟩, rfl⟩
  · exact ⟨(h.set (i := i) (t' := { t with gd := false, pc := t.ld }) ⟨o.len, o.ac, by have := o.ld; show t.ld ≤ 512; omega, o.ld⟩).reg _, rfl⟩
theorem ok_step {S : St} (h : Ok S) {i : Nat} {t : Tk} (hi : S.tk[i]? = some t) {a : Ac} (ha : t.ac[t.pc]? = some a) (hs : ∀ c, (S.sl c).length < S.tr.length) (h6 : a.k = 6 → (S.qu a.a.toNat).length < S.room) : Ok (stepS S i t a) ∧ (stepS S i t a).tr = S.tr := by
  unfold stepS
  split
  · next S' hd => exact ok_do h hi ha hs h6 hd
  · next n hd => exact ok_land h hi n
/-- A turn. -/
def turnS (S : St) (i : Nat) : St := match S.tk[i]? with
  | some t => match t.ac[t.pc]? with
    | some a => stepS { S with tr := S.tr ++ [(i, t.pc)] } i t a
    | none => S
  | none => S
theorem Ok.more {S : St} (h : Ok S) (x : Nat × Nat) (hl : S.tr.length < 65536) : Ok { S with tr := S.tr ++ [x] } := ⟨h.n, h.r1, h.r2, h.tk, h.lk, h.sl, fun i => by have := h.sn i; simp; omega, h.qu, by simp; omega⟩
theorem isR_some {S : St} {i : Nat} (h : isR S i = true) : ∃ t, S.tk[i]? = some t ∧ howS S t = 3 := by
  unfold isR at h
  split at h
  · next t ht => exact ⟨t, ht, by simpa using h⟩
  · cases h
theorem turn_ok {S : St} (h : Ok S) {i : Nat} (hr : isR S i = true) (hl : S.tr.length < 65536) : Ok (turnS S i) ∧ (turnS S i).tr.length = S.tr.length + 1 := by
  obtain ⟨t, hi, h3⟩ := isR_some hr
  obtain ⟨_, a, ha, _, _, _, h6, h7⟩ := how3 h3
  unfold turnS
  rw [hi]
  simp only
  rw [ha]
  simp only
  obtain ⟨k1, k2⟩ := ok_step (h.more (i, t.pc) hl) (i := i) (t := t) hi ha (fun c => by have := h.sn c; show (S.sl c).length < (S.tr ++ [_]).length; simp; omega) h6
  exact ⟨k1, by rw [k2]; simp⟩
theorem rdy_mem {S : St} {i : Nat} (h : i ∈ rdy S) : isR S i = true := (List.mem_filter.1 h).2
theorem pick_mem {L : List Nat} (hL : L ≠ []) (made : Nat) (picks : List Int) (last : Int) : pickN L made picks last ∈ L := by
  have hl : 0 < L.length := List.length_pos_iff.2 hL
  have g : ∀ j, j < L.length → L.getD j 0 ∈ L := fun j hj => by rw [List.getD_eq_getElem?_getD, List.getElem?_eq_getElem hj]; exact List.getElem_mem hj
  unfold pickN
  split
  · exact g _ (Nat.mod_lt _ hl)
  · refine g _ ?_
    split
    · assumption
    · exact hl
/-- A run, so many turns. -/
def playS (picks : List Int) : Nat → St → St
  | 0, S => S
  | f + 1, S => if rdy S = [] then S else playS picks f (turnS S (pickN (rdy S) S.tr.length picks (lastS S)))
end Go.Proofs.YtiiinpmkidobgaaDoor.Sd

/-
  Tasks take turns. (gen_TdM.py)
-/
namespace Go.Proofs.YtiiinpmkidobgaaDoor.Sd
open Go.RowKit
open Ix (wp_region_T wpAnyT wpAnyT_take wpAnyT_one wpAnyT_done vac)
set_option linter.unusedVariables false
set_option linter.unusedSimpArgs false
set_option maxRecDepth 100000
theorem infoT : (Tryd.prog.info? 39).map (fun i => (i.zero, i.size, i.bytes)) = some (some (.agg #[.int .i64 0, .int .i64 0]), 2, 16) := by kernel_rfl
theorem tcells_snoc (l : List (Nat × Nat)) (x : Nat × Nat) : tcells (l ++ [x]) = tcells l ++ [.int .i64 (x.1 : Int), .int .i64 (x.2 : Int)] := by simp [tcells, turn]
theorem run_appT {B : Nat} {w : World} {v : Value} {l : List (Nat × Nat)} (x : Nat × Nat) (gg : Nat) (h : w.ownsRow B 39 2 v l.length (tcells l)) (h0 : w.cell? ⟨gg, 0, none⟩ = some (.int .i64 (x.1 : Int))) (h1 : w.cell? ⟨gg, 1, none⟩ = some (.int .i64 (x.2 : Int))) (hl : l.length ≤ 1000000) (hB : B ≤ w.heap.size) (ty : TypeId) :
    ∃ v' w', (Builtin.append_ #[28, 28] ty #[v, .slice (some ⟨gg, 0, none⟩) 1 1]).run Tryd.prog w = .ok v' w' ∧ w'.ownsRow B 39 2 v' (l.length + 1) (tcells (l ++ [x])) ∧ w.grownBy w' v.ownBlock ∧ ∀ k, v'.ownBlock = some k → v.ownBlock = some k ∨ w.heap.size ≤ k := by
  obtain ⟨i0, hi, hz0, hz1, hz2⟩ := info_parts infoT
  have hcells : ∀ j u, ([.int .i64 (x.1 : Int), .int .i64 (x.2 : Int)] : List Value)[j]? = some u → w.cell? ((⟨gg, 0, none⟩ : Addr).add j) = some u := by
    intro j u hu
    rw [addr_add]
    match j with
    | 0 => simp at hu; subst hu; exact h0
    | 1 => simp at hu; subst hu; exact h1
    | j + 2 => simp at hu
  obtain ⟨v', w', hr, ho, hg, _, hat⟩ := run_append_own_at (P := Tryd.prog) w B 28 ty 39 i0 (.agg #[.int .i64 0, .int .i64 0]) 2 16 Tryd.underlying28 hi hz0 hz1 hz2 rfl (by decide) v l.length (tcells l) h ⟨gg, 0, none⟩ 1 1 [.int .i64 (x.1 : Int), .int .i64 (x.2 : Int)] rfl hcells (by
      intro u hu
      simp at hu
      rcases hu with rfl | rfl <;> rfl) (by unfold maxLen; omega) (by omega) hB
  refine ⟨v', w', hr, by rw [tcells_snoc]; exact ho, hg, fun k hk => ?_⟩
  rcases hat with e | e
  · exact .inl (by rw [← e]; exact hk)
  · rw [e] at hk; cases hk; exact .inr (Nat.le_refl _)
def lenO : Option Value → Nat
  | some (.slice _ n _) => n
  | _ => 0
theorem lenO_of {o : Option Value} {a : Option Addr} {n c : Nat} (h : o = some (.slice a n c)) : lenO o = n := by rw [h]; rfl
theorem rdy_len (S : St) : (rdy S).length ≤ S.tk.length := rdyI_len S _
set_option maxHeartbeats 8000000 in
theorem play_any (w0 w : World) (us : List Value) (rb : Nat) (X : V) (S : St) (h : At w0 us w rb X S) (ok : Ok S) (vp : Value) (picks : List Int) (hp : Row w0 vp (picks.map (Value.int .i64))) (hp0 : ∀ k ∈ picks, 0 ≤ k ∧ k ≤ 9223372036854775807) {most : Nat} (hm : most ≤ 65536) (hmt : S.tr.length ≤ most) :
    Calls Tryd.prog 28 #[.pointer (some ⟨rb, 0, none⟩), vp, .int .i64 (most : Int)] w fun e w' => e = .returned (.tuple #[]) ∧ ∃ X', X'.tb = X.tb ∧ At w0 us w' rb X' (playS picks (most - S.tr.length) S) ∧ Ok (playS picks (most - S.tr.length) S) ∧ Stp rb X X' w w' := by
  have HP := hide hp
  obtain ⟨ap, cp, e2, -, -, -, -⟩ := HP.out
  obtain ⟨Q, hQ⟩ : ∃ Q, Hid ((picks.map (Value.int .i64)).length = Q) := ⟨_, rfl⟩
  rw [hQ.out] at e2
  have HP0 := hide hp0
  have H0 : Hid (At w0 us w rb X S ∧ Ok S) := ⟨h, ok⟩
  obtain ⟨PF, hPF⟩ : ∃ PF, Hid (playS picks (most - S.tr.length) S = PF) := ⟨_, rfl⟩
  rw [hPF.out]
  clear h ok hp0 hp
  subst e2
  go_enter Tryd.func28, Tryd.ntmps28
  go_wp2_with fail
  go_loopw [6] (fun s6 wr => ∃ (X1 : V) (S1 : St), Hid (X1.tb = X.tb ∧ At w0 us wr rb X1 S1 ∧ Ok S1 ∧ Stp rb X X1 w wr ∧ playS picks (most - S1.tr.length) S1 = PF ∧ S1.tr.length ≤ most)) (fun s6 wr => most - lenO (wr.cell? ⟨rb, 22, none⟩))
  case atStart => exact ⟨X, S, rfl, H0.out.1, H0.out.2, Stp.refl _ _ _, hPF.out, hmt⟩
  case round =>
    obtain ⟨X1, S1, hrel'⟩ := hrel
    obtain ⟨hX1', A1, O1, ST1, P1, hle⟩ := hrel'.out
    clear hrel'
    have hX1 := hide hX1'
    clear hX1'
    have e0 := A1.rcell.2.2
    have c0 := A1.rcell.1
    obtain ⟨ta, tc, te, t1, t2, t3⟩ := turns_form A1.tr
    rw [te] at e0
    have A1h := hide A1
    have OK1 := hide O1
    have ST1h := hide ST1
    have P1h := hide P1
    have hme : Hid (wr.cell? ⟨rb, 22, none⟩ = some (.slice ta S1.tr.length tc)) := e0
    obtain ⟨T, hT⟩ : ∃ T, Hid (S1.tr.length = T) := ⟨_, rfl⟩
    rw [hT.out] at e0 hle
    have RD := hide (ready_any w0 wr us rb X1 S1 A1 O1)
    clear A1 O1 ST1 P1 t1 t2 t3 te
    by_cases hlt : T < most
    · have i1 : (T : Int) < (most : Int) := by omega
      go_upto_region 2 with (go_at_call 31; refine RD.out.mono ?_; rintro e w2 ⟨v, rfl, hv, bv⟩; replace hv := hide hv; replace bv := hide bv)
      obtain ⟨ao, ca, e, -, -⟩ := hv.out.form
      rw [ns_len] at e
      obtain ⟨N, hN⟩ : ∃ N, Hid ((rdy S1).length = N) := ⟨_, rfl⟩
      rw [hN.out] at e
      by_cases hz : N = 0
      · have hn : rdy S1 = [] := List.length_eq_zero_iff.1 (hN.out.trans hz)
        have EP : Hid (S1 = PF) := by
          show _ = _
          rw [← P1h.out]
          cases hf : most - S1.tr.length with
          | zero => rfl
          | succ f => show S1 = if rdy S1 = [] then S1 else _; rw [if_pos hn]
        subst hz
        subst e
        clear hn
        go_wp2_with fail
        first | go_end0 | refine bodyPost_ret (results_none rfl _ _ _) rfl ?_
        refine ⟨rfl, X1, hX1.out, ?_, ?_, ?_⟩
        · rw [← EP.out]; exact A1h.out.below bv.out
        · rw [← EP.out]; exact OK1.out
        · exact ST1h.out.trans (Stp.of_below rb X1 bv.out)
      · have hz' : ((N : Int) == 0) = false := by simp; omega
        have hne : rdy S1 ≠ [] := fun c => hz (by rw [← hN.out, c]; rfl)
        have A2 := A1h.out.below bv.out
        have bp : Below w0.heap.size w0 w2 := A2.low
        have CH := hide (choose_any w0 w2 us rb X1 S1 A2 OK1.out wr.heap.size v _ (rdy S1) picks hv.out (List.length_pos_iff.2 hne) (Nat.le_trans (rdy_len S1) OK1.out.n) (Below.row bp HP.out) HP0.out)
        obtain ⟨m, hm'⟩ : ∃ m, Hid (pickN (rdy S1) S1.tr.length picks (lastS S1) = m) := ⟨_, rfl⟩
        have hmr : isR S1 m = true := by rw [← hm'.out]; exact rdy_mem (pick_mem hne _ _ _)
        obtain ⟨t, htm', h3⟩ := isR_some hmr
        obtain ⟨_, a, ha', _, _, _, h6', h7'⟩ := how3 h3
        have hlt2 : Hid (S1.tr.length < most) := by show _ < _; rw [hT.out]; exact hlt
        have TOK := hide (turn_ok OK1.out hmr (by have := hlt2.out; omega))
        have TS : Hid (turnS S1 m = stepS { S1 with tr := S1.tr ++ [(m, t.pc)] } m t a) := by show _ = _; unfold turnS; rw [htm']; simp only; rw [ha']
        have PE : Hid (playS picks (most - (turnS S1 m).tr.length) (turnS S1 m) = PF) := by
          show _ = _
          rw [← P1h.out, TOK.out.2, show most - S1.tr.length = (most - (S1.tr.length + 1)) + 1 by have := hlt2.out; omega]
          show _ = if rdy S1 = [] then S1 else _
          rw [if_neg hne, hm'.out]
        have htm := hide htm'
        have hact := hide ha'
        have h7 : Hid (a.k = 7 → ({ S1 with tr := S1.tr ++ [(m, t.pc)] } : St).qu a.a.toNat ≠ []) := h7'
        have htr1 : Hid (S1.tr.length ≤ 65536) := OK1.out.tr
        rw [hm'.out] at CH
        have hml : m < S1.tk.length := (List.getElem?_eq_some_iff.1 htm').1
        obtain ⟨K, hK⟩ : ∃ K, Hid (S1.tk.length = K) := ⟨_, rfl⟩
        have STv : Hid (Stp rb X X1 w w2) := ST1h.out.trans (Stp.of_below rb X1 bv.out)
        have A2h := hide A2
        rw [e] at CH
        subst e
        clear A2 bp hv P1h ST1h A1h RD hmr h3 htm' ha' h6' h7' hne hm'
        go_upto_region 4 with (go_at_call 38; refine CH.out.mono ?_; rintro e w3 ⟨rfl, b3⟩)
        have A3 := hide (A2h.out.below b3)
        have STw : Hid (Stp rb X X1 w w3) := STv.out.trans (Stp.of_below rb X1 b3)
        have c3 := A3.out.rcell.1
        rw [hK.out] at c3 hml
        have hml' : (m : Int) < (K : Int) := by omega
        clear CH A2h STv b3 bv c0 e0
        go_upto_region 5 with fail
        have bq : Below w3.heap.size w3 w3.drew := (Below.refl _ _).drew
        have AD := hide (A3.out.below bq)
        have SD : Hid (Stp rb X1 X1 w3 w3.drew) := Stp.of_below rb X1 bq
        have KP : Hid (w3.drew.cell? ⟨rb, 22, none⟩ = some X1.t ∧ w3.drew.cell? ⟨X1.tb, m * 7 + 1, none⟩ = some (.int .i64 (t.pc : Int))) := ⟨AD.out.rcell.2.2, (AD.out.tcell htm.out).2.1⟩
        clear bq A3
        refine wp_region_T (fun q => q.cell? ⟨rb, 22, none⟩ = some X1.t ∧ q.cell? ⟨X1.tb, m * 7 + 1, none⟩ = some (.int .i64 (t.pc : Int))) 15 (by kernel_rfl) ?_
        generalize w3.drew = q at *
        refine wpAnyT_take (i := 0) (oi := { dst := some 31, op := Op.move (Operand.tmp 0), type := 68, pos := "run.go:37", after := #[], guard := none }) (v := .pointer (some ⟨rb, 0, none⟩)) [13, 14, 15] rfl (by kernel_rfl) (by kernel_rfl) (by kernel_rfl) (by kernel_rfl) (fun _ _ _ h => h) (Or.inl ⟨by rfl, ?_⟩) KP.out ?_
        · intro wq hSw
          obtain ⟨y0, y1⟩ := hSw
          go_simp
        (try simp only [Act.put, List.setIfInBounds_toArray, List.set_cons_zero, List.set_cons_succ])
        refine wpAnyT_take (i := 1) (oi := { dst := some 32, op := Op.move (Operand.tmp 0), type := 68, pos := "run.go:37", after := #[], guard := none }) (v := .pointer (some ⟨rb, 0, none⟩)) [2, 3, 4, 12, 15] rfl (by kernel_rfl) (by kernel_rfl) (by kernel_rfl) (by kernel_rfl) (fun _ _ _ h => h) (Or.inl ⟨by rfl, ?_⟩) KP.out ?_
        · intro wq hSw
          obtain ⟨y0, y1⟩ := hSw
          go_simp
        (try simp only [Act.put, List.setIfInBounds_toArray, List.set_cons_zero, List.set_cons_succ])
        refine wpAnyT_take (i := 2) (oi := { dst := some 33, op := Op.nilCheck (Operand.tmp 32), type := 0, pos := "run.go:37", after := #[{ on := 1, ground := Ground.data }], guard := none }) (v := .pointer (some ⟨rb, 0, none⟩)) [3, 4, 12, 15] rfl (by kernel_rfl) (by kernel_rfl) (by kernel_rfl) (by kernel_rfl) (fun _ _ _ h => h) (Or.inl ⟨by rfl, ?_⟩) KP.out ?_
        · intro wq hSw
          obtain ⟨y0, y1⟩ := hSw
          go_simp
        (try simp only [Act.put, List.setIfInBounds_toArray, List.set_cons_zero, List.set_cons_succ])
        refine wpAnyT_take (i := 3) (oi := { dst := some 34, op := Op.fieldAddr 90 (Operand.tmp 33) 6, type := 0, pos := "run.go:37", after := #[{ on := 2, ground := Ground.data }], guard := none }) (v := .pointer (some ⟨rb, 22, none⟩)) [4, 12, 15] rfl (by kernel_rfl) (by kernel_rfl) (by kernel_rfl) (by kernel_rfl) (fun _ _ _ h => h) (Or.inl ⟨by rfl, ?_⟩) KP.out ?_
        · intro wq hSw
          obtain ⟨y0, y1⟩ := hSw
          go_simp
        (try simp only [Act.put, List.setIfInBounds_toArray, List.set_cons_zero, List.set_cons_succ])
        refine wpAnyT_take (i := 4) (oi := { dst := some 35, op := Op.load 28 (Operand.tmp 34), type := 28, pos := "run.go:37", after := #[{ on := 3, ground := Ground.data }], guard := none }) (v := X1.t) [12, 15] rfl (by kernel_rfl) (by kernel_rfl) (by kernel_rfl) (by kernel_rfl) (fun _ _ _ h => h) (Or.inl ⟨by rfl, ?_⟩) KP.out ?_
        · intro wq hSw
          obtain ⟨y0, y1⟩ := hSw
          go_simp
        (try simp only [Act.put, List.setIfInBounds_toArray, List.set_cons_zero, List.set_cons_succ])
        refine wpAnyT_take (i := 5) (oi := { dst := some 36, op := Op.move (Operand.tmp 7), type := 3, pos := "run.go:37", after := #[], guard := none }) (v := .int .i64 (m : Int)) [10, 11, 12, 15] rfl (by kernel_rfl) (by kernel_rfl) (by kernel_rfl) (by kernel_rfl) (fun _ _ _ h => h) (Or.inl ⟨by rfl, ?_⟩) KP.out ?_
        · intro wq hSw
          obtain ⟨y0, y1⟩ := hSw
          go_simp
        (try simp only [Act.put, List.setIfInBounds_toArray, List.set_cons_zero, List.set_cons_succ])
        refine wpAnyT_take (i := 6) (oi := { dst := some 37, op := Op.move (Operand.tmp 8), type := 85, pos := "run.go:37", after := #[], guard := none }) (v := .pointer (some ⟨X1.tb, m * 7, none⟩)) [7, 8, 9, 10, 11, 12, 15] rfl (by kernel_rfl) (by kernel_rfl) (by kernel_rfl) (by kernel_rfl) (fun _ _ _ h => h) (Or.inl ⟨by rfl, ?_⟩) KP.out ?_
        · intro wq hSw
          obtain ⟨y0, y1⟩ := hSw
          go_simp
        (try simp only [Act.put, List.setIfInBounds_toArray, List.set_cons_zero, List.set_cons_succ])
        refine wpAnyT_take (i := 7) (oi := { dst := some 38, op := Op.nilCheck (Operand.tmp 37), type := 0, pos := "run.go:37", after := #[{ on := 6, ground := Ground.data }], guard := none }) (v := .pointer (some ⟨X1.tb, m * 7, none⟩)) [8, 9, 10, 11, 12, 15] rfl (by kernel_rfl) (by kernel_rfl) (by kernel_rfl) (by kernel_rfl) (fun _ _ _ h => h) (Or.inl ⟨by rfl, ?_⟩) KP.out ?_
        · intro wq hSw
          obtain ⟨y0, y1⟩ := hSw
          go_simp
        (try simp only [Act.put, List.setIfInBounds_toArray, List.set_cons_zero, List.set_cons_succ])
        refine wpAnyT_take (i := 8) (oi := { dst := some 39, op := Op.fieldAddr 93 (Operand.tmp 38) 1, type := 0, pos := "run.go:37", after := #[{ on := 7, ground := Ground.data }], guard := none }) (v := .pointer (some ⟨X1.tb, m * 7 + 1, none⟩)) [9, 10, 11, 12, 15] rfl (by kernel_rfl) (by kernel_rfl) (by kernel_rfl) (by kernel_rfl) (fun _ _ _ h => h) (Or.inl ⟨by rfl, ?_⟩) KP.out ?_
        · intro wq hSw
          obtain ⟨y0, y1⟩ := hSw
          go_simp
        (try simp only [Act.put, List.setIfInBounds_toArray, List.set_cons_zero, List.set_cons_succ])
        refine wpAnyT_take (i := 9) (oi := { dst := some 40, op := Op.load 3 (Operand.tmp 39), type := 3, pos := "run.go:37", after := #[{ on := 8, ground := Ground.data }], guard := none }) (v := .int .i64 (t.pc : Int)) [10, 11, 12, 15] rfl (by kernel_rfl) (by kernel_rfl) (by kernel_rfl) (by kernel_rfl) (fun _ _ _ h => h) (Or.inl ⟨by rfl, ?_⟩) KP.out ?_
        · intro wq hSw
          obtain ⟨y0, y1⟩ := hSw
          go_simp
        (try simp only [Act.put, List.setIfInBounds_toArray, List.set_cons_zero, List.set_cons_succ])
        refine wpAnyT_take (i := 10) (oi := { dst := some 41, op := Op.build 39 #[(0, Operand.tmp 36), (1, Operand.tmp 40)], type := 39, pos := "run.go:37", after := #[{ on := 5, ground := Ground.data }, { on := 9, ground := Ground.data }], guard := none }) (v := .agg #[.int .i64 (m : Int), .int .i64 (t.pc : Int)]) [11, 12, 15] rfl (by kernel_rfl) (by kernel_rfl) (by kernel_rfl) (by kernel_rfl) (fun _ _ _ h => h) (Or.inl ⟨by rfl, ?_⟩) KP.out ?_
        · intro wq hSw
          obtain ⟨y0, y1⟩ := hSw
          go_simp
        (try simp only [Act.put, List.setIfInBounds_toArray, List.set_cons_zero, List.set_cons_succ])
        refine wpAnyT_one (i := 11) (o := { dst := some 42, op := Op.buildSlice 28 1 #[(0, Operand.tmp 41)], type := 28, pos := "run.go:37", after := #[{ on := 10, ground := Ground.data }], guard := none }) (by kernel_rfl) rfl (fun K hK => ?_)
        go_simp
        refine hK.out _ _ (fun _ => ⟨alloc_cell _ KP.out.1, alloc_cell _ KP.out.2⟩) ?_
        clear hK K
        (try simp only [Act.put, List.setIfInBounds_toArray, List.set_cons_zero, List.set_cons_succ])
        have B3 := box_below q (.cells #[.int .i64 (m : Int), .int .i64 (t.pc : Int)] 39)
        have o0 : (q.alloc (.cells #[.int .i64 (m : Int), .int .i64 (t.pc : Int)] 39)).cell? ⟨q.heap.size, 0, none⟩ = some (.int .i64 (m : Int)) := by rw [cell_of (heap_alloc_new q (.cells #[.int .i64 (m : Int), .int .i64 (t.pc : Int)] 39))]; rfl
        have o1 : (q.alloc (.cells #[.int .i64 (m : Int), .int .i64 (t.pc : Int)] 39)).cell? ⟨q.heap.size, 1, none⟩ = some (.int .i64 (t.pc : Int)) := by rw [cell_of (heap_alloc_new q (.cells #[.int .i64 (m : Int), .int .i64 (t.pc : Int)] 39))]; rfl
        have A4 := AD.out.below B3
        have S4 := SD.out.trans (Stp.of_below rb X1 B3)
        clear KP AD SD B3
        generalize q.alloc (.cells #[.int .i64 (m : Int), .int .i64 (t.pc : Int)] 39) = w4 at *
        generalize q.heap.size = g3 at *
        obtain ⟨v', w5, r4, M4, G4, X4⟩ := run_appT (m, t.pc) g3 A4.tr o0 o1 (Nat.le_trans htr1.out (by decide)) (A4.low.size) 28
        obtain ⟨Z1, Z2, Z3, Z4⟩ := A4.turnT G4 (by rw [List.length_append]; exact M4) X4
        have FIN2 := hide (And.intro Z1 (S4.trans Z2))
        have K4 : Hid (w5.cell? ⟨rb, 22, none⟩ = some X1.t ∧ w5.cell? ⟨X1.tb, m * 7 + 1, none⟩ = some (.int .i64 (t.pc : Int))) := by
          refine ⟨Z3, (World.cell?_of_block (G4.block X1.tb (A4.lt _ ⟨1, rfl⟩) fun e => ?_)).trans (A4.tcell htm.out).2.1⟩
          have := A4.dis 1 2 X1.tb rfl e.symm; omega
        obtain ⟨aw, cw, ew, -, -, -⟩ := turns_form (l := S1.tr ++ [(m, t.pc)]) (by rw [List.length_append]; exact M4)
        obtain ⟨nl, hnl⟩ : ∃ nl, Hid ((S1.tr ++ [(m, t.pc)]).length = nl) := ⟨_, rfl⟩
        rw [hnl.out] at ew
        rw [ew] at r4 FIN2
        clear A4 S4 M4 G4 X4 Z1 Z2 o0 o1 ew
        replace r4 := hide r4
        refine wpAnyT_one (i := 12) (o := { dst := some 43, op := Op.call { callee := Callee.builtin Builtin.append, args := #[Operand.tmp 35, Operand.tmp 42], argTypes := #[28, 28] }, type := 28, pos := "run.go:37", after := #[{ on := 4, ground := Ground.data }, { on := 11, ground := Ground.data }], guard := none }) (by kernel_rfl) rfl (fun K hK => ?_)
        rw [if_pos (by simp [Region.wanted])]
        refine Lib.wp_append_run _ (.tmp 35) (.tmp 42) 28 28 rfl X1.t (.slice (some ⟨g3, 0, none⟩) 1 1) (by simp [Act.eval]) (by simp [Act.eval]) _ w5 r4.out ?_
        refine hK.out _ _ (fun _ => K4.out) ?_
        clear hK K
        (try simp only [Act.put, List.setIfInBounds_toArray, List.set_cons_zero, List.set_cons_succ])
        refine wpAnyT_one (i := 13) (o := { dst := some 44, op := Op.nilCheck (Operand.tmp 31), type := 0, pos := "run.go:37", after := #[{ on := 0, ground := Ground.data }, { on := 0, ground := Ground.phase }, { on := 1, ground := Ground.phase }, { on := 2, ground := Ground.phase }, { on := 3, ground := Ground.phase }, { on := 4, ground := Ground.phase }, { on := 5, ground := Ground.phase }, { on := 6, ground := Ground.phase }, { on := 7, ground := Ground.phase }, { on := 8, ground := Ground.phase }, { on := 9, ground := Ground.phase }, { on := 10, ground := Ground.phase }, { on := 11, ground := Ground.phase }, { on := 12, ground := Ground.phase }], guard := none }) (by kernel_rfl) rfl (fun K hK => ?_)
        go_simp
        refine hK.out _ _ (fun _ => K4.out) ?_
        clear hK K
        (try simp only [Act.put, List.setIfInBounds_toArray, List.set_cons_zero, List.set_cons_succ])
        refine wpAnyT_one (i := 14) (o := { dst := some 45, op := Op.fieldAddr 90 (Operand.tmp 44) 6, type := 0, pos := "run.go:37", after := #[{ on := 13, ground := Ground.data }, { on := 0, ground := Ground.phase }, { on := 1, ground := Ground.phase }, { on := 2, ground := Ground.phase }, { on := 3, ground := Ground.phase }, { on := 4, ground := Ground.phase }, { on := 5, ground := Ground.phase }, { on := 6, ground := Ground.phase }, { on := 7, ground := Ground.phase }, { on := 8, ground := Ground.phase }, { on := 9, ground := Ground.phase }, { on := 10, ground := Ground.phase }, { on := 11, ground := Ground.phase }, { on := 12, ground := Ground.phase }], guard := none }) (by kernel_rfl) rfl (fun K hK => ?_)
        go_simp
        refine hK.out _ _ (fun _ => K4.out) ?_
        clear hK K
        (try simp only [Act.put, List.setIfInBounds_toArray, List.set_cons_zero, List.set_cons_succ])
        clear K4 r4
        refine wpAnyT_one (i := 15) (o := { dst := none, op := Op.store 28 (Operand.tmp 45) (Operand.tmp 43), type := 0, pos := "run.go:37", after := #[{ on := 14, ground := Ground.data }, { on := 12, ground := Ground.data }, { on := 12, ground := Ground.chain }, { on := 0, ground := Ground.phase }, { on := 1, ground := Ground.phase }, { on := 2, ground := Ground.phase }, { on := 3, ground := Ground.phase }, { on := 4, ground := Ground.phase }, { on := 5, ground := Ground.phase }, { on := 6, ground := Ground.phase }, { on := 7, ground := Ground.phase }, { on := 8, ground := Ground.phase }, { on := 9, ground := Ground.phase }, { on := 10, ground := Ground.phase }, { on := 11, ground := Ground.phase }, { on := 12, ground := Ground.phase }], guard := none }) (by kernel_rfl) rfl (fun K hK => ?_)
        go_simp
        refine hK.out _ _ (vac (by kernel_rfl)) ?_
        clear hK K
        (try simp only [Act.put, List.setIfInBounds_toArray, List.set_cons_zero, List.set_cons_succ])
        refine wpAnyT_done (by kernel_rfl) ?_ _
        clear Z3 Z4
        have A6 := hide FIN2.out.1
        have S6 := hide (STw.out.trans FIN2.out.2)
        clear FIN2
        generalize w5.setCell ⟨rb, 22, none⟩ (.slice aw nl cw) = w6 at *
        have SP := hide (step_any w0 w6 us rb _ _ A6.out (OK1.out.more (m, t.pc) (by have := hlt2.out; omega)) htm.out hact.out h7.out)
        go_wp2_with (go_at_call 39; refine SP.out.mono ?_; rintro e w7 ⟨rfl, X7, hX7, A7, S7⟩; replace A7 := hide A7; replace S7 := hide S7)
        go_roundw
        case rel => exact ⟨X7, turnS S1 m, hX7.trans hX1.out, by rw [TS.out]; exact A7.out, TOK.out.1, S6.out.trans S7.out, PE.out, by have := TOK.out.2; have := hlt2.out; omega⟩
        case measure =>
          have e7 := A7.out.rcell.2.2
          obtain ⟨a7, c7, t7, -, -, -⟩ := turns_form A7.out.tr
          rw [t7] at e7
          rw [lenO_of e7, lenO_of hme.out]
          have l7 := TOK.out.2
          rw [TS.out] at l7
          rw [l7]
          have := hlt2.out
          omega
    · have i1 : ¬ (T : Int) < (most : Int) := by omega
      have EP : Hid (S1 = PF) := by
        show _ = _
        rw [← P1h.out, hT.out, show most - T = 0 by omega]
        rfl
      go_wp2_with fail
      first | go_end0 | refine bodyPost_ret (results_none rfl _ _ _) rfl ?_
      refine ⟨rfl, X1, hX1.out, ?_, ?_, ST1h.out⟩
      · rw [← EP.out]; exact A1h.out
      · rw [← EP.out]; exact OK1.out
end Go.Proofs.YtiiinpmkidobgaaDoor.Sd

/-
  May there be such tasks?
-/
namespace Go.Proofs.YtiiinpmkidobgaaDoor.Sd
open Go.RowKit
set_option linter.unusedVariables false
set_option linter.unusedSimpArgs false
set_option maxRecDepth 100000
theorem four_ofN {x : World} {b : Nat} {a c d e : Value} {T : TypeId} (h : x.heap[b]? = some (.cells #[a, c, d, e] T)) : x.cell? ⟨b, 0, none⟩ = some a ∧ x.cell? ⟨b, 1, none⟩ = some c ∧ x.cell? ⟨b, 2, none⟩ = some d ∧ x.cell? ⟨b, 3, none⟩ = some e := by
  simp [World.cell?, h]
/-- What the table of reaches holds. -/
def Tb (w : World) : Prop := ∀ k : Nat, 1 ≤ k → k ≤ 13 → w.cell? ⟨0, k * 2, none⟩ = some (.int .i64 (ra k)) ∧ w.cell? ⟨0, k * 2 + 1, none⟩ = some (.int .i64 (rb' k))
theorem Tb.below {w w' : World} (h : Tb w) (hb : Below w.heap.size w w') : Tb w' := fun k h1 h2 => ⟨(hb.cell (lt_of_cell (h k h1 h2).1)).trans (h k h1 h2).1, (hb.cell (lt_of_cell (h k h1 h2).2)).trans (h k h1 h2).2⟩
def acV (a : Ac) : Value := .agg #[.int .i64 a.k, .int .i64 a.a, .int .i64 a.b, .int .i64 a.n]
def kindB (m : Nat) (a : Ac) : Bool := decide (1 ≤ a.k ∧ a.k ≤ 13)
theorem kind_any (w : World) (a : Ac) (m : Nat) : Calls Tryd.prog 17 #[acV a, .int .i64 (m : Int)] w fun e w' => e = .returned (.bool (kindB m a)) ∧ Below w.heap.size w w' := by
  obtain ⟨k, aa, ab, an⟩ := a
  have B1 := box_below w (.cells #[.int .i64 k, .int .i64 aa, .int .i64 ab, .int .i64 an] 45)
  obtain ⟨x0, x1, x2, x3⟩ := four_ofN (heap_alloc_new w (.cells #[.int .i64 k, .int .i64 aa, .int .i64 ab, .int .i64 an] 45))
  have BH := hide B1
  clear B1
  unfold acV kindB
  simp only
  by_cases h1 : 1 ≤ k
  · by_cases h2 : k ≤ 13
    · rw [show decide (1 ≤ k ∧ k ≤ 13) = true from decide_eq_true ⟨h1, h2⟩]
      go_enter Tryd.func17, Tryd.ntmps17
      go_wp2_with fail
      go_ret
      exact ⟨rfl, BH.out⟩
    · rw [show decide (1 ≤ k ∧ k ≤ 13) = false from decide_eq_false fun c => h2 c.2]
      go_enter Tryd.func17, Tryd.ntmps17
      go_wp2_with fail
      go_ret
      exact ⟨rfl, BH.out⟩
  · rw [show decide (1 ≤ k ∧ k ≤ 13) = false from decide_eq_false fun c => h1 c.1]
    go_enter Tryd.func17, Tryd.ntmps17
    go_wp2_with fail
    go_ret
    exact ⟨rfl, BH.out⟩
set_option maxHeartbeats 2000000 in
theorem n_any (w : World) (a : Ac) (m : Nat) : Calls Tryd.prog 32 #[acV a, .int .i64 (m : Int)] w fun e w' => e = .returned (.bool (decide (nOk m a))) ∧ Below w.heap.size w w' := by
  obtain ⟨k, aa, ab, an⟩ := a
  have B1 := box_below w (.cells #[.int .i64 k, .int .i64 aa, .int .i64 ab, .int .i64 an] 45)
  obtain ⟨x0, x1, x2, x3⟩ := four_ofN (heap_alloc_new w (.cells #[.int .i64 k, .int .i64 aa, .int .i64 ab, .int .i64 an] 45))
  have BH := hide B1
  clear B1
  unfold acV
  simp only
  obtain ⟨z, hz⟩ : ∃ z, Hid (decide (nOk m ⟨k, aa, ab, an⟩) = z) := ⟨_, rfl⟩
  rw [hz.out]
  unfold nOk at hz
  simp only at hz
  by_cases k6 : k = 6
  · subst k6
    obtain rfl : z = true := by rw [← hz.out]; simp
    clear hz
    go_enter Tryd.func32, Tryd.ntmps32
    go_wp2_with fail
    go_ret
    exact ⟨rfl, BH.out⟩
  by_cases k8 : k = 8
  · subst k8
    obtain rfl : z = true := by rw [← hz.out]; simp
    clear hz k6
    go_enter Tryd.func32, Tryd.ntmps32
    go_wp2_with fail
    go_ret
    exact ⟨rfl, BH.out⟩
  by_cases k12 : k = 12
  · subst k12
    obtain rfl : z = true := by rw [← hz.out]; simp
    clear hz k6 k8
    go_enter Tryd.func32, Tryd.ntmps32
    go_wp2_with fail
    go_ret
    exact ⟨rfl, BH.out⟩
  have d6 : (k == 6) = false := by simpa using k6
  have d8 : (k == 8) = false := by simpa using k8
  have d12 : (k == 12) = false := by simpa using k12
  by_cases k10 : k = 10
  · subst k10
    by_cases h1 : 0 ≤ an
    · by_cases h2 : an ≤ 255
      · obtain rfl : z = true := by rw [← hz.out]; simp [h1, h2]
        clear hz k6 k8 k12 d6 d8 d12
        go_enter Tryd.func32, Tryd.ntmps32
        go_wp2_with fail
        go_ret
        exact ⟨rfl, BH.out⟩
      · obtain rfl : z = false := by rw [← hz.out]; simp [h1, h2]
        clear hz k6 k8 k12 d6 d8 d12
        go_enter Tryd.func32, Tryd.ntmps32
        go_wp2_with fail
        go_ret
        exact ⟨rfl, BH.out⟩
    · obtain rfl : z = false := by rw [← hz.out]; simp [h1]
      clear hz k6 k8 k12 d6 d8 d12
      go_enter Tryd.func32, Tryd.ntmps32
      go_wp2_with fail
      go_ret
      exact ⟨rfl, BH.out⟩
  have d10 : (k == 10) = false := by simpa using k10
  by_cases k13 : k = 13
  · subst k13
    by_cases h1 : 0 ≤ an
    · by_cases h2 : an ≤ (m : Int)
      · obtain rfl : z = true := by rw [← hz.out]; simp [h1, h2]
        clear hz k6 k8 k12 d6 d8 d12 k10 d10
        go_enter Tryd.func32, Tryd.ntmps32
        go_wp2_with fail
        go_ret
        exact ⟨rfl, BH.out⟩
      · obtain rfl : z = false := by rw [← hz.out]; simp [h1, h2]
        clear hz k6 k8 k12 d6 d8 d12 k10 d10
        go_enter Tryd.func32, Tryd.ntmps32
        go_wp2_with fail
        go_ret
        exact ⟨rfl, BH.out⟩
    · obtain rfl : z = false := by rw [← hz.out]; simp [h1]
      clear hz k6 k8 k12 d6 d8 d12 k10 d10
      go_enter Tryd.func32, Tryd.ntmps32
      go_wp2_with fail
      go_ret
      exact ⟨rfl, BH.out⟩
  have d13 : (k == 13) = false := by simpa using k13
  by_cases h0 : an = 0
  · subst h0
    obtain rfl : z = true := by rw [← hz.out]; simp [k6, k8, k12, k10, k13]
    clear hz k6 k8 k12 k10 k13
    go_enter Tryd.func32, Tryd.ntmps32
    go_wp2_with fail
    go_ret
    exact ⟨rfl, BH.out⟩
  · have h0' : (an == 0) = false := by simpa using h0
    obtain rfl : z = false := by rw [← hz.out]; simp [k6, k8, k12, k10, k13, h0]
    clear hz k6 k8 k12 k10 k13
    go_enter Tryd.func32, Tryd.ntmps32
    go_wp2_with fail
    go_ret
    exact ⟨rfl, BH.out⟩
def useB (m : Nat) (a : Ac) : Bool := decide (0 ≤ a.a ∧ a.a < ra a.k ∧ 0 ≤ a.b ∧ a.b < rb' a.k ∧ nOk m a)
set_option maxHeartbeats 2000000 in
theorem use_any (w : World) (hT : Tb w) (a : Ac) (hk : 1 ≤ a.k ∧ a.k ≤ 13) (m : Nat) : Calls Tryd.prog 18 #[acV a, .int .i64 (m : Int)] w fun e w' => e = .returned (.bool (useB m a)) ∧ Below w.heap.size w w' := by
  obtain ⟨k, aa, ab, an⟩ := a
  obtain ⟨kn, rfl⟩ := nat_of (show (0 : Int) ≤ k by have := hk.1; simp only at this; omega)
  simp only at hk
  have hk' : (kn : Int) < 14 := by omega
  obtain ⟨z, hz⟩ : ∃ z, Hid (useB m ⟨kn, aa, ab, an⟩ = z) := ⟨_, rfl⟩
  obtain ⟨zn, hzn⟩ : ∃ zn, Hid (decide (nOk m ⟨kn, aa, ab, an⟩) = zn) := ⟨_, rfl⟩
  rw [hz.out]
  have B1 := box_below w (.cells #[.int .i64 kn, .int .i64 aa, .int .i64 ab, .int .i64 an] 45)
  have N1 := heap_alloc_new w (.cells #[.int .i64 kn, .int .i64 aa, .int .i64 ab, .int .i64 an] 45)
  obtain ⟨w1, hw1⟩ : ∃ w1, Hid (w.alloc (.cells #[.int .i64 kn, .int .i64 aa, .int .i64 ab, .int .i64 an] 45) = w1) := ⟨_, rfl⟩
  obtain ⟨xb, hxb⟩ : ∃ xb, Hid (w.heap.size = xb) := ⟨_, rfl⟩
  rw [hw1.out] at B1 N1
  rw [hxb.out] at N1
  obtain ⟨t0, t1⟩ := (hT.below B1) kn (by omega) (by omega)
  obtain ⟨x0, x1, x2, x3⟩ := four_ofN N1
  obtain ⟨R1, hR1⟩ : ∃ R1, Hid (ra kn = R1) := ⟨_, rfl⟩
  obtain ⟨R2, hR2⟩ : ∃ R2, Hid (rb' kn = R2) := ⟨_, rfl⟩
  rw [hR1.out] at t0
  rw [hR2.out] at t1
  have B2 := box_below w1 (.cells #[.int .i64 R1, .int .i64 R2] 74)
  have N2 := heap_alloc_new w1 (.cells #[.int .i64 R1, .int .i64 R2] 74)
  obtain ⟨w2, hw2⟩ : ∃ w2, Hid (w1.alloc (.cells #[.int .i64 R1, .int .i64 R2] 74) = w2) := ⟨_, rfl⟩
  obtain ⟨yb, hyb⟩ : ∃ yb, Hid (w1.heap.size = yb) := ⟨_, rfl⟩
  rw [hw2.out] at B2 N2
  rw [hyb.out] at N2
  obtain ⟨u0, u1, u2, u3⟩ := four_ofN ((B2.block xb (heap_lt N1)).trans N1)
  have v0 : w2.cell? ⟨yb, 0, none⟩ = some (.int .i64 R1) := by rw [cell_of N2]; rfl
  have v1 : w2.cell? ⟨yb, 1, none⟩ = some (.int .i64 R2) := by rw [cell_of N2]; rfl
  have BW := hide (keepF B1 B2)
  have NA := hide (n_any w2 ⟨kn, aa, ab, an⟩ m)
  unfold acV at NA ⊢
  simp only at NA ⊢
  rw [hzn.out] at NA
  have HZ : Hid (z = (decide (0 ≤ aa) && (decide (aa < R1) && (decide (0 ≤ ab) && (decide (ab < R2) && zn))))) := by
    show _ = _
    rw [← hz.out, ← hR1.out, ← hR2.out, ← hzn.out]
    unfold useB
    simp only [Bool.decide_and]
  clear hz hzn hT B1 N1 B2 N2
  by_cases h1 : 0 ≤ aa
  · by_cases h2 : aa < R1
    · by_cases h3 : 0 ≤ ab
      · by_cases h4 : ab < R2
        · obtain rfl : z = zn := by rw [HZ.out]; simp [h1, h2, h3, h4]
          go_enter Tryd.func18, Tryd.ntmps18
          go_upto_region 1 with fail
          rw [hw1.out, hxb.out]
          go_upto_region 2 with fail
          rw [hw2.out, hyb.out]
          go_wp2_with (go_at_call 32; refine NA.out.mono ?_; rintro e w3 ⟨rfl, b3⟩; replace b3 := hide b3)
          go_ret
          exact ⟨rfl, keepF BW.out b3.out⟩
        · obtain rfl : z = false := by rw [HZ.out]; simp [h4]
          go_enter Tryd.func18, Tryd.ntmps18
          go_upto_region 1 with fail
          rw [hw1.out, hxb.out]
          go_upto_region 2 with fail
          rw [hw2.out, hyb.out]
          go_wp2_with fail
          go_ret
          exact ⟨rfl, BW.out⟩
      · obtain rfl : z = false := by rw [HZ.out]; simp [h3]
        go_enter Tryd.func18, Tryd.ntmps18
        go_upto_region 1 with fail
        rw [hw1.out, hxb.out]
        go_upto_region 2 with fail
        rw [hw2.out, hyb.out]
        go_wp2_with fail
        go_ret
        exact ⟨rfl, BW.out⟩
    · obtain rfl : z = false := by rw [HZ.out]; simp [h2]
      go_enter Tryd.func18, Tryd.ntmps18
      go_upto_region 1 with fail
      rw [hw1.out, hxb.out]
      go_upto_region 2 with fail
      rw [hw2.out, hyb.out]
      go_wp2_with fail
      go_ret
      exact ⟨rfl, BW.out⟩
  · obtain rfl : z = false := by rw [HZ.out]; simp [h1]
    go_enter Tryd.func18, Tryd.ntmps18
    go_upto_region 1 with fail
    rw [hw1.out, hxb.out]
    go_upto_region 2 with fail
    rw [hw2.out, hyb.out]
    go_wp2_with fail
    go_ret
    exact ⟨rfl, BW.out⟩
end Go.Proofs.YtiiinpmkidobgaaDoor.Sd

/-
  May there be such tasks, such a run? (gen_TdO.py)
-/
namespace Go.Proofs.YtiiinpmkidobgaaDoor.Sd
open Go.RowKit
set_option linter.unusedVariables false
set_option linter.unusedSimpArgs false
set_option maxRecDepth 100000
theorem row_at {w : World} {ao : Option Addr} {n cap : Nat} {us : List Value} (h : Row w (.slice ao n cap) us) (hn : us.length = n) : n ≤ cap ∧ ∀ i u, us[i]? = some u → ∃ b off, ao = some ⟨b, off, none⟩ ∧ w.cell? ⟨b, off + i, none⟩ = some u := by
  obtain ⟨a, c, e, h1, h2, h3, h4⟩ := h
  simp only [Value.slice.injEq] at e
  obtain ⟨rfl, rfl, rfl⟩ := e
  refine ⟨h2, fun i u hi => ?_⟩
  have hil := (List.getElem?_eq_some_iff.1 hi)
  obtain ⟨b, off, e1, e2⟩ := h4 i hil.1
  exact ⟨b, off, e1, by rw [e2, hil.2]⟩
theorem all_take {α : Type} (p : α → Bool) (l : List α) : (∀ (i : Nat) (x : α), l[i]? = some x → p x = true) → l.all p = true := by
  intro h
  rw [List.all_eq_true]
  intro x hx
  obtain ⟨i, hi⟩ := List.getElem?_of_mem hx
  exact h i x hi
theorem all_no {α : Type} (p : α → Bool) (l : List α) {i : Nat} {x : α} (h : l[i]? = some x) (hp : p x = false) : l.all p = false := by
  rw [List.all_eq_false]
  exact ⟨x, List.mem_of_getElem? h, by rw [hp]; simp⟩
set_option maxHeartbeats 4000000 in
theorem every_kind (w : World) (v : Value) (us : List Value) (ts : List (List Ac)) (h : TksAt w v us ts) (hn : ts.length ≤ 40) (hb : ∀ l ∈ ts, l.length ≤ 1000000) :
    Calls Tryd.prog 16 #[v, .func (.func 17) #[] #[]] w fun e w' => e = .returned (.bool (ts.all fun l => l.all (kindB l.length))) ∧ Below w.heap.size w w' := by
  obtain ⟨hr, hul, hact⟩ := h
  have HR := hide hr
  obtain ⟨ao, cap, e, -, -, -, -⟩ := hr
  subst e
  obtain ⟨n, hnn⟩ : ∃ n, Hid (us.length = n) := ⟨_, rfl⟩
  rw [hnn.out] at HR hul ⊢
  have HA := hide hact
  have HB := hide hb
  obtain ⟨Z, hZ⟩ : ∃ Z, Hid ((ts.all fun l => l.all (kindB l.length)) = Z) := ⟨_, rfl⟩
  rw [hZ.out]
  have hn' : n ≤ 40 := by omega
  have hulH := hide hul
  clear hact hb hul hn
  go_enter Tryd.func16, Tryd.ntmps16
  go_wp2_with fail
  go_loopw [11] (fun s wr => ∃ i : Nat, s = .int .i64 (i : Int) ∧ i ≤ n ∧ Hid ((∀ j l, j < i → ts[j]? = some l → l.all (kindB l.length) = true) ∧ Below w.heap.size w wr)) (fun s wr => n - (intOf s).toNat)
  case atStart => exact ⟨0, rfl, Nat.zero_le _, fun j l hj => by omega, Below.refl _ _⟩
  case round =>
    obtain ⟨i, rfl, hin, hst⟩ := hrel
    by_cases hlt : i < n
    · have i1 : (i : Int) < (n : Int) := by omega
      obtain ⟨u, hu⟩ : ∃ u, us[i]? = some u := ⟨_, List.getElem?_eq_getElem (by rw [hnn.out]; exact hlt)⟩
      obtain ⟨l, hl⟩ : ∃ l, ts[i]? = some l := ⟨_, List.getElem?_eq_getElem (by rw [← hulH.out]; exact hlt)⟩
      obtain ⟨hcp, hrow⟩ := row_at (Below.row hst.out.2 HR.out) hnn.out
      obtain ⟨b, off, rfl, c0⟩ := hrow i u hu
      obtain ⟨aa, ac, rfl, hac, hacts⟩ := (HA.out i u l hu hl).below hst.out.2
      have hlb := HB.out l (List.mem_of_getElem? hl)
      have hcp' : (i : Int) < (cap : Int) := by omega
      obtain ⟨N, hN⟩ : ∃ N, Hid (l.length = N) := ⟨_, rfl⟩
      rw [hN.out] at c0 hac hlb
      have HC := hide hacts
      have huH := hide hu
      have hlH := hide hl
      clear hrow hacts hu hl
      have ewi : wrap64 ((i : Int) + 1) = (i : Int) + 1 := by unfold wrap64; omega
      obtain ⟨wo, hwo⟩ : ∃ wo, wo = wr := ⟨wr, rfl⟩
      subst hwo
      go_wp2_with fail
      go_loopw [17] (fun s wx => ∃ k : Nat, s = .int .i64 (k : Int) ∧ k ≤ N ∧ Hid ((∀ j a, j < k → l[j]? = some a → kindB l.length a = true) ∧ Below wo.heap.size wo wx)) (fun s wx => N - (intOf s).toNat)
      case atStart => exact ⟨0, rfl, Nat.zero_le _, fun j a hj => by omega, Below.refl _ _⟩
      case round =>
        obtain ⟨k, rfl, hkn, hsx⟩ := hrel
        by_cases hkl : k < N
        · have k1 : (k : Int) < (N : Int) := by omega
          obtain ⟨a, ha⟩ : ∃ a, l[k]? = some a := ⟨_, List.getElem?_eq_getElem (by rw [hN.out]; exact hkl)⟩
          obtain ⟨ab, aoff, rfl, a0, a1, a2, a3⟩ := HC.out k a ha
          have bx := hsx.out.2
          have e0 := (bx.cell (lt_of_cell a0)).trans a0
          have e1 := (bx.cell (lt_of_cell a1)).trans a1
          have e2 := (bx.cell (lt_of_cell a2)).trans a2
          have e3 := (bx.cell (lt_of_cell a3)).trans a3
          have kc : (k : Int) < (ac : Int) := by omega
          have B2 := box_below wr (.cells #[.int .i64 a.k, .int .i64 a.a, .int .i64 a.b, .int .i64 a.n] 45)
          have BB := keepF bx B2
          have CP := hide (kind_any (wr.alloc (.cells #[.int .i64 a.k, .int .i64 a.a, .int .i64 a.b, .int .i64 a.n] 45)) a l.length)
          rw [hN.out] at CP
          unfold acV at CP
          obtain ⟨z, hz⟩ : ∃ z, Hid (kindB N a = z) := ⟨_, rfl⟩
          rw [hz.out] at CP
          have BBh := hide BB
          have haH := hide ha
          have hl2 := hlH.out
          obtain ⟨ak, aa', ab', an⟩ := a
          simp only at e0 e1 e2 e3 CP BBh
          obtain ⟨x0, x1, x2, x3⟩ := four_ofN (heap_alloc_new wr (.cells #[.int .i64 ak, .int .i64 aa', .int .i64 ab', .int .i64 an] 45))
          clear bx B2 BB a0 a1 a2 a3 ha hl2
          cases z with
          | true =>
            go_wp2_with (go_at_call 17; refine CP.out.mono ?_; rintro e w3 ⟨rfl, b3⟩; replace b3 := hide b3)
            go_roundw
            case rel =>
              refine ⟨k + 1, by go_num, hkl, fun j a hj hja => ?_, keepF BBh.out b3.out⟩
              by_cases e : j = k
              · subst e
                rw [haH.out] at hja
                cases hja
                rw [hN.out]
                exact hz.out
              · exact hsx.out.1 j a (by omega) hja
            case measure => simp only [intOf]; omega
          | false =>
            have hZF : Z = false := by rw [← hZ.out]; exact all_no _ _ hlH.out (all_no _ _ haH.out (by rw [hN.out]; exact hz.out))
            subst hZF
            go_wp2_with (go_at_call 17; refine CP.out.mono ?_; rintro e w3 ⟨rfl, b3⟩; replace b3 := hide b3)
            go_ret
            exact ⟨rfl, keepF hst.out.2 (keepF BBh.out b3.out)⟩
        · obtain rfl : k = N := by omega
          have k1 : ¬ (k : Int) < (k : Int) := by omega
          have AL : Hid (l.all (kindB l.length) = true) := all_take _ _ fun j a hja => hsx.out.1 j a (by rw [← hN.out]; exact (List.getElem?_eq_some_iff.1 hja).1) hja
          go_wp2_with fail
          go_roundw
          case rel =>
            refine ⟨i + 1, by first | go_num | (rw [ewi]; rfl), hlt, fun j l2 hj hjl => ?_, keepF hst.out.2 hsx.out.2⟩
            by_cases e : j = i
            · subst e
              rw [hlH.out] at hjl
              cases hjl
              exact AL.out
            · exact hst.out.1 j l2 (by omega) hjl
          case measure => first | (simp only [intOf]; omega) | (rw [ewi]; simp only [intOf]; omega)
    · obtain rfl : i = n := by omega
      have i1 : ¬ (i : Int) < (i : Int) := by omega
      have hZT : Z = true := by rw [← hZ.out]; exact all_take _ _ fun j l hjl => hst.out.1 j l (by have := (List.getElem?_eq_some_iff.1 hjl).1; rw [← hulH.out] at this; exact this) hjl
      subst hZT
      go_wp2_with fail
      go_ret
      exact ⟨rfl, hst.out.2⟩
set_option maxHeartbeats 4000000 in
theorem every_use (w : World) (hT : Tb w) (v : Value) (us : List Value) (ts : List (List Ac)) (h : TksAt w v us ts) (hn : ts.length ≤ 40) (hb : ∀ l ∈ ts, l.length ≤ 1000000) (hk : ∀ l ∈ ts, ∀ a ∈ l, 1 ≤ a.k ∧ a.k ≤ 13) :
    Calls Tryd.prog 16 #[v, .func (.func 18) #[] #[]] w fun e w' => e = .returned (.bool (ts.all fun l => l.all (useB l.length))) ∧ Below w.heap.size w w' := by
  obtain ⟨hr, hul, hact⟩ := h
  have HR := hide hr
  obtain ⟨ao, cap, e, -, -, -, -⟩ := hr
  subst e
  obtain ⟨n, hnn⟩ : ∃ n, Hid (us.length = n) := ⟨_, rfl⟩
  rw [hnn.out] at HR hul ⊢
  have HA := hide hact
  have HB := hide hb
  obtain ⟨Z, hZ⟩ : ∃ Z, Hid ((ts.all fun l => l.all (useB l.length)) = Z) := ⟨_, rfl⟩
  rw [hZ.out]
  have hn' : n ≤ 40 := by omega
  have hulH := hide hul
  clear hact hb hul hn
  go_enter Tryd.func16, Tryd.ntmps16
  go_wp2_with fail
  go_loopw [11] (fun s wr => ∃ i : Nat, s = .int .i64 (i : Int) ∧ i ≤ n ∧ Hid ((∀ j l, j < i → ts[j]? = some l → l.all (useB l.length) = true) ∧ Below w.heap.size w wr)) (fun s wr => n - (intOf s).toNat)
  case atStart => exact ⟨0, rfl, Nat.zero_le _, fun j l hj => by omega, Below.refl _ _⟩
  case round =>
    obtain ⟨i, rfl, hin, hst⟩ := hrel
    by_cases hlt : i < n
    · have i1 : (i : Int) < (n : Int) := by omega
      obtain ⟨u, hu⟩ : ∃ u, us[i]? = some u := ⟨_, List.getElem?_eq_getElem (by rw [hnn.out]; exact hlt)⟩
      obtain ⟨l, hl⟩ : ∃ l, ts[i]? = some l := ⟨_, List.getElem?_eq_getElem (by rw [← hulH.out]; exact hlt)⟩
      obtain ⟨hcp, hrow⟩ := row_at (Below.row hst.out.2 HR.out) hnn.out
      obtain ⟨b, off, rfl, c0⟩ := hrow i u hu
      obtain ⟨aa, ac, rfl, hac, hacts⟩ := (HA.out i u l hu hl).below hst.out.2
      have hlb := HB.out l (List.mem_of_getElem? hl)
      have hcp' : (i : Int) < (cap : Int) := by omega
      obtain ⟨N, hN⟩ : ∃ N, Hid (l.length = N) := ⟨_, rfl⟩
      rw [hN.out] at c0 hac hlb
      have HC := hide hacts
      have huH := hide hu
      have hlH := hide hl
      clear hrow hacts hu hl
      have ewi : wrap64 ((i : Int) + 1) = (i : Int) + 1 := by unfold wrap64; omega
      obtain ⟨wo, hwo⟩ : ∃ wo, wo = wr := ⟨wr, rfl⟩
      subst hwo
      go_wp2_with fail
      go_loopw [17] (fun s wx => ∃ k : Nat, s = .int .i64 (k : Int) ∧ k ≤ N ∧ Hid ((∀ j a, j < k → l[j]? = some a → useB l.length a = true) ∧ Below wo.heap.size wo wx)) (fun s wx => N - (intOf s).toNat)
      case atStart => exact ⟨0, rfl, Nat.zero_le _, fun j a hj => by omega, Below.refl _ _⟩
      case round =>
        obtain ⟨k, rfl, hkn, hsx⟩ := hrel
        by_cases hkl : k < N
        · have k1 : (k : Int) < (N : Int) := by omega
          obtain ⟨a, ha⟩ : ∃ a, l[k]? = some a := ⟨_, List.getElem?_eq_getElem (by rw [hN.out]; exact hkl)⟩
          obtain ⟨ab, aoff, rfl, a0, a1, a2, a3⟩ := HC.out k a ha
          have bx := hsx.out.2
          have e0 := (bx.cell (lt_of_cell a0)).trans a0
          have e1 := (bx.cell (lt_of_cell a1)).trans a1
          have e2 := (bx.cell (lt_of_cell a2)).trans a2
          have e3 := (bx.cell (lt_of_cell a3)).trans a3
          have kc : (k : Int) < (ac : Int) := by omega
          have B2 := box_below wr (.cells #[.int .i64 a.k, .int .i64 a.a, .int .i64 a.b, .int .i64 a.n] 45)
          have BB := keepF bx B2
          have CP := hide (use_any (wr.alloc (.cells #[.int .i64 a.k, .int .i64 a.a, .int .i64 a.b, .int .i64 a.n] 45)) (hT.below (keepF hst.out.2 BB)) a (hk l (List.mem_of_getElem? hlH.out) a (List.mem_of_getElem? ha)) l.length)
          rw [hN.out] at CP
          unfold acV at CP
          obtain ⟨z, hz⟩ : ∃ z, Hid (useB N a = z) := ⟨_, rfl⟩
          rw [hz.out] at CP
          have BBh := hide BB
          have haH := hide ha
          have hl2 := hlH.out
          obtain ⟨ak, aa', ab', an⟩ := a
          simp only at e0 e1 e2 e3 CP BBh
          obtain ⟨x0, x1, x2, x3⟩ := four_ofN (heap_alloc_new wr (.cells #[.int .i64 ak, .int .i64 aa', .int .i64 ab', .int .i64 an] 45))
          clear bx B2 BB a0 a1 a2 a3 ha hl2
          cases z with
          | true =>
            go_wp2_with (go_at_call 18; refine CP.out.mono ?_; rintro e w3 ⟨rfl, b3⟩; replace b3 := hide b3)
            go_roundw
            case rel =>
              refine ⟨k + 1, by go_num, hkl, fun j a hj hja => ?_, keepF BBh.out b3.out⟩
              by_cases e : j = k
              · subst e
                rw [haH.out] at hja
                cases hja
                rw [hN.out]
                exact hz.out
              · exact hsx.out.1 j a (by omega) hja
            case measure => simp only [intOf]; omega
          | false =>
            have hZF : Z = false := by rw [← hZ.out]; exact all_no _ _ hlH.out (all_no _ _ haH.out (by rw [hN.out]; exact hz.out))
            subst hZF
            go_wp2_with (go_at_call 18; refine CP.out.mono ?_; rintro e w3 ⟨rfl, b3⟩; replace b3 := hide b3)
            go_ret
            exact ⟨rfl, keepF hst.out.2 (keepF BBh.out b3.out)⟩
        · obtain rfl : k = N := by omega
          have k1 : ¬ (k : Int) < (k : Int) := by omega
          have AL : Hid (l.all (useB l.length) = true) := all_take _ _ fun j a hja => hsx.out.1 j a (by rw [← hN.out]; exact (List.getElem?_eq_some_iff.1 hja).1) hja
          go_wp2_with fail
          go_roundw
          case rel =>
            refine ⟨i + 1, by first | go_num | (rw [ewi]; rfl), hlt, fun j l2 hj hjl => ?_, keepF hst.out.2 hsx.out.2⟩
            by_cases e : j = i
            · subst e
              rw [hlH.out] at hjl
              cases hjl
              exact AL.out
            · exact hst.out.1 j l2 (by omega) hjl
          case measure => first | (simp only [intOf]; omega) | (rw [ewi]; simp only [intOf]; omega)
    · obtain rfl : i = n := by omega
      have i1 : ¬ (i : Int) < (i : Int) := by omega
      have hZT : Z = true := by rw [← hZ.out]; exact all_take _ _ fun j l hjl => hst.out.1 j l (by have := (List.getElem?_eq_some_iff.1 hjl).1; rw [← hulH.out] at this; exact this) hjl
      subst hZT
      go_wp2_with fail
      go_ret
      exact ⟨rfl, hst.out.2⟩
end Go.Proofs.YtiiinpmkidobgaaDoor.Sd

/-
  What is refused.
-/
namespace Go.Proofs.YtiiinpmkidobgaaDoor.Sd
open Go.RowKit
set_option linter.unusedVariables false
set_option linter.unusedSimpArgs false
set_option maxRecDepth 100000
def manyB (ts : List (List Ac)) : Bool := decide (16 < ts.length) || ts.any fun l => decide (256 < l.length)
set_option maxHeartbeats 2000000 in
theorem many_any (w : World) (v : Value) (us : List Value) (ts : List (List Ac)) (h : TksAt w v us ts) :
    Calls Tryd.prog 15 #[v] w fun e w' => e = .returned (.bool (manyB ts)) ∧ w' = w := by
  obtain ⟨hr, hul, hact⟩ := h
  have HR := hide hr
  obtain ⟨ao, cap, e, -, -, -, -⟩ := hr
  subst e
  obtain ⟨n, hnn⟩ : ∃ n, Hid (us.length = n) := ⟨_, rfl⟩
  rw [hnn.out] at HR hul ⊢
  have HA := hide hact
  have hulH := hide hul
  obtain ⟨Z, hZ⟩ : ∃ Z, Hid (manyB ts = Z) := ⟨_, rfl⟩
  rw [hZ.out]
  clear hact hul
  by_cases h16 : 16 < n
  · have hz : Z = true := by rw [← hZ.out]; unfold manyB; rw [← hulH.out]; simp [h16]
    subst hz
    have h16' : (n : Int) > 16 := by omega
    go_enter Tryd.func15, Tryd.ntmps15
    go_wp2_with fail
    go_ret
    exact ⟨rfl, rfl⟩
  · have h16' : ¬ (n : Int) > 16 := by omega
    have HZ : Hid (Z = ts.any fun l => decide (256 < l.length)) := by show _ = _; rw [← hZ.out]; unfold manyB; rw [← hulH.out]; simp [h16]
    go_enter Tryd.func15, Tryd.ntmps15
    go_wp2_with fail
    go_loopw [10] (fun s wr => ∃ i : Nat, s = .int .i64 (i : Int) ∧ i ≤ n ∧ Hid ((∀ j l, j < i → ts[j]? = some l → l.length ≤ 256) ∧ wr = w)) (fun s wr => n - (intOf s).toNat)
    case atStart => exact ⟨0, rfl, Nat.zero_le _, fun j l hj => by omega, rfl⟩
    case round =>
      obtain ⟨i, rfl, hin, hst⟩ := hrel
      have hw := hst.out.2
      subst hw
      by_cases hlt : i < n
      · have i1 : (i : Int) < (n : Int) := by omega
        obtain ⟨u, hu⟩ : ∃ u, us[i]? = some u := ⟨_, List.getElem?_eq_getElem (by rw [hnn.out]; exact hlt)⟩
        obtain ⟨l, hl⟩ : ∃ l, ts[i]? = some l := ⟨_, List.getElem?_eq_getElem (by rw [← hulH.out]; exact hlt)⟩
        obtain ⟨hcp, hrow⟩ := row_at HR.out hnn.out
        obtain ⟨b, off, rfl, c0⟩ := hrow i u hu
        obtain ⟨aa, ac, rfl, hac, hacts⟩ := HA.out i u l hu hl
        have hcp' : (i : Int) < (cap : Int) := by omega
        obtain ⟨N, hN⟩ : ∃ N, Hid (l.length = N) := ⟨_, rfl⟩
        rw [hN.out] at c0 hac
        have hlH := hide hl
        clear hrow hacts hu hl
        by_cases h2 : 256 < N
        · have h2' : (N : Int) > 256 := by omega
          have hz : Z = true := by
            rw [HZ.out, List.any_eq_true]
            exact ⟨l, List.mem_of_getElem? hlH.out, by rw [hN.out]; simp [h2]⟩
          subst hz
          go_wp2_with fail
          go_ret
          exact ⟨rfl, rfl⟩
        · have h2' : ¬ (N : Int) > 256 := by omega
          go_wp2_with fail
          go_roundw
          case rel =>
            refine ⟨i + 1, by go_num, hlt, fun j l2 hj hjl => ?_, trivial⟩
            by_cases e : j = i
            · subst e
              rw [hlH.out] at hjl
              cases hjl
              rw [hN.out]
              omega
            · exact hst.out.1 j l2 (by omega) hjl
          case measure => simp only [intOf]; omega
      · obtain rfl : i = n := by omega
        have i1 : ¬ (i : Int) < (i : Int) := by omega
        have hz : Z = false := by
          rw [HZ.out, List.any_eq_false]
          intro l hl
          obtain ⟨j, hj⟩ := List.getElem?_of_mem hl
          have := hst.out.1 j l (by have := (List.getElem?_eq_some_iff.1 hj).1; rw [← hulH.out] at this; exact this) hj
          simp
          omega
        subst hz
        go_wp2_with fail
        go_ret
        exact ⟨rfl, rfl⟩
def pickB (picks : List Int) : Bool := decide (picks.length ≤ 65536) && picks.all fun k => decide (0 ≤ k)
set_option maxHeartbeats 2000000 in
theorem mayPick_any (w : World) (v : Value) (picks : List Int) (h : Row w v (picks.map (Value.int .i64))) :
    Calls Tryd.prog 37 #[v] w fun e w' => e = .returned (.bool (pickB picks)) ∧ w' = w := by
  have HR := hide h
  obtain ⟨ao, cap, e, -, -, -, -⟩ := h
  obtain ⟨n, hnn⟩ : ∃ n, Hid ((picks.map (Value.int .i64)).length = n) := ⟨_, rfl⟩
  rw [hnn.out] at e
  subst e
  have hpl : picks.length = n := by rw [← hnn.out, List.length_map]
  have hplH := hide hpl
  obtain ⟨Z, hZ⟩ : ∃ Z, Hid (pickB picks = Z) := ⟨_, rfl⟩
  rw [hZ.out]
  unfold pickB at hZ
  rw [hpl] at hZ
  clear hpl
  by_cases h1 : n ≤ 65536
  · have h1' : ¬ (n : Int) > 65536 := by omega
    have HZ : Hid (Z = picks.all fun k => decide (0 ≤ k)) := by show _ = _; rw [← hZ.out]; simp [h1]
    go_enter Tryd.func37, Tryd.ntmps37
    go_wp2_with fail
    go_loopw [10] (fun s wr => ∃ i : Nat, s = .int .i64 (i : Int) ∧ i ≤ n ∧ Hid ((∀ j k, j < i → picks[j]? = some k → (0 : Int) ≤ k) ∧ wr = w)) (fun s wr => n - (intOf s).toNat)
    case atStart => exact ⟨0, rfl, Nat.zero_le _, fun j l hj => by omega, rfl⟩
    case round =>
      obtain ⟨i, rfl, hin, hst⟩ := hrel
      have hw := hst.out.2
      subst hw
      by_cases hlt : i < n
      · have i1 : (i : Int) < (n : Int) := by omega
        obtain ⟨k, hk⟩ : ∃ k, picks[i]? = some k := ⟨_, List.getElem?_eq_getElem (by rw [hplH.out]; exact hlt)⟩
        obtain ⟨hcp, hrow⟩ := row_at HR.out hnn.out
        obtain ⟨b, off, rfl, c0⟩ := hrow i (.int .i64 k) (by rw [List.getElem?_map, hk]; rfl)
        have hcp' : (i : Int) < (cap : Int) := by omega
        have hkH := hide hk
        clear hrow hk
        by_cases h2 : k < 0
        · have hz : Z = false := by rw [HZ.out]; exact all_no _ _ hkH.out (by simp; omega)
          subst hz
          go_wp2_with fail
          go_ret
          exact ⟨rfl, rfl⟩
        · go_wp2_with fail
          go_roundw
          case rel =>
            refine ⟨i + 1, by go_num, hlt, fun j k2 hj hjl => ?_, trivial⟩
            by_cases e : j = i
            · subst e
              rw [hkH.out] at hjl
              cases hjl
              omega
            · exact hst.out.1 j k2 (by omega) hjl
          case measure => simp only [intOf]; omega
      · obtain rfl : i = n := by omega
        have i1 : ¬ (i : Int) < (i : Int) := by omega
        have hz : Z = true := by rw [HZ.out]; exact all_take _ _ fun j k hj => by have := hst.out.1 j k (by have := (List.getElem?_eq_some_iff.1 hj).1; rw [hplH.out] at this; exact this) hj; simpa using this
        subst hz
        go_wp2_with fail
        go_ret
        exact ⟨rfl, rfl⟩
  · have h1' : (n : Int) > 65536 := by omega
    have hz : Z = false := by rw [← hZ.out]; simp [h1]
    subst hz
    go_enter Tryd.func37, Tryd.ntmps37
    go_wp2_with fail
    go_ret
    exact ⟨rfl, rfl⟩
def mayE (ts : List (List Ac)) : Int := if manyB ts = true then 9 else if (ts.all fun l => l.all (kindB l.length)) = false then 62 else if (ts.all fun l => l.all (useB l.length)) = false then 1 else 0
theorem many_no {ts : List (List Ac)} (h : manyB ts = false) : ts.length ≤ 16 ∧ ∀ l ∈ ts, l.length ≤ 256 := by
  unfold manyB at h
  rw [Bool.or_eq_false_iff, List.any_eq_false] at h
  refine ⟨by have := h.1; simp at this; omega, fun l hl => ?_⟩
  have := h.2 l hl
  simp at this
  omega
theorem kind_yes {ts : List (List Ac)} (h : (ts.all fun l => l.all (kindB l.length)) = true) : ∀ l ∈ ts, ∀ a ∈ l, 1 ≤ a.k ∧ a.k ≤ 13 := by
  intro l hl a ha
  have := List.all_eq_true.1 (List.all_eq_true.1 h l hl) a ha
  unfold kindB at this
  simpa using this
set_option maxHeartbeats 4000000 in
theorem may_any (w : World) (hT : Tb w) (v : Value) (us : List Value) (ts : List (List Ac)) (h : TksAt w v us ts) :
    Calls Tryd.prog 6 #[v] w fun e w' => e = .returned (.int .i64 (mayE ts)) ∧ Below w.heap.size w w' := by
  have MA := hide (many_any w v us ts h)
  obtain ⟨E, hE⟩ : ∃ E, Hid (mayE ts = E) := ⟨_, rfl⟩
  rw [hE.out]
  unfold mayE at hE
  cases hm : manyB ts with
  | true =>
    rw [hm] at MA
    obtain rfl : E = 9 := by rw [← hE.out, hm]; rfl
    go_enter Tryd.func6, Tryd.ntmps6
    go_wp2_with (go_at_call 15; refine MA.out.mono ?_; rintro e w2 ⟨rfl, hw⟩; rw [hw]; clear hw w2)
    go_ret
    exact ⟨rfl, Below.refl _ _⟩
  | false =>
    obtain ⟨m1, m2⟩ := many_no hm
    rw [hm] at MA
    have KA := hide (every_kind w v us ts h (by omega) (fun l hl => Nat.le_trans (m2 l hl) (by decide)))
    cases hk : (ts.all fun l => l.all (kindB l.length)) with
    | false =>
      rw [hk] at KA
      obtain rfl : E = 62 := by rw [← hE.out, hm, hk]; rfl
      go_enter Tryd.func6, Tryd.ntmps6
      go_wp2_with (first | (go_at_call 15; refine MA.out.mono ?_; rintro e w2 ⟨rfl, hw⟩; rw [hw]; clear hw w2) | (go_at_call 16; refine KA.out.mono ?_; rintro e w3 ⟨rfl, b3⟩; replace b3 := hide b3))
      go_ret
      exact ⟨rfl, b3.out⟩
    | true =>
      rw [hk] at KA
      have UA : Hid (∀ u, Below w.heap.size w u → Calls Tryd.prog 16 #[v, .func (.func 18) #[] #[]] u fun e w' => e = .returned (.bool (ts.all fun l => l.all (useB l.length))) ∧ Below u.heap.size u w') := fun u hu => every_use u (hT.below hu) v us ts (h.below hu) (by omega) (fun l hl => Nat.le_trans (m2 l hl) (by decide)) (kind_yes hk)
      obtain ⟨U, hU⟩ : ∃ U, Hid ((ts.all fun l => l.all (useB l.length)) = U) := ⟨_, rfl⟩
      rw [hU.out] at UA
      have HE : Hid (E = if U = false then 1 else 0) := by show _ = _; rw [← hE.out, hm, hk, hU.out]; rfl
      clear h hT hE
      cases U with
      | false =>
        obtain rfl : E = 1 := by rw [HE.out]; rfl
        go_enter Tryd.func6, Tryd.ntmps6
        go_wp2_with (first | (go_at_call 15; refine MA.out.mono ?_; rintro e w2 ⟨rfl, hw⟩; rw [hw]; clear hw w2) | (go_at_call 16; refine (UA.out _ b3.out).mono ?_; rintro e w4 ⟨rfl, b4⟩; replace b4 := hide b4) | (go_at_call 16; refine KA.out.mono ?_; rintro e w3 ⟨rfl, b3⟩; replace b3 := hide b3))
        go_ret
        exact ⟨rfl, keepF b3.out b4.out⟩
      | true =>
        obtain rfl : E = 0 := by rw [HE.out]; rfl
        go_enter Tryd.func6, Tryd.ntmps6
        go_wp2_with (first | (go_at_call 15; refine MA.out.mono ?_; rintro e w2 ⟨rfl, hw⟩; rw [hw]; clear hw w2) | (go_at_call 16; refine (UA.out _ b3.out).mono ?_; rintro e w4 ⟨rfl, b4⟩; replace b4 := hide b4) | (go_at_call 16; refine KA.out.mono ?_; rintro e w3 ⟨rfl, b3⟩; replace b3 := hide b3))
        go_ret
        exact ⟨rfl, keepF b3.out b4.out⟩
def argB (room : Int) (picks : List Int) (most : Int) : Bool := decide (1 ≤ room ∧ room ≤ 16 ∧ 0 ≤ most ∧ most ≤ 65536) && pickB picks
def refE (ts : List (List Ac)) (room : Int) (picks : List Int) (most : Int) : Int := if mayE ts ≠ 0 then mayE ts else if argB room picks most = true then 0 else 1
set_option maxHeartbeats 2000000 in
theorem refuses_any (w : World) (hT : Tb w) (v vp : Value) (us : List Value) (ts : List (List Ac)) (h : TksAt w v us ts) (picks : List Int) (hp : Row w vp (picks.map (Value.int .i64))) (room most : Int) :
    Calls Tryd.prog 26 #[v, .int .i64 room, vp, .int .i64 most] w fun e w' => e = .returned (.int .i64 (refE ts room picks most)) ∧ Below w.heap.size w w' := by
  have MA := hide (may_any w hT v us ts h)
  have PA : Hid (∀ u, Below w.heap.size w u → Calls Tryd.prog 37 #[vp] u fun e w' => e = .returned (.bool (pickB picks)) ∧ w' = u) := fun u hu => mayPick_any u vp picks (Below.row hu hp)
  obtain ⟨M, hM⟩ : ∃ M, Hid (mayE ts = M) := ⟨_, rfl⟩
  obtain ⟨PB, hPB⟩ : ∃ PB, Hid (pickB picks = PB) := ⟨_, rfl⟩
  obtain ⟨E, hE⟩ : ∃ E, Hid (refE ts room picks most = E) := ⟨_, rfl⟩
  rw [hE.out]
  rw [hM.out] at MA
  rw [hPB.out] at PA
  have HE : Hid (E = if M ≠ 0 then M else if (decide (1 ≤ room ∧ room ≤ 16 ∧ 0 ≤ most ∧ most ≤ 65536) && PB) = true then 0 else 1) := by show _ = _; rw [← hE.out]; unfold refE argB; rw [hM.out, hPB.out]
  clear hE hM hPB h hT hp
  by_cases h0 : M = 0
  · subst h0
    by_cases r1 : room < 1
    · obtain rfl : E = 1 := by rw [HE.out]; simp; omega
      go_enter Tryd.func26, Tryd.ntmps26
      go_wp2_with (go_at_call 6; refine MA.out.mono ?_; rintro e w2 ⟨rfl, b2⟩; replace b2 := hide b2)
      go_ret
      exact ⟨rfl, b2.out⟩
    by_cases r2 : room > 16
    · obtain rfl : E = 1 := by rw [HE.out]; simp; omega
      go_enter Tryd.func26, Tryd.ntmps26
      go_wp2_with (go_at_call 6; refine MA.out.mono ?_; rintro e w2 ⟨rfl, b2⟩; replace b2 := hide b2)
      go_ret
      exact ⟨rfl, b2.out⟩
    by_cases r3 : most < 0
    · obtain rfl : E = 1 := by rw [HE.out]; simp; omega
      go_enter Tryd.func26, Tryd.ntmps26
      go_wp2_with (go_at_call 6; refine MA.out.mono ?_; rintro e w2 ⟨rfl, b2⟩; replace b2 := hide b2)
      go_ret
      exact ⟨rfl, b2.out⟩
    by_cases r4 : most > 65536
    · obtain rfl : E = 1 := by rw [HE.out]; simp; omega
      go_enter Tryd.func26, Tryd.ntmps26
      go_wp2_with (go_at_call 6; refine MA.out.mono ?_; rintro e w2 ⟨rfl, b2⟩; replace b2 := hide b2)
      go_ret
      exact ⟨rfl, b2.out⟩
    have hd : decide (1 ≤ room ∧ room ≤ 16 ∧ 0 ≤ most ∧ most ≤ 65536) = true := decide_eq_true (by omega)
    rw [hd] at HE
    cases PB with
    | true =>
      obtain rfl : E = 0 := by rw [HE.out]; simp
      go_enter Tryd.func26, Tryd.ntmps26
      go_wp2_with (first | (go_at_call 6; refine MA.out.mono ?_; rintro e w2 ⟨rfl, b2⟩; replace b2 := hide b2) | (go_at_call 37; refine (PA.out _ b2.out).mono ?_; rintro e w3 ⟨rfl, hw⟩; rw [hw]; clear hw w3))
      go_ret
      exact ⟨rfl, b2.out⟩
    | false =>
      obtain rfl : E = 1 := by rw [HE.out]; simp
      go_enter Tryd.func26, Tryd.ntmps26
      go_wp2_with (first | (go_at_call 6; refine MA.out.mono ?_; rintro e w2 ⟨rfl, b2⟩; replace b2 := hide b2) | (go_at_call 37; refine (PA.out _ b2.out).mono ?_; rintro e w3 ⟨rfl, hw⟩; rw [hw]; clear hw w3))
      go_ret
      exact ⟨rfl, b2.out⟩
  · obtain rfl : E = M := by rw [HE.out, if_pos h0]
    have h0' : (E != 0) = true := by simpa using h0
    clear HE
    go_enter Tryd.func26, Tryd.ntmps26
    go_wp2_with (go_at_call 6; refine MA.out.mono ?_; rintro e w2 ⟨rfl, b2⟩; replace b2 := hide b2)
    go_ret
    exact ⟨rfl, b2.out⟩
end Go.Proofs.YtiiinpmkidobgaaDoor.Sd

/-
  A run begins; numbers cloned.
-/
namespace Go.Proofs.YtiiinpmkidobgaaDoor.Sd
open Go.RowKit
set_option linter.unusedVariables false
set_option linter.unusedSimpArgs false
set_option maxRecDepth 100000
/-- Numbers of 64 bits of one's own. -/
def Iw (B : Nat) (w : World) (v : Value) (l : List Int) : Prop := w.ownsRow B 2 1 v l.length (l.map (Value.int .i64))
theorem row_news {w : World} {ad : Addr} {n ca : Nat} {vs : List Value} (h : Row w (.slice (some ad) n ca) vs) : ∀ j u, vs[j]? = some u → w.cell? (ad.add j) = some u := by
  obtain ⟨ao, cap, e, _, _, _, h5⟩ := h
  simp only [Value.slice.injEq] at e
  obtain ⟨rfl, _, rfl⟩ := e
  intro j u hu
  have hj : j < vs.length := (List.getElem?_eq_some_iff.1 hu).1
  obtain ⟨b, off, e1, hc⟩ := h5 j hj
  simp only [Option.some.injEq] at e1
  subst e1
  have e2 : vs[j] = u := (List.getElem?_eq_some_iff.1 hu).2
  rw [addr_add, hc, e2]
theorem ivals_one (l : List Int) : ∀ u ∈ l.map (Value.int .i64), u.oneCell' = true := by
  intro u hu
  obtain ⟨x, _, rfl⟩ := List.mem_map.1 hu
  rfl
theorem clone_i (w : World) (v : Value) (l : List Int) (hv : Row w v (l.map (Value.int .i64))) (hl : l.length ≤ 100) :
    Calls Tryd.prog 40 #[v] w fun e w' => ∃ v', e = .returned v' ∧ Iw w.heap.size w' v' l ∧ Below w.heap.size w w' := by
  have he := fun (u : World) (ao : Option Addr) (n c n' c' : Nat) => Lib.run_eql_slice_nil (P := Tryd.prog) u 29 2 ao n c n' c' Tryd.underlying29
  have hv0 := hv
  obtain ⟨ao, ca, rfl, h1, h2, h3, _⟩ := hv0
  have hfl : (l.map (Value.int .i64)).length = l.length := by simp
  rw [hfl] at hv h2 ⊢
  cases ao with
  | none =>
    obtain ⟨e0, rfl⟩ := h1 rfl
    have e1 : l = [] := by simpa using e0
    subst e1
    simp only [List.length_nil]
    go_enter Tryd.func40, Tryd.ntmps40
    go_wp2_with fail
    go_ret
    exact ⟨_, rfl, World.ownsRow_nil _ _ _ _, Below.refl _ _⟩
  | some ad =>
    have HN := hide (fun o => row_news (Below.row (box_below w o) hv))
    obtain ⟨i0, hi, hz0, hz1, hz2⟩ := info_parts infoN
    have OWN := hide (World.ownsRow_made (base := w.heap.size) (e := 2) (size := 1) w #[] 0 (Nat.le_refl _) (Nat.zero_le _) rfl)
    have hcl : Hid ((l.map (Value.int .i64)).length = l.length * 1) := hide (by rw [hfl, Nat.mul_one])
    obtain ⟨N, hN⟩ : ∃ N, Hid (l.length = N) := ⟨_, rfl⟩
    rw [hN.out] at hcl hl hfl ⊢
    clear hv h1 h2 h3 hfl
    go_enter Tryd.func40, Tryd.ntmps40
    go_wp2_with (at_builtin; refine wpList_append_own_at _ rfl (.tmp 5) (.tmp 6) 29 rfl w.heap.size 2 i0 (.int .i64 0) 1 8 Tryd.underlying29 hi hz0 hz1 hz2 rfl (by decide) _ 0 [] rfl OWN.out ad N ca (l.map (Value.int .i64)) rfl hcl.out (HN.out _) (ivals_one l) (by unfold maxLen; omega) (by omega) (by simp) ?_; intro v' w1 hown' hgrow hnil hat; rw [List.nil_append, Nat.zero_add] at hown'; have hown' := hide hown'; have hgr := hide hgrow; clear hgrow hnil hat)
    go_ret
    refine ⟨_, rfl, ?_, ?_⟩
    · unfold Iw; rw [hN.out]; exact hown'.out
    · exact Below.grown (box_below w _) hgr.out (by simp) (fun k hk => by cases hk; exact Nat.le_refl _)
def tk0 (l : List Ac) : Tk := ⟨l, 0, 0, false, 0, false, 0⟩
def init (ts : List (List Ac)) (room : Nat) : St := ⟨ts.map tk0, room, fun _ => none, fun _ => [], fun _ => [], fun _ => 0, []⟩
def zt : Array Value := #[.slice none 0 0, .int .i64 0, .int .i64 0, .bool false, .int .i64 0, .bool false, .int .i64 0]
theorem infoTk : (Tryd.prog.info? 93).map (fun i => (i.zero, i.size, i.bytes)) = some (some (.agg zt), 7, 72) := by kernel_rfl
theorem made_get (n : Nat) {j m : Nat} (hj : j < n) (hm : m < 7) : (madeCells zt (n * 7))[j * 7 + m]? = zt[m]? := by
  have h : j * 7 + m < n * 7 := by omega
  have e : (j * 7 + m) % 7 = m := by omega
  have : zt.size = 7 := rfl
  simp only [madeCells, Array.getElem?_map, Array.getElem?_range, h, this]
  simp only [if_true, Option.map_some, e]
  rw [getElem!_pos zt m (by rw [this]; exact hm), Array.getElem?_eq_getElem (by rw [this]; exact hm)]
/-- Between the rounds: the first i tasks have their acts. -/
structure Bg (w : World) (us : List Value) (n i : Nat) (room : Nat) (wr : World) : Prop where
  ts : ∃ C, wr.heap[w.heap.size]? = some (.cells C 93 (0, 0)) ∧ C.size = n * 7 ∧ (∀ j, j < i → C[j * 7]? = us[j]?) ∧ ∀ j, j < n → ∀ m, m < 6 → C[j * 7 + (m + 1)]? = zt[m + 1]?
  rn : wr.heap[w.heap.size + 1]? = some (.cells #[.slice (some ⟨w.heap.size, 0, none⟩) n n, .int .i64 (room : Int), .pointer none, .pointer none, .pointer none, .pointer none, .slice none 0 0, .slice none 0 0, .slice none 0 0, .slice none 0 0, .slice none 0 0, .slice none 0 0, .slice none 0 0, .slice none 0 0, .int .i64 0, .int .i64 0, .int .i64 0, .int .i64 0, .int .i64 0, .int .i64 0, .int .i64 0, .int .i64 0, .slice none 0 0] 90 (0, 0))
  lw : Below w.heap.size w wr
def X0 (tb : Nat) : V := ⟨tb, fun _ => .slice none 0 0, fun _ => .slice none 0 0, .slice none 0 0⟩
theorem bl0 (rb tb n : Nat) : bl rb (X0 tb) (n + 3) = none := by
  show (if n < 4 then (Value.slice none 0 0).ownBlock else if n < 8 then (Value.slice none 0 0).ownBlock else none) = none
  split
  · rfl
  · split <;> rfl
theorem Bg.at {w wr : World} {us : List Value} {ts : List (List Ac)} {room : Nat} (h : Bg w us ts.length ts.length room wr) (hu : us.length = ts.length) (ha : ∀ (i : Nat) (u : Value) (l : List Ac), us[i]? = some u → ts[i]? = some l → ActsAt w u l) : At w us wr (w.heap.size + 1) (X0 w.heap.size) (init ts room) := by
  obtain ⟨C, c1, c2, c3, c4⟩ := h.ts
  refine ⟨⟨_, h.rn, ⟨rfl, by simp [init, X0], rfl, fun i hi => ?_, fun i hi => ?_, fun i hi => ?_, fun i hi => ?_, rfl⟩⟩, ⟨C, c1, ⟨by simpa [init] using c2, by simpa [init] using hu, fun i t hi => c3 i ?_, fun i t hi m hm => ?_⟩⟩, fun i hi => Sld.nil _ _, fun i hi => Sld.nil _ _, World.ownsRow_nil _ _ _ _, ?_, ?_, h.lw, fun i t hi => ?_⟩
  · match i, hi with
    | 0, _ => rfl
    | 1, _ => rfl
    | 2, _ => rfl
    | 3, _ => rfl
  · match i, hi with
    | 0, _ => rfl
    | 1, _ => rfl
    | 2, _ => rfl
    | 3, _ => rfl
  · match i, hi with
    | 0, _ => rfl
    | 1, _ => rfl
    | 2, _ => rfl
    | 3, _ => rfl
  · match i, hi with
    | 0, _ => rfl
    | 1, _ => rfl
    | 2, _ => rfl
    | 3, _ => rfl
    | 4, _ => rfl
    | 5, _ => rfl
    | 6, _ => rfl
    | 7, _ => rfl
  · have := (List.getElem?_eq_some_iff.1 hi).1
    simpa [init] using this
  · have hl : i < ts.length := by have := (List.getElem?_eq_some_iff.1 hi).1; simpa [init] using this
    rw [c4 i hl m hm]
    have ht : ∃ l, t = tk0 l := by
      have : (ts.map tk0)[i]? = some t := hi
      rw [List.getElem?_map] at this
      cases e : ts[i]? with
      | none => rw [e] at this; cases this
      | some l => rw [e] at this; cases this; exact ⟨l, rfl⟩
    obtain ⟨l, rfl⟩ := ht
    match m, hm with
    | 0, _ => rfl
    | 1, _ => rfl
    | 2, _ => rfl
    | 3, _ => rfl
    | 4, _ => rfl
    | 5, _ => rfl
  · intro i j k h1 h2
    have hb : ∀ m k, bl (w.heap.size + 1) (X0 w.heap.size) m = some k → (m = 0 ∧ k = w.heap.size + 1) ∨ (m = 1 ∧ k = w.heap.size) := by
      intro m k hm
      match m with
      | 0 => cases hm; exact .inl ⟨rfl, rfl⟩
      | 1 => cases hm; exact .inr ⟨rfl, rfl⟩
      | 2 => cases hm
      | n + 3 => rw [bl0] at hm; cases hm
    rcases hb i k h1 with ⟨e1, e2⟩ | ⟨e1, e2⟩ <;> rcases hb j k h2 with ⟨f1, f2⟩ | ⟨f1, f2⟩ <;> omega
  · intro i k h1
    match i with
    | 0 => cases h1; omega
    | 1 => cases h1; exact Nat.le_refl _
    | 2 => cases h1
    | n + 3 => rw [bl0] at h1; cases h1
  · have hl : i < ts.length := by have := (List.getElem?_eq_some_iff.1 hi).1; simpa [init] using this
    have : (ts.map tk0)[i]? = some t := hi
    rw [List.getElem?_map, List.getElem?_eq_getElem hl] at this
    cases this
    exact ⟨us[i]'(by omega), List.getElem?_eq_getElem _, ha i _ _ (List.getElem?_eq_getElem _) (List.getElem?_eq_getElem hl)⟩
set_option maxHeartbeats 4000000 in
theorem begin_any (w : World) (v : Value) (us : List Value) (ts : List (List Ac)) (h : TksAt w v us ts) (hn : ts.length ≤ 16) (room : Nat) :
    Calls Tryd.prog 27 #[v, .int .i64 (room : Int)] w fun e w' => e = .returned (.pointer (some ⟨w.heap.size + 1, 0, none⟩)) ∧ At w us w' (w.heap.size + 1) (X0 w.heap.size) (init ts room) := by
  obtain ⟨hr, hul, hact⟩ := h
  have HR := hide hr
  obtain ⟨ao, cap, e, -, -, -, -⟩ := hr
  subst e
  obtain ⟨n, hnn⟩ : ∃ n, Hid (us.length = n) := ⟨_, rfl⟩
  rw [hnn.out] at HR ⊢
  have hn' : n ≤ 16 := by rw [← hnn.out]; omega
  have FIN : Hid (∀ wr, Bg w us n n room wr → At w us wr (w.heap.size + 1) (X0 w.heap.size) (init ts room)) := fun wr hb => Bg.at (by rw [← hul, hnn.out]; exact hb) hul hact
  have USL : Hid (∀ (i : Nat) (u : Value), us[i]? = some u → ∃ ua ul uc, u = .slice ua ul uc) := fun i u hu => by
    obtain ⟨ua, uc, e, -, -⟩ := hact i u _ hu (List.getElem?_eq_getElem (by rw [← hul]; exact (List.getElem?_eq_some_iff.1 hu).1))
    exact ⟨ua, _, uc, e⟩
  obtain ⟨i0, hi, hz0, hz1, hz2⟩ := info_parts infoTk
  have MK : ∀ u : World, (Instr.makeSlice 84 (.int .i64 (n : Int)) (.int .i64 (n : Int))).run Tryd.prog u = .ok (.slice (some ⟨u.heap.size, 0, none⟩) n n) (u.alloc (.cells (madeCells zt (n * 7)) 93)) := by
    intro u
    rw [run_make u 84 93 i0 (.agg zt) Tryd.underlying84 hi hz0 .i64 .i64 (n : Int) (n : Int) (by omega) (by omega) (by rw [hz2]; omega) (by omega), hz1]
    simp only [Int.toNat_natCast]
    rfl
  clear hact hul hi hz0 hz1 hz2
  have B1 := box_below w (.cells (madeCells zt (n * 7)) 93)
  have N1 := heap_alloc_new w (.cells (madeCells zt (n * 7)) 93)
  obtain ⟨C0, hC0⟩ : ∃ C0, Hid (madeCells zt (n * 7) = C0) := ⟨_, rfl⟩
  have hsz0 : C0.size = n * 7 := by rw [← hC0.out, size_madeCells]
  have hget : ∀ j, j < n → ∀ m, m < 7 → C0[j * 7 + m]? = zt[m]? := fun j hj m hm => by rw [← hC0.out]; exact made_get n hj hm
  rw [hC0.out] at B1 N1 MK
  obtain ⟨w1, hw1⟩ : ∃ w1, Hid (w.alloc (.cells C0 93) = w1) := ⟨_, rfl⟩
  rw [hw1.out] at B1 N1
  have hz : w1.heap.size = w.heap.size + 1 := by rw [← hw1.out]; simp
  have RU : Hid (∀ o : Obj, Below w.heap.size w (w1.alloc o) ∧ (w1.alloc o).heap[w.heap.size + 1]? = some o ∧ (w1.alloc o).heap[w.heap.size]? = some (.cells C0 93 (0, 0))) := fun o => by
    have b := box_below w1 o
    have nn := heap_alloc_new w1 o
    rw [hz] at nn
    exact ⟨keepF B1 b, nn, (b.block _ (heap_lt N1)).trans N1⟩
  have hgH := hide hget
  have hsH := hide hsz0
  have hzH := hide hz
  clear B1 N1 hget hsz0
  go_enter Tryd.func27, Tryd.ntmps27
  go_upto_region 2 with fail
  rw [hw1.out]
  clear MK hz
  obtain ⟨r1, r2, r3⟩ := RU.out (.cells #[.slice (some ⟨w.heap.size, 0, none⟩) n n, .int .i64 (room : Int), .pointer none, .pointer none, .pointer none, .pointer none, .slice none 0 0, .slice none 0 0, .slice none 0 0, .slice none 0 0, .slice none 0 0, .slice none 0 0, .slice none 0 0, .slice none 0 0, .int .i64 0, .int .i64 0, .int .i64 0, .int .i64 0, .int .i64 0, .int .i64 0, .int .i64 0, .int .i64 0, .slice none 0 0] 90)
  have BG0 : Hid (Bg w us n 0 room (w1.alloc (.cells #[.slice (some ⟨w.heap.size, 0, none⟩) n n, .int .i64 (room : Int), .pointer none, .pointer none, .pointer none, .pointer none, .slice none 0 0, .slice none 0 0, .slice none 0 0, .slice none 0 0, .slice none 0 0, .slice none 0 0, .slice none 0 0, .slice none 0 0, .int .i64 0, .int .i64 0, .int .i64 0, .int .i64 0, .int .i64 0, .int .i64 0, .int .i64 0, .int .i64 0, .slice none 0 0] 90))) := ⟨⟨C0, r3, hsH.out, fun j hj => by omega, fun j hj m hm => hgH.out j hj (m + 1) (by omega)⟩, r2, r1⟩
  clear r1 r2 r3
  generalize w1.alloc (.cells #[.slice (some ⟨w.heap.size, 0, none⟩) n n, .int .i64 (room : Int), .pointer none, .pointer none, .pointer none, .pointer none, .slice none 0 0, .slice none 0 0, .slice none 0 0, .slice none 0 0, .slice none 0 0, .slice none 0 0, .slice none 0 0, .slice none 0 0, .int .i64 0, .int .i64 0, .int .i64 0, .int .i64 0, .int .i64 0, .int .i64 0, .int .i64 0, .int .i64 0, .slice none 0 0] 90) = w2 at *
  go_wp2_with fail
  go_loopw [16] (fun s wr => ∃ i : Nat, s = .int .i64 (i : Int) ∧ i ≤ n ∧ Hid (Bg w us n i room wr)) (fun s wr => n - (intOf s).toNat)
  case atStart => exact ⟨0, rfl, Nat.zero_le _, BG0⟩
  case round =>
    obtain ⟨i, rfl, hin, hst⟩ := hrel
    by_cases hlt : i < n
    · have i1 : (i : Int) < (n : Int) := by omega
      obtain ⟨u, hu⟩ : ∃ u, us[i]? = some u := ⟨_, List.getElem?_eq_getElem (by rw [hnn.out]; exact hlt)⟩
      obtain ⟨hcp, hrow⟩ := row_at (Below.row hst.out.lw HR.out) hnn.out
      obtain ⟨b, off, rfl, c0⟩ := hrow i u hu
      have hcp' : (i : Int) < (cap : Int) := by omega
      obtain ⟨C, k1, k2, k3, k4⟩ := hst.out.ts
      have q0 : wr.cell? ⟨w.heap.size + 1, 0, none⟩ = some (.slice (some ⟨w.heap.size, 0, none⟩) n n) := by rw [cell_of hst.out.rn]; rfl
      obtain ⟨ov, hov⟩ : ∃ ov, C[i * 7]? = some ov := ⟨_, Array.getElem?_eq_getElem (by omega)⟩
      have q1 : wr.cell? ⟨w.heap.size, i * 7, none⟩ = some ov := by rw [cell_of k1]; exact hov
      have q2 : wr.frozen? ⟨w.heap.size, i * 7, none⟩ = false := frz_of k1
      have hb : But (fun k => k = w.heap.size) wr (wr.setCell ⟨w.heap.size, i * 7, none⟩ u) := But.set _ _ _ _ rfl
      have NB : Hid (Bg w us n (i + 1) room (wr.setCell ⟨w.heap.size, i * 7, none⟩ u)) := ⟨⟨_, heap_setCell_same _ _ _ _ _ _ k1, by simpa using k2, fun j hj => by
          by_cases e : j = i
          · subst e
            rw [Array.getElem?_setIfInBounds_self_of_lt (by omega)]
            exact hu.symm
          · rw [Array.getElem?_setIfInBounds_ne (by omega)]
            exact k3 j (by omega), fun j hj m hm => by
          rw [Array.getElem?_setIfInBounds_ne (by omega)]
          exact k4 j hj m hm⟩, hb.at hst.out.rn (by omega), hst.out.lw.trans (hb.below hst.out.lw.size fun k e => by omega)⟩
      obtain ⟨ua, ul, uc, hus⟩ : ∃ ua ul uc, u = .slice ua ul uc := USL.out i u hu
      subst hus
      clear hrow hu k1 k2 k3 k4 hov hb hst
      go_wp2_with fail
      go_roundw
      case rel => exact ⟨i + 1, by go_num, hlt, NB.out⟩
      case measure => simp only [intOf]; omega
    · obtain rfl : i = n := by omega
      have i1 : ¬ (i : Int) < (i : Int) := by omega
      go_wp2_with fail
      go_ret
      exact ⟨rfl, FIN.out _ hst.out⟩
end Go.Proofs.YtiiinpmkidobgaaDoor.Sd

/-
  What is told of a run, in memory.
-/
namespace Go.Proofs.YtiiinpmkidobgaaDoor.Sd
open Go.RowKit
set_option linter.unusedVariables false
set_option linter.unusedSimpArgs false
set_option maxRecDepth 100000
theorem infoE : (Tryd.prog.info? 48).map (fun i => (i.zero, i.size, i.bytes)) = some (some (.agg #[.int .i64 0, .int .i64 0]), 2, 16) := by kernel_rfl
theorem infoW : (Tryd.prog.info? 29).map (fun i => (i.zero, i.size, i.bytes)) = some (some (.slice none 0 0), 1, 24) := by kernel_rfl
def ecell (x : Int × Int) : List Value := [.int .i64 x.1, .int .i64 x.2]
def ecells (l : List (Int × Int)) : List Value := l.flatMap ecell
theorem ecells_snoc (l : List (Int × Int)) (x : Int × Int) : ecells (l ++ [x]) = ecells l ++ [.int .i64 x.1, .int .i64 x.2] := by simp [ecells, ecell]
theorem run_appE {B : Nat} {w : World} {v : Value} {l : List (Int × Int)} (x : Int × Int) (gg : Nat) (h : w.ownsRow B 48 2 v l.length (ecells l)) (h0 : w.cell? ⟨gg, 0, none⟩ = some (.int .i64 x.1)) (h1 : w.cell? ⟨gg, 1, none⟩ = some (.int .i64 x.2)) (hl : l.length ≤ 1000000) (hB : B ≤ w.heap.size) (ty : TypeId) :
    ∃ v' w', (Builtin.append_ #[30, 30] ty #[v, .slice (some ⟨gg, 0, none⟩) 1 1]).run Tryd.prog w = .ok v' w' ∧ w'.ownsRow B 48 2 v' (l.length + 1) (ecells (l ++ [x])) ∧ w.grownBy w' v.ownBlock ∧ ∀ k, v'.ownBlock = some k → v.ownBlock = some k ∨ w.heap.size ≤ k := by
  obtain ⟨i0, hi, hz0, hz1, hz2⟩ := info_parts infoE
  have hcells : ∀ j u, ([.int .i64 x.1, .int .i64 x.2] : List Value)[j]? = some u → w.cell? ((⟨gg, 0, none⟩ : Addr).add j) = some u := by
    intro j u hu
    rw [addr_add]
    match j with
    | 0 => simp at hu; subst hu; exact h0
    | 1 => simp at hu; subst hu; exact h1
    | j + 2 => simp at hu
  obtain ⟨v', w', hr, ho, hg, _, hat⟩ := run_append_own_at (P := Tryd.prog) w B 30 ty 48 i0 (.agg #[.int .i64 0, .int .i64 0]) 2 16 Tryd.underlying30 hi hz0 hz1 hz2 rfl (by decide) v l.length (ecells l) h ⟨gg, 0, none⟩ 1 1 [.int .i64 x.1, .int .i64 x.2] rfl hcells (by
      intro u hu
      simp at hu
      rcases hu with rfl | rfl <;> rfl) (by unfold maxLen; omega) (by omega) hB
  refine ⟨v', w', hr, by rw [ecells_snoc]; exact ho, hg, fun k hk => ?_⟩
  rcases hat with e | e
  · exact .inl (by rw [← e]; exact hk)
  · rw [e] at hk; cases hk; exact .inr (Nat.le_refl _)
theorem run_appW {B : Nat} {w : World} {v : Value} {vs : List Value} (x : Value) (hx : x.oneCell' = true) (gg : Nat) (h : w.ownsRow B 29 1 v vs.length vs) (h0 : w.cell? ⟨gg, 0, none⟩ = some x) (hl : vs.length ≤ 1000000) (hB : B ≤ w.heap.size) (ty : TypeId) :
    ∃ v' w', (Builtin.append_ #[31, 31] ty #[v, .slice (some ⟨gg, 0, none⟩) 1 1]).run Tryd.prog w = .ok v' w' ∧ w'.ownsRow B 29 1 v' (vs.length + 1) (vs ++ [x]) ∧ w.grownBy w' v.ownBlock ∧ ∀ k, v'.ownBlock = some k → v.ownBlock = some k ∨ w.heap.size ≤ k := by
  obtain ⟨i0, hi, hz0, hz1, hz2⟩ := info_parts infoW
  have hcells : ∀ j u, ([x] : List Value)[j]? = some u → w.cell? ((⟨gg, 0, none⟩ : Addr).add j) = some u := by
    intro j u hu
    rw [addr_add]
    match j with
    | 0 => simp at hu; subst hu; exact h0
    | j + 1 => simp at hu
  obtain ⟨v', w', hr, ho, hg, _, hat⟩ := run_append_own_at (P := Tryd.prog) w B 31 ty 29 i0 (.slice none 0 0) 1 24 Tryd.underlying31 hi hz0 hz1 hz2 rfl (by decide) v vs.length vs h ⟨gg, 0, none⟩ 1 1 [x] rfl hcells (by
      intro u hu
      simp at hu
      subst hu
      exact hx) (by unfold maxLen; omega) (by omega) hB
  refine ⟨v', w', hr, ho, hg, fun k hk => ?_⟩
  rcases hat with e | e
  · exact .inl (by rw [← e]; exact hk)
  · rw [e] at hk; cases hk; exact .inr (Nat.le_refl _)
def regs (S : St) : List Int := (List.range 8).map S.rg
theorem At.regs {w0 w : World} {us : List Value} {rb : Nat} {X : V} {S : St} (h : At w0 us w rb X S) : Row w (.slice (some ⟨rb, 14, none⟩) 8 8) ((Sd.regs S).map (Value.int .i64)) := by
  refine ⟨some ⟨rb, 14, none⟩, 8, by simp [Sd.regs], (fun e => by cases e), by simp [Sd.regs], by unfold maxLen; omega, fun i hi => ⟨rb, 14, rfl, ?_⟩⟩
  have hi8 : i < 8 := by simpa [Sd.regs] using hi
  rw [h.gcell hi8]
  simp [Sd.regs]
theorem iw_low {B B' : Nat} {w : World} {v : Value} {l : List Int} (h : Iw B w v l) (hb : B' ≤ B) : Iw B' w v l := by
  refine ⟨h.1, ?_⟩
  rcases h.2 with h | ⟨g, cap, cur, rfl, hg, r⟩
  · exact .inl h
  · exact .inr ⟨g, cap, cur, rfl, Nat.le_trans hb hg, r⟩
theorem row_low {B B' : Nat} {w : World} {T : TypeId} {sz n : Nat} {v : Value} {l : List Value} (h : w.ownsRow B T sz v n l) (hb : B' ≤ B) : w.ownsRow B' T sz v n l := by
  refine ⟨h.1, ?_⟩
  rcases h.2 with h | ⟨g, cap, cur, rfl, hg, r⟩
  · exact .inl h
  · exact .inr ⟨g, cap, cur, rfl, Nat.le_trans hb hg, r⟩
theorem own_form {B : Nat} {w : World} {T : TypeId} {sz n : Nat} {v : Value} {l : List Value} (h : w.ownsRow B T sz v n l) : ∃ a c, v = .slice a n c ∧ n ≤ c := by
  rcases h.2 with ⟨e, hz⟩ | ⟨g, cap, cur, rfl, _, _, h2, _⟩
  · exact ⟨none, 0, by rw [hz]; exact e, by omega⟩
  · exact ⟨_, cap, rfl, h2⟩
theorem row_below {B : Nat} {w w' : World} {T : TypeId} {sz n : Nat} {v : Value} {l : List Value} (h : w.ownsRow B T sz v n l) (hb : Below w.heap.size w w') : w'.ownsRow B T sz v n l := ownsRow_but h (But.of_below hb fun _ => False) fun _ _ c => c
/-- The blocks of what is told. -/
def tbl (pA g : Option Nat) (rv ev qv : Value) (vs : List Value) : Nat → Option Nat
  | 0 => pA
  | 1 => g
  | 2 => rv.ownBlock
  | 3 => ev.ownBlock
  | 4 => qv.ownBlock
  | n + 5 => (vs[n]?).bind Value.ownBlock
section
variable {pA g : Option Nat} {rv ev qv : Value} {vs : List Value}
theorem tbl_ev (x : Value) : tbl pA g rv x qv vs = up (tbl pA g rv ev qv vs) 3 x.ownBlock := by
  funext n
  match n with
  | 0 => simp [up, tbl]
  | 1 => simp [up, tbl]
  | 2 => simp [up, tbl]
  | 3 => simp [up, tbl]
  | 4 => simp [up, tbl]
  | n + 5 => simp [up, tbl]
theorem tbl_qv (x : Value) : tbl pA g rv ev x vs = up (tbl pA g rv ev qv vs) 4 x.ownBlock := by
  funext n
  match n with
  | 0 => simp [up, tbl]
  | 1 => simp [up, tbl]
  | 2 => simp [up, tbl]
  | 3 => simp [up, tbl]
  | 4 => simp [up, tbl]
  | n + 5 => simp [up, tbl]
theorem tbl_vs (x : Value) : tbl pA g rv ev qv (vs ++ [x]) = up (tbl pA g rv ev qv vs) (vs.length + 5) x.ownBlock := by
  funext n
  match n with
  | 0 => simp [up, tbl]
  | 1 => simp [up, tbl]
  | 2 => simp [up, tbl]
  | 3 => simp [up, tbl]
  | 4 => simp [up, tbl]
  | n + 5 =>
    by_cases e : n = vs.length
    · subst e; simp [up, tbl]
    · have : n + 5 ≠ vs.length + 5 := by omega
      simp only [up, tbl, this, if_false]
      by_cases hl : n < vs.length
      · rw [List.getElem?_append_left hl]
      · rw [List.getElem?_eq_none_iff.2 (by simp; omega), List.getElem?_eq_none_iff.2 (by omega)]
end
/-- What is told under way: its box g. -/
structure Rn (w0 w : World) (us : List Value) (rb : Nat) (X : V) (S : St) (u : World) (pA g : Nat) (rv ev qv : Value) (vs : List Value) (E : List (Int × Int)) (L : List (List Int)) : Prop where
  at_ : At w0 us u rb X S
  own : ∀ k, Own rb X k → k < w.heap.size
  lo0 : w0.heap.size ≤ w.heap.size
  lw : Below w.heap.size w u
  bx : u.heap[pA]? = some (.cells #[.int .i64 0, .slice none 0 0, .slice none 0 0, .slice none 0 0, .slice none 0 0] 33 (0, 0))
  rn : u.heap[g]? = some (.cells #[.int .i64 (S.tr.length : Int), X.t, rv, ev, qv] 33 (0, 0))
  rg : Iw w.heap.size u rv (regs S)
  en : u.ownsRow w.heap.size 48 2 ev E.length (ecells E)
  qs : u.ownsRow w.heap.size 29 1 qv vs.length vs
  ql : vs.length = L.length ∧ ∀ (j : Nat) (v : Value) (l : List Int), vs[j]? = some v → L[j]? = some l → Iw w.heap.size u v l
  dis : ∀ i j k, tbl (some pA) (some g) rv ev qv vs i = some k → tbl (some pA) (some g) rv ev qv vs j = some k → i = j
  lo : ∀ i k, tbl (some pA) (some g) rv ev qv vs i = some k → w.heap.size ≤ k
section
variable {w0 w u u1 : World} {us : List Value} {rb : Nat} {X : V} {S : St} {pA g : Nat} {rv ev qv : Value} {vs : List Value} {E : List (Int × Int)} {L : List (List Int)}
theorem Rn.lt (h : Rn w0 w us rb X S u pA g rv ev qv vs E L) : ∀ i k, tbl (some pA) (some g) rv ev qv vs i = some k → k < u.heap.size := by
  intro i k hk
  match i with
  | 0 => cases hk; exact heap_lt h.bx
  | 1 => cases hk; exact heap_lt h.rn
  | 2 => exact (World.ownsRow.lt h.rg k hk).2
  | 3 => exact (World.ownsRow.lt h.en k hk).2
  | 4 => exact (World.ownsRow.lt h.qs k hk).2
  | n + 5 =>
    have hk' : (vs[n]?).bind Value.ownBlock = some k := hk
    cases hv : vs[n]? with
    | none => rw [hv] at hk'; cases hk'
    | some v =>
      rw [hv] at hk'
      have hl : n < L.length := by rw [← h.ql.1]; exact (List.getElem?_eq_some_iff.1 hv).1
      exact (World.ownsRow.lt (h.ql.2 n v _ hv (List.getElem?_eq_getElem hl)) k hk').2
theorem Rn.below (h : Rn w0 w us rb X S u pA g rv ev qv vs E L) (hb : Below u.heap.size u u1) : Rn w0 w us rb X S u1 pA g rv ev qv vs E L :=
  ⟨h.at_.below hb, h.own, h.lo0, keepF h.lw hb, (hb.block _ (heap_lt h.bx)).trans h.bx, (hb.block _ (heap_lt h.rn)).trans h.rn, row_below h.rg hb, row_below h.en hb, row_below h.qs hb, ⟨h.ql.1, fun j v l h1 h2 => row_below (h.ql.2 j v l h1 h2) hb⟩, h.dis, h.lo⟩
theorem Rn.vsb (h : Rn w0 w us rb X S u pA g rv ev qv vs E L) {n : Nat} {v : Value} (hv : vs[n]? = some v) {k : Nat} (hk : v.ownBlock = some k) : tbl (some pA) (some g) rv ev qv vs (n + 5) = some k := by
  show (vs[n]?).bind Value.ownBlock = some k
  rw [hv]; exact hk
theorem Rn.addE (h : Rn w0 w us rb X S u pA g rv ev qv vs E L) {x : Int × Int} {ev' : Value} (hg : u.grownBy u1 ev.ownBlock) (ho : u1.ownsRow w.heap.size 48 2 ev' (E.length + 1) (ecells (E ++ [x]))) (hn : ∀ k, ev'.ownBlock = some k → ev.ownBlock = some k ∨ u.heap.size ≤ k) :
    Rn w0 w us rb X S (u1.setCell ⟨g, 3, none⟩ ev') pA g rv ev' qv vs (E ++ [x]) L ∧ u1.cell? ⟨g, 3, none⟩ = some ev ∧ u1.frozen? ⟨g, 3, none⟩ = false := by
  have hb1 : But (fun k => ev.ownBlock = some k) u u1 := But.of_grownBy hg fun k e => e
  have hgn : ¬ ev.ownBlock = some g := fun e => absurd (h.dis 3 1 g e rfl) (by omega)
  have r1 := hb1.at h.rn hgn
  have hb : But (fun k => ev.ownBlock = some k ∨ k = g) u (u1.setCell ⟨g, 3, none⟩ ev') := (hb1.mono fun k _ e => .inl e).trans (But.set _ _ _ _ (.inr rfl))
  have hlo : ∀ k, (ev.ownBlock = some k ∨ k = g) → w.heap.size ≤ k := by
    rintro k (e | rfl)
    · exact h.lo 3 k e
    · exact h.lo 1 k rfl
  have hno : ∀ i k, tbl (some pA) (some g) rv ev qv vs i = some k → i ≠ 1 → i ≠ 3 → ¬ (ev.ownBlock = some k ∨ k = g) := by
    rintro i k hi h1 h3 (e | rfl)
    · exact h3 (h.dis i 3 k hi e)
    · exact h1 (h.dis i 1 k hi rfl)
  refine ⟨⟨h.at_.but hb (fun k hk c => by have := h.own k hk; have := hlo k c; omega) (fun k c => Nat.le_trans h.lo0 (hlo k c)), h.own, h.lo0, h.lw.trans (hb.below h.lw.size hlo), hb.at h.bx (hno 0 pA rfl (by decide) (by decide)), ?_, ownsRow_but h.rg hb fun k hk => hno 2 k hk (by decide) (by decide), ?_, ownsRow_but h.qs hb fun k hk => hno 4 k hk (by decide) (by decide), ⟨h.ql.1, fun j v l h1 h2 => ownsRow_but (h.ql.2 j v l h1 h2) hb fun k hk => hno (j + 5) k (h.vsb h1 hk) (by omega) (by omega)⟩, ?_, ?_⟩, ?_, frz_of r1⟩
  · rw [heap_setCell_same _ _ _ _ _ _ r1]; rfl
  · rw [List.length_append]
    refine ownsRow_but ho (But.set (X := fun k => k = g) _ _ _ _ rfl) fun k hk c => ?_
    subst c
    rcases hn k hk with e | e
    · exact hgn e
    · have := heap_lt h.rn; omega
  · rw [tbl_ev (ev := ev)]
    exact dis_up h.dis h.lt fun k hk => hn k hk
  · intro i k hk
    rw [tbl_ev (ev := ev)] at hk
    by_cases e : i = 3
    · subst e
      rw [up_same] at hk
      exact (World.ownsRow.lt ho k hk).1
    · rw [up_other _ _ e] at hk
      exact h.lo i k hk
  · rw [cell_of r1]; rfl
theorem Rn.addQ (h0 : Rn w0 w us rb X S u pA g rv ev qv vs E L) {u' : World} (hb0 : Below u.heap.size u u') {v : Value} {l : List Int} (hI : Iw u.heap.size u' v l) {qv' : Value} (hg : u'.grownBy u1 qv.ownBlock) (ho : u1.ownsRow w.heap.size 29 1 qv' (vs.length + 1) (vs ++ [v])) (hn : ∀ k, qv'.ownBlock = some k → qv.ownBlock = some k ∨ u'.heap.size ≤ k) :
    Rn w0 w us rb X S (u1.setCell ⟨g, 4, none⟩ qv') pA g rv ev qv' (vs ++ [v]) E (L ++ [l]) ∧ u1.cell? ⟨g, 4, none⟩ = some qv ∧ u1.frozen? ⟨g, 4, none⟩ = false := by
  have h := h0.below hb0
  have hb1 : But (fun k => qv.ownBlock = some k) u' u1 := But.of_grownBy hg fun k e => e
  have hgn : ¬ qv.ownBlock = some g := fun e => absurd (h.dis 4 1 g e rfl) (by omega)
  have r1 := hb1.at h.rn hgn
  have hb : But (fun k => qv.ownBlock = some k ∨ k = g) u' (u1.setCell ⟨g, 4, none⟩ qv') := (hb1.mono fun k _ e => .inl e).trans (But.set _ _ _ _ (.inr rfl))
  have hlo : ∀ k, (qv.ownBlock = some k ∨ k = g) → w.heap.size ≤ k := by
    rintro k (e | rfl)
    · exact h.lo 4 k e
    · exact h.lo 1 k rfl
  have hno : ∀ i k, tbl (some pA) (some g) rv ev qv vs i = some k → i ≠ 1 → i ≠ 4 → ¬ (qv.ownBlock = some k ∨ k = g) := by
    rintro i k hi h1 h3 (e | rfl)
    · exact h3 (h.dis i 4 k hi e)
    · exact h1 (h.dis i 1 k hi rfl)
  have hvb : ∀ k, v.ownBlock = some k → u.heap.size ≤ k ∧ k < u'.heap.size := fun k hk => World.ownsRow.lt hI k hk
  have hvn : ∀ k, v.ownBlock = some k → ¬ (qv.ownBlock = some k ∨ k = g) := by
    rintro k hk (e | rfl)
    · have := h0.lt 4 k e; have := hvb k hk; omega
    · have := h0.lt 1 k rfl; have := hvb k hk; omega
  have hd1 : ∀ i j k, tbl (some pA) (some g) rv ev qv (vs ++ [v]) i = some k → tbl (some pA) (some g) rv ev qv (vs ++ [v]) j = some k → i = j := by
    rw [tbl_vs]
    exact dis_up h0.dis h0.lt fun k hk => .inr (hvb k hk).1
  have hl1 : ∀ i k, tbl (some pA) (some g) rv ev qv (vs ++ [v]) i = some k → k < u'.heap.size := by
    intro i k hk
    rw [tbl_vs] at hk
    by_cases e : i = vs.length + 5
    · subst e; rw [up_same] at hk; exact (hvb k hk).2
    · rw [up_other _ _ e] at hk; exact h.lt i k hk
  refine ⟨⟨h.at_.but hb (fun k hk c => by have := h.own k hk; have := hlo k c; omega) (fun k c => Nat.le_trans h.lo0 (hlo k c)), h.own, h.lo0, h.lw.trans (hb.below h.lw.size hlo), hb.at h.bx (hno 0 pA rfl (by decide) (by decide)), ?_, ownsRow_but h.rg hb fun k hk => hno 2 k hk (by decide) (by decide), ownsRow_but h.en hb fun k hk => hno 3 k hk (by decide) (by decide), ?_, ⟨by simp [h.ql.1], fun j x y h1 h2 => ?_⟩, ?_, ?_⟩, ?_, frz_of r1⟩
  · rw [heap_setCell_same _ _ _ _ _ _ r1]; rfl
  · rw [List.length_append]
    refine ownsRow_but ho (But.set (X := fun k => k = g) _ _ _ _ rfl) fun k hk c => ?_
    subst c
    rcases hn k hk with e | e
    · exact hgn e
    · have := heap_lt h.rn; omega
  · by_cases hj : j < vs.length
    · rw [List.getElem?_append_left hj] at h1
      rw [List.getElem?_append_left (by rw [← h.ql.1]; exact hj)] at h2
      exact ownsRow_but (h.ql.2 j x y h1 h2) hb fun k hk => hno (j + 5) k (h.vsb h1 hk) (by omega) (by omega)
    · have hj2 : j = vs.length := by have := (List.getElem?_eq_some_iff.1 h1).1; simp at this; omega
      subst hj2
      rw [List.getElem?_concat_length] at h1
      rw [h.ql.1, List.getElem?_concat_length] at h2
      cases h1; cases h2
      exact ownsRow_but (iw_low hI h0.lw.size) hb hvn
  · rw [tbl_qv (qv := qv)]
    exact dis_up hd1 hl1 fun k hk => hn k hk
  · intro i k hk
    rw [tbl_qv (qv := qv)] at hk
    by_cases e : i = 4
    · subst e
      rw [up_same] at hk
      exact (World.ownsRow.lt ho k hk).1
    · rw [up_other _ _ e] at hk
      rw [tbl_vs] at hk
      by_cases e : i = vs.length + 5
      · subst e; rw [up_same] at hk; exact Nat.le_trans h0.lw.size (hvb k hk).1
      · rw [up_other _ _ e] at hk; exact h.lo i k hk
  · rw [cell_of r1]; rfl
end
end Go.Proofs.YtiiinpmkidobgaaDoor.Sd

