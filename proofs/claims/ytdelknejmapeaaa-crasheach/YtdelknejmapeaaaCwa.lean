/-
  Which fate a number is, by data; two disks alike tell the same; the disk of CrashEach, by data.
-/
import Derived.Test.YtdelknejmapeaaaCwA
import Derived.Test.YtdelknejmapeaaaDoL
import Derived.BigQuiet
namespace Go.Proofs.Ytdelknejmapeaaa.Dk
open Go.RowKit Go.Maps Go.Sort Go.Shelf Go.Proofs.Ytdelknejmapeaaa.Nm
set_option linter.unusedVariables false

variable {σ : Nat → Nat} {S S' : DS} in
theorem Alike.size (h : Alike σ S S') (s : ByteArray) : S'.size s = S.size s := by
  have hf := h.find s
  unfold DS.size
  rw [hf]
  by_cases h0 : (S.find s).2 = 0
  · obtain ⟨p, e, _, _, hp⟩ := find_ok h0
    rw [e]
    dsimp only [Option.map_some]
    rw [h.F p hp]
  · have e : S.find s = (none, (S.find s).2) := Prod.ext (find_no h0) rfl
    rw [e]
    rfl
variable {σ : Nat → Nat} {S S' : DS} in
theorem Alike.read (h : Alike σ S S') (s : ByteArray) (o n : Int) : S'.read s o n = S.read s o n := by
  have hf := h.find s
  unfold DS.read
  rw [hf]
  by_cases h0 : (S.find s).2 = 0
  · obtain ⟨p, e, _, _, hp⟩ := find_ok h0
    rw [e]
    dsimp only [Option.map_some]
    rw [h.F p hp]
  · have e : S.find s = (none, (S.find s).2) := Prod.ext (find_no h0) rfl
    rw [e]
    rfl
/-- The i-th fate has the Dir d; j is left for the digits. -/
structure FateOf (S : DS) (i d j : Nat) : Prop where
  dl : d ≤ S.P.length
  eq : i = (S.cnts d).sum + j
  lt : j < prodT (S.tails (d : Int))
theorem FateOf.less {S : DS} {i d j d' j' : Nat} (h : FateOf S i d j) (h' : FateOf S i d' j') : ¬ d < d' := fun c => by
  have h1 := cnts_mono S (show d + 1 ≤ d' by omega)
  have h2 := cnts_sum S d
  have := h.eq; have := h'.eq; have := h.lt
  omega
theorem FateOf.uniq {S : DS} {i d j d' j' : Nat} (h : FateOf S i d j) (h' : FateOf S i d' j') : d = d' ∧ j = j' := by
  have a := h.less h'
  have b := h'.less h
  obtain rfl : d = d' := by omega
  have := h.eq; have := h'.eq
  exact ⟨rfl, by omega⟩
theorem FateOf.below {S : DS} {i d j : Nat} (h : FateOf S i d j) : i < S.ways := by
  have h1 := cnts_mono S (show d + 1 ≤ S.P.length + 1 by have := h.dl; omega)
  have h2 := cnts_sum S d
  have := h.eq; have := h.lt
  unfold DS.ways
  omega
/-- The keeps of digits. -/
def keps (ds : List Nat) : List Kep := ds.map fun (n : Nat) => ((n : Int), ([] : List UInt8))
def DS.after (S : DS) (d j : Nat) : DS := S.crash (d : Int) (keps (digs (S.tails (d : Int)) j))

/-- How many bytes of the tail the i-th fate keeps. -/
def keyE (lb lc i : Nat) : Nat := if i ≤ lb then i else (i - (lb + 1)) / (lc + 1)
/-- How many of the first i fates keep j bytes. -/
def cfE (lb lc j i : Nat) : Nat := min 1 (min i (lb + 1) - j) + min (lc + 1) (i - (lb + 1) - j * (lc + 1))
theorem keyE_le {lb lc i : Nat} (h : i < (lb + 1) * (lc + 2)) : keyE lb lc i ≤ lb := by
  unfold keyE
  split
  · assumption
  · have e : (lb + 1) * (lc + 2) = (lb + 1) * (lc + 1) + (lb + 1) := by rw [Nat.mul_add (lb + 1) (lc + 1) 1, Nat.mul_one]
    have : (i - (lb + 1)) / (lc + 1) < lb + 1 := by
      rw [Nat.div_lt_iff_lt_mul (by omega)]
      omega
    omega
theorem cfE_zero (lb lc j : Nat) : cfE lb lc j 0 = 0 := by unfold cfE; omega
theorem cfE_end {lb lc j : Nat} (h : j ≤ lb) : cfE lb lc j ((lb + 1) * (lc + 2)) = lc + 2 := by
  unfold cfE
  have e : (lb + 1) * (lc + 2) = (lb + 1) * (lc + 1) + (lb + 1) := by rw [Nat.mul_add (lb + 1) (lc + 1) 1, Nat.mul_one]
  have e2 : (lb + 1) * (lc + 1) = lb * (lc + 1) + (lc + 1) := by rw [Nat.add_mul, Nat.one_mul]
  have e3 : j * (lc + 1) ≤ lb * (lc + 1) := Nat.mul_le_mul_right _ h
  rw [e, e2]
  generalize j * (lc + 1) = x at *
  generalize lb * (lc + 1) = y at *
  omega
theorem cfE_step {lb lc j i : Nat} (h : j ≤ lb) : cfE lb lc j (i + 1) = cfE lb lc j i + (if keyE lb lc i = j then 1 else 0) := by
  unfold cfE keyE
  by_cases h1 : i ≤ lb
  · rw [if_pos h1]
    split <;> omega
  · rw [if_neg h1]
    have hd : (i - (lb + 1)) / (lc + 1) = j ↔ j * (lc + 1) ≤ i - (lb + 1) ∧ i - (lb + 1) < (j + 1) * (lc + 1) := by
      rw [Nat.div_eq_iff (by omega)]
      rw [Nat.add_mul, Nat.one_mul]
      omega
    rw [Nat.add_mul, Nat.one_mul] at hd
    generalize j * (lc + 1) = x at *
    split
    · rename_i q; have := hd.1 q; omega
    · rename_i q
      have : ¬ (x ≤ i - (lb + 1) ∧ i - (lb + 1) < x + (lc + 1)) := fun c => q (hd.2 c)
      omega
theorem cfE_le (lb lc j i : Nat) : cfE lb lc j i ≤ lc + 2 := by unfold cfE; omega

def sM (m : UInt8) : ByteArray := ⟨#[m]⟩
theorem may_m {m : UInt8} (h : m = 98 ∨ m = 110) : may (sM m).data.toList = true := by rcases h with rfl | rfl <;> decide
theorem nms_two (p q : Nat) {m : UInt8} (h : m = 98 ∨ m = 110) : nms [([97], p), ([m], q)] = [[97], [m]] := by
  unfold nms
  simp [List.mergeSort, List.MergeSort.Internal.splitInTwo, List.merge]
  rcases h with rfl | rfl <;> decide
/-- The disk of CrashEach: a file with a tail, and one that was just laid. -/
structure EachD (S : DS) (m : UInt8) (A B C : List UInt8) (p q : Nat) : Prop where
  hm : m = 98 ∨ m = 110
  up : S.up = true
  l2 : S.l2 = [([97], p)]
  P : S.P = [.cr (sM m) q]
  Fp : S.F p = ⟨A ++ B, A, 0⟩
  Fq : S.F q = ⟨C, [], 0⟩
  ne : p ≠ q
theorem crFl_plain (A B : List UInt8) (n : Nat) (hn : n ≤ B.length) : crFl ⟨A ++ B, A, 0⟩ ((n : Int), []) = ⟨A ++ B.take n, A ++ B.take n, 0⟩ := by
  have : crF ⟨A ++ B, A, 0⟩ (n : Int) [] = A ++ B.take n := by
    unfold crF svd jnk wthn
    simp [Nat.min_eq_left hn]
  unfold crFl
  rw [this]
section
variable {S : DS} {m : UInt8} {A B C : List UInt8} {p q : Nat}
theorem EachD.front0 (h : EachD S m A B C p q) : S.front 0 = [([97], p)] := by
  unfold DS.front
  rw [h.l2, h.P]
  rfl
theorem EachD.front1 (h : EachD S m A B C p q) : S.front 1 = [([97], p), ([m], q)] := by
  unfold DS.front
  rw [h.l2, h.P]
  rcases h.hm with rfl | rfl <;> rfl
theorem EachD.tails0 (h : EachD S m A B C p q) : S.tails 0 = [([97], B.length)] := by
  unfold DS.tails
  rw [h.front0, nms_one]
  have : tlOf S.F [([97], p)] [97] = B.length := by
    show (S.F p).by_.length - (S.F p).la.length = _
    rw [h.Fp]; simp
  simp [this]
theorem EachD.tails1 (h : EachD S m A B C p q) : S.tails 1 = [([97], B.length), ([m], C.length)] := by
  unfold DS.tails
  rw [h.front1, nms_two p q h.hm]
  have h1 : tlOf S.F [([97], p), ([m], q)] [97] = B.length := by
    show (S.F p).by_.length - (S.F p).la.length = _
    rw [h.Fp]; simp
  have h2 : tlOf S.F [([97], p), ([m], q)] [m] = C.length := by
    have : tlOf S.F [([97], p), ([m], q)] [m] = (S.F q).by_.length - (S.F q).la.length := by rcases h.hm with rfl | rfl <;> rfl
    rw [this, h.Fq]; simp
  simp [h1, h2]
theorem EachD.cnt1 (h : EachD S m A B C p q) : (S.cnts 1).sum = B.length + 1 := by
  have := cnts_sum S 0
  rw [show ((0 : Nat) : Int) = 0 from rfl, h.tails0] at this
  simpa [DS.cnts, prodT] using this
theorem EachD.cnt2 (h : EachD S m A B C p q) : (S.cnts 2).sum = (B.length + 1) * (C.length + 2) := by
  have := cnts_sum S 1
  rw [show ((1 : Nat) : Int) = 1 from rfl, h.tails1, h.cnt1] at this
  rw [this]
  simp only [prodT, Nat.mul_one]
  rw [Nat.mul_add (B.length + 1) (C.length + 1) 1, Nat.mul_one, Nat.add_comm]
theorem EachD.ways (h : EachD S m A B C p q) : S.ways = (B.length + 1) * (C.length + 2) := by
  unfold DS.ways
  rw [h.P]
  exact h.cnt2
theorem EachD.uq (h : EachD S m A B C p q) : S.uq := by
  unfold DS.uq
  rw [h.l2, h.P]
  refine ⟨fun e he e' he' _ => ?_, fun e he c => ?_, ?_⟩
  · simp at he he'; rw [he, he']
  · simp at he; subst he; simp [ptrs, Ch.ptr] at c; exact h.ne c
  · simp [ptrs, Ch.ptr]
/-- What the i-th fate leaves. -/
theorem EachD.after (h : EachD S m A B C p q) {i d j : Nat} (hf : FateOf S i d j) :
    (S.after d j).size sA = (((A.length + keyE B.length C.length i : Nat) : Int), 0) ∧
    (∀ n : Nat, n ≤ A.length + keyE B.length C.length i → (S.after d j).read sA 0 (n : Int) = ((A ++ B.take (keyE B.length C.length i)).take n, 0)) ∧
    (i ≤ B.length → (S.after d j).size (sM m) = (0, 6)) ∧ (¬ i ≤ B.length → ∃ z : Nat, z ≤ C.length ∧ (S.after d j).size (sM m) = ((z : Int), 0)) := by
  have hd := hf.dl
  rw [h.P] at hd
  have e0 : ((0 : Nat) : Int) = 0 := rfl
  have e1 : ((1 : Nat) : Int) = 1 := rfl
  have hd : d = 0 ∨ d = 1 := by simp at hd; omega
  have hup : (S.after d j).up = true := rfl
  have hdir : (S.after d j).dir = S.front (d : Int) := rfl
  rcases hd with rfl | rfl
  · have h1 := hf.eq
    have h2 := hf.lt
    rw [e0, h.tails0] at h2
    have hj : i = j := by simpa [DS.cnts] using h1
    subst hj
    simp only [prodT, Nat.mul_one] at h2
    have hk : keyE B.length C.length i = i := by unfold keyE; rw [if_pos (by omega)]
    have hdg : digs [([97], B.length)] i = [i] := by
      simp only [digs, prodT, Nat.div_one]
      rw [Nat.mod_eq_of_lt h2]
    have hF : (S.after 0 i).F p = ⟨A ++ B.take i, A ++ B.take i, 0⟩ := by
      show crashL (S.front 0) (nms (S.front 0)) (keps (digs (S.tails 0) i)) S.F p = _
      rw [h.front0, nms_one, h.tails0, hdg]
      show upd S.F p (crFl (S.F p) ((i : Int), [])) p = _
      rw [upd_same, h.Fp, crFl_plain _ _ _ (by omega)]
    rw [e0, h.front0] at hdir
    have hfa : (S.after 0 i).find sA = (some p, 0) := find_get hup may_a (by rw [hdir]; rfl)
    have hlen : (A ++ B.take i).length = A.length + i := by simp; omega
    rw [hk]
    refine ⟨?_, ?_, ?_, fun c => by omega⟩
    · unfold DS.size
      rw [hfa]
      dsimp only
      rw [hF]
      dsimp only
      rw [hlen]
    · intro n hn
      unfold DS.read
      rw [hfa]
      dsimp only
      rw [hF, if_pos (by dsimp only; rw [hlen]; omega)]
      simp
    · intro _
      have hfn : (S.after 0 i).find (sM m) = (none, 6) := by
        unfold DS.find
        rw [ref_up hup (may_m h.hm), if_pos rfl, hdir]
        rcases h.hm with rfl | rfl <;> rfl
      unfold DS.size
      rw [hfn]
  · have h1 := hf.eq
    have h2 := hf.lt
    rw [e1, h.tails1] at h2
    rw [h.cnt1] at h1
    simp only [prodT, Nat.mul_one] at h2
    have hj : j = i - (B.length + 1) := by omega
    have hk : keyE B.length C.length i = j / (C.length + 1) := by unfold keyE; rw [if_neg (by omega), ← hj]
    have hq1 : j / (C.length + 1) < B.length + 1 := by rw [Nat.div_lt_iff_lt_mul (by omega)]; exact h2
    have hq2 : j % (C.length + 1) < C.length + 1 := Nat.mod_lt _ (by omega)
    have hdg : digs [([97], B.length), ([m], C.length)] j = [j / (C.length + 1), j % (C.length + 1)] := by
      simp only [digs, prodT, Nat.div_one, Nat.mul_one]
      rw [Nat.mod_eq_of_lt hq1, Nat.mod_mod]
    generalize j / (C.length + 1) = x at *
    generalize j % (C.length + 1) = y at *
    have hcr : (S.after 1 j).F = upd (upd S.F p (crFl (S.F p) ((x : Int), []))) q (crFl ((upd S.F p (crFl (S.F p) ((x : Int), []))) q) ((y : Int), [])) := by
      show crashL (S.front 1) (nms (S.front 1)) (keps (digs (S.tails 1) j)) S.F = _
      rw [h.front1, nms_two p q h.hm, h.tails1, hdg]
      rcases h.hm with rfl | rfl <;> rfl
    have hF : (S.after 1 j).F p = ⟨A ++ B.take x, A ++ B.take x, 0⟩ := by
      rw [hcr, upd_ne _ _ h.ne, upd_same, h.Fp, crFl_plain _ _ _ (by omega)]
    have hG : (S.after 1 j).F q = ⟨C.take y, C.take y, 0⟩ := by
      rw [hcr, upd_same, upd_ne _ _ (Ne.symm h.ne), h.Fq]
      have := crFl_plain [] C y (by omega)
      simpa using this
    rw [e1, h.front1] at hdir
    have hfa : (S.after 1 j).find sA = (some p, 0) := find_get hup may_a (by rw [hdir]; rfl)
    have hfn : (S.after 1 j).find (sM m) = (some q, 0) := find_get hup (may_m h.hm) (by rw [hdir]; rcases h.hm with rfl | rfl <;> rfl)
    have hlen : (A ++ B.take x).length = A.length + x := by simp; omega
    rw [hk]
    refine ⟨?_, ?_, fun c => by omega, fun _ => ⟨y, by omega, ?_⟩⟩
    · unfold DS.size
      rw [hfa]
      dsimp only
      rw [hF]
      dsimp only
      rw [hlen]
    · intro n hn
      unfold DS.read
      rw [hfa]
      dsimp only
      rw [hF, if_pos (by dsimp only; rw [hlen]; omega)]
      simp
    · unfold DS.size
      rw [hfn]
      dsimp only
      rw [hG]
      dsimp only
      rw [List.length_take, Nat.min_eq_left (by omega)]
end
end Go.Proofs.Ytdelknejmapeaaa.Dk

/-
  Package crash: base, choices.
-/
namespace Go.Proofs.Ytdelknejmapeaaa.Dk
open Go.RowKit Go.Maps Go.Sort Go.Shelf Go.Proofs.Ytdelknejmapeaaa.Nm
set_option linter.unusedVariables false

/-- A list of tails, as it is read. -/
def Tr (w : World) (v : Value) (L : Tls) : Prop := ∃ ao ca, v = .slice ao L.length ca ∧ L.length ≤ ca ∧ ca ≤ 9223372036854775807 ∧ ∀ i (h : i < L.length), ∃ b off, ao = some ⟨b, off, none⟩ ∧ w.cell? ⟨b, off + i * 2, none⟩ = some (.string (bsOf L[i].1)) ∧ w.cell? ⟨b, off + i * 2 + 1, none⟩ = some (.int .i64 (L[i].2 : Int))
theorem tcells_at (L : Tls) : ∀ i (h : i < L.length), (tcells L)[i * 2]? = some (.string (bsOf L[i].1)) ∧ (tcells L)[i * 2 + 1]? = some (.int .i64 (L[i].2 : Int)) := by
  induction L with
  | nil => intro i h; simp at h
  | cons e r ih =>
    intro i h
    have : tcells (e :: r) = [encStr e.1, .int .i64 (e.2 : Int)] ++ tcells r := by simp [tcells]
    rw [this]
    cases i with
    | zero => exact ⟨rfl, rfl⟩
    | succ i =>
      have h' : i < r.length := by simpa using h
      obtain ⟨a, b⟩ := ih i h'
      refine ⟨?_, ?_⟩
      · rw [List.getElem?_append_right (by simp; omega)]
        simp only [List.length_cons, List.length_nil, List.getElem_cons_succ]
        rw [show (i + 1) * 2 - (0 + 1 + 1) = i * 2 by omega]
        exact a
      · rw [List.getElem?_append_right (by simp; omega)]
        simp only [List.length_cons, List.length_nil, List.getElem_cons_succ]
        rw [show (i + 1) * 2 + 1 - (0 + 1 + 1) = i * 2 + 1 by omega]
        exact b
theorem Tl.tr {B : Nat} {w : World} {v : Value} {L : Tls} (h : Tl B w v L) : Tr w v L := by
  have h0 := h
  rcases h.2 with ⟨rfl, e⟩ | ⟨g, cap, cur, rfl, _, _, a, b, _⟩
  · have : L = [] := List.length_eq_zero_iff.1 e
    subst this
    exact ⟨none, 0, rfl, Nat.le_refl _, by omega, fun i hi => by simp at hi⟩
  · refine ⟨_, _, rfl, a, by unfold maxLen at b; omega, fun i hi => ⟨g, 0, rfl, ?_, ?_⟩⟩
    · have := World.ownsRow.cells h0 (g := g) rfl (i * 2) _ (tcells_at L i hi).1
      rw [addr_add] at this
      exact this
    · have := World.ownsRow.cells h0 (g := g) rfl (i * 2 + 1) _ (tcells_at L i hi).2
      rw [addr_add] at this
      exact this
theorem Tr.below {w w' : World} {v : Value} {L : Tls} (h : Tr w v L) (hb : Below w.heap.size w w') : Tr w' v L := by
  obtain ⟨ao, ca, e, h1, h2, h3⟩ := h
  refine ⟨ao, ca, e, h1, h2, fun i hi => ?_⟩
  obtain ⟨b, off, e1, c1, c2⟩ := h3 i hi
  exact ⟨b, off, e1, by rw [hb.cell (lt_of_cell c1)]; exact c1, by rw [hb.cell (lt_of_cell c2)]; exact c2⟩
set_option maxRecDepth 100000 in
theorem base_any (w : World) (s : ByteArray) (n : Nat) (hn : n ≤ 16777216) :
    Calls Try.prog 71 #[.agg #[.string s, .int .i64 (n : Int)]] w fun e w' => e = .returned (.int .i64 ((n : Int) + 1)) ∧ Below w.heap.size w w' := by
  have hB := hide (box_below w (.cells #[.string s, .int .i64 (n : Int)] 72))
  go_enter Try.func71, Try.ntmps71
  go_wp2_with fail
  go_ret
  exact ⟨by go_num, hB.out⟩
/-- choices, by data. -/
def chA (L : Tls) : Int × Bool := if prodT L ≤ M40 then ((prodT L : Int), true) else (0, false)
set_option maxRecDepth 100000 in
set_option maxHeartbeats 1000000 in
theorem choices_any (w : World) (v : Value) (L : Tls) (hv : Tr w v L) (hs : ∀ e ∈ L, e.2 ≤ 16777216) :
    Calls Try.prog 65 #[v] w fun e w' => e = .returned (.tuple #[.int .i64 (chA L).1, .bool (chA L).2]) ∧ Below w.heap.size w w' := by
  obtain ⟨R, hR⟩ : ∃ R, Hid (chA L = R) := ⟨_, rfl⟩
  rw [hR.out]
  obtain ⟨ao, ca, rfl, q1, q2, q3⟩ := hv
  obtain ⟨N, hN⟩ : ∃ N, Hid (L.length = N) := ⟨_, rfl⟩
  rw [hN.out] at q1 ⊢
  replace q3 := hide q3
  replace hs := hide hs
  go_enter Try.func65, Try.ntmps65
  go_wp2_with fail
  go_loopw [4, 9] (fun v4 i wr => ∃ k x : Nat, i = .int .i64 k ∧ k ≤ N ∧ v4 = .int .i64 x ∧ x ≤ 1099511627776 ∧ Hid (x = prodT (L.take k)) ∧ Hid (Below w.heap.size w wr)) (fun _ i _ => N - (intOf i).toNat)
  case atStart => exact ⟨0, 1, rfl, Nat.zero_le _, rfl, by omega, rfl, Below.refl _ _⟩
  case round =>
    obtain ⟨k, x, rfl, hk, rfl, hx, ex, hB⟩ := hrel
    by_cases hlt : k < N
    · have i1 : (k : Int) < (N : Int) := by omega
      have hkl : k < L.length := by rw [hN.out]; exact hlt
      obtain ⟨gb, off, rfl, c0, c1⟩ := q3.out k hkl
      rw [← hB.out.cell (p := ⟨gb, off + k * 2, none⟩) (lt_of_cell c0)] at c0
      rw [← hB.out.cell (p := ⟨gb, off + k * 2 + 1, none⟩) (lt_of_cell c1)] at c1
      have hn := hs.out L[k] (List.getElem_mem hkl)
      have ey : Hid (prodT (L.take (k + 1)) = x * (L[k].2 + 1)) := by show _ = _; rw [List.take_succ_eq_append_getElem hkl, prodT_snoc, ex.out]
      have ez : Hid (prodT (L.take (k + 1)) ≤ prodT L) := prodT_take _ _
      obtain ⟨y, ey2⟩ : ∃ y, Hid (y = prodT (L.take (k + 1))) := ⟨_, rfl⟩
      rw [← ey2.out] at ey ez
      generalize L[k].2 = n at *
      generalize bsOf L[k].1 = s at *
      obtain ⟨X, hX⟩ : ∃ X, Hid (wr.alloc (.cells #[.string s, .int .i64 (n : Int)] 72) = X) := ⟨_, rfl⟩
      have B0 : Hid (Below w.heap.size w X) := by
        rw [← hX.out]
        exact hB.out.trans ((box_below wr (.cells #[.string s, .int .i64 (n : Int)] 72)).mono hB.out.size)
      have z0 := heap_alloc_new wr (.cells #[.string s, .int .i64 (n : Int)] 72)
      rw [hX.out] at z0
      have KB : Hid (∀ q, Below X.heap.size X q → Calls Try.prog 71 #[.agg #[.string s, .int .i64 (n : Int)]] q fun e q' => e = .returned (.int .i64 ((n : Int) + 1)) ∧ Below X.heap.size X q' ∧ q'.cell? ⟨wr.heap.size, 0, none⟩ = some (.string s) ∧ q'.cell? ⟨wr.heap.size, 1, none⟩ = some (.int .i64 (n : Int))) := fun q hq => by
        refine (base_any q s n hn).mono ?_
        rintro e q' ⟨rfl, hb⟩
        have hb' := hq.trans (hb.mono hq.size)
        have hz := (hb'.block wr.heap.size (heap_lt z0)).trans z0
        exact ⟨rfl, hb', by simp [World.cell?, hz], by simp [World.cell?, hz]⟩
      have x0 : X.cell? ⟨wr.heap.size, 0, none⟩ = some (.string s) := by simp [World.cell?, z0]
      have x1 : X.cell? ⟨wr.heap.size, 1, none⟩ = some (.int .i64 (n : Int)) := by simp [World.cell?, z0]
      have bX := Below.refl X.heap.size X
      clear z0
      obtain ⟨Q, hQ⟩ : ∃ Q, Hid (Q = M40 / (n + 1)) := ⟨_, rfl⟩
      have t1 : (1099511627776 : Int).tdiv ((n : Int) + 1) = (Q : Int) := by
        rw [Int.tdiv_eq_ediv_of_nonneg (by omega), hQ.out]
        exact (Int.natCast_ediv 1099511627776 (n + 1)).symm
      have t2 : Q ≤ 1099511627776 := by rw [hQ.out]; exact Nat.div_le_self _ _
      have t3 := over_iff x (n + 1) (by omega)
      rw [← hQ.out, ← ey.out] at t3
      by_cases ho : y ≤ 1099511627776
      · have t4 : ¬ ((x : Int) > (Q : Int)) := by unfold M40 at t3; omega
        have t5 : (x : Int) * ((n : Int) + 1) = (y : Int) := by rw [ey.out]; norm_cast
        clear t3
        have t6 : (y : Int) ≤ 9223372036854775807 := by omega
        replace ho := hide ho
        replace hx := hide hx
        go_upto_region 5 with fail
        rw [hX.out]
        go_wp2_with (first
          | (go_at_call 71; refine (KB.out _ (by assumption)).mono ?_; rintro e w1 ⟨rfl, b1, c2, c3⟩)
          | fail)
        go_roundw
        case rel => exact ⟨k + 1, y, by go_num, by omega, rfl, ho.out, ey2, B0.out.trans (b1.mono B0.out.size)⟩
        case measure => simp [intOf]; omega
      · have t4 : (x : Int) > (Q : Int) := by unfold M40 at t3; omega
        clear t3
        go_upto_region 5 with fail
        rw [hX.out]
        go_wp2_with (first
          | (go_at_call 71; refine (KB.out _ (by assumption)).mono ?_; rintro e w1 ⟨rfl, b1, c2, c3⟩)
          | fail)
        go_ret2
        refine ⟨?_, B0.out.trans (b1.mono B0.out.size)⟩
        rw [← hR.out, chA, if_neg (by have := ez.out; unfold M40; omega)]
        rfl
    · obtain rfl : k = N := by omega
      rw [List.take_of_length_le (by rw [hN.out]; omega)] at ex
      go_wp2_with fail
      go_ret2
      refine ⟨?_, hB.out⟩
      rw [← hR.out, chA, ← ex.out, if_pos (by unfold M40; exact hx)]
      rfl
#print axioms choices_any
end Go.Proofs.Ytdelknejmapeaaa.Dk

/-
  Package crash: apart.
-/
namespace Go.Proofs.Ytdelknejmapeaaa.Dk
open Go.RowKit Go.Maps Go.Sort Go.Shelf Go.Proofs.Ytdelknejmapeaaa.Nm
set_option linter.unusedVariables false

theorem infoKeep : (Try.prog.info? 70).map (fun i => (i.zero, i.size, i.bytes)) = some (some (.agg #[.int .i64 0, .slice none 0 0]), 2, 32) := by kernel_rfl
def kcells (ds : List Nat) : List Value := (ds.map fun (n : Nat) => [Value.int .i64 (n : Int), .slice none 0 0]).flatten
theorem kcells_cons (d : Nat) (ds : List Nat) : kcells (d :: ds) = [.int .i64 (d : Int), .slice none 0 0] ++ kcells ds := by simp [kcells]
theorem kcells_len (ds : List Nat) : (kcells ds).length = ds.length * 2 := by
  induction ds with
  | nil => rfl
  | cons d r ih => rw [kcells_cons, List.length_append, ih, List.length_cons]; simp; omega
theorem kcells_set (ds : List Nat) (k d : Nat) : (kcells ds).set (k * 2) (.int .i64 (d : Int)) = kcells (ds.set k d) := by
  induction ds generalizing k with
  | nil => simp [kcells]
  | cons x r ih =>
    cases k with
    | zero => simp [kcells_cons]
    | succ k =>
      rw [kcells_cons, List.set_cons_succ, kcells_cons, ← ih k]
      rw [show (k + 1) * 2 = k * 2 + 1 + 1 by omega]
      simp
theorem kcells_at (ds : List Nat) : ∀ k (h : k < ds.length), (kcells ds)[k * 2]? = some (.int .i64 (ds[k] : Int)) ∧ (kcells ds)[k * 2 + 1]? = some (.slice none 0 0) := by
  induction ds with
  | nil => intro k h; simp at h
  | cons x r ih =>
    intro k h
    cases k with
    | zero => exact ⟨rfl, rfl⟩
    | succ k =>
      obtain ⟨a, b⟩ := ih k (by simpa using h)
      rw [kcells_cons, show (k + 1) * 2 = k * 2 + 1 + 1 by omega, show k * 2 + 1 + 1 + 1 = (k * 2 + 1) + 1 + 1 by omega]
      simp only [List.cons_append, List.nil_append, List.getElem?_cons_succ, List.getElem_cons_succ]
      exact ⟨a, b⟩
theorem made_keeps (n : Nat) : (madeCells #[.int .i64 0, .slice none 0 0] (n * 2)).toList = kcells (List.replicate n 0) := by
  refine List.ext_getElem? fun j => ?_
  have hl : (kcells (List.replicate n 0)).length = n * 2 := by rw [kcells_len]; simp
  by_cases hj : j < n * 2
  · have e1 : (madeCells #[.int .i64 0, .slice none 0 0] (n * 2)).toList[j]? = some (#[Value.int .i64 0, .slice none 0 0][j % 2]!) := by
      unfold madeCells
      simp [hj]
    rw [e1]
    obtain ⟨a, b⟩ := kcells_at (List.replicate n 0) (j / 2) (by simp; omega)
    rcases Nat.mod_two_eq_zero_or_one j with h | h
    · rw [h, show j = j / 2 * 2 by omega, a]; simp
    · rw [h]
      conv => rhs; rw [show j = j / 2 * 2 + 1 by omega]
      rw [b]; simp
  · rw [List.getElem?_eq_none (by rw [Array.length_toList, size_madeCells]; omega), List.getElem?_eq_none (by omega)]
/-- A list of keeps without junk, of one's own. -/
def Ks (B : Nat) (w : World) (v : Value) (ds : List Nat) : Prop := w.ownsRow B 70 2 v ds.length (kcells ds)
theorem Ks.kp {B : Nat} {w : World} {v : Value} {ds : List Nat} (h : Ks B w v ds) (hd : ∀ d ∈ ds, d ≤ 16777216) : Kp (fun k => B ≤ k ∧ k < w.heap.size) w v (keps ds) := by
  have h0 := h
  have hl : (keps ds).length = ds.length := by simp [keps]
  rcases h.2 with ⟨rfl, e⟩ | ⟨g, cap, cur, rfl, hg, hh, a, b, _⟩
  · have : ds = [] := List.length_eq_zero_iff.1 e
    subst this
    exact ⟨none, 0, rfl, Nat.le_refl _, by decide, fun i hi => by simp [keps] at hi⟩
  · refine ⟨_, cap, by rw [hl], by rw [hl]; exact a, b, fun i hi => ?_⟩
    rw [hl] at hi
    have e1 : (keps ds)[i]'(by rw [hl]; exact hi) = ((ds[i] : Int), []) := by simp [keps]
    rw [e1]
    obtain ⟨c0, c1⟩ := kcells_at ds i hi
    have q0 := World.ownsRow.cells h0 (g := g) rfl (i * 2) _ c0
    have q1 := World.ownsRow.cells h0 (g := g) rfl (i * 2 + 1) _ c1
    rw [addr_add] at q0 q1
    have := hd ds[i] (List.getElem_mem hi)
    exact ⟨g, 0, .slice none 0 0, rfl, ⟨hg, heap_lt hh⟩, q0, q1, Sl.nil _, fun b off n c e => by simp at e, by dsimp only; omega, by dsimp only; omega⟩
theorem kp_mono {Z Z' : Nat → Prop} {w : World} {v : Value} {ks : List Kep} (h : Kp Z w v ks) (hz : ∀ k, Z k → Z' k) : Kp Z' w v ks := by
  obtain ⟨ao, cap, e, h1, h2, h3⟩ := h
  refine ⟨ao, cap, e, h1, h2, fun i hi => ?_⟩
  obtain ⟨b, off, vj, e1, z, c1, c2, sl, si, m0, m1⟩ := h3 i hi
  exact ⟨b, off, vj, e1, hz b z, c1, c2, sl, fun b' o n c e z => hz b' (si b' o n c e z), m0, m1⟩
theorem owns_belowN {w w' : World} {B : Nat} {T : TypeId} {size : Nat} {v : Value} {n : Nat} {xs : List Value} (h : w.ownsRow B T size v n xs) (hb : Below w.heap.size w w') : w'.ownsRow B T size v n xs :=
  ⟨h.1, h.2.imp id fun ⟨g, cap, cur, e, hg, hh, r⟩ => ⟨g, cap, cur, e, hg, (hb.block g (heap_lt hh)).trans hh, r⟩⟩
theorem rest_set (D : List Nat) (k : Nat) (h : k < D.length) : (List.replicate (k + 1) 0 ++ D.drop (k + 1)).set k D[k] = List.replicate k 0 ++ D.drop k := by
  rw [List.replicate_succ', List.append_assoc, List.set_append_right _ _ (by simp)]
  rw [List.length_replicate, Nat.sub_self, List.singleton_append, List.set_cons_zero, ← List.drop_eq_getElem_cons h]
set_option maxRecDepth 100000 in
set_option maxHeartbeats 1000000 in
theorem apart_any (w : World) (v : Value) (L : Tls) (i : Nat) (hv : Tr w v L) (hs : ∀ e ∈ L, e.2 ≤ 16777216) (hi : i < prodT L) (hm : i < 1099511627776) (hl : L.length ≤ 1000000000) :
    Calls Try.prog 62 #[v, .int .i64 (i : Int)] w fun e w' => ∃ v', e = .returned v' ∧ Ks w.heap.size w' v' (digs L i) ∧ Below w.heap.size w w' := by
  obtain ⟨ao, ca, rfl, q1, q2, q3⟩ := hv
  obtain ⟨N, hN⟩ : ∃ N, Hid (L.length = N) := ⟨_, rfl⟩
  rw [hN.out] at q1 hl ⊢
  replace q3 := hide q3
  replace hs := hide hs
  have hD : Hid ((digs L i).length = N) := by show _ = _; rw [digs_len, hN.out]
  obtain ⟨i0, hi0, hz0, hz1, hz2⟩ := info_parts infoKeep
  go_enter Try.func62, Try.ntmps62
  go_wp2_with (at_make; refine wpList_make_full w rfl _ _ 24 rfl w.heap.size 70 i0 (.agg #[.int .i64 0, .slice none 0 0]) 2 Try.underlying24 hi0 hz0 hz1 .i64 .i64 _ _ N rfl rfl rfl rfl (by rw [hz2]; omega) (by unfold maxLen; omega) (Nat.le_refl _) ?_)
  intro w1 ho1 hg1
  have hb1 : Hid (Below w.heap.size w w1) := (Below.refl _ _).grown hg1 (Nat.le_refl _) (fun k hk => by simp at hk)
  rw [made_keeps] at ho1
  replace ho1 := hide ho1
  clear hg1 hi0 hz0 hz1 hz2
  go_wp2_with fail
  go_loopw [1, 6] (fun vi v6 wr => ∃ k x : Nat, k ≤ N ∧ v6 = .int .i64 ((k : Int) - 1) ∧ vi = .int .i64 (x : Int) ∧ x < 1099511627776 ∧ Hid (x = i / prodT (L.drop k)) ∧ Hid (wr.ownsRow w.heap.size 70 2 (.slice (some ⟨w.heap.size, 0, none⟩) N N) N (kcells (List.replicate k 0 ++ (digs L i).drop k))) ∧ Hid (Below w.heap.size w wr)) (fun _ v6 _ => ((intOf v6) + 1).toNat)
  case atStart =>
    refine ⟨N, i, Nat.le_refl _, by go_num, rfl, hm, ?_, ?_, hb1⟩
    · show _ = _
      rw [List.drop_of_length_le (by rw [hN.out]; exact Nat.le_refl _)]; simp [prodT]
    · rw [List.drop_of_length_le (by rw [hD.out]; exact Nat.le_refl _), List.append_nil]; exact ho1
  case round =>
    obtain ⟨k1, x, hk, rfl, rfl, hx, ex, hO, hB⟩ := hrel
    cases k1 with
    | zero =>
      go_wp2_with fail
      go_ret
      refine ⟨_, rfl, ?_, hB.out⟩
      have := hO.out
      simp only [List.replicate_zero, List.nil_append, List.drop_zero] at this
      unfold Ks
      rw [hD.out]
      exact this
    | succ k =>
      have i1 : ((k + 1 : Nat) : Int) - 1 = (k : Int) := by omega
      rw [i1]
      have i2 : (k : Int) < (N : Int) := by omega
      have hkl : k < L.length := by rw [hN.out]; omega
      obtain ⟨gb, off, rfl, c0, c1⟩ := q3.out k hkl
      have KC : Hid (∀ q, Below w.heap.size w q → q.cell? ⟨gb, off + k * 2, none⟩ = some (.string (bsOf L[k].1)) ∧ q.cell? ⟨gb, off + k * 2 + 1, none⟩ = some (.int .i64 (L[k].2 : Int))) := fun q hq => ⟨by rw [hq.cell (lt_of_cell c0)]; exact c0, by rw [hq.cell (lt_of_cell c1)]; exact c1⟩
      clear c0 c1
      obtain ⟨c0, c1⟩ := KC.out wr hB.out
      have hn := hs.out L[k] (List.getElem_mem hkl)
      have hdk : Hid (∀ h, (digs L i)[k]'h = x % (L[k].2 + 1)) := fun h => by
        have := digs_at L i k hi hkl
        rw [List.getElem?_eq_getElem (by rw [hD.out]; omega)] at this
        rw [ex.out]
        exact Option.some.inj this
      have hnx : Hid (x / (L[k].2 + 1) = i / prodT (L.drop k)) := by
        show _ = _
        rw [ex.out, List.drop_eq_getElem_cons hkl, prodT, Nat.div_div_eq_div_mul, Nat.mul_comm]
      generalize L[k].2 = n at *
      generalize bsOf L[k].1 = s at *
      obtain ⟨d, hd⟩ : ∃ d, Hid (x % (n + 1) = d) := ⟨_, rfl⟩
      obtain ⟨y, hy⟩ : ∃ y, Hid (x / (n + 1) = y) := ⟨_, rfl⟩
      rw [hd.out] at hdk
      rw [hy.out] at hnx
      have t1 : (x : Int).tmod ((n : Int) + 1) = (d : Int) := by rw [Int.tmod_eq_emod_of_nonneg (by omega), ← hd.out]; exact (Int.natCast_emod x (n + 1)).symm
      have t2 : (x : Int).tdiv ((n : Int) + 1) = (y : Int) := by rw [Int.tdiv_eq_ediv_of_nonneg (by omega), ← hy.out]; exact (Int.natCast_ediv x (n + 1)).symm
      have t3 : d ≤ 16777216 := by have := Nat.mod_lt x (show 0 < n + 1 by omega); rw [hd.out] at this; omega
      have t4 : y < 1099511627776 := by have := Nat.div_le_self x (n + 1); rw [hy.out] at this; omega
      have hst : Hid (kcells (List.replicate k 0 ++ (digs L i).drop k) = (kcells (List.replicate (k + 1) 0 ++ (digs L i).drop (k + 1))).set (k * 2) (.int .i64 (d : Int))) := by
        show _ = _
        rw [kcells_set, ← hdk.out (by rw [hD.out]; omega), rest_set]
      have KO : Hid (∀ q, Below wr.heap.size wr q → (∃ v0, q.cell? ⟨w.heap.size, k * 2, none⟩ = some v0) ∧ q.frozen? ⟨w.heap.size, k * 2, none⟩ = false ∧ (q.setCell ⟨w.heap.size, k * 2, none⟩ (.int .i64 (d : Int))).ownsRow w.heap.size 70 2 (.slice (some ⟨w.heap.size, 0, none⟩) N N) N (kcells (List.replicate k 0 ++ (digs L i).drop k)) ∧ Below w.heap.size w (q.setCell ⟨w.heap.size, k * 2, none⟩ (.int .i64 (d : Int)))) := fun q hq => by
        have o1 := owns_belowN hO.out hq
        refine ⟨?_, o1.frozenAt _, ?_, (hB.out.trans (hq.mono hB.out.size)).setCell (Nat.le_refl _) _⟩
        · refine Option.isSome_iff_exists.1 ?_
          rw [o1.cellAt (k * 2) (by omega)]
          have := kcells_len (List.replicate (k + 1) 0 ++ (digs L i).drop (k + 1))
          have h2 := hD.out
          simp at this
          simp; omega
        · rw [hst.out]
          exact (o1.stored (k * 2) _).1
      clear hO hk
      go_wp2_with (first
        | (go_at_call 71; refine (base_any wr s n hn).mono ?_; rintro e w2 ⟨rfl, b2⟩; obtain ⟨⟨v0, k0⟩, k1, k2, k3⟩ := KO.out w2 b2; obtain ⟨d0, d1⟩ := KC.out _ k3; replace k2 := hide k2; replace k3 := hide k3; replace b2 := hide b2)
        | (go_at_call 71; refine (base_any _ s n hn).mono ?_; rintro e w3 ⟨rfl, b3⟩; replace b3 := hide b3)
        | fail)
      go_roundw
      case rel => exact ⟨k, y, by omega, by go_num, rfl, t4, hnx.out.symm ▸ rfl, hide (owns_belowN k2.out b3.out), k3.out.trans (b3.out.mono k3.out.size)⟩
      case measure => simp [intOf]
#print axioms apart_any
end Go.Proofs.Ytdelknejmapeaaa.Dk

/-
  Package crash: count, Ways.
-/
namespace Go.Proofs.Ytdelknejmapeaaa.Dk
open Go.RowKit Go.Maps Go.Sort Go.Shelf Go.Proofs.Ytdelknejmapeaaa.Nm
set_option linter.unusedVariables false

theorem infoC64 : (Try.prog.info? 2).map (fun i => (i.zero, i.size, i.bytes)) = some (some (.int .i64 0), 1, 8) := by kernel_rfl
def nvals (l : List Nat) : List Value := l.map fun (n : Nat) => Value.int .i64 (n : Int)
/-- Numbers, in memory from B on. -/
def Ns (B : Nat) (w : World) (v : Value) (l : List Nat) : Prop := w.ownsRow B 2 1 v l.length (nvals l)
theorem Ns.nil (B : Nat) (w : World) : Ns B w (.slice none 0 0) [] := World.ownsRow_nil _ _ _ _
theorem Ns.form {B : Nat} {w : World} {v : Value} {l : List Nat} (h : Ns B w v l) : ∃ ao ca, v = .slice ao l.length ca ∧ l.length ≤ ca ∧ ca ≤ 9223372036854775807 := by
  rcases h.2 with ⟨rfl, e⟩ | ⟨g, cap, cur, rfl, _, _, a, b, _⟩
  · exact ⟨_, _, by rw [e], by omega, by omega⟩
  · exact ⟨_, _, rfl, a, by unfold maxLen at b; omega⟩
theorem Ns.at {B : Nat} {w : World} {v : Value} {l : List Nat} (h : Ns B w v l) {i n : Nat} (hi : l[i]? = some n) : ∃ g cap, v = .slice (some ⟨g, 0, none⟩) l.length cap ∧ w.cell? ⟨g, i, none⟩ = some (.int .i64 (n : Int)) := by
  have h0 := h
  have hl := List.getElem?_eq_some_iff.1 hi
  rcases h.2 with ⟨_, e⟩ | ⟨g, cap, cur, rfl, _, hh, a, b, _⟩
  · have := hl.1; omega
  · refine ⟨g, cap, rfl, ?_⟩
    have := World.ownsRow.cells h0 (g := g) rfl i (.int .i64 (n : Int)) (by unfold nvals; rw [List.getElem?_map, hi]; rfl)
    rw [addr_add] at this
    simpa using this
theorem Ns.below {B : Nat} {w w' : World} {v : Value} {l : List Nat} (h : Ns B w v l) (hb : Below w.heap.size w w') : Ns B w' v l := owns_belowN h hb
theorem one_newC (w : World) (n : Int) (t : TypeId) : ∀ j u, ([Value.int .i64 n] : List Value)[j]? = some u → (w.alloc (.cells #[.int .i64 n] t)).cell? ((⟨w.heap.size, 0, none⟩ : Addr).add j) = some u := by
  intro j u hu
  match j with
  | 0 =>
    simp at hu; subst hu
    rw [addr_add]
    simp only [World.cell?, heap_alloc_new]
    rfl
  | j + 1 => simp at hu
theorem tails_small {S : DS} (h : S.ok) (d : Int) : ∀ e ∈ S.tails d, e.2 ≤ 16777216 := by
  intro e he
  unfold DS.tails at he
  obtain ⟨s, hs, rfl⟩ := List.mem_map.1 he
  dsimp only
  unfold tlOf
  obtain ⟨p, hp⟩ := nms_get hs
  rw [hp]
  have := h.sz p (mem_front hp)
  dsimp only
  omega
theorem tails_len {S : DS} (h : S.ok) (hc : S.c7 < 1000000000) (d : Int) : (S.tails d).length ≤ 1000000000 := by
  unfold DS.tails
  rw [List.length_map, nms_len]
  exact front_len h hc d
/-- count, by data. -/
def DS.cnt (S : DS) : List Nat × Int × Int := if S.ways ≤ M40 then (S.cnts (S.P.length + 1), (S.ways : Int), 0) else ([], 0, 9)
set_option maxRecDepth 100000 in
set_option maxHeartbeats 2000000 in
theorem ccount_dsk {w : World} {b : Nat} {S : DS} {O : Nat → Prop} (h : DskE w b S O) (hc : S.c7 < 900000000) :
    Calls Try.prog 52 #[.pointer (some ⟨b, 0, none⟩)] w fun e w' => ∃ v, e = .returned (.tuple #[v, .int .i64 S.cnt.2.1, .int .i64 S.cnt.2.2]) ∧ Ns w.heap.size w' v S.cnt.1 ∧ Below w.heap.size w w' := by
  have hok := h.ok
  have hPl : Hid (S.P.length < 900000000) := by show _ < _; have := hok.cnt; omega
  obtain ⟨R, hR⟩ : ∃ R, Hid (S.cnt = R) := ⟨_, rfl⟩
  rw [hR.out]
  have hPn := pending_dsk h
  have KT : Hid (∀ q, Below w.heap.size w q → ∀ d : Nat, d ≤ S.P.length → Calls Try.prog 23 #[.pointer (some ⟨b, 0, none⟩), .int .i64 (d : Int)] q fun e w' => ∃ v, e = .returned v ∧ Tr w' v (S.tails (d : Int)) ∧ Below q.heap.size q w') := fun q hq d hd => by
    refine (tails_dsk (h.below hq) (by omega) (d : Int) (by omega) (by have := hPl.out; omega)).mono ?_
    rintro e w' ⟨v, rfl, ht, hb⟩
    exact ⟨v, rfl, ht.tr, hb⟩
  have KC : Hid (∀ q (d : Nat) v, Tr q v (S.tails (d : Int)) → Calls Try.prog 65 #[v] q fun e w' => e = .returned (.tuple #[.int .i64 (chA (S.tails (d : Int))).1, .bool (chA (S.tails (d : Int))).2]) ∧ Below q.heap.size q w') := fun q d v hv => choices_any q v _ hv (tails_small hok _)
  obtain ⟨i0, hi, hz0, hz1, hz2⟩ := info_parts infoC64
  replace hi := hide hi
  obtain ⟨N, hN⟩ : ∃ N, Hid (S.P.length = N) := ⟨_, rfl⟩
  rw [hN.out] at hPn hPl
  have hPl2 : (N : Int) < 900000000 := by have := hPl.out; omega
  clear h hok hc
  go_enter Try.func52, Try.ntmps52
  go_wp2_with (first
    | (go_at_call 20; refine hPn.mono ?_; rintro e w1 ⟨rfl, e1⟩; subst w1)
    | fail)
  clear hPn
  go_loopw [5, 6, 15] (fun v5 v6 i wr => ∃ k x : Nat, i = .int .i64 k ∧ k ≤ N + 1 ∧ v6 = .int .i64 x ∧ x ≤ 1099511627776 ∧ Hid (x = (S.cnts k).sum) ∧ Hid (Ns w.heap.size wr v5 (S.cnts k)) ∧ Hid (Below w.heap.size w wr)) (fun _ _ i _ => N + 1 - (intOf i).toNat)
  case atStart => exact ⟨0, 0, rfl, Nat.zero_le _, rfl, by omega, rfl, Ns.nil _ _, Below.refl _ _⟩
  case round =>
    obtain ⟨k, x, rfl, hk, rfl, hx, ex, hO, hB⟩ := hrel
    by_cases hlt : k < N + 1
    · have i1 : (k : Int) < (N : Int) + 1 := by omega
      have hT := KT.out wr hB.out k (by rw [hN.out]; omega)
      have KC2 : Hid (∀ q v, Tr q v (S.tails (k : Int)) → _) := fun q v hv => KC.out q k v hv
      have hs1 : Hid ((S.cnts (k + 1)).sum = x + prodT (S.tails (k : Int))) := by show _ = _; rw [cnts_sum, ex.out]
      have hs2 : Hid ((S.cnts (k + 1)).sum ≤ S.ways) := cnts_mono S (by rw [hN.out]; omega)
      have hs3 := hide (cnts_snoc S k)
      have hs4 : Hid ((S.cnts k).length = k) := cnts_len S k
      obtain ⟨T, hT2⟩ : ∃ T, Hid (T = S.tails (k : Int)) := ⟨_, rfl⟩
      rw [← hT2.out] at hT KC2 hs1 hs3
      obtain ⟨y, hy⟩ : ∃ y, Hid (y = prodT T) := ⟨_, rfl⟩
      rw [← hy.out] at hs1 hs3
      clear KT KC
      obtain ⟨ao, ca, rfl, hc1, hc2⟩ := hO.out.form
      rw [hs4.out] at hc1
      by_cases ho : y ≤ 1099511627776
      · have hch : chA T = ((y : Int), true) := by unfold chA; rw [← hy.out, if_pos (by unfold M40; exact ho)]
        simp only [hch] at KC2
        by_cases hov : x + y ≤ 1099511627776
        · obtain ⟨D, hD⟩ : ∃ D : Int, Hid (1099511627776 - (x : Int) = D) := ⟨_, rfl⟩
          have d1 := hD.out
          have d2 : 0 ≤ D ∧ D ≤ 1099511627776 := by omega
          have t1 : ¬ ((y : Int) > D) := by omega
          have t2 : (x : Int) ≤ 1099511627776 := by omega
          have t3 : (y : Int) ≤ 1099511627776 := by omega
          replace hov := hide hov
          replace ho := hide ho
          replace hx := hide hx
          clear hch
          go_upto_region 8 with fail
          go_upto_region 9 with (first
            | (go_at_call 23; refine hT.mono ?_; rintro e w2 ⟨v2, rfl, r2, b2⟩; replace r2 := hide r2; replace b2 := hide b2)
            | (go_at_call 65; refine (KC2.out w2 v2 r2.out).mono ?_; rintro e w3 ⟨rfl, b3⟩; replace b3 := hide b3)
            | fail)
          have t4 : (x : Int) + (y : Int) ≤ 1099511627776 := by have := hov.out; omega
          have hk2 : Hid (k < N + 1 ∧ N < 900000000) := ⟨hlt, by have := hPl.out; omega⟩
          clear hk hlt i1 hc1 hc2 hPl2
          have B3 := hide (b2.out.trans (b3.out.mono b2.out.size))
          have O3 := hide (hO.out.below B3.out)
          have B4 := hide (hB.out.trans (B3.out.mono hB.out.size))
          have B5 := hide (B4.out.trans ((box_below w3 (.cells #[.int .i64 (y : Int)] 2)).mono B4.out.size))
          have O5 := hide (O3.out.below (box_below w3 (.cells #[.int .i64 (y : Int)] 2)))
          have hz := hide B5.out.size
          go_wp2_with (at_builtin; refine wpList_append_own_at _ rfl (.tmp 33) (.tmp 35) 110 rfl w.heap.size 2 i0 (.int .i64 0) 1 8 Try.underlying110 hi.out hz0 hz1 hz2 rfl (by decide) (.slice ao (S.cnts k).length ca) (S.cnts k).length (nvals (S.cnts k)) rfl O5.out ⟨w3.heap.size, 0, none⟩ 1 1 [.int .i64 (y : Int)] (by first | rfl | simp [Act.eval]) rfl (one_newC w3 (y : Int) 2) (by simp [Value.oneCell']) (by have := hs4.out; have := hk2.out; unfold maxLen; omega) (by have := hs4.out; have := hk2.out; omega) hz.out ?_; intro v6 w6 ho6 hg6 _ _)
          have B6 := hide (Below.grown B5.out hg6 hz.out (fun k hk => (O5.out.lt k hk).1))
          have O6 : Hid (Ns w.heap.size w6 v6 (S.cnts (k + 1))) := by
            show Ns _ _ _ _
            unfold Ns
            rw [hs3.out, List.length_append]
            simp only [nvals, List.map_append] at ho6 ⊢
            exact ho6
          clear ho6 hg6 O3 O5 B3 B5 hz t1 d1 d2
          have hk3 : Hid (wrap64 ((k : Int) + 1) = (k : Int) + 1) := by show _ = _; have := hk2.out; unfold wrap64; omega
          go_wp2_with fail
          go_roundw
          case rel => exact ⟨k + 1, x + y, by rw [hk3.out]; go_num, by have := hk2.out; omega, by go_num, hov.out, hs1.out.symm, O6, B6⟩
          case measure => have := hk2.out; rw [hk3.out]; simp [intOf]; omega
        · have t1 : (y : Int) > 1099511627776 - (x : Int) := by omega
          have t2 : (x : Int) ≤ 1099511627776 := by omega
          have t3 : (y : Int) ≤ 1099511627776 := by omega
          replace hov := hide hov
          replace ho := hide ho
          replace hx := hide hx
          clear hch
          go_upto_region 8 with fail
          go_upto_region 9 with (first
            | (go_at_call 23; refine hT.mono ?_; rintro e w2 ⟨v2, rfl, r2, b2⟩; replace r2 := hide r2; replace b2 := hide b2)
            | (go_at_call 65; refine (KC2.out w2 v2 r2.out).mono ?_; rintro e w3 ⟨rfl, b3⟩; replace b3 := hide b3)
            | fail)
          go_wp2_with fail
          go_returns
          have B3 := b2.out.trans (b3.out.mono b2.out.size)
          have e1 : R = ([], 0, 9) := by
            rw [← hR.out]; unfold DS.cnt
            rw [if_neg (by have := hs1.out; have := hs2.out; have := hov.out; unfold M40; omega)]
          subst e1
          exact ⟨_, rfl, Ns.nil _ _, hB.out.trans (B3.mono hB.out.size)⟩
      · have hch : chA T = (0, false) := by unfold chA; rw [← hy.out, if_neg (by unfold M40; exact ho)]
        simp only [hch] at KC2
        clear hch
        replace ho := hide ho
        replace hx := hide hx
        go_upto_region 8 with fail
        go_upto_region 9 with (first
          | (go_at_call 23; refine hT.mono ?_; rintro e w2 ⟨v2, rfl, r2, b2⟩; replace r2 := hide r2; replace b2 := hide b2)
          | (go_at_call 65; refine (KC2.out w2 v2 r2.out).mono ?_; rintro e w3 ⟨rfl, b3⟩; replace b3 := hide b3)
          | fail)
        go_wp2_with fail
        go_returns
        have B3 := b2.out.trans (b3.out.mono b2.out.size)
        have e1 : R = ([], 0, 9) := by
          rw [← hR.out]; unfold DS.cnt
          rw [if_neg (by have := hs1.out; have := hs2.out; have := ho.out; unfold M40; omega)]
        subst e1
        exact ⟨_, rfl, Ns.nil _ _, hB.out.trans (B3.mono hB.out.size)⟩
    · obtain rfl : k = N + 1 := by omega
      have e1 : Hid (R = (S.cnts (N + 1), (x : Int), 0)) := by
        show _ = _
        rw [← hR.out]; unfold DS.cnt DS.ways
        rw [hN.out, ← ex.out, if_pos (by unfold M40; exact hx)]
      obtain ⟨ao, ca, rfl, hc1, hc2⟩ := hO.out.form
      go_wp2_with fail
      go_returns
      rw [e1.out]
      exact ⟨_, rfl, hO.out, hB.out⟩
#print axioms ccount_dsk
end Go.Proofs.Ytdelknejmapeaaa.Dk

/-
  Package crash: Ways, At, After.
-/
namespace Go.Proofs.Ytdelknejmapeaaa.Dk
open Go.RowKit Go.Maps Go.Sort Go.Shelf Go.Proofs.Ytdelknejmapeaaa.Nm
set_option linter.unusedVariables false

set_option maxRecDepth 100000 in
theorem ways_dsk {w : World} {b : Nat} {S : DS} {O : Nat → Prop} (h : DskE w b S O) (hc : S.c7 < 900000000) :
    Calls Try.prog 27 #[.pointer (some ⟨b, 0, none⟩)] w fun e w' => e = .returned (.tuple #[.int .i64 S.cnt.2.1, .int .i64 S.cnt.2.2]) ∧ Below w.heap.size w w' := by
  have hC := ccount_dsk h hc
  clear h
  generalize S.cnt = R at *
  go_enter Try.func27, Try.ntmps27
  go_wp2_with (go_at_call 52; refine hC.mono ?_; rintro e w1 ⟨v, rfl, _, b1⟩; replace b1 := hide b1)
  go_ret2
  exact ⟨rfl, b1.out⟩
/-- How many fates are told: at most 2^40. -/
theorem cnt_ok {S : DS} (h : S.cnt.2.2 = 0) : S.ways ≤ M40 ∧ S.cnt = (S.cnts (S.P.length + 1), (S.ways : Int), 0) := by
  unfold DS.cnt at h ⊢
  split at h
  · rename_i q; rw [if_pos q]; exact ⟨q, rfl⟩
  · simp at h
/-- At: what it answers where there is none. -/
def DS.atE (S : DS) (i : Int) : Int := if S.ways ≤ M40 then (if 0 ≤ i ∧ i < (S.ways : Int) then 0 else 8) else 9
theorem digs_small {S : DS} (h : S.ok) (d j : Nat) (hj : j < prodT (S.tails (d : Int))) : ∀ x ∈ digs (S.tails (d : Int)) j, x ≤ 16777216 := by
  intro x hx
  obtain ⟨k, hk, rfl⟩ := List.getElem_of_mem hx
  rw [digs_len] at hk
  have h1 := digs_le (S.tails (d : Int)) j k hj hk
  have h2 := tails_small h (d : Int) (S.tails (d : Int))[k] (List.getElem_mem hk)
  rw [List.getD_eq_getElem?_getD, List.getElem?_eq_getElem (by rw [digs_len]; exact hk)] at h1
  simp only [Option.getD_some] at h1
  omega
theorem Ks.form {B : Nat} {w : World} {v : Value} {ds : List Nat} (h : Ks B w v ds) : ∃ ao n ca, v = .slice ao n ca := by
  rcases h.2 with ⟨rfl, e⟩ | ⟨g, cap, cur, rfl, _⟩
  · exact ⟨_, _, _, rfl⟩
  · exact ⟨_, _, _, rfl⟩
/-- Two cells of a block are written. -/
theorem two_store {q : World} {g : Nat} {a b : Value} {T : TypeId} (x y : Value) (hz : q.heap[g]? = some (.cells #[a, b] T)) :
    q.cell? ⟨g, 0, none⟩ = some a ∧ q.frozen? ⟨g, 0, none⟩ = false ∧ (q.setCell ⟨g, 0, none⟩ x).cell? ⟨g, 1, none⟩ = some b ∧ (q.setCell ⟨g, 0, none⟩ x).frozen? ⟨g, 1, none⟩ = false ∧
    ((q.setCell ⟨g, 0, none⟩ x).setCell ⟨g, 1, none⟩ y).heap[g]? = some (.cells #[x, y] T) ∧ But (fun k => k = g) q ((q.setCell ⟨g, 0, none⟩ x).setCell ⟨g, 1, none⟩ y) ∧ (q.setCell ⟨g, 0, none⟩ x).cell? ⟨g, 0, none⟩ = some x ∧ ((q.setCell ⟨g, 0, none⟩ x).setCell ⟨g, 1, none⟩ y).cell? ⟨g, 1, none⟩ = some y := by
  have h1 := heap_setCell_same q g 0 _ _ x hz
  have h2 := heap_setCell_same (q.setCell ⟨g, 0, none⟩ x) g 1 _ _ y h1
  have g3 := But.of_grownBy (X := fun k => k = g) (grown_setCell q g 0 x) fun k e => by cases e; rfl
  have g4 := But.of_grownBy (X := fun k => k = g) (grown_setCell (q.setCell ⟨g, 0, none⟩ x) g 1 y) fun k e => by cases e; rfl
  refine ⟨by simp [World.cell?, hz], by simp [World.frozen?, hz], by simp [World.cell?, h1], by simp [World.frozen?, h1], ?_, g3.trans g4, by simp [World.cell?, h1], by simp [World.cell?, h2]⟩
  rw [h2]
  rfl
theorem but_new {w q q' : World} {g : Nat} (hb : Below w.heap.size w q) (h : But (fun k => k = g) q q') (hg : w.heap.size ≤ g) : Below w.heap.size w q' :=
  ⟨h.os.trans hb.os, h.tape.trans hb.tape, h.output.trans hb.output, Nat.le_trans hb.size h.size, fun k hk => (h.block k (Nat.lt_of_lt_of_le hk hb.size) (by omega)).trans (hb.block k hk)⟩
theorem ks_but {q q' : World} {B g : Nat} {v : Value} {ds : List Nat} (h : Ks B q v ds) (hb : But (fun k => k = g) q q') (hg : g < B) : Ks g q' v ds :=
  ⟨h.1, h.2.imp id fun ⟨g', cap, cur, e, h1, hh, r⟩ => ⟨g', cap, cur, e, Nat.le_trans (Nat.le_of_lt hg) h1, (hb.block g' (heap_lt hh) (by show ¬ _ = _; omega)).trans hh, r⟩⟩
set_option maxRecDepth 100000 in
set_option maxHeartbeats 4000000 in
theorem at_dsk {w : World} {b : Nat} {S : DS} {O : Nat → Prop} (h : DskE w b S O) (hc : S.c7 < 900000000) (i : Int) (n0 : -9223372036854775808 ≤ i) (n1 : i ≤ 9223372036854775807) :
    Calls Try.prog 50 #[.pointer (some ⟨b, 0, none⟩), .int .i64 i] w fun e w' => Below w.heap.size w w' ∧ ((S.atE i ≠ 0 ∧ e = .returned (.tuple #[.agg #[.int .i64 0, .slice none 0 0], .int .i64 (S.atE i)])) ∨
      (S.atE i = 0 ∧ ∃ d j v, FateOf S i.toNat d j ∧ e = .returned (.tuple #[.agg #[.int .i64 (d : Int), v], .int .i64 0]) ∧ Ks w.heap.size w' v (digs (S.tails (d : Int)) j))) := by
  have B0 := hide (box_below w (.cells #[.int .i64 0, .slice none 0 0] 26))
  have N0 := hide (heap_alloc_new w (.cells #[.int .i64 0, .slice none 0 0] 26))
  obtain ⟨u, hu⟩ : ∃ u, Hid (w.alloc (.cells #[.int .i64 0, .slice none 0 0] 26) = u) := ⟨_, rfl⟩
  rw [hu.out] at B0 N0
  have hok := h.ok
  have hC := ccount_dsk (h.below B0.out) hc
  have hcu : Hid (w.heap.size < u.heap.size) := heap_lt N0.out
  by_cases hw : S.ways ≤ M40
  · have hcnt : S.cnt = (S.cnts (S.P.length + 1), (S.ways : Int), 0) := by unfold DS.cnt; rw [if_pos hw]
    rw [hcnt] at hC
    clear hcnt
    obtain ⟨W, hW⟩ : ∃ W, Hid (S.ways = W) := ⟨_, rfl⟩
    rw [hW.out] at hC
    have W1 : (W : Int) ≤ 1099511627776 := by rw [← hW.out]; unfold M40 at hw; omega
    by_cases hi : 0 ≤ i ∧ i < (W : Int)
    · have hE : S.atE i = 0 := by unfold DS.atE; rw [if_pos hw, hW.out, if_pos hi]
      obtain ⟨hi1, hi2⟩ := hi
      obtain ⟨I, eI⟩ : ∃ I : Nat, Hid (i = (I : Int)) := Int.eq_ofNat_of_zero_le hi1
      have eI2 : Hid (i.toNat = I) := by show _ = _; rw [eI.out]; exact Int.toNat_natCast I
      rw [eI2.out]
      obtain ⟨E, hE2⟩ : ∃ E, Hid (S.atE i = E) := ⟨_, rfl⟩
      have j1 : ¬ (i < 0) := by omega
      obtain ⟨Wz, hWz⟩ : ∃ Wz : Int, Hid ((W : Int) = Wz) := ⟨_, rfl⟩
      rw [hWz.out] at hC
      have j2 : ¬ (i ≥ Wz) := by rw [← hWz.out]; omega
      rw [hE2.out] at hE ⊢
      subst hE
      obtain ⟨N, hN⟩ : ∃ N, Hid (S.P.length = N) := ⟨_, rfl⟩
      rw [hN.out] at hC
      have hN2 : Hid ((N : Int) ≤ 900000000) := by show _ ≤ _; have := hok.cnt; rw [← hN.out]; omega
      have hI : Hid (I < (S.cnts (N + 1)).sum) := by show _ < _; rw [← hN.out]; have := hW.out; unfold DS.ways at this; rw [this]; have := eI.out; omega
      have KT : Hid (∀ q, Below w.heap.size w q → ∀ d : Nat, d ≤ N → Calls Try.prog 23 #[.pointer (some ⟨b, 0, none⟩), .int .i64 (d : Int)] q fun e w' => ∃ v, e = .returned v ∧ Tr w' v (S.tails (d : Int)) ∧ Below q.heap.size q w') := fun q hq d hd => by
        refine (tails_dsk (h.below hq) (by omega) (d : Int) (by omega) (by have := hN2.out; omega)).mono ?_
        rintro e w' ⟨v, rfl, ht, hb⟩
        exact ⟨v, rfl, ht.tr, hb⟩
      have KA : Hid (∀ q (d j : Nat) v, Tr q v (S.tails (d : Int)) → j < prodT (S.tails (d : Int)) → j < 1099511627776 → Calls Try.prog 62 #[v, .int .i64 (j : Int)] q fun e w' => ∃ v', e = .returned v' ∧ Ks q.heap.size w' v' (digs (S.tails (d : Int)) j) ∧ Below q.heap.size q w') := fun q d j v hv hj hm => apart_any q v _ j hv (tails_small hok _) hj hm (tails_len hok (by omega) _)
      have hI2 : (I : Int) ≤ 1099511627775 := by have := eI.out; omega
      clear h hok hc hw hi1 n0 n1
      replace hI2 := hide hI2
      replace W1 := hide W1
      replace hi2 := hide hi2
      go_enter Try.func50, Try.ntmps50
      go_upto_region 1 with fail
      rw [hu.out]
      go_upto_region 2 with (go_at_call 52; refine hC.mono ?_; rintro e w1 ⟨v, rfl, c1, b1⟩; have z1 := hide ((b1.block _ (heap_lt N0.out)).trans N0.out); replace b1 := hide b1; replace c1 := hide c1)
      go_upto_region 4 with fail
      go_upto_region 6 with fail
      have B1 : Hid (Below w.heap.size w w1) := B0.out.trans (b1.out.mono B0.out.size)
      obtain ⟨av, cv, rfl, hf1, hf2⟩ := c1.out.form
      rw [cnts_len] at c1 hf1 ⊢
      clear hC j1 j2
      go_wp2_with fail
      go_loopw [1, 9] (fun vi vd wr => ∃ d j : Nat, vd = .int .i64 d ∧ vi = .int .i64 j ∧ Hid (d ≤ N ∧ I = (S.cnts d).sum + j) ∧ wr = w1) (fun _ vd _ => N + 1 - (intOf vd).toNat)
      case atStart => exact ⟨0, I, rfl, by rw [eI.out], ⟨Nat.zero_le _, by simp [DS.cnts]⟩, rfl⟩
      case round =>
        obtain ⟨d, j, rfl, rfl, hd, rfl⟩ := hrel
        have hdN : (d : Int) < ((N + 1 : Nat) : Int) := by have := hd.out.1; omega
        obtain ⟨g, cap, e, hcell⟩ := c1.out.at (cnts_get S (N + 1) d (by have := hd.out.1; omega))
        rw [cnts_len] at e
        simp only [Value.slice.injEq] at e
        obtain ⟨rfl, _, rfl⟩ := e
        have hsum : Hid ((S.cnts (d + 1)).sum = (S.cnts d).sum + prodT (S.tails (d : Int))) := cnts_sum S d
        obtain ⟨c, hcc⟩ : ∃ c, Hid (prodT (S.tails (d : Int)) = c) := ⟨_, rfl⟩
        rw [hcc.out] at hcell hsum
        have hjc : Hid ((j : Int) ≤ 1099511627775) := by show _ ≤ _; have := hd.out.2; have := hI2.out; omega
        by_cases hjl : j < c
        · have t1 : ¬ ((j : Int) ≥ (c : Int)) := by omega
          have hT := KT.out wr B1.out d hd.out.1
          have KA2 := KA.out
          go_upto_region 10 with fail
          clear t1 hcell hf1 hf2 hdN
          go_wp2_with (first
            | (go_at_call 23; refine hT.mono ?_; rintro e w2 ⟨v2, rfl, r2, b2⟩; replace r2 := hide r2; replace b2 := hide b2)
            | (go_at_call 62; refine (KA.out w2 d j v2 r2.out (by rw [hcc.out]; exact hjl) (by have := hjc.out; omega)).mono ?_; rintro e w3 ⟨v3, rfl, r3, b3⟩; obtain ⟨a3, n3, c3, rfl⟩ := r3.form; have z3 := (b3.block _ (heap_lt ((b2.out.block _ (heap_lt z1.out)).trans z1.out))).trans ((b2.out.block _ (heap_lt z1.out)).trans z1.out); obtain ⟨x1, x2, x3, x4, x5, x6, x7, x8⟩ := two_store (.int .i64 (d : Int)) (.slice a3 n3 c3) z3; replace z3 := hide z3; replace r3 := hide r3; replace b3 := hide b3; replace x6 := hide x6; clear x5)
            | fail)
          try simp only [Exit.inBlock, Exit.then]
          refine bodyPost_ret (by simp [results, Try.results50, go_sem, x7, x8]; try rfl) rfl ?_
          have B3 : Below w.heap.size w w3 := B1.out.trans ((b2.out.trans (b3.out.mono b2.out.size)).mono B1.out.size)
          refine ⟨but_new B3 x6.out (Nat.le_refl _), .inr ⟨trivial, d, j, _, ⟨by rw [hN.out]; exact hd.out.1, hd.out.2, by rw [hcc.out]; exact hjl⟩, rfl, ?_⟩⟩
          have hO : w2.heap.size ≤ w3.heap.size := b3.out.size
          have hlow : w.heap.size < w2.heap.size := Nat.lt_of_lt_of_le (heap_lt z1.out) b2.out.size
          exact ks_but r3.out x6.out hlow
        · have t1 : (j : Int) ≥ (c : Int) := by omega
          have t2 := hjc.out
          go_wp2_with fail
          go_roundw
          case rel =>
            refine ⟨d + 1, j - c, by go_num, by go_num, ⟨?_, ?_⟩, trivial⟩
            · have h1 := hd.out; have h2 := hsum.out; have h3 := hI.out
              by_cases hdn : d = N
              · subst hdn; omega
              · omega
            · have h1 := hd.out; have h2 := hsum.out
              omega
          case measure => have := hd.out.1; simp [intOf]; omega
    · have hE : S.atE i = 8 := by unfold DS.atE; rw [if_pos hw, hW.out, if_neg hi]
      obtain ⟨E, hE2⟩ : ∃ E, Hid (S.atE i = E) := ⟨_, rfl⟩
      rw [hE2.out] at hE ⊢
      subst hE
      clear h hok hw
      obtain ⟨N, hN⟩ : ∃ N, Hid (S.P.length = N) := ⟨_, rfl⟩
      rw [hN.out] at hC
      have hc1 : i < 0 ∨ i ≥ (W : Int) := by omega
      rcases hc1 with hc1 | hc1
      all_goals
        go_enter Try.func50, Try.ntmps50
        go_upto_region 1 with fail
        rw [hu.out]
        go_wp2_with (go_at_call 52; refine hC.mono ?_; rintro e w1 ⟨v, rfl, _, b1⟩; have z1 := (b1.block _ (heap_lt N0.out)).trans N0.out; obtain ⟨x1, x2, x3, x4, x5, x6, x7, x8⟩ := two_store (.int .i64 0) (.slice none 0 0) z1; replace b1 := hide b1; replace z1 := hide z1; replace x6 := hide x6; clear x5)
        try simp only [Exit.inBlock, Exit.then]
        refine bodyPost_ret (by simp [results, Try.results50, go_sem, x7, x8]; try rfl) rfl ?_
        exact ⟨but_new (B0.out.trans (b1.out.mono B0.out.size)) x6.out (Nat.le_refl _), .inl ⟨by decide, rfl⟩⟩
  · have hcnt : S.cnt = ([], 0, 9) := by unfold DS.cnt; rw [if_neg hw]
    rw [hcnt] at hC
    have hE : S.atE i = 9 := by unfold DS.atE; rw [if_neg hw]
    obtain ⟨E, hE2⟩ : ∃ E, Hid (S.atE i = E) := ⟨_, rfl⟩
    rw [hE2.out] at hE ⊢
    subst hE
    clear h hok hw hcnt
    go_enter Try.func50, Try.ntmps50
    go_upto_region 1 with fail
    rw [hu.out]
    go_wp2_with (go_at_call 52; refine hC.mono ?_; rintro e w1 ⟨v, rfl, _, b1⟩; have z1 := (b1.block _ (heap_lt N0.out)).trans N0.out; obtain ⟨x1, x2, x3, x4, x5, x6, x7, x8⟩ := two_store (.int .i64 0) (.slice none 0 0) z1; replace b1 := hide b1; replace z1 := hide z1; replace x6 := hide x6; clear x5)
    try simp only [Exit.inBlock, Exit.then]
    refine bodyPost_ret (by simp [results, Try.results50, go_sem, x7, x8]; try rfl) rfl ?_
    exact ⟨but_new (B0.out.trans (b1.out.mono B0.out.size)) x6.out (Nat.le_refl _), .inl ⟨by decide, rfl⟩⟩
#print axioms at_dsk
end Go.Proofs.Ytdelknejmapeaaa.Dk

/-
  Package crash: After.
-/
namespace Go.Proofs.Ytdelknejmapeaaa.Dk
open Go.RowKit Go.Maps Go.Sort Go.Shelf Go.Proofs.Ytdelknejmapeaaa.Nm
set_option linter.unusedVariables false

theorem copy_dsk {w : World} {b : Nat} {S : DS} {O : Nat → Prop} (h : DskE w b S O) (hu : S.uq) (hc : S.c7 < 900000000) :
    Calls Try.prog 19 #[.pointer (some ⟨b, 0, none⟩)] w fun e w' => ∃ b' σ S' O', e = .returned (.pointer (some ⟨b', 0, none⟩)) ∧ Alike σ S S' ∧ DskE w' b' S' O' ∧ (∀ k, O' k → w.heap.size ≤ k) ∧ Below w.heap.size w w' := by
  obtain ⟨f, g, pd, am, VB, VL, h⟩ := h
  exact copyD_any h hu hc
theorem digs_keps_len (L : Tls) (j : Nat) : (keps (digs L j)).length = L.length := by simp [keps, digs_len]
set_option maxRecDepth 100000 in
set_option maxHeartbeats 2000000 in
theorem after_dsk {w : World} {b : Nat} {S : DS} {O : Nat → Prop} (h : DskE w b S O) (hu : S.uq) (hc : S.c7 < 900000000) (i : Int) (n0 : -9223372036854775808 ≤ i) (n1 : i ≤ 9223372036854775807) :
    Calls Try.prog 28 #[.pointer (some ⟨b, 0, none⟩), .int .i64 i] w fun e w' => Below w.heap.size w w' ∧ ((S.atE i ≠ 0 ∧ e = .returned (.tuple #[.pointer none, .int .i64 (S.atE i)])) ∨
      (S.atE i = 0 ∧ ∃ d j b' σ S' O', FateOf S i.toNat d j ∧ e = .returned (.tuple #[.pointer (some ⟨b', 0, none⟩), .int .i64 0]) ∧ Alike σ (S.after d j) S' ∧ DskE w' b' S' O' ∧ ∀ k, O' k → w.heap.size ≤ k)) := by
  have hA := at_dsk h hc i n0 n1
  have hok := h.ok
  obtain ⟨E, hE⟩ : ∃ E, Hid (S.atE i = E) := ⟨_, rfl⟩
  rw [hE.out] at hA ⊢
  by_cases h0 : E = 0
  · subst h0
    have hA2 : Calls Try.prog 50 #[.pointer (some ⟨b, 0, none⟩), .int .i64 i] w fun e w' => ∃ (d j : Nat) (ao : Option Addr) (n ca : Nat), e = .returned (.tuple #[.agg #[.int .i64 (d : Int), .slice ao n ca], .int .i64 0]) ∧ Hid (FateOf S i.toNat d j) ∧ Hid (Ks w.heap.size w' (.slice ao n ca) (digs (S.tails (d : Int)) j)) ∧ Hid (Below w.heap.size w w') := by
      refine hA.mono ?_
      rintro e w' ⟨hb, ⟨c, _⟩ | ⟨_, d, j, v, hf, rfl, hk⟩⟩
      · exact absurd rfl c
      · obtain ⟨ao, n, ca, rfl⟩ := hk.form
        exact ⟨d, j, ao, n, ca, rfl, hf, hk, hb⟩
    have KC : Hid (∀ q, Below w.heap.size w q → Calls Try.prog 19 #[.pointer (some ⟨b, 0, none⟩)] q fun e w' => ∃ b' σ S' O', e = .returned (.pointer (some ⟨b', 0, none⟩)) ∧ Alike σ S S' ∧ DskE w' b' S' O' ∧ (∀ k, O' k → q.heap.size ≤ k) ∧ Below q.heap.size q w') := fun q hq => copy_dsk (h.below hq) hu hc
    have KK : Hid (∀ q b' σ S' O' (d j : Nat) v B, Alike σ S S' → DskE q b' S' O' → (∀ k, O' k → B ≤ k) → Kp (fun k => w.heap.size ≤ k ∧ k < B) q v (keps (digs (S.tails (d : Int)) j)) → B ≤ q.heap.size → d ≤ S.P.length → Calls Try.prog 10 #[.pointer (some ⟨b', 0, none⟩), .agg #[.int .i64 (d : Int), v]] q fun e w' => e = .returned (.tuple #[]) ∧ ∃ O2, Alike σ (S.after d j) (S'.crash (d : Int) (keps (digs (S.tails (d : Int)) j))) ∧ DskE w' b' (S'.crash (d : Int) (keps (digs (S.tails (d : Int)) j))) O2 ∧ Sgo q w' O' O2) := fun q b' σ S' O' d j v B hal hd hl hk hB hdl => by
      have hcnt := hok.cnt
      refine (crash_dsk hd (by rw [hal.c7]; omega) (d : Int) (by omega) (by omega) v _ _ hk (fun k hk => ⟨fun c => by have := hl k c; omega, by omega⟩)).mono ?_
      rintro e w' ⟨rfl, O2, hd2, hg⟩
      exact ⟨rfl, O2, hal.crash _ _, hd2, hg⟩
    have hds : Hid (∀ d j : Nat, FateOf S i.toNat d j → ∀ x ∈ digs (S.tails (d : Int)) j, x ≤ 16777216) := fun d j hf => digs_small hok d j hf.lt
    clear hA h hok hc n0 n1
    go_enter Try.func28, Try.ntmps28
    go_upto_region 2 with (go_at_call 50; refine hA2.mono ?_; rintro e w1 ⟨d, j, ao, n, ca, rfl, hf, hk, b1⟩)
    have z2 := heap_alloc_new w1 (.cells #[.int .i64 (d : Int), .slice ao n ca] 26)
    have B2 := hide (box_below w1 (.cells #[.int .i64 (d : Int), .slice ao n ca] 26))
    obtain ⟨X, hX⟩ : ∃ X, Hid (w1.alloc (.cells #[.int .i64 (d : Int), .slice ao n ca] 26) = X) := ⟨_, rfl⟩
    rw [hX.out] at z2 B2 ⊢
    have B3 : Hid (Below w.heap.size w X) := b1.out.trans (B2.out.mono b1.out.size)
    have hC := KC.out X B3.out
    have hXs : Hid (w1.heap.size < X.heap.size) := heap_lt z2
    replace z2 := hide z2
    clear hA2
    go_upto_region 5 with (go_at_call 19; refine hC.mono ?_; rintro e w3 ⟨b', σ, S', O', rfl, hal, hd, hl, b3⟩; replace hal := hide hal; replace hd := hide hd; replace hl := hide hl; replace b3 := hide b3)
    have z3 := (b3.out.block _ (heap_lt z2.out)).trans z2.out
    have x1 : w3.cell? ⟨w1.heap.size, 0, none⟩ = some (.int .i64 (d : Int)) := by simp [World.cell?, z3]
    have x2 : w3.cell? ⟨w1.heap.size, 1, none⟩ = some (.slice ao n ca) := by simp [World.cell?, z3]
    clear z3
    have hKp : Hid (Kp (fun k => w.heap.size ≤ k ∧ k < X.heap.size) w3 (.slice ao n ca) (keps (digs (S.tails (d : Int)) j))) := by
      have k1 := hk.out.kp (hds.out d j hf.out)
      have k2 := (k1.below B2.out).below b3.out
      exact kp_mono k2 (fun k hk => ⟨hk.1, Nat.lt_trans hk.2 hXs.out⟩)
    have hK := KK.out w3 b' σ S' O' d j _ X.heap.size hal.out hd.out hl.out hKp.out b3.out.size hf.out.dl
    clear hC
    go_wp2_with (go_at_call 10; refine hK.mono ?_; rintro e w4 ⟨rfl, O2, hal2, hd2, hg⟩; replace hal2 := hide hal2; replace hd2 := hide hd2; replace hg := hide hg)
    go_ret2
    have B4 : Below w.heap.size w w3 := B3.out.trans (b3.out.mono B3.out.size)
    have lo : ∀ k, O' k → w.heap.size ≤ k := fun k hk => Nat.le_trans B3.out.size (hl.out k hk)
    exact ⟨hg.out.under lo (Nat.le_refl _) B4, .inr ⟨trivial, d, j, b', σ, _, O2, hf.out, rfl, hal2.out, hd2.out, hg.out.low B4.size lo⟩⟩
  · have hA2 : Calls Try.prog 50 #[.pointer (some ⟨b, 0, none⟩), .int .i64 i] w fun e w' => e = .returned (.tuple #[.agg #[.int .i64 0, .slice none 0 0], .int .i64 E]) ∧ Hid (Below w.heap.size w w') := by
      refine hA.mono ?_
      rintro e w' ⟨hb, ⟨_, rfl⟩ | ⟨c, _⟩⟩
      · exact ⟨rfl, hb⟩
      · exact absurd c h0
    clear hA h hok hc n0 n1
    go_enter Try.func28, Try.ntmps28
    go_wp2_with (go_at_call 50; refine hA2.mono ?_; rintro e w1 ⟨rfl, b1⟩; have B2 := hide (box_below w1 (.cells #[.int .i64 0, .slice none 0 0] 26)))
    go_ret2
    exact ⟨b1.out.trans (B2.out.mono b1.out.size), .inl ⟨h0, rfl⟩⟩
#print axioms after_dsk
end Go.Proofs.Ytdelknejmapeaaa.Dk

/-
  Package crash: together, Number.
-/
namespace Go.Proofs.Ytdelknejmapeaaa.Dk
open Go.RowKit Go.Maps Go.Sort Go.Shelf Go.Proofs.Ytdelknejmapeaaa.Nm
set_option linter.unusedVariables false

/-- The digits of keeps. -/
def kdig : Tls → List Kep → List Nat
  | [], _ => []
  | e :: r, ks => wthn (ks.headD (0, [])).1 e.2 :: kdig r ks.tail
theorem kdig_len (L : Tls) (ks : List Kep) : (kdig L ks).length = L.length := by
  induction L generalizing ks with
  | nil => rfl
  | cons e r ih => simp [kdig, ih]
theorem kdig_get (L : Tls) (ks : List Kep) (k : Nat) (hk : k < L.length) : (kdig L ks).getD k 0 = wthn (ks.getD k (0, [])).1 L[k].2 := by
  induction L generalizing ks k with
  | nil => simp at hk
  | cons e r ih =>
    cases k with
    | zero => cases ks <;> simp [kdig]
    | succ k =>
      have := ih ks.tail k (by simpa using hk)
      cases ks with
      | nil => simpa [kdig] using this
      | cons x y => simpa [kdig] using this
theorem wthn_le (n : Int) (m : Nat) : wthn n m ≤ m := by unfold wthn; omega
def numK (L : Tls) (ks : List Kep) : Nat := numb L (kdig L ks)
theorem numK_take (L : Tls) (ks : List Kep) (k : Nat) (hk : k < L.length) : numb (L.take (k + 1)) (kdig L ks) = numb (L.take k) (kdig L ks) * (L[k].2 + 1) + wthn (ks.getD k (0, [])).1 L[k].2 := by
  rw [List.take_succ_eq_append_getElem hk, numb_snoc, List.length_take, Nat.min_eq_left (by omega), kdig_get L ks k hk]
theorem numK_lt (L : Tls) (ks : List Kep) (k : Nat) : numb (L.take k) (kdig L ks) < prodT L := by
  refine Nat.lt_of_lt_of_le (numb_lt (L.take k) _ fun i hi => ?_) (prodT_take L k)
  rw [List.length_take] at hi
  rw [kdig_get L ks i (by omega), List.getElem_take]
  exact wthn_le _ _
theorem withinC_any (w : World) (n : Int) (m : Nat) (h0 : -9223372036854775808 ≤ n) (h1 : n ≤ 9223372036854775807) (hm : (m : Int) ≤ 9223372036854775807) :
    Calls Try.prog 63 #[.int .i64 n, .int .i64 (m : Int)] w fun e w' => e = .returned (.int .i64 (wthn n m : Int)) ∧ w' = w := by
  obtain ⟨E, hE⟩ : ∃ E : Nat, Hid (wthn n m = E) := ⟨_, rfl⟩
  rw [hE.out]
  have hq := hE.out
  unfold wthn at hq
  go_enter Try.func63, Try.ntmps63
  go_wp2_with fail
  all_goals
    go_ret
    refine ⟨?_, rfl⟩
    show Ending.returned (Value.int .i64 _) = _
    congr 2
    omega
end Go.Proofs.Ytdelknejmapeaaa.Dk

/-
  Package crash: together.
-/
namespace Go.Proofs.Ytdelknejmapeaaa.Dk
open Go.RowKit Go.Maps Go.Sort Go.Shelf Go.Proofs.Ytdelknejmapeaaa.Nm
set_option linter.unusedVariables false

set_option maxRecDepth 100000 in
set_option maxHeartbeats 2000000 in
theorem together_any (w : World) (v vk : Value) (L : Tls) (ks : List Kep) (Z : Nat → Prop) (hv : Tr w v L) (hk : Kp Z w vk ks) (hs : ∀ e ∈ L, e.2 ≤ 16777216) (hp : prodT L ≤ M40) :
    Calls Try.prog 64 #[v, vk] w fun e w' => e = .returned (.int .i64 (numK L ks : Int)) ∧ Below w.heap.size w w' := by
  obtain ⟨R, hR⟩ : ∃ R, Hid (numK L ks = R) := ⟨_, rfl⟩
  rw [hR.out]
  obtain ⟨ao, ca, rfl, q1, q2, q3⟩ := hv
  obtain ⟨ak, ck, rfl, p1, p2, p3⟩ := hk
  have p2' : (ck : Int) ≤ 9223372036854775807 := by unfold maxLen at p2; omega
  clear p2
  obtain ⟨N, hN⟩ : ∃ N, Hid (L.length = N) := ⟨_, rfl⟩
  obtain ⟨M, hM⟩ : ∃ M, Hid (ks.length = M) := ⟨_, rfl⟩
  rw [hN.out] at q1 ⊢
  rw [hM.out] at p1 ⊢
  replace q3 := hide q3
  replace p3 := hide p3
  replace hs := hide hs
  have hp2 : Hid ((prodT L : Int) ≤ 1099511627776) := by show _ ≤ _; unfold M40 at hp; omega
  clear hp
  go_enter Try.func64, Try.ntmps64
  go_wp2_with fail
  go_loopw [5, 10] (fun v5 i wr => ∃ k x : Nat, i = .int .i64 k ∧ k ≤ N ∧ v5 = .int .i64 x ∧ Hid (x = numb (L.take k) (kdig L ks)) ∧ Hid (Below w.heap.size w wr)) (fun _ i _ => N - (intOf i).toNat)
  case atStart => exact ⟨0, 0, rfl, Nat.zero_le _, rfl, rfl, Below.refl _ _⟩
  case round =>
    obtain ⟨k, x, rfl, hk, rfl, ex, hB⟩ := hrel
    by_cases hlt : k < N
    · have i1 : (k : Int) < (N : Int) := by omega
      have hkl : k < L.length := by rw [hN.out]; exact hlt
      obtain ⟨gb, off, rfl, c0, c1⟩ := q3.out k hkl
      rw [← hB.out.cell (p := ⟨gb, off + k * 2, none⟩) (lt_of_cell c0)] at c0
      rw [← hB.out.cell (p := ⟨gb, off + k * 2 + 1, none⟩) (lt_of_cell c1)] at c1
      have hn := hs.out L[k] (List.getElem_mem hkl)
      have ey := numK_take L ks k hkl
      have ez := numK_lt L ks (k + 1)
      have ez2 := hp2.out
      obtain ⟨y, ey2⟩ : ∃ y, Hid (y = numb (L.take (k + 1)) (kdig L ks)) := ⟨_, rfl⟩
      rw [← ey2.out, ← ex.out] at ey
      rw [← ey2.out] at ez
      have y1 : (y : Int) ≤ 1099511627776 := by omega
      generalize L[k].2 = n at *
      generalize bsOf L[k].1 = s at *
      obtain ⟨z, hz⟩ : ∃ z, Hid (z = x * (n + 1)) := ⟨_, rfl⟩
      rw [← hz.out] at ey
      have t5 : (x : Int) * ((n : Int) + 1) = (z : Int) := by rw [hz.out]; norm_cast
      have z1 : (z : Int) ≤ 1099511627776 := by omega
      obtain ⟨X, hX⟩ : ∃ X, Hid (wr.alloc (.cells #[.string s, .int .i64 (n : Int)] 72) = X) := ⟨_, rfl⟩
      have B0 : Hid (Below w.heap.size w X) := by
        rw [← hX.out]
        exact hB.out.trans ((box_below wr (.cells #[.string s, .int .i64 (n : Int)] 72)).mono hB.out.size)
      have z0 := heap_alloc_new wr (.cells #[.string s, .int .i64 (n : Int)] 72)
      rw [hX.out] at z0
      have hBase := base_any X s n hn
      have x0 : X.cell? ⟨wr.heap.size, 0, none⟩ = some (.string s) := by simp [World.cell?, z0]
      have x1 : X.cell? ⟨wr.heap.size, 1, none⟩ = some (.int .i64 (n : Int)) := by simp [World.cell?, z0]
      replace z0 := hide z0
      replace ez := hide ez
      replace ey := hide ey
      clear ez2
      by_cases hm : k < M
      · have i2 : (k : Int) < (M : Int) := by omega
        obtain ⟨kb, koff, vj, rfl, _, k1, _, _, _, m0, m1⟩ := p3.out k (by rw [hM.out]; exact hm)
        have ed : Hid (ks.getD k (0, []) = ks[k]'(by rw [hM.out]; exact hm)) := by show _ = _; simp [List.getD_eq_getElem?_getD, List.getElem?_eq_getElem (show k < ks.length by rw [hM.out]; exact hm)]
        rw [ed.out] at ey
        generalize (ks[k]'(by rw [hM.out]; exact hm)).1 = kn at *
        obtain ⟨d, hd⟩ : ∃ d, Hid (wthn kn n = d) := ⟨_, rfl⟩
        rw [hd.out] at ey
        have d1 : (d : Int) ≤ 16777216 := by have := wthn_le kn n; rw [hd.out] at this; omega
        have hW := withinC_any
        go_upto_region 5 with fail
        rw [hX.out]
        go_upto_region 7 with (go_at_call 71; refine hBase.mono ?_; rintro e w2 ⟨rfl, b2⟩; have e2 := (b2.block _ (heap_lt z0.out)).trans z0.out; have g0 : w2.cell? ⟨wr.heap.size, 0, none⟩ = some (.string s) := (by simp [World.cell?, e2]); have g1 : w2.cell? ⟨wr.heap.size, 1, none⟩ = some (.int .i64 (n : Int)) := (by simp [World.cell?, e2]); have B2 : Hid (Below w.heap.size w w2) := B0.out.trans (b2.mono B0.out.size); have g2 : w2.cell? ⟨kb, koff + k * 2, none⟩ = some (.int .i64 kn) := (by rw [B2.out.cell (lt_of_cell k1)]; exact k1); clear e2 b2)
        have t6 : (z : Int) + (d : Int) = (y : Int) := by have := ey.out; omega
        have w6 : Hid (wrap64 ((z : Int) + (d : Int)) = (y : Int)) := by show _ = _; rw [t6]; unfold wrap64; omega
        have nn : (n : Int) ≤ 9223372036854775807 := by omega
        clear t5 x0 x1 hBase hn
        go_quiet ((go_at_call 63; exact Calls.quiet_of_same (withinC_any _ kn n m0 m1 nn)))
        rw [hd.out]
        go_wp2_with fail
        have B3 : Hid (Below w.heap.size w (w2.drewN nq)) := B2.out.trans ((Qt.below ⟨nq, rfl⟩ _).mono B2.out.size)
        generalize w2.drewN nq = w3 at *
        go_roundw
        case rel => exact ⟨k + 1, y, by go_num, by omega, by first | (rw [w6.out]) | (congr 1), ey2, B3⟩
        case measure => simp [intOf]; omega
      · have i2 : ¬ ((k : Int) < (M : Int)) := by omega
        have ed : Hid (ks.getD k (0, []) = (0, [])) := by show _ = _; rw [List.getD_eq_getElem?_getD, List.getElem?_eq_none (by rw [hM.out]; omega)]; rfl
        rw [ed.out] at ey
        have e3 : z = y := by have := ey.out; unfold wthn at this; simp at this; omega
        go_upto_region 5 with fail
        rw [hX.out]
        go_wp2_with (go_at_call 71; refine hBase.mono ?_; rintro e w2 ⟨rfl, b2⟩; have B2 : Hid (Below w.heap.size w w2) := B0.out.trans (b2.mono B0.out.size); clear b2)
        go_roundw
        case rel => exact ⟨k + 1, z, by go_num, by omega, by go_num, by rw [e3]; exact ey2, B2⟩
        case measure => simp [intOf]; omega
    · obtain rfl : k = N := by omega
      rw [List.take_of_length_le (by rw [hN.out]; omega)] at ex
      go_wp2_with fail
      go_ret
      refine ⟨?_, hB.out⟩
      rw [← hR.out, numK, ← ex.out]
      rfl
#print axioms together_any
end Go.Proofs.Ytdelknejmapeaaa.Dk

/-
  Package crash: Number.
-/
namespace Go.Proofs.Ytdelknejmapeaaa.Dk
open Go.RowKit Go.Maps Go.Sort Go.Shelf Go.Proofs.Ytdelknejmapeaaa.Nm
open Ix (wp_region_T wpAnyT wpAnyT_take wpAnyT_one wpAnyT_done vac)
set_option linter.unusedVariables false

/-- Number, by data. -/
def DS.numE (S : DS) (d : Int) (ks : List Kep) : Int × Int := if S.ways ≤ M40 then ((((S.cnts (wthn d S.P.length)).sum + numK (S.tails ((wthn d S.P.length : Nat) : Int)) ks : Nat) : Int), 0) else (0, 9)
theorem ways_tails {S : DS} (h : S.ways ≤ M40) {d : Nat} (hd : d ≤ S.P.length) : prodT (S.tails (d : Int)) ≤ M40 := by
  have h1 := cnts_mono S (show d + 1 ≤ S.P.length + 1 by omega)
  have h2 := cnts_sum S d
  unfold DS.ways at h
  omega
set_option maxRecDepth 100000 in
set_option maxHeartbeats 2000000 in
theorem number_dsk {w : World} {b : Nat} {S : DS} {O : Nat → Prop} (h : DskE w b S O) (hc : S.c7 < 900000000) (d : Int) (n0 : -9223372036854775808 ≤ d) (n1 : d ≤ 9223372036854775807) (vk : Value) (ks : List Kep) (Z : Nat → Prop) (hk : Kp Z w vk ks) :
    Calls Try.prog 51 #[.pointer (some ⟨b, 0, none⟩), .agg #[.int .i64 d, vk]] w fun e w' => e = .returned (.tuple #[.int .i64 (S.numE d ks).1, .int .i64 (S.numE d ks).2]) ∧ Below w.heap.size w w' := by
  have B0 := hide (box_below w (.cells #[.int .i64 d, vk] 26))
  have N0 := hide (heap_alloc_new w (.cells #[.int .i64 d, vk] 26))
  have HK := hide hk
  obtain ⟨ak, ck, rfl, _⟩ := hk
  obtain ⟨u, hu⟩ : ∃ u, Hid (w.alloc (.cells #[.int .i64 d, .slice ak ks.length ck] 26) = u) := ⟨_, rfl⟩
  rw [hu.out] at B0 N0
  have hok := h.ok
  have hC := ccount_dsk (h.below B0.out) hc
  obtain ⟨R, hR⟩ : ∃ R, Hid (S.numE d ks = R) := ⟨_, rfl⟩
  rw [hR.out]
  by_cases hw : S.ways ≤ M40
  · have hcnt : S.cnt = (S.cnts (S.P.length + 1), (S.ways : Int), 0) := by unfold DS.cnt; rw [if_pos hw]
    rw [hcnt] at hC
    clear hcnt
    obtain ⟨N, hN⟩ : ∃ N, Hid (S.P.length = N) := ⟨_, rfl⟩
    rw [hN.out] at hC
    obtain ⟨D, hD⟩ : ∃ D, Hid (wthn d N = D) := ⟨_, rfl⟩
    have hDN : D ≤ N := by rw [← hD.out]; exact wthn_le _ _
    have hNb : (N : Int) ≤ 900000000 := by have := hok.cnt; rw [← hN.out]; omega
    have hRe : Hid (R = ((((S.cnts D).sum + numK (S.tails (D : Int)) ks : Nat) : Int), 0)) := by show _ = _; rw [← hR.out]; unfold DS.numE; rw [if_pos hw, hN.out, hD.out]
    have hWi := withinC_any
    have htot : Hid ((((S.cnts D).sum + numK (S.tails (D : Int)) ks : Nat) : Int) ≤ 1099511627776) := by
      show _ ≤ _
      have h1 := cnts_mono S (show D + 1 ≤ S.P.length + 1 by rw [hN.out]; omega)
      have h2 := cnts_sum S D
      have h3 := numK_lt (S.tails (D : Int)) ks (S.tails (D : Int)).length
      rw [List.take_length] at h3
      unfold DS.ways M40 at hw
      unfold numK
      omega
    have KT : Hid (∀ q, Below w.heap.size w q → Calls Try.prog 23 #[.pointer (some ⟨b, 0, none⟩), .int .i64 (D : Int)] q fun e w' => ∃ v, e = .returned v ∧ Tr w' v (S.tails (D : Int)) ∧ Below q.heap.size q w') := fun q hq => by
      refine (tails_dsk (h.below hq) (by omega) (D : Int) (by omega) (by omega)).mono ?_
      rintro e w' ⟨v, rfl, ht, hb⟩
      exact ⟨v, rfl, ht.tr, hb⟩
    have KG : Hid (∀ q v, Below w.heap.size w q → Tr q v (S.tails (D : Int)) → Calls Try.prog 64 #[v, .slice ak ks.length ck] q fun e w' => e = .returned (.int .i64 (numK (S.tails (D : Int)) ks : Int)) ∧ Below q.heap.size q w') := fun q v hq hv => together_any q v _ _ ks Z hv (HK.out.but (X := fun _ => False) (But.of_below (hq.mono (Nat.le_refl _)) _) (fun _ _ c => c)) (tails_small hok _) (ways_tails hw (by rw [hN.out]; exact hDN))
    clear h hok hc
    go_enter Try.func51, Try.ntmps51
    go_upto_region 1 with fail
    rw [hu.out]
    go_upto_region 4 with (go_at_call 52; refine hC.mono ?_; rintro e w1 ⟨v, rfl, c1, b1⟩; have z1 := hide ((b1.block _ (heap_lt N0.out)).trans N0.out); replace b1 := hide b1; replace c1 := hide c1)
    have B1 : Hid (Below w.heap.size w w1) := B0.out.trans (b1.out.mono B0.out.size)
    obtain ⟨av, cv, rfl, hf1, hf2⟩ := c1.out.form
    rw [cnts_len] at c1 hf1 ⊢
    have hM1 : ((N + 1 : Nat) : Int) - 1 = (N : Int) := by omega
    have y0 : w1.cell? ⟨w.heap.size, 0, none⟩ = some (.int .i64 d) := by simp [World.cell?, z1.out]
    have y1 : w1.cell? ⟨w.heap.size, 1, none⟩ = some (.slice ak ks.length ck) := by simp [World.cell?, z1.out]
    have hWi2 := hWi w1 d N n0 n1 (by omega)
    rw [hD.out] at hWi2
    clear hWi hC
    go_upto_region 5 with (go_at_call 63; refine hWi2.mono ?_; rintro e w2 ⟨rfl, e2⟩; subst w2)
    have KC : Hid (∀ q, Below w1.heap.size w1 q → q.cell? ⟨w.heap.size, 1, none⟩ = some (.slice ak ks.length ck)) := fun q hq => by rw [hq.cell (lt_of_cell y1)]; exact y1
    have bb := Below.refl w1.heap.size w1
    clear hWi2 y0
    go_region_with (first
      | (go_at_call 23; refine (KT.out _ (B1.out.trans ((by first | exact bb | exact bb.drew | exact bb.drew.drew | exact bb.drew.drew.drew : Below w1.heap.size w1 _).mono B1.out.size))).mono ?_; rintro e w2 ⟨v2, rfl, r2, b2⟩; have b3 : Below w1.heap.size w1 w2 := (by first | exact bb.trans b2 | exact bb.drew.trans b2 | exact bb.drew.drew.trans b2 | exact bb.drew.drew.drew.trans b2); have y2 := KC.out w2 b3; have b5 := Below.refl w2.heap.size w2; have B2 := B1.out.trans (b3.mono B1.out.size); replace b2 := hide b2)
      | (go_at_call 64; refine (KG.out _ v2 (by first | exact B2 | exact B2.drew | exact B2.drew.drew) (by first | exact r2 | exact r2.below b5.drew | exact r2.below b5.drew.drew)).mono ?_; rintro e w3 ⟨rfl, b4⟩; have b6 : Below w2.heap.size w2 w3 := (by first | exact b5.trans b4 | exact b5.drew.trans b4 | exact b5.drew.drew.trans b4)))
    all_goals
      have b7 : Hid (Below w1.heap.size w1 w3) := b3.trans (b6.mono b3.size)
      have B5 : Hid (Below w.heap.size w w3) := B1.out.trans (b7.out.mono B1.out.size)
      have c3 := hide (c1.out.below b7.out)
      clear b3 b6 b4 y2 b5 B2 r2 y1 bb hM1
      have tot : Hid ((((S.cnts D).sum + numK (S.tails (D : Int)) ks : Nat) : Int) ≤ 1099511627776) := htot
      have hmono : Hid (∀ k, k ≤ D → (S.cnts k).sum ≤ (S.cnts D).sum) := fun k hk => cnts_mono S hk
      generalize numK (S.tails (D : Int)) ks = nk at *
      have hDc : (D : Int) ≤ (cv : Int) := by omega
      have hDN2 : (D : Int) ≤ ((N + 1 : Nat) : Int) := by omega
      go_wp2_with fail
      go_loopw [10, 38] (fun v10 vi wr => ∃ k x : Nat, vi = .int .i64 k ∧ k ≤ D ∧ v10 = .int .i64 x ∧ Hid (x = (S.cnts k).sum + nk) ∧ wr = w3) (fun _ vi _ => D - (intOf vi).toNat)
      case atStart => exact ⟨0, nk, rfl, Nat.zero_le _, rfl, by show _ = _; simp [DS.cnts], rfl⟩
      case round =>
        obtain ⟨k, x, rfl, hk, rfl, ex, rfl⟩ := hrel
        by_cases hlt : k < D
        · have i1 : (k : Int) < (D : Int) := by omega
          obtain ⟨g, cap, e, hcell⟩ := c3.out.at (cnts_get S (N + 1) k (by omega))
          rw [cnts_len] at e
          simp only [Value.slice.injEq] at e
          obtain ⟨rfl, _, rfl⟩ := e
          have hsum : Hid ((S.cnts (k + 1)).sum = (S.cnts k).sum + prodT (S.tails (k : Int))) := cnts_sum S k
          have hmo := hmono.out (k + 1) (by omega)
          obtain ⟨c, hcc⟩ : ∃ c, Hid (prodT (S.tails (k : Int)) = c) := ⟨_, rfl⟩
          rw [hcc.out] at hcell hsum
          have hb2 : (x : Int) + (c : Int) ≤ 1099511627776 := by have h1 := ex.out; have h2 := hsum.out; have h3 := tot.out; omega
          clear hmo
          go_wp2_with fail
          go_roundw
          case rel => exact ⟨k + 1, x + c, by go_num, by omega, by go_num, by show _ = _; have h1 := ex.out; have h2 := hsum.out; omega, trivial⟩
          case measure => simp [intOf]; omega
        · obtain rfl : k = D := by omega
          go_wp2_with fail
          go_ret2
          rw [hRe.out, ← ex.out]
          exact ⟨rfl, B5.out⟩
  · have hcnt : S.cnt = ([], 0, 9) := by unfold DS.cnt; rw [if_neg hw]
    rw [hcnt] at hC
    have hRe : Hid (R = (0, 9)) := by show _ = _; rw [← hR.out]; unfold DS.numE; rw [if_neg hw]
    clear h hok hw hcnt
    go_enter Try.func51, Try.ntmps51
    go_upto_region 1 with fail
    rw [hu.out]
    go_wp2_with (go_at_call 52; refine hC.mono ?_; rintro e w1 ⟨v, rfl, _, b1⟩; replace b1 := hide b1)
    go_ret2
    rw [hRe.out]
    exact ⟨rfl, B0.out.trans (b1.out.mono B0.out.size)⟩
#print axioms number_dsk
end Go.Proofs.Ytdelknejmapeaaa.Dk

/-
  There and back, by data.
-/
namespace Go.Proofs.Ytdelknejmapeaaa.Dk
open Go.RowKit Go.Maps Go.Sort Go.Shelf Go.Proofs.Ytdelknejmapeaaa.Nm
set_option linter.unusedVariables false

theorem wthn_id {n m : Nat} (h : n ≤ m) : wthn (n : Int) m = n := by unfold wthn; omega
theorem kdig_digs (L : Tls) (j : Nat) (hj : j < prodT L) : kdig L (keps (digs L j)) = digs L j := by
  induction L generalizing j with
  | nil => rfl
  | cons e r ih =>
    have hp := prodT_pos r
    simp only [digs, keps, List.map_cons, kdig, List.headD_cons, List.tail_cons]
    have h1 := ih (j % prodT r) (Nat.mod_lt _ (by omega))
    unfold keps at h1
    rw [h1, wthn_id]
    have := Nat.mod_lt (j / prodT r) (show 0 < e.2 + 1 by omega)
    omega
theorem FateOf.num {S : DS} {i d j : Nat} (h : FateOf S i d j) (hw : S.ways ≤ M40) : S.numE (d : Int) (keps (digs (S.tails (d : Int)) j)) = ((i : Int), 0) := by
  unfold DS.numE numK
  rw [if_pos hw, wthn_id h.dl, kdig_digs _ _ h.lt, numb_digs _ _ h.lt, ← h.eq]
theorem atE_ok {S : DS} {i : Nat} (hw : S.ways ≤ M40) (hi : i < S.ways) : S.atE (i : Int) = 0 := by
  unfold DS.atE
  rw [if_pos hw, if_pos (by omega)]
end Go.Proofs.Ytdelknejmapeaaa.Dk

