/-
  By data: roll keeps a store on a calm disk.
-/
import Derived.Test.YtnimildpcnmjeaaGreatDoorL08
import Derived.Test.YtnimildpcnmjeaaGreatDoorL07
import Derived.Laws.MakeOwn
import Derived.Test.YtnimildpcnmjeaaGreatDoorL03
import Derived.Deep.QuietTactic
import Derived.BigQuiet
import Derived.Test.YtnimildpcnmjeaaGreatDoorL01
import Derived.Sort.EncStr
import Derived.Test.YtnimildpcnmjeaaGreatDoorRows
import Derived.OpenShut
import Derived.ChangeArms
import Derived.FnData
import Derived.JoinedTies
import Derived.SliceStrings
import Derived.Lib.TrailingZeros
set_option maxRecDepth 100000
set_option maxHeartbeats 40000000
set_option linter.unusedVariables false
namespace Go.Proofs.YtnimildpcnmjeaaGreatDoor.St
open Go.RowKit Go.Maps Go.Sort Go.Shelf Go.Proofs.YtnimildpcnmjeaaGreatDoor.Nm Go.Proofs.YtnimildpcnmjeaaGreatDoor.Dk Go.Proofs.YtnimildpcnmjeaaGreatDoor.Sg Go.Proofs.YtnimildpcnmjeaaGreatDoor.Ct
set_option maxRecDepth 100000
def sealS (K : Kst) (ci : List Sg) (se : Nat) : Sg := ⟨(ci.length : Int) + 1, K.s.base, se, K.s.next, K.s.size⟩
theorem SI.roll {b M : Nat} {K : Kst} {ci : List Sg} {se : Nat} {ti : List Td} {t : Td} {D : Dr} {F : Nat → Fl} {c : Int} (h : SI b M K ci se ti t D F c) (hci : ci.length ≤ 62) (hc : c < 500000000) (hn : K.s.next ≤ 9223372036854775807) (hz : K.s.size ≤ 2147483647) {R : List Sg} (hR : R = ci ++ [sealS K ci se, ⟨(ci.length : Int) + 1 + 1, K.s.next, (wk t.sd K.s.base t.ds t.ds.length).2.2.toNat, 0, 0⟩])
    (hM : sumL F D + 32 + (bytesC (K.g + 1) K.f R).length ≤ M) :
    RollPre K (wk t.sd K.s.base t.ds t.ds.length).2.2 ((ci.length : Int) + 1 + 1) R M D F c ∧ ∀ p1 p2, p1 ∉ (K.S.sync K.s.file).1.ps → p2 ∉ (creF (K.S.sync K.s.file).1 (nmF ((ci.length : Int) + 1 + 1)) ((ci.length : Int) + 1 + 1) K.s.next (wk t.sd K.s.base t.ds t.ds.length).2.2 p1).1.ps →
     ∃ D' F', SI b M (K.roll b (wk t.sd K.s.base t.ds t.ds.length).2.2 ((ci.length : Int) + 1 + 1) R p1 p2) (ci ++ [sealS K ci se]) (wk t.sd K.s.base t.ds t.ds.length).2.2.toNat (ti ++ [t]) ⟨(whF ((ci.length : Int) + 1 + 1) K.s.next (wk t.sd K.s.base t.ds t.ds.length).2.2).2.1, hed ((ci.length : Int) + 1 + 1).toNat K.s.next.toNat (wk t.sd K.s.base t.ds t.ds.length).2.2, [], p1⟩ D' F' (c + 9) ∧ sumL F' D' ≤ sumL F D + 32 + (bytesC (K.g + 1) K.f R).length := by
 obtain ⟨hs, hf, hb⟩ := h.last
 have hfew := h.few
 have hli : K.si.length = ci.length := h.li
 have hlt : ti.length = ci.length := h.lt
 have hbase := hs.co.b1
 have hnx := hs.co.n
 have hsz := hs.co.z
 have hKf := h.f
 have hbn : K.s.base ≤ K.s.next := by omega
 have hfile : K.s.file.data.toList ≠ cnxB.data.toList := by rw [hf]; exact (nmF_ne _).2
 have hnone := h.nn ((ci.length : Int) + 1 + 1) (by omega) (by omega)
 have hmm := h.may
 rw [h.cs] at hmm
 obtain ⟨m1, m2⟩ := roll_may hmm hci (by omega) (by have := h.g; omega) (wk t.sd K.s.base t.ds t.ds.length).2.2.toNat (en := K.s.next) (sz := K.s.size) hbn (by omega) hz (by omega)
 have hR1 : R = ci ++ [⟨(ci.length : Int) + 1, K.s.base, se, K.s.next, K.s.size⟩, ⟨(ci.length : Int) + 1 + 1, K.s.next, (wk t.sd K.s.base t.ds t.ds.length).2.2.toNat, 0, 0⟩] := hR
 have hR2 : R = (ci ++ [sealS K ci se]) ++ [⟨(ci.length : Int) + 1 + 1, K.s.next, (wk t.sd K.s.base t.ds t.ds.length).2.2.toNat, 0, 0⟩] := by rw [hR]; simp
 rw [← hR1] at m1 m2
 rw [← h.cs] at m2
 have hdl := h.dl
 refine ⟨⟨hs.co.ok, hs.cd, hs.co.e, by rw [hf, nmF_size]; decide, h.ca, hc, hs.my, ⟨_, hs.gt⟩, m2, m1, ⟨_, hR2⟩, by rw [hR]; simp; omega, by omega, by omega, by omega, hn, by omega, hz, by have := h.g; omega, by omega, hnone, h.cx, by omega, hM, by omega⟩, fun p1 p2 hp1 hp2 => ?_⟩
 obtain ⟨D', F', q1, q2, q3, q4, q5, q6, q7⟩ := roll_ca h.ca hs.my hs.gt hfile (wk t.sd K.s.base t.ds t.ds.length).2.2 (show (1 : Int) ≤ (ci.length : Int) + 1 + 1 by omega) (show 1 ≤ K.s.next by omega) hnone h.cx (by omega) (bytesC (K.g + 1) K.f R) hM hp1 hp2
 obtain ⟨_, _, _, _, c5⟩ := cat_facts
 refine ⟨D', F', ⟨q1, ?_, by show (K.si ++ [K.s]).length = (ci ++ [sealS K ci se]).length; simp [hli], by simp [hlt], ?_, m1, fun i s u hi hu => ?_, fun i s g hi hg => ?_, by show K.f ≤ K.s.next; omega, by show 1 ≤ K.s.next; omega, fun n n1 n2 => ?_, ?_, by simp; omega⟩, q2⟩
 ·show R = _
  rw [hR2]
  simp
  rfl
 ·show K.g + 1 = _
  rw [h.g]
  simp
 ·rcases snoc_at hi with ⟨hi1, hi2⟩ | ⟨hi1, rfl⟩
  ·rcases snoc_at hu with ⟨hu1, hu2⟩ | ⟨hu1, _⟩
   ·have a := h.seg i s u hi2 hu2
    have hi3 : i < K.si.length + 1 := by have h3 : i < (K.si ++ [K.s]).length := hi1; simp at h3; omega
    have hne := nmF_ne ((i : Int) + 1)
    refine ⟨a.1.keep ?_ (q6 _ (List.mem_map.2 ⟨_, Dk.get_mem a.1.gt, rfl⟩)).2.2, a.2⟩
    rw [q4, a.2.1, if_neg hne.1, if_neg hne.2, if_neg (fun cc => by have := nmF_inj (by omega) (by omega) (by omega) (by omega) cc; omega), ← a.2.1]
    exact a.1.gt
   ·have h3 : i < (K.si ++ [K.s]).length := hi1
    simp at h3 hu1
    omega
  ·rcases snoc_at hu with ⟨hu1, hu2⟩ | ⟨hu1, rfl⟩
   ·have h3 : i = (K.si ++ [K.s]).length := hi1
    simp at h3 hu1
    omega
   ·have h3 : i = (K.si ++ [K.s]).length := hi1
    simp at h3
    have hne := nmF_ne ((ci.length : Int) + 1 + 1)
    refine ⟨⟨newSG_coh _ _ _ _ _ _ (by omega) hn, rfl, hed_len _ _ _, may_nm _, ?_, ?_, Nat.le_refl _⟩, ?_, rfl⟩
    ·show Dk.get D' (nmF ((ci.length : Int) + 1 + 1)).data.toList = some p1
     rw [q4, if_neg hne.1, if_neg hne.2, if_pos rfl]
    ·show (F' p1).by_ = _ ++ []
     rw [q5, List.append_nil]
    ·show nmF ((ci.length : Int) + 1 + 1) = nmF ((i : Int) + 1)
     rw [h3, hli]
     push_cast
     rfl
 ·rcases snoc_at hi with ⟨hi1, hi2⟩ | ⟨hi1, rfl⟩
  ·rcases snoc_at hg with ⟨hg1, hg2⟩ | ⟨hg1, _⟩
   ·exact h.cat i s g hi2 hg2
   ·omega
  ·rcases snoc_at hg with ⟨hg1, hg2⟩ | ⟨hg1, rfl⟩
   ·omega
   ·exact ⟨rfl, rfl⟩
 ·have hne := nmF_ne n
  simp at n1
  rw [q4, if_neg hne.1, if_neg hne.2, if_neg (fun cc => by have := nmF_inj (by omega) (by omega) (by omega) (by omega) cc; omega)]
  exact h.nn n (by omega) n2
 ·rw [q4, if_neg c5, if_pos rfl]
set_option maxRecDepth 100000
noncomputable def Kst.new (b : Nat) (ba : Int) (S : DS) (p1 p2 : Nat) : Kst := ⟨1, ba, [sg1 ba], [], newSG b (nmF 1) 1 ba 0#32 (whF 1 ba 0#32).2.1, re5 (creF S (nmF 1) 1 ba 0#32 p1).1 catB cnxB (bytesC 1 ba [sg1 ba]) p2⟩
theorem SI.new (b M : Nat) {S : DS} {F0 : Nat → Fl} (ca : Ca S M [] F0 0) (hM : 300 ≤ M) {ba : Int} (h1 : 1 ≤ ba) (h2 : ba ≤ 9223372036854775807) {p1 p2 : Nat} (hp1 : p1 ∉ S.ps) (hp2 : p2 ∉ (creF S (nmF 1) 1 ba 0#32 p1).1.ps) :
    ∃ D F, SI b M (Kst.new b ba S p1 p2) [] 0 [] ⟨(whF 1 ba 0#32).2.1, hed (1 : Int).toNat ba.toNat 0#32, [], p1⟩ D F 8 ∧ sumL F D ≤ 132 := by
 have hs0 : sumL F0 [] = 0 := rfl
 have hg0 : ∀ k, Dk.get ([] : Dr) k = none := fun k => rfl
 obtain ⟨_, x2, x3, x4, x5⟩ := ca_cre ca (may_nm 1) (hg0 _) (by simp) hp1 0#32 (show (1 : Int) ≤ 1 by decide) h1 (by omega)
 have hn2 := nmF_ne 1
 have hB := bytes1_len ba
 obtain ⟨c1, c2, c3, c4, c5⟩ := cat_facts
 obtain ⟨_, _, _, _, _, _, _, _, _, y1, y2, y3, y4, y5⟩ := ca_replace x2 c3 c4 c5 (by rw [get_dput, if_neg hn2.2]; exact hg0 _) (by rw [x4]; simp) hp2 (bytesC 1 ba [sg1 ba]) (by rw [x3, hs0]; omega)
 have hin : p1 ∈ (dput [] (nmF 1).data.toList p1).map (·.2) := by
  have : Dk.get (dput [] (nmF 1).data.toList p1) (nmF 1).data.toList = some p1 := by rw [get_dput, if_pos rfl]
  exact List.mem_map.2 ⟨_, Dk.get_mem this, rfl⟩
 have h12 : p1 ≠ p2 := fun e => y5 (e ▸ hin)
 have hget : ∀ k, Dk.get (rnD (dput (dput [] (nmF 1).data.toList p1) cnxB.data.toList p2) cnxB.data.toList catB.data.toList p2) k = if k = catB.data.toList then some p2 else if k = cnxB.data.toList then none else if (nmF 1).data.toList = k then some p1 else none := fun k => by rw [y4 k, get_dput, hg0]
 refine ⟨_, _, ⟨y1, rfl, rfl, rfl, rfl, may1 h1, fun i s u hi hu => ?_, fun i s g hi => by simp [Kst.new] at hi, Int.le_refl _, h1, fun n n1 n2 => ?_, ?_, by rw [x4] at y3; simpa using y3⟩, by rw [x3, hs0] at y2; omega⟩
 ·have hi' : ([newSG b (nmF 1) 1 ba 0#32 (whF 1 ba 0#32).2.1] : List SG)[i]? = some s := hi
  cases i with
  | succ i => simp at hi'
  | zero =>
   simp only [List.getElem?_cons_zero, Option.some.injEq] at hi'
   simp only [List.nil_append, List.getElem?_cons_zero, Option.some.injEq] at hu
   subst hi' hu
   refine ⟨⟨newSG_coh _ _ _ _ _ _ h1 h2, rfl, hed_len _ _ _, may_nm _, ?_, ?_, Nat.le_refl _⟩, rfl, rfl⟩
   ·show Dk.get _ (nmF 1).data.toList = some p1
    rw [hget, if_neg hn2.1, if_neg hn2.2, if_pos rfl]
   ·show (upd _ p2 _ p1 : Fl).by_ = _ ++ []
    rw [upd_ne _ _ h12, upd_same, whl_by, List.append_nil]
 ·have hne := nmF_ne n
  simp at n1
  rw [hget, if_neg hne.1, if_neg hne.2, if_neg (fun cc => by have := nmF_inj (by omega) (by omega) (by omega) (by omega) cc; omega)]
 ·rw [hget, if_neg c5, if_pos rfl]
theorem SI.sync {b M : Nat} {K : Kst} {ci : List Sg} {se : Nat} {ti : List Td} {t : Td} {D : Dr} {F : Nat → Fl} {c : Int} (h : SI b M K ci se ti t D F c) : (K.S.sync K.s.file).2 = 0 ∧ ∃ F', SI b M K.sync ci se ti t D F' (c + 1) ∧ sumL F' D = sumL F D := by
 obtain ⟨hs, hf, hb⟩ := h.last
 obtain ⟨k1, ca1, k3⟩ := h.ca.sync hs.my hs.gt
 refine ⟨k1, _, ⟨ca1, h.cs, h.li, h.lt, h.g, h.may, fun i s u hi hu => ?_, h.cat, h.f, h.nb, h.nn, h.cx, h.dl⟩, k3⟩
 have a := h.seg i s u hi hu
 refine ⟨a.1.keep a.1.gt ?_, a.2⟩
 by_cases hp : u.p = t.p
 ·rw [hp, upd_same, syF_by]
 ·rw [upd_ne _ _ hp]
set_option maxRecDepth 100000
theorem is_at {g f : Int} {l : List Sg} (h : May g f l) {n : Int} (hf : f ≤ n) : ∃ i, IsAt l n i := by
 have key : ∀ m, 1 ≤ m → m ≤ l.length → ∃ i, i < m ∧ (sg l i).ba ≤ n ∧ ∀ j, i < j → j < m → n < (sg l j).ba := by
  intro m
  induction m with
  | zero => intro c; omega
  | succ m ih =>
   intro _ hm
   by_cases c : (sg l m).ba ≤ n
   ·exact ⟨m, by omega, c, fun j h1 h2 => by omega⟩
   ·have hm0 : m ≠ 0 := fun e => by
      subst e
      have := h.be.1
      omega
    obtain ⟨i, a1, a2, a3⟩ := ih (by omega) (by omega)
    refine ⟨i, by omega, a2, fun j h1 h2 => ?_⟩
    by_cases d : j = m
    ·subst d; omega
    ·exact a3 j h1 (by omega)
 obtain ⟨i, a1, a2, a3⟩ := key l.length h.n1 (Nat.le_refl _)
 exact ⟨i, a1, a2, a3⟩
set_option maxRecDepth 100000
structure Chn (L : List (Nat × Nat)) : Prop where
 z : ∀ p, L[0]? = some p → p.1 = 0
 n : ∀ j p q, L[j]? = some p → L[j + 1]? = some q → q.1 = p.2
theorem Chn.snoc {l : List (Nat × Nat)} {a c : Nat × Nat} (h : Chn (l ++ [a])) (hc : c.1 = a.2) : Chn (l ++ [a] ++ [c]) := by
 refine ⟨fun p hp => ?_, fun j p q hp hq => ?_⟩
 ·rcases snoc_at hp with ⟨_, h'⟩ | ⟨e, _⟩
  ·exact h.z p h'
  ·simp at e
 ·rcases snoc_at hq with ⟨hj, h'⟩ | ⟨hj, rfl⟩
  ·rcases snoc_at hp with ⟨_, h''⟩ | ⟨e, _⟩
   ·exact h.n j p q h'' h'
   ·omega
  ·rcases snoc_at hp with ⟨_, h''⟩ | ⟨e, _⟩
   ·simp at hj
    rw [hj] at h''
    simp at h''
    rw [hc, ← h'']
   ·omega
theorem Chn.turn {l : List (Nat × Nat)} {a c : Nat × Nat} (h : Chn (l ++ [a])) (hc : c.1 = a.1) : Chn (l ++ [c]) := by
 refine ⟨fun p hp => ?_, fun j p q hp hq => ?_⟩
 ·rcases snoc_at hp with ⟨hj, h'⟩ | ⟨e, rfl⟩
  ·exact h.z p (by rw [List.getElem?_append_left hj]; exact h')
  ·have := h.z a (by rw [e]; simp)
   omega
 ·rcases snoc_at hp with ⟨hi, h'⟩ | ⟨e, _⟩
  ·rcases snoc_at hq with ⟨hj, h''⟩ | ⟨hj, rfl⟩
   ·exact h.n j p q (by rw [List.getElem?_append_left hi]; exact h') (by rw [List.getElem?_append_left hj]; exact h'')
   ·have := h.n j p a (by rw [List.getElem?_append_left hi]; exact h') (by rw [hj]; simp)
    omega
  ·rcases snoc_at hq with ⟨hj, _⟩ | ⟨hj, _⟩ <;> omega
theorem shS_chn {m z0 : Int} {e0 : Bool} {ls : List (List UInt8)} : ∀ i, Chn ((shS m z0 e0 ls i).cs ++ [((shS m z0 e0 ls i).fr, i)])
 | 0 => ⟨fun p hp => by simp [shS] at hp; rw [← hp], fun j p q hp hq => by simp [shS] at hq⟩
 | i + 1 => by
  have ih := shS_chn (m := m) (z0 := z0) (e0 := e0) (ls := ls) i
  unfold shS
  split
  ·exact ih.snoc rfl
  ·exact ih.turn rfl
theorem shR_chn {m z0 : Int} {e0 : Bool} {ls : List (List UInt8)} : Chn (shR m z0 e0 ls) := shS_chn ls.length
theorem run_get {L : List (Nat × Nat)} {i : Nat} (h : i < L.length) : L[i]? = some (runAt L i) := by
 unfold runAt
 rw [List.getElem?_eq_getElem h]
 simp [List.getD, h]
theorem shR_last {m z0 : Int} {e0 : Bool} {ls : List (List UInt8)} : (runAt (shR m z0 e0 ls) ((shR m z0 e0 ls).length - 1)).2 = ls.length := by
 unfold runAt shR
 simp [List.getD]
set_option maxRecDepth 100000
noncomputable def Td.seed (t : Td) (K : Kst) : Crc.R := (wk t.sd K.s.base t.ds t.ds.length).2.2
set_option maxRecDepth 100000
theorem cutL_len {ls : List (List UInt8)} {rs : List (Nat × Nat)} {i : Nat} (h1 : (runAt rs i).1 ≤ (runAt rs i).2) (h2 : (runAt rs i).2 ≤ ls.length) : (cutL ls rs i).length = (runAt rs i).2 - (runAt rs i).1 := by
 unfold cutL
 simp
 omega
theorem cutL_mem {ls : List (List UInt8)} {rs : List (Nat × Nat)} {i : Nat} {d : List UInt8} (h : d ∈ cutL ls rs i) : d ∈ ls := List.mem_of_mem_drop (List.mem_of_mem_take h)
theorem rolls_le {n r : Nat} {g : Int} (h : n + r ≤ 60) (hr : 1 ≤ r) (hg : g = (n : Int) + 1) : (r : Int) - 1 ≤ rollsV (n + 1) g ((n : Int) + 1) := by
 unfold rollsV
 rw [Int.le_min, Int.le_min]
 refine ⟨⟨?_, ?_⟩, ?_⟩ <;> omega
set_option maxRecDepth 100000
structure DA (K : Kst) (ti : List Td) (t : Td) (f0 : Int) (L : List (List UInt8)) : Prop where
 nx : K.s.next = f0 + (L.length : Int)
 al : ∀ (i : Nat) (s : SG) (u : Td), (K.si ++ [K.s])[i]? = some s → (ti ++ [t])[i]? = some u → f0 ≤ s.base ∧ ∀ (j : Nat) (d : List UInt8), u.ds[j]? = some d → L[(s.base - f0).toNat + j]? = some d
theorem SI.putD {b M : Nat} {K : Kst} {ci : List Sg} {se : Nat} {ti : List Td} {t : Td} {D : Dr} {F : Nat → Fl} {c : Int} (h : SI b M K ci se ti t D F c) (hc : c < 800000000) (ls : List (List UInt8)) (h0 : ls ≠ []) (hd4 : ∀ d ∈ ls, d.length ≤ 4096) (hn : K.s.next + (ls.length : Int) ≤ 9223372036854775807) (hds : t.ds.length + ls.length ≤ 400000) (hM : sumL F D + ls.length * 4112 ≤ M) :
    PutPre b K (t.seed K) ls ∧ ∃ t' F', SI b M (K.put (t.seed K) ls) ci se ti t' D F' (c + 1) ∧ sumL F' D ≤ sumL F D + ls.length * 4112 ∧ (K.put (t.seed K) ls).s.next = K.s.next + (ls.length : Int) ∧ t'.ds.length = t.ds.length + ls.length ∧ (K.put (t.seed K) ls).s.base = K.s.base ∧ ∀ (f0 : Int) (L : List (List UInt8)), DA K ti t f0 L → DA (K.put (t.seed K) ls) ti t' f0 (L ++ ls) := by
 have hw := (wk_len (wk t.sd K.s.base t.ds t.ds.length).2.2 K.s.next ls ls.length).1
 have hs := h.last.1
 have hz := hs.co.z
 have hw2 := (wk_len t.sd K.s.base t.ds t.ds.length).1
 obtain ⟨a1, F', a2, a3, a4⟩ := h.put hc ls h0 hd4 hn (by omega) (by omega) (by omega)
 have n1 := hs.co.n
 have n2 := a2.last.1.co.n
 simp only [List.length_append] at n2
 have hnx : (K.put (t.seed K) ls).s.next = K.s.next + (ls.length : Int) := by
  unfold Td.seed
  rw [n2, a4]
  push_cast
  omega
 refine ⟨a1, _, F', a2, by omega, hnx, by simp, a4, fun f0 L hD => ⟨by rw [hnx, hD.nx, List.length_append]; push_cast; omega, fun i s u hi hu => ?_⟩⟩
 have hli := h.li
 have hlt := h.lt
 by_cases e : i < ci.length
 ·have e1 : (K.si ++ [K.s])[i]? = some s := by
    rw [List.getElem?_append_left (by omega)]
    have : ((K.put (t.seed K) ls).si ++ [(K.put (t.seed K) ls).s])[i]? = K.si[i]? := List.getElem?_append_left (by show i < K.si.length; omega)
    rw [← this]; exact hi
  have e2 : (ti ++ [t])[i]? = some u := by
   rw [List.getElem?_append_left (by omega)]
   rw [List.getElem?_append_left (by omega)] at hu
   exact hu
  obtain ⟨q1, q2⟩ := hD.al i s u e1 e2
  exact ⟨q1, fun j d hj => by
   have := q2 j d hj
   rw [List.getElem?_append_left (List.getElem?_eq_some_iff.1 this).1]; exact this⟩
 ·have ei : i = K.si.length := by
    have := (List.getElem?_eq_some_iff.1 hi).1
    simp at this
    have : i < K.si.length + 1 := this
    omega
  have e1 : s = (K.put (t.seed K) ls).s := by
   rw [ei] at hi
   have : ((K.put (t.seed K) ls).si ++ [(K.put (t.seed K) ls).s])[K.si.length]? = some (K.put (t.seed K) ls).s := List.getElem?_concat_length
   rw [this] at hi
   exact (Option.some.inj hi).symm
  obtain ⟨q1, q2⟩ := hD.al i K.s t (by rw [ei]; exact List.getElem?_concat_length) (by rw [show i = ti.length by omega]; exact List.getElem?_concat_length)
  rw [show i = ti.length by omega, List.getElem?_concat_length] at hu
  have e2 := Option.some.inj hu
  subst e2
  have hb : s.base = K.s.base := by rw [e1]; exact a4
  rw [hb]
  refine ⟨q1, fun j d hj => ?_⟩
  simp only at hj
  by_cases hjl : j < t.ds.length
  ·rw [List.getElem?_append_left hjl] at hj
   have := q2 j d hj
   rw [List.getElem?_append_left (List.getElem?_eq_some_iff.1 this).1]; exact this
  ·rw [List.getElem?_append_right (by omega)] at hj
   have hnx0 := hD.nx
   have : (K.s.base - f0).toNat + j = L.length + (j - t.ds.length) := by omega
   rw [this, List.getElem?_append_right (by omega), Nat.add_sub_cancel_left]
   exact hj
theorem SI.rollD {b M : Nat} {K : Kst} {ci : List Sg} {se : Nat} {ti : List Td} {t : Td} {D : Dr} {F : Nat → Fl} {c : Int} (h : SI b M K ci se ti t D F c) (hci : ci.length ≤ 62) (hc : c < 500000000) (hn : K.s.next ≤ 9223372036854775807) (hds : t.ds.length ≤ 400000) (hM : sumL F D + 5000 ≤ M) :
    ∃ nm R, RollPre K (t.seed K) nm R M D F c ∧ ∀ p1 p2, p1 ∉ (K.S.sync K.s.file).1.ps → p2 ∉ (creF (K.S.sync K.s.file).1 (nmF nm) nm K.s.next (t.seed K) p1).1.ps →
     ∃ ci' se' ti' t' D' F', SI b M (K.roll b (t.seed K) nm R p1 p2) ci' se' ti' t' D' F' (c + 9) ∧ sumL F' D' ≤ sumL F D + 5000 ∧ (K.roll b (t.seed K) nm R p1 p2).s.next = K.s.next ∧ ci'.length = ci.length + 1 ∧ t'.ds = [] ∧ (K.roll b (t.seed K) nm R p1 p2).s.base = K.s.next ∧ ∀ (f0 : Int) (L : List (List UInt8)), DA K ti t f0 L → DA (K.roll b (t.seed K) nm R p1 p2) ti' t' f0 L := by
 have hs := h.last.1
 have hz := hs.co.z
 have hw2 := (wk_len t.sd K.s.base t.ds t.ds.length).1
 have hB : (bytesC (K.g + 1) K.f (ci ++ [sealS K ci se, ⟨(ci.length : Int) + 1 + 1, K.s.next, (wk t.sd K.s.base t.ds t.ds.length).2.2.toNat, 0, 0⟩])).length ≤ 4900 := by
  have := frontC_len (K.g + 1) K.f (ci ++ [sealS K ci se, ⟨(ci.length : Int) + 1 + 1, K.s.next, (wk t.sd K.s.base t.ds t.ds.length).2.2.toNat, 0, 0⟩])
  unfold bytesC
  rw [List.length_append, fx_len]
  simp at this
  omega
 obtain ⟨a1, a2⟩ := h.roll hci hc hn (by omega) rfl (by omega)
 refine ⟨_, _, a1, fun p1 p2 h1 h2 => ?_⟩
 obtain ⟨D', F', b1, b2⟩ := a2 p1 p2 h1 h2
 refine ⟨_, _, _, _, D', F', b1, by omega, rfl, by simp, rfl, rfl, fun f0 L hD => ⟨hD.nx, fun i s u hi hu => ?_⟩⟩
 have hli := h.li
 have hlt := h.lt
 by_cases e : i < ci.length + 1
 ·refine hD.al i s u ?_ ?_
  ·rw [← hi]
   exact (List.getElem?_append_left (by simp; omega)).symm
  ·rw [← hu]
   exact (List.getElem?_append_left (by simp; omega)).symm
 ·have h1' := (List.getElem?_eq_some_iff.1 hu).1
  simp at h1'
  have ei : i = (ti ++ [t]).length := by simp; omega
  rw [ei, List.getElem?_concat_length] at hu
  have e2 := Option.some.inj hu
  have ei2 : i = (K.si ++ [K.s]).length := by simp; omega
  rw [ei2] at hi
  have e3 := Option.some.inj ((List.getElem?_concat_length (l := K.si ++ [K.s])).symm.trans hi)
  rw [← e3, ← e2]
  have hnx := hD.nx
  exact ⟨by show f0 ≤ K.s.next; omega, fun j d hj => by simp at hj⟩
theorem take_cut (ls : List (List UInt8)) {x y : Nat} (h : x ≤ y) : ls.take x ++ (ls.drop x).take (y - x) = ls.take y := by
 rw [← List.take_add, show x + (y - x) = y by omega]
def AJ (b M : Nat) (nx : Int) (rs : List (Nat × Nat)) (s0 c0 d0 : Nat) (k0 f0 f1 : Int) (L ls : List (List UInt8)) (i : Nat) (K : Kst) : Prop :=
 1 ≤ i ∧ ∃ ci se ti t D F c, SI b M K ci se ti t D F c ∧ K.s.next = nx + ((runAt rs (i - 1)).2 : Int) ∧ sumL F D ≤ s0 + (runAt rs (i - 1)).2 * 4112 + i * 5000 ∧ ci.length + 1 = c0 + i ∧ c ≤ k0 + 20 * (i : Int) ∧ t.ds.length ≤ d0 + (runAt rs (i - 1)).2 ∧ K.f = f1 ∧ DA K ti t f0 (L ++ ls.take (runAt rs (i - 1)).2) ∧ (2 ≤ i → K.s.base = nx + ((runAt rs (i - 1)).1 : Int))
theorem sappend_sj {w : World} {stb b M : Nat} {m nx du : Int} {K : Kst} {A : Nat → Prop} (h : KA w stb b m nx du K A) (hT : Tab16 w) (hA : ¬ A 3)
    {ci : List Sg} {se : Nat} {ti : List Td} {t : Td} {D : Dr} {F : Nat → Fl} {c : Int} (hSI : SI b M K ci se ti t D F c) (hnx : K.s.next = nx) {f0 : Int} {L : List (List UInt8)} (hDA : DA K ti t f0 L)
    (db off N ca : Nat) (vs : List Value) (ls : List (List UInt8)) (hD : ∀ u A', Sgo w u A A' → Row u (.slice (some ⟨db, off, none⟩) N ca) vs ∧ Sls u vs ls) (hN0 : ls.length = N) (hN1 : N ≤ 1000000) (hN2 : 1 ≤ N) (hd4 : ∀ d ∈ ls, d.length ≤ 4096)
    (x2 : nx + (N : Int) ≤ 9223372036854775807) (d1 : 0 ≤ du) (d2 : du ≤ 9223372036854775807)
    (rs : List (Nat × Nat)) (hrs : shR m K.s.size (K.s.next == K.s.base) ls = rs) (hci : ci.length + rs.length ≤ 60) (hc : c + 20 * (rs.length : Int) < 400000000) (hds : t.ds.length + N ≤ 400000) (hM : sumL F D + N * 4112 + rs.length * 5000 ≤ M) :
    Calls Tryz.prog 10 #[.pointer (some ⟨stb, 0, none⟩), .slice (some ⟨db, off, none⟩) N ca] w fun e w' => e = .returned (.tuple #[.int .i64 nx, .int .i64 0]) ∧ Hid (∃ K' A', AJ b M nx rs (sumL F D) ci.length t.ds.length c f0 K.f L ls rs.length K' ∧ KA w' stb b m (nx + (N : Int)) (max du K'.s.base) K' A' ∧ Sgo w w' A A') := by
 have hs := hSI.last.1
 have hz := hs.co.z
 have hw2 := (wk_len t.sd K.s.base t.ds t.ds.length).1
 have hb1 := hs.co.b1
 have hn0 := hs.co.n
 have hli := hSI.li
 have hg := hSI.g
 have hsg : sg K.cs ci.length = ⟨(ci.length : Int) + 1, K.s.base, se, 0, 0⟩ := by rw [hSI.cs, sg_mid]
 have hrin := shR_in (m := m) (e0 := (K.s.next == K.s.base)) (ls := ls) (show 0 ≤ K.s.size by omega) (show K.s.size ≤ 2147483647 by omega)
 have hch := shR_chn (m := m) (z0 := K.s.size) (e0 := (K.s.next == K.s.base)) (ls := ls)
 have hne := fun j h1 h2 => shR_ne (m := m) (z0 := K.s.size) (e0 := (K.s.next == K.s.base)) (ls := ls) (by omega) (j := j) h1 h2
 have hla := shR_last (m := m) (z0 := K.s.size) (e0 := (K.s.next == K.s.base)) (ls := ls)
 have hr1 : 1 ≤ rs.length := by rw [← hrs]; unfold shR; simp
 rw [hrs] at hrin hch hne hla
 have hrun : ∀ i, i < rs.length → (runAt rs i).1 ≤ (runAt rs i).2 ∧ (runAt rs i).2 ≤ N := fun i hi => by
  have := hrin _ (List.mem_of_getElem? (run_get hi))
  rw [hN0] at this
  exact this
 have hrr : rrF nx ls = 0 := by
  unfold rrF
  rw [if_neg (fun e => by rw [e] at hN0; simp at hN0; omega), if_neg (by rintro ⟨d, e1, e2⟩; have := hd4 d e1; omega), if_neg (by omega)]
 refine sappend_any h hT hA db off N ca vs ls hD hN0 hN1 hN2 (by omega) x2 hrr d1 d2 (by omega) (by omega) (by omega) (n := ci.length) (by rw [hSI.cs]; simp) (by omega) (by omega) (by omega) (by rw [hsg]; show 1 ≤ (ci.length : Int) + 1; omega) (by rw [hsg]; show (ci.length : Int) + 1 ≤ _; omega) rs hrs ?_ (AJ b M nx rs (sumL F D) ci.length t.ds.length c f0 K.f L ls) ?_ ?_ ?_
 ·rw [hsg]
  exact rolls_le hci hr1 hg
 ·have z0 := hch.z _ (run_get (i := 0) (by omega))
  have r0 := hrun 0 (by omega)
  by_cases hy : (runAt rs 0).2 = 0
  ·exact .inl ⟨by omega, Nat.le_refl _, ci, se, ti, t, D, F, c, hSI, by rw [show 1 - 1 = 0 from rfl, hy]; simpa using hnx, by omega, by omega, by omega, by omega, rfl, by rw [show 1 - 1 = 0 from rfl, hy]; simpa using hDA, fun c => absurd c (by omega)⟩
  ·have hl := cutL_len (ls := ls) r0.1 (by omega)
   obtain ⟨a1, t', F', a2, a3, a4, a5, _, a6⟩ := hSI.putD (by omega) (cutL ls rs 0) (fun e => by rw [e] at hl; simp at hl; omega) (fun d hd => hd4 d (cutL_mem hd)) (by rw [hl]; omega) (by rw [hl]; omega) (by rw [hl]; omega)
   rw [hl] at a3 a4 a5
   exact .inr ⟨_, a1, Nat.le_refl _, ci, se, ti, t', D, F', c + 1, a2, by rw [a4, hnx, show 1 - 1 = 0 from rfl]; omega, by rw [show 1 - 1 = 0 from rfl]; omega, by omega, by omega, by rw [show 1 - 1 = 0 from rfl]; omega, rfl, by
    have := a6 f0 L hDA
    have hcut : L ++ cutL ls rs 0 = L ++ ls.take (runAt rs 0).2 := by unfold cutL; rw [z0]; simp
    rw [hcut] at this
    exact this, fun c => absurd c (by omega)⟩
 ·rintro i K' i1 i2 ⟨_, ci', se', ti', t', D', F', c', b1, b2, b3, b4, b5, b6, b7, b8, b9⟩
  have r1 := hrun (i - 1) (by omega)
  have r2 := hrun i i2
  have hcn := hch.n (i - 1) _ _ (run_get (by omega)) (by rw [show i - 1 + 1 = i by omega]; exact run_get i2)
  have hlt := hne i i1 i2
  have hl := cutL_len (ls := ls) (rs := rs) (i := i) r2.1 (by omega)
  have hmul : i * 5000 + 5000 ≤ rs.length * 5000 := by omega
  obtain ⟨nm, R, e1, e2⟩ := b1.rollD (by omega) (by omega) (by omega) (by omega) (by omega)
  refine ⟨_, nm, R, M, D', F', c', e1, fun p1 p2 hp1 hp2 => ?_⟩
  obtain ⟨ci2, se2, ti2, t2, D2, F2, f1, f2, f3, f4, f5, f7, f6⟩ := e2 p1 p2 hp1 hp2
  obtain ⟨a1, t3, F3, a2, a3, a4, a5, a7, a6⟩ := f1.putD (by omega) (cutL ls rs i) (fun e => by rw [e] at hl; simp at hl; omega) (fun d hd => hd4 d (cutL_mem hd)) (by rw [hl, f3, b2]; omega) (by rw [hl, f5]; simp; omega) (by rw [hl]; omega)
  rw [hl] at a3 a4 a5
  rw [f5] at a5
  refine ⟨_, a1, by omega, ci2, se2, ti2, t3, D2, F3, _, a2, by rw [a4, f3, b2, show i + 1 - 1 = i from rfl]; omega, by rw [show i + 1 - 1 = i from rfl]; omega, by omega, by push_cast; omega, by rw [show i + 1 - 1 = i from rfl]; simp at a5; omega, b7, by
   have := a6 f0 _ (f6 f0 _ b8)
   have hcut : L ++ ls.take (runAt rs (i - 1)).2 ++ cutL ls rs i = L ++ ls.take (runAt rs i).2 := by unfold cutL; rw [List.append_assoc, ← hcn, take_cut _ r2.1]
   rw [hcut] at this
   exact this, fun _ => by rw [a7, f7, b2, show i + 1 - 1 = i from rfl, hcn]⟩
 ·rintro K' ⟨_, ci', se', ti', t', D', F', c', b1, b2, b3, b4, b5, b6, b7, b8, b9⟩
  have hs' := b1.last.1
  have q1 := hs'.co.b1
  have q2 := hs'.co.n
  have q3 := b1.li
  rw [hla, hN0] at b2
  exact ⟨by omega, by omega, by omega⟩
set_option maxRecDepth 100000
theorem SI.find2 {b M : Nat} {K : Kst} {ci : List Sg} {se : Nat} {ti : List Td} {t : Td} {D : Dr} {F : Nat → Fl} {c : Int} (h : SI b M K ci se ti t D F c) {f0 : Int} {L : List (List UInt8)} (hD : DA K ti t f0 L) {lsn : Int} (h1 : K.f ≤ lsn) (h2 : lsn < K.s.next) :
    ∃ (i : Nat) (s : SG), atF K.g K.f K.cs lsn = (i, true) ∧ (K.si ++ [K.s])[i]? = some s ∧ SOk s ∧ 1 ≤ s.base ∧ s.file.size ≤ maxLen ∧ ∃ d, rdS s K.S lsn = ((lsn, d), 0) ∧ f0 ≤ lsn ∧ L[(lsn - f0).toNat]? = some d := by
 obtain ⟨i, hi⟩ := is_at h.may h1
 have hat := at_is h.may h1 hi
 obtain ⟨a1, a2, a3⟩ := hi
 have hli := h.li
 have hlt := h.lt
 have hcl : K.cs.length = ci.length + 1 := by rw [h.cs]; simp
 have hi1 : i < (K.si ++ [K.s]).length := by simp; omega
 have hi2 : i < (ti ++ [t]).length := by simp; omega
 obtain ⟨hS, hf, hb⟩ := h.seg i _ _ (List.getElem?_eq_getElem hi1) (List.getElem?_eq_getElem hi2)
 obtain ⟨b1, b2⟩ := hD.al i _ _ (List.getElem?_eq_getElem hi1) (List.getElem?_eq_getElem hi2)
 have hr : (K.si ++ [K.s])[i].base ≤ lsn ∧ lsn < (K.si ++ [K.s])[i].next := by
  by_cases e : i < ci.length
  ·have e1 : (K.si ++ [K.s])[i] = K.si[i]'(by omega) := List.getElem_append_left (by omega)
   have e2 : sg K.cs i = ci[i] := by rw [h.cs, sg_left e, sg_get e]
   obtain ⟨c1, c2⟩ := h.cat i (K.si[i]'(by omega)) ci[i] (List.getElem?_eq_getElem (by omega)) (List.getElem?_eq_getElem e)
   have l1 := h.may.lk i (by omega)
   have l2 := a3 (i + 1) (by omega) (by omega)
   rw [e2] at a2 l1
   have l3 := l1.2.2.2
   rw [e1]
   omega
  ·have e0 : i = K.si.length := by omega
   have e1 : (K.si ++ [K.s])[i] = K.s := by
    subst e0
    simp
   have e2 : (sg K.cs i).ba = K.s.base := by
    rw [h.cs, show i = ci.length by omega, sg_mid]
   rw [e1]
   omega
 have hn := hS.co.n
 have hj : (lsn - (K.si ++ [K.s])[i].base).toNat < ((ti ++ [t])[i]).ds.length := by omega
 have hg : ((ti ++ [t])[i]).ds[(lsn - (K.si ++ [K.s])[i].base).toNat]? = some (((ti ++ [t])[i]).ds.getD (lsn - (K.si ++ [K.s])[i].base).toNat []) := by
  rw [List.getD_eq_getElem?_getD, List.getElem?_eq_getElem hj]
  rfl
 have hq := b2 _ _ hg
 rw [show ((K.si ++ [K.s])[i].base - f0).toNat + (lsn - (K.si ++ [K.s])[i].base).toNat = (lsn - f0).toNat by omega] at hq
 exact ⟨i, _, hat, List.getElem?_eq_getElem hi1, hS.co.ok, hS.co.b1, by rw [hf, nmF_size]; decide, _, hS.read h.ca hr.1 hr.2, by omega, hq⟩
theorem runs_le {m z0 : Int} {e0 : Bool} {ls : List (List UInt8)} (hl : 1 ≤ ls.length) (h0 : 0 ≤ z0) (h1 : z0 ≤ 2147483647) : (shR m z0 e0 ls).length ≤ ls.length + 1 := by
 have hch := shR_chn (m := m) (z0 := z0) (e0 := e0) (ls := ls)
 have hne := fun j h1' h2 => shR_ne (m := m) (z0 := z0) (e0 := e0) (ls := ls) hl (j := j) h1' h2
 have hin := shR_in (m := m) (e0 := e0) (ls := ls) h0 h1
 generalize shR m z0 e0 ls = rs at *
 have key : ∀ i, i < rs.length → i ≤ (runAt rs i).2 := by
  intro i
  induction i with
  | zero => intro _; omega
  | succ i ih =>
   intro hi
   have a := ih (by omega)
   have b := hch.n i _ _ (run_get (by omega)) (run_get hi)
   have c := hne (i + 1) (by omega) hi
   omega
 by_cases hr : rs.length = 0
 ·omega
 ·have a := key (rs.length - 1) (by omega)
  have b := (hin _ (List.mem_of_getElem? (run_get (show rs.length - 1 < rs.length by omega)))).2
  omega
def SE (w wr : World) (stb b M : Nat) (m f0 nx du : Int) (L : List (List UInt8)) (q z : Nat) (c0 : Int) : Prop :=
 ∃ K A ci se ti t D F c, KA wr stb b m nx du K A ∧ (∀ k, A k → w.heap.size ≤ k) ∧ Below w.heap.size w wr ∧ SI b M K ci se ti t D F c ∧ K.s.next = nx ∧ K.f = f0 ∧ DA K ti t f0 L ∧ ci.length ≤ q ∧ sumL F D ≤ z ∧ c ≤ c0 ∧ t.ds.length ≤ L.length ∧ 0 ≤ du ∧ du ≤ nx ∧ K.s.base ≤ nx
theorem SE.below {w wr q' : World} {stb b M : Nat} {m f0 nx du : Int} {L : List (List UInt8)} {q z : Nat} {c0 : Int} (h : SE w wr stb b M m f0 nx du L q z c0) (hb : Below wr.heap.size wr q') : SE w q' stb b M m f0 nx du L q z c0 := by
 obtain ⟨K, A, ci, se, ti, t, D, F, c, h1, h2, h3, h4⟩ := h
 exact ⟨K, A, ci, se, ti, t, D, F, c, h1.below hb, h2, h3.trans (hb.mono h3.size), h4⟩
theorem SE.be {w wr : World} {stb b M : Nat} {m f0 nx du : Int} {L : List (List UInt8)} {q z : Nat} {c0 : Int} (h : SE w wr stb b M m f0 nx du L q z c0) : Below w.heap.size w wr := by
 obtain ⟨K, A, ci, se, ti, t, D, F, c, h1, h2, h3, h4⟩ := h
 exact h3
theorem SE.sync {w q wr : World} {stb b M : Nat} {m f0 nx du : Int} {L : List (List UInt8)} {qn z : Nat} {c0 : Int} (h : SE w q stb b M m f0 nx du L qn z c0) (hq : Below q.heap.size q wr) (hc : c0 < 300000000) :
    Calls Tryz.prog 12 #[.pointer (some ⟨stb, 0, none⟩)] wr fun e w' => e = .returned (.int .i64 0) ∧ SE w w' stb b M m f0 nx nx L qn z (c0 + 1) ∧ (∀ k, q.heap.size ≤ k → k < wr.heap.size → w'.heap[k]? = wr.heap[k]?) := by
 obtain ⟨K, A, ci, se, ti, t, D, F, c, h1, h2, h3, h4, h5, h6, h7, h8, h9, h10, h11, h12, h13, h14⟩ := h
 have hS := h4.last.1
 have hf : K.s.file.size ≤ maxLen := by rw [h4.last.2.1, nmF_size]; decide
 have hfew := h4.few
 have hli := h4.li
 have hb1 := hS.co.b1
 have hlt := h1.lt
 have h3' := h3.trans (hq.mono h3.size)
 by_cases e : du = nx
 ·subst e
  refine (ssync_idle (h1.below hq)).mono ?_
  rintro e w' ⟨rfl, hb⟩
  exact ⟨rfl, ⟨K, A, ci, se, ti, t, D, F, c, (h1.below hq).below hb, h2, h3'.trans (hb.mono h3'.size), h4, h5, h6, h7, h8, h9, by omega, h11, h12, h13, h14⟩, fun k _ hk => hb.block k hk⟩
 ·obtain ⟨s1, F', s2, s3⟩ := h4.sync
  refine (ssync_any (h1.below hq) e hS.cd hf (by rw [h4.ca.c7]; omega) s1 (by omega)).mono ?_
  rintro e w' ⟨rfl, hh⟩
  obtain ⟨A', k1, k2⟩ := hh.out
  refine ⟨rfl, ⟨K.sync, A', ci, se, ti, t, D, F', c + 1, k1, fun k hk => ?_, h3'.trans (k2.1.below h3'.size h2), s2, h5, h6, ⟨h7.nx, h7.al⟩, h8, by omega, by omega, h11, by omega, Int.le_refl _, h14⟩, fun k hk1 hk2 => k2.1.block k hk2 (fun c => by have := hlt k c; omega)⟩
  rcases k2.2 k hk with c | c
  ·exact h2 k c
  ·have := h3'.size; omega
theorem SE.look {w wr : World} {stb b M : Nat} {m f0 nx du : Int} {L : List (List UInt8)} {q z : Nat} {c0 : Int} (h : SE w wr stb b M m f0 nx du L q z c0) :
    ∃ g N, ∀ u, Below wr.heap.size wr u → Calls Tryz.prog 9 #[.pointer (some ⟨stb, 0, none⟩)] u fun e w' => e = .returned (.agg (slookV f0 nx du g N)) ∧ Below u.heap.size u w' := by
 obtain ⟨K, A, ci, se, ti, t, D, F, c, h1, h2, h3, h4, h5, h6, _⟩ := h
 refine ⟨K.g, K.cs.length, fun u hu => ?_⟩
 rw [← h6]
 exact (h1.below hu).look
theorem SE.read {w wr : World} {stb b M : Nat} {m f0 nx du : Int} {L : List (List UInt8)} {q z : Nat} {c0 : Int} (h : SE w wr stb b M m f0 nx du L q z c0) (hx : nx ≤ 9223372036854775807) (h0 : 0 ≤ f0) {lsn : Int} (l1 : f0 ≤ lsn) (l2 : lsn < du) :
    Calls Tryz.prog 14 #[.pointer (some ⟨stb, 0, none⟩), .int .i64 lsn] wr fun e w' => ∃ vd d, e = .returned (.tuple #[.agg #[.int .i64 lsn, vd], .int .i64 0]) ∧ Ob wr.heap.size w' vd d ∧ L[(lsn - f0).toNat]? = some d ∧ Below wr.heap.size wr w' := by
 obtain ⟨K, A, ci, se, ti, t, D, F, c, h1, h2, h3, h4, h5, h6, h7, h8, h9, h10, h11, h12, h13, h14⟩ := h
 obtain ⟨i, s, a1, a2, a3, a4, a5, d, a6, a7, a8⟩ := h4.find2 h7 (lsn := lsn) (by omega) (by omega)
 have hfew := h4.few
 have hli := h4.li
 refine (sread_any h1 lsn (by omega) l2 (by omega) (by omega) a1 a2 a3 a4 a5 (by omega)).mono ?_
 rintro e w' ⟨vd, rfl, k1, k2⟩
 rw [a6] at k1 ⊢
 exact ⟨vd, d, rfl, k1, a8, k2⟩
theorem SE.append {w q wr : World} {stb b M : Nat} {m f0 nx du : Int} {L : List (List UInt8)} {qn z : Nat} {c0 : Int} (h : SE w q stb b M m f0 nx du L qn z c0) (hq : Below q.heap.size q wr) (hT : Tab16 wr) (hTb : 3 < w.heap.size)
    (db off N ca : Nat) (vs : List Value) (ls : List (List UInt8)) (hD : ∀ u : World, (∀ k, q.heap.size ≤ k → k < wr.heap.size → u.heap[k]? = wr.heap[k]?) → Row u (.slice (some ⟨db, off, none⟩) N ca) vs ∧ Sls u vs ls)
    (hN0 : ls.length = N) (hN2 : 1 ≤ N) (hd4 : ∀ d ∈ ls, d.length ≤ 4096) (x2 : nx + (N : Int) ≤ 9223372036854775807) (hqn : qn + N + 1 ≤ 60) (hc : c0 + 20 * ((N : Int) + 1) < 300000000) (hLl : L.length + N ≤ 400000) (hM : z + N * 4112 + (N + 1) * 5000 ≤ M) :
    Calls Tryz.prog 10 #[.pointer (some ⟨stb, 0, none⟩), .slice (some ⟨db, off, none⟩) N ca] wr fun e w' => e = .returned (.tuple #[.int .i64 nx, .int .i64 0]) ∧ ∃ du', (SE w w' stb b M m f0 (nx + (N : Int)) du' (L ++ ls) (qn + N) (z + N * 4112 + (N + 1) * 5000) (c0 + 20 * ((N : Int) + 1))) ∧ (∀ k, q.heap.size ≤ k → k < wr.heap.size → w'.heap[k]? = wr.heap[k]?) := by
 obtain ⟨K, A, ci, se, ti, t, D, F, c, h1, h2, h3, h4, h5, h6, h7, h8, h9, h10, h11, h12, h13, h14⟩ := h
 have hlt := h1.lt
 have hs := h4.last.1
 have hz := hs.co.z
 have hw2 := (wk_len t.sd K.s.base t.ds t.ds.length).1
 have hrl := runs_le (m := m) (z0 := K.s.size) (e0 := (K.s.next == K.s.base)) (ls := ls) (by omega) (by omega) (by omega)
 have hb1 := hs.co.b1
 have hn0 := hs.co.n
 refine (sappend_sj (h1.below hq) hT (fun c => by have := h2 _ c; omega) h4 h5 h7 db off N ca vs ls (fun u A' hu => hD u (fun k k1 k2 => hu.but.block k k2 (fun c => by have := hlt k c; omega))) hN0 (by omega) hN2 hd4 x2 h12 (by omega) _ rfl (by omega) (by omega) (by omega) (by omega)).mono ?_
 rintro e w' ⟨rfl, hh⟩
 obtain ⟨K', A', ⟨i1, ci', se', ti', t', D', F', c', g1, g2, g3, g4, g5, g6, g7, g8, g9⟩, k1, k2⟩ := hh.out
 have hla := shR_last (m := m) (z0 := K.s.size) (e0 := (K.s.next == K.s.base)) (ls := ls)
 rw [hla] at g2 g3 g6 g8
 rw [hN0] at g2 g3 g6
 rw [List.take_length] at g8
 have hs' := g1.last.1
 have q1 := hs'.co.n
 have h3' := h3.trans (hq.mono h3.size)
 refine ⟨rfl, _, ⟨K', A', ci', se', ti', t', D', F', c', k1, fun k hk => ?_, h3'.trans (k2.but.below h3'.size h2), g1, g2, by rw [g7, h6], g8, by omega, by omega, by omega, by rw [List.length_append]; omega, by omega, by omega, by omega⟩, fun k k1' k2' => k2.but.block k k2' (fun c => by have := hlt k c; omega)⟩
 rcases k2.own k hk with c | c
 ·exact h2 k c
 ·have := h3'.size; omega
theorem SE.refuse {w q wr : World} {stb b M : Nat} {m f0 nx du : Int} {L : List (List UInt8)} {qn z : Nat} {c0 : Int} (h : SE w q stb b M m f0 nx du L qn z c0) (hq : Below q.heap.size q wr) (vd : Value) (vs : List Value) (ls : List (List UInt8)) (hr : Row wr vd vs) (hs : Sls wr vs ls) (x1 : 1 ≤ nx) (x2 : nx ≤ 9223372036854775807) (hne : ls ≠ []) (hd4 : ∀ d ∈ ls, d.length ≤ 4096) (hx : 9223372036854775807 < nx + (ls.length : Int)) :
    Calls Tryz.prog 10 #[.pointer (some ⟨stb, 0, none⟩), vd] wr fun e w' => e = .returned (.tuple #[.int .i64 0, .int .i64 44]) ∧ SE w w' stb b M m f0 nx du L qn z c0 ∧ Below wr.heap.size wr w' := by
 have h' := h.below hq
 obtain ⟨K, A, ci, se, ti, t, D, F, c, h1, _⟩ := h
 have hrr : rrF nx ls = 44 := by
  unfold rrF
  rw [if_neg hne, if_neg (by rintro ⟨d, e1, e2⟩; have := hd4 d e1; omega), if_pos (by omega)]
 refine (sappend_no (h1.below hq) x1 x2 vd vs ls hr hs (by rw [hrr]; decide)).mono ?_
 rintro e w' ⟨rfl, hb⟩
 rw [hrr]
 exact ⟨rfl, h'.below hb, hb⟩
set_option maxRecDepth 100000
theorem open_se {w q : World} {b M : Nat} {O : Nat → Prop} (hd : DskE q b (DS.new (M : Int)) O) (hB : Below w.heap.size w q) (hO : ∀ k, O k → w.heap.size ≤ k) (m ba : Int) (m1 : 64 ≤ m) (m2 : m ≤ 1048576) (h1 : 1 ≤ ba) (h2 : ba ≤ 9223372036854775807) (hT : Tab16 q) (hM : 300 ≤ M) :
    Calls Tryz.prog 7 #[.pointer (some ⟨b, 0, none⟩), .agg #[.int .i64 m, .int .i64 ba]] q fun e w' => ∃ stb p1 p2 A D F, e = .returned (.tuple #[.pointer (some ⟨stb, 0, none⟩), .agg #[.bool true, .int .i64 0, .int .i64 0], .int .i64 0]) ∧ KA w' stb b m ba ba (Kst.new b ba (DS.new (M : Int)) p1 p2) A ∧ (∀ k, A k → w.heap.size ≤ k) ∧ Below w.heap.size w w' ∧
     SI b M (Kst.new b ba (DS.new (M : Int)) p1 p2) [] 0 [] ⟨(whF 1 ba 0#32).2.1, hed (1 : Int).toNat ba.toNat 0#32, [], p1⟩ D F 8 ∧ sumL F D ≤ 132 := by
 refine (open_new hd rfl rfl m ba m1 m2 h1 h2 hT (Ca.new M) (by decide) (by omega)).mono ?_
 rintro e w' ⟨stb, p1, p2, O', qq, vC, vS, rfl, hst, hp1, hp2, hSB, hSR, hgo⟩
 obtain ⟨D, F, s1, s2⟩ := SI.new b M (Ca.new M) hM h1 h2 hp1 hp2
 refine ⟨stb, p1, p2, _, D, F, rfl, ⟨O', [], qq, vC, vS, rfl, hSB, hSR⟩, fun k hk => ?_, hB.trans (hgo.but.below hB.size hO), s1, s2⟩
 rcases hgo.own k hk with c | c
 ·exact hO k c
 ·have := hB.size; omega
theorem da_new (b : Nat) (ba : Int) (S : DS) (p1 p2 : Nat) (u : Td) (hu : u.ds = []) : DA (Kst.new b ba S p1 p2) [] u ba [] := by
 refine ⟨by simp [Kst.new, newSG], fun i s t hi ht => ?_⟩
 have h0 := (List.getElem?_eq_some_iff.1 ht).1
 simp at h0
 subst h0
 simp at ht
 subst ht
 simp [Kst.new] at hi
 subst hi
 exact ⟨by simp [newSG], fun j d hj => by rw [hu] at hj; simp at hj⟩
theorem runs3 : shR 64 32 true [[97], [98], [99]] = [(0, 1), (1, 2), (2, 3)] := by decide +kernel
set_option maxRecDepth 100000
theorem tab_below {w w' : World} (h : Tab16 w) (hb : Below w.heap.size w w') : Tab16 w' := by
 unfold Tab16 at *
 rw [hb.cell (p := ⟨3, 15, none⟩) (lt_of_cell h)]; exact h
def lit3 (u : World) : World := (((u.alloc (.cells #[.int .u8 97] 5 (1, 2))).alloc (.cells #[.int .u8 98] 5 (1, 2))).alloc (.cells #[.int .u8 99] 5 (1, 2))).alloc (.cells #[.slice (some ⟨u.heap.size, 0, none⟩) 1 1, .slice (some ⟨u.heap.size + 1, 0, none⟩) 1 1, .slice (some ⟨u.heap.size + 1 + 1, 0, none⟩) 1 1] 54)
theorem lit3_below (u : World) : Below u.heap.size u (lit3 u) := by
 unfold lit3
 have a := box_below u (.cells #[.int .u8 97] 5 (1, 2))
 have b := a.trans ((box_below (u.alloc (.cells #[.int .u8 97] 5 (1, 2))) (.cells #[.int .u8 98] 5 (1, 2))).mono a.size)
 have c := b.trans ((box_below _ (.cells #[.int .u8 99] 5 (1, 2))).mono b.size)
 exact c.trans ((box_below _ _).mono c.size)
theorem lit3_size (u : World) : (lit3 u).heap.size = u.heap.size + 4 := by simp [lit3]
theorem one_sl {u : World} {b : Nat} {x : UInt8} (h : u.heap[b]? = some (.cells #[.int .u8 (x.toNat : Int)] 5 (1, 2))) : Sl u (.slice (some ⟨b, 0, none⟩) 1 1) [x] := by
 refine ⟨some ⟨b, 0, none⟩, 1, rfl, fun e => by simp at e, Nat.le_refl _, by unfold maxLen; omega, fun i hi => ⟨b, 0, rfl, ?_⟩⟩
 have : i = 0 := by simp at hi; omega
 subst this
 simp [World.cell?, h]
theorem lit3_row {u u' : World} (h : ∀ k, u.heap.size ≤ k → k < u.heap.size + 4 → u'.heap[k]? = (lit3 u).heap[k]?) :
    Row u' (.slice (some ⟨u.heap.size + 1 + 1 + 1, 0, none⟩) 3 3) [.slice (some ⟨u.heap.size, 0, none⟩) 1 1, .slice (some ⟨u.heap.size + 1, 0, none⟩) 1 1, .slice (some ⟨u.heap.size + 1 + 1, 0, none⟩) 1 1] ∧ Sls u' [.slice (some ⟨u.heap.size, 0, none⟩) 1 1, .slice (some ⟨u.heap.size + 1, 0, none⟩) 1 1, .slice (some ⟨u.heap.size + 1 + 1, 0, none⟩) 1 1] [[97], [98], [99]] := by
 have n3 : (lit3 u).heap[u.heap.size + 1 + 1 + 1]? = some (.cells #[.slice (some ⟨u.heap.size, 0, none⟩) 1 1, .slice (some ⟨u.heap.size + 1, 0, none⟩) 1 1, .slice (some ⟨u.heap.size + 1 + 1, 0, none⟩) 1 1] 54 (0, 0)) := by
  unfold lit3
  have := heap_alloc_new (((u.alloc (.cells #[.int .u8 97] 5 (1, 2))).alloc (.cells #[.int .u8 98] 5 (1, 2))).alloc (.cells #[.int .u8 99] 5 (1, 2))) (.cells #[.slice (some ⟨u.heap.size, 0, none⟩) 1 1, .slice (some ⟨u.heap.size + 1, 0, none⟩) 1 1, .slice (some ⟨u.heap.size + 1 + 1, 0, none⟩) 1 1] 54)
  simpa using this
 have n2 : (lit3 u).heap[u.heap.size + 1 + 1]? = some (.cells #[.int .u8 99] 5 (1, 2)) := by
  unfold lit3
  rw [(box_below _ _).block _ (by simp)]
  have := heap_alloc_new ((u.alloc (.cells #[.int .u8 97] 5 (1, 2))).alloc (.cells #[.int .u8 98] 5 (1, 2))) (.cells #[.int .u8 99] 5 (1, 2))
  simpa using this
 have n1 : (lit3 u).heap[u.heap.size + 1]? = some (.cells #[.int .u8 98] 5 (1, 2)) := by
  unfold lit3
  rw [(box_below _ _).block _ (by simp), (box_below _ _).block _ (by simp)]
  have := heap_alloc_new (u.alloc (.cells #[.int .u8 97] 5 (1, 2))) (.cells #[.int .u8 98] 5 (1, 2))
  simpa using this
 have n0 : (lit3 u).heap[u.heap.size]? = some (.cells #[.int .u8 97] 5 (1, 2)) := by
  unfold lit3
  rw [(box_below _ _).block _ (by simp; omega), (box_below _ _).block _ (by simp; omega), (box_below _ _).block _ (by simp)]
  exact heap_alloc_new u _
 have e0 := (h _ (Nat.le_refl _) (by omega)).trans n0
 have e1 := (h _ (by omega) (by omega)).trans n1
 have e2 := (h _ (by omega) (by omega)).trans n2
 have e3 := (h _ (by omega) (by omega)).trans n3
 refine ⟨⟨some ⟨u.heap.size + 1 + 1 + 1, 0, none⟩, 3, rfl, fun e => by simp at e, Nat.le_refl _, by unfold maxLen; omega, fun i hi => ⟨_, 0, rfl, ?_⟩⟩, rfl, fun i a b => ?_⟩
 ·rw [cell_of e3, Nat.zero_add]
  match i, hi with
  | 0, _ => rfl
  | 1, _ => rfl
  | 2, _ => rfl
 ·match i, a, b with
  | 0, _, _ => exact one_sl (x := 97) e0
  | 1, _, _ => exact one_sl (x := 98) e1
  | 2, _, _ => exact one_sl (x := 99) e2
theorem str1 {B : Nat} {w : World} {ra : Option Addr} {rc : Nat} (h : Ob B w (.slice ra 1 rc) [98]) : (convert 54 9 (.slice ra 1 rc)).run Tryz.prog w = .ok (.string ⟨#[98]⟩) w := by
 obtain ⟨ao, ca, e, h2, h3, h4, h5⟩ := h.sl
 simp only [Value.slice.injEq] at e
 obtain ⟨rfl, _, rfl⟩ := e
 obtain ⟨b, off, rfl, _⟩ := h5 0 (by decide)
 refine run_convert_bytes_arg w 54 5 Tryz.underlying54 Tryz.underlying5 b off 1 rc [98] rfl (fun i hi => ?_) 9 Tryz.underlying9
 obtain ⟨b', off', e', hc⟩ := h5 i hi
 simp only [Option.some.injEq, Addr.mk.injEq] at e'
 obtain ⟨rfl, rfl, _⟩ := e'
 rw [hc]
 match i, hi with
 | 0, _ => rfl
theorem append3 {w q u : World} {stb b : Nat} {A : Nat → Prop} {p1 p2 : Nat} {D : Dr} {F : Nat → Fl} (h1 : KA q stb b 64 1 1 (Kst.new b 1 (DS.new ((65536 : Nat) : Int)) p1 p2) A) (h2 : ∀ k, A k → w.heap.size ≤ k) (h3 : Below w.heap.size w q) (h4 : SI b 65536 (Kst.new b 1 (DS.new ((65536 : Nat) : Int)) p1 p2) [] 0 [] ⟨(whF 1 1 0#32).2.1, hed (1 : Int).toNat (1 : Int).toNat 0#32, [], p1⟩ D F 8) (hsum : sumL F D ≤ 132) (hq : Below q.heap.size q u) (hT : Tab16 w) :
    Calls Tryz.prog 10 #[.pointer (some ⟨stb, 0, none⟩), .slice (some ⟨u.heap.size + 1 + 1 + 1, 0, none⟩) 3 3] (lit3 u) fun e w' => e = .returned (.tuple #[.int .i64 1, .int .i64 0]) ∧ SE w w' stb b 65536 64 1 4 3 [[97], [98], [99]] 2 60000 100 ∧ ∀ v, Below w'.heap.size w' v → Calls Tryz.prog 9 #[.pointer (some ⟨stb, 0, none⟩)] v fun e w' => e = .returned (.agg #[.int .i64 1, .int .i64 4, .int .i64 3, .int .i64 3, .int .i64 3, .bool false, .bool false, .int .i64 0]) ∧ Below v.heap.size v w' := by
 have hTb : 3 < w.heap.size := lt_of_cell hT
 have hlt := h1.lt
 have hqz := hq.size
 have hq3 : Below q.heap.size q (lit3 u) := hq.trans ((lit3_below u).mono hq.size)
 have h3' := h3.trans (hq3.mono h3.size)
 have hrs : shR 64 (Kst.new b 1 (DS.new ((65536 : Nat) : Int)) p1 p2).s.size ((Kst.new b 1 (DS.new ((65536 : Nat) : Int)) p1 p2).s.next == (Kst.new b 1 (DS.new ((65536 : Nat) : Int)) p1 p2).s.base) [[97], [98], [99]] = [(0, 1), (1, 2), (2, 3)] := by
  have e1 : (Kst.new b 1 (DS.new ((65536 : Nat) : Int)) p1 p2).s.size = 32 := rfl
  have e2 : ((Kst.new b 1 (DS.new ((65536 : Nat) : Int)) p1 p2).s.next == (Kst.new b 1 (DS.new ((65536 : Nat) : Int)) p1 p2).s.base) = true := by simp [Kst.new, newSG]
  rw [e1, e2]
  exact runs3
 refine (sappend_sj (h1.below hq3) (tab_below hT h3') (fun c => by have := h2 _ c; omega) h4 rfl (da_new b 1 _ p1 p2 _ rfl) _ _ 3 3 _ [[97], [98], [99]] (fun v A' hv => lit3_row (fun k k1 k2 => hv.but.block k (by rw [lit3_size]; omega) (fun c => by have := hlt k c; omega))) rfl (by decide) (by decide) (by decide) (by decide) (by decide) (by decide) [(0, 1), (1, 2), (2, 3)] hrs (by decide) (by decide) (by simp) (by simp; omega)).mono ?_
 rintro e w' ⟨rfl, hh⟩
 obtain ⟨K', A', ⟨i1, ci', se', ti', t', D', F', c', g1, g2, g3, g4, g5, g6, g7, g8, g9⟩, k1, k2⟩ := hh.out
 have hb := g9 (by decide)
 simp [runAt] at g2 g3 g4 g5 g6 g8 hb
 have hcl : ci'.length = 2 := by omega
 have hbs : K'.s.base = 3 := by rw [hb]
 have hnx : K'.s.next = 4 := by rw [g2]
 have hf : K'.f = 1 := g7
 have hg : K'.g = 3 := by rw [g1.g, hcl]; rfl
 have hcs : K'.cs.length = 3 := by rw [g1.cs]; simp [hcl]
 rw [hbs] at k1
 have k1' : KA w' stb b 64 4 3 K' A' := k1
 have hlk : ∀ v, Below w'.heap.size w' v → Calls Tryz.prog 9 #[.pointer (some ⟨stb, 0, none⟩)] v fun e w' => e = .returned (.agg #[.int .i64 1, .int .i64 4, .int .i64 3, .int .i64 3, .int .i64 3, .bool false, .bool false, .int .i64 0]) ∧ Below v.heap.size v w' := fun v hv => by
  have := (k1'.below hv).look
  rw [hf, hg, hcs] at this
  exact this
 refine ⟨rfl, ⟨K', A', ci', se', ti', t', D', F', c', k1', fun k hk => ?_, h3'.trans (k2.but.below h3'.size h2), g1, hnx, hf, by simpa using g8, by omega, by omega, by omega, by simp; omega, by decide, by decide, by omega⟩, hlk⟩
 rcases k2.own k hk with c | c
 ·exact h2 k c
 ·have := h3'.size; omega
set_option maxRecDepth 100000
theorem begun14_any (w : World) (hT : Tab16 w) : Calls Tryz.prog 5 #[] w fun e w' => e = .returned (.bool true) ∧ Below w.heap.size w w' := by
 have hN : Hid (Calls Tryz.prog 6 #[.int .i64 65536] w fun e w' => ∃ b O, e = .returned (.pointer (some ⟨b, 0, none⟩)) ∧ DskE w' b (DS.new ((65536 : Nat) : Int)) O ∧ Below w.heap.size w w' ∧ (∀ k, O k → w.heap.size ≤ k)) := hide (new_dsk w 65536 (by decide) (by decide))
 have hO : Hid (∀ q b O, DskE q b (DS.new ((65536 : Nat) : Int)) O → Below w.heap.size w q → (∀ k, O k → w.heap.size ≤ k) → Calls Tryz.prog 7 #[.pointer (some ⟨b, 0, none⟩), .agg #[.int .i64 64, .int .i64 1]] q fun e w' => ∃ stb p1 p2 A D F, e = .returned (.tuple #[.pointer (some ⟨stb, 0, none⟩), .agg #[.bool true, .int .i64 0, .int .i64 0], .int .i64 0]) ∧ KA w' stb b 64 1 1 (Kst.new b 1 (DS.new ((65536 : Nat) : Int)) p1 p2) A ∧ (∀ k, A k → w.heap.size ≤ k) ∧ Below w.heap.size w w' ∧
     SI b 65536 (Kst.new b 1 (DS.new ((65536 : Nat) : Int)) p1 p2) [] 0 [] ⟨(whF 1 1 0#32).2.1, hed (1 : Int).toNat (1 : Int).toNat 0#32, [], p1⟩ D F 8 ∧ sumL F D ≤ 132) := hide (fun q b O hd hB hl => open_se hd hB hl 64 1 (by decide) (by decide) (by decide) (by decide) (tab_below hT hB) (by decide))
 have hK : Hid (∀ q u stb b A p1 p2 D F, KA q stb b 64 1 1 (Kst.new b 1 (DS.new ((65536 : Nat) : Int)) p1 p2) A → SI b 65536 (Kst.new b 1 (DS.new ((65536 : Nat) : Int)) p1 p2) [] 0 [] ⟨(whF 1 1 0#32).2.1, hed (1 : Int).toNat (1 : Int).toNat 0#32, [], p1⟩ D F 8 → Below q.heap.size q u → Calls Tryz.prog 11 #[.pointer (some ⟨b, 0, none⟩)] u fun e w' => ∃ l0 l1 l2 l3 l4 l5 l6 l8, e = .returned (.agg #[.int .i64 l0, .int .i64 l1, .int .i64 l2, .int .i64 l3, .int .i64 l4, .int .i64 l5, .int .i64 l6, .int .i64 8, .int .i64 l8]) ∧ Below u.heap.size u w') := hide (fun q u stb b A p1 p2 D F h1 h4 hu => by
  obtain ⟨O, qi, qq, vC, vS, _, _, hR⟩ := h1.below hu
  have := count_dsk hR.dk
  unfold DS.cs at this
  rw [h4.ca.c7] at this
  refine this.mono ?_
  rintro e w' ⟨rfl, hb⟩
  exact ⟨_, _, _, _, _, _, _, _, rfl, hb⟩)
 have hAP : Hid (∀ q u stb b A p1 p2 D F, KA q stb b 64 1 1 (Kst.new b 1 (DS.new ((65536 : Nat) : Int)) p1 p2) A → (∀ k, A k → w.heap.size ≤ k) → Below w.heap.size w q → SI b 65536 (Kst.new b 1 (DS.new ((65536 : Nat) : Int)) p1 p2) [] 0 [] ⟨(whF 1 1 0#32).2.1, hed (1 : Int).toNat (1 : Int).toNat 0#32, [], p1⟩ D F 8 → sumL F D ≤ 132 → Below q.heap.size q u → Calls Tryz.prog 10 #[.pointer (some ⟨stb, 0, none⟩), .slice (some ⟨u.heap.size + 1 + 1 + 1, 0, none⟩) 3 3] ((((u.alloc (.cells #[.int .u8 97] 5 (1, 2))).alloc (.cells #[.int .u8 98] 5 (1, 2))).alloc (.cells #[.int .u8 99] 5 (1, 2))).alloc (.cells #[.slice (some ⟨u.heap.size, 0, none⟩) 1 1, .slice (some ⟨u.heap.size + 1, 0, none⟩) 1 1, .slice (some ⟨u.heap.size + 1 + 1, 0, none⟩) 1 1] 54)) fun e w' => e = .returned (.tuple #[.int .i64 1, .int .i64 0]) ∧ SE w w' stb b 65536 64 1 4 3 [[97], [98], [99]] 2 60000 100 ∧ ∀ v, Below w'.heap.size w' v → Calls Tryz.prog 9 #[.pointer (some ⟨stb, 0, none⟩)] v fun e w' => e = .returned (.agg #[.int .i64 1, .int .i64 4, .int .i64 3, .int .i64 3, .int .i64 3, .bool false, .bool false, .int .i64 0]) ∧ Below v.heap.size v w') := hide (fun q u stb b A p1 p2 D F h1 h2 h3 h4 h5 hu => append3 h1 h2 h3 h4 h5 hu hT)
 have hSY : Hid (∀ q wr stb b, SE w q stb b 65536 64 1 4 3 [[97], [98], [99]] 2 60000 100 → Below q.heap.size q wr → Calls Tryz.prog 12 #[.pointer (some ⟨stb, 0, none⟩)] wr fun e w' => e = .returned (.int .i64 0) ∧ SE w w' stb b 65536 64 1 4 4 [[97], [98], [99]] 2 60000 101 ∧ (∀ k, q.heap.size ≤ k → k < wr.heap.size → w'.heap[k]? = wr.heap[k]?)) := hide (fun q wr stb b h hq => h.sync hq (by decide))
 have hRD : Hid (∀ q stb b, SE w q stb b 65536 64 1 4 4 [[97], [98], [99]] 2 60000 101 → Calls Tryz.prog 14 #[.pointer (some ⟨stb, 0, none⟩), .int .i64 2] q fun e w' => ∃ ra rc, e = .returned (.tuple #[.agg #[.int .i64 2, .slice ra 1 rc], .int .i64 0]) ∧ Ob q.heap.size w' (.slice ra 1 rc) [98] ∧ Below q.heap.size q w') := hide (fun q stb b h => by
  refine (h.read (by decide) (by decide) (lsn := 2) (by decide) (by decide)).mono ?_
  rintro e w' ⟨vd, d, rfl, hOb, hL, hb⟩
  simp at hL
  subst hL
  obtain ⟨ra, rc, e1, _⟩ := hOb.form
  simp at e1
  subst e1
  exact ⟨ra, rc, rfl, hOb, hb⟩)
 have hf7 : ∀ (q : World) (k0 k1 k2 k3 k4 k5 k6 k8 : Int), (Instr.field 42 (.agg #[.int .i64 k0, .int .i64 k1, .int .i64 k2, .int .i64 k3, .int .i64 k4, .int .i64 k5, .int .i64 k6, .int .i64 8, .int .i64 k8]) 7).run Tryz.prog q = .ok (.int .i64 8) q := fun q k0 k1 k2 k3 k4 k5 k6 k8 => by kernel_rfl
 have kc := fun (w : World) (C : Array Value) (n c : Nat) => Lib.run_convert_bytes_const (P := Tryz.prog) w 54 5 C n c Tryz.underlying54 Tryz.underlying5
 go_enter Tryz.func5, Tryz.ntmps5
 go_upto_region 3 with (first
  | (go_at_call 6; refine hN.out.mono ?_; rintro e w1 ⟨b, O1, rfl, D1, B1, L1⟩; replace D1 := hide D1; replace B1 := hide B1; replace L1 := hide L1)
  | (go_at_call 7; refine (hO.out _ _ _ D1.out B1.out L1.out).mono ?_; rintro e w2 ⟨stb, p1, p2, A, D, F, rfl, h1, h2, h3, h4, h5⟩; replace h1 := hide h1; replace h2 := hide h2; replace h3 := hide h3; replace h4 := hide h4; replace h5 := hide h5))
 have N3 := heap_alloc_new w2 (.cells #[.bool true, .int .i64 0, .int .i64 0] 30)
 have B3 := hide (box_below w2 (.cells #[.bool true, .int .i64 0, .int .i64 0] 30))
 obtain ⟨X3, hX3⟩ : ∃ X, Hid (w2.alloc (.cells #[.bool true, .int .i64 0, .int .i64 0] 30) = X) := ⟨_, rfl⟩
 rw [hX3.out] at N3 B3
 rw [hX3.out]
 have x0 : X3.cell? ⟨w2.heap.size, 0, none⟩ = some (.bool true) := by rw [cell_of N3]; rfl
 clear N3 hX3 hN hO
 have CK := hide (hK.out w2 X3 stb b A p1 p2 D F h1.out h4.out B3.out)
 go_upto_region 5 with (go_at_call 11; refine CK.out.mono ?_; rintro e w3 ⟨l0, l1, l2, l3, l4, l5, l6, l8, rfl, b3⟩; replace b3 := hide b3)
 have B4 : Hid (Below w2.heap.size w2 w3) := hide (B3.out.trans (b3.out.mono B3.out.size))
 have AP := hide (hAP.out w2 w3 stb b A p1 p2 D F h1.out h2.out h3.out h4.out h5.out B4.out)
 clear CK hK hAP x0 B3 b3
 have kc2 := kc (w3.alloc (.cells #[.int .u8 97] 5 (1, 2))) #[.int .u8 98] 1 1
 rw [show (w3.alloc (.cells #[.int .u8 97] 5 (1, 2))).heap.size = w3.heap.size + 1 by simp] at kc2
 have kc3 := kc ((w3.alloc (.cells #[.int .u8 97] 5 (1, 2))).alloc (.cells #[.int .u8 98] 5 (1, 2))) #[.int .u8 99] 1 1
 rw [show ((w3.alloc (.cells #[.int .u8 97] 5 (1, 2))).alloc (.cells #[.int .u8 98] 5 (1, 2))).heap.size = w3.heap.size + 1 + 1 by simp] at kc3
 go_upto_region 6 with (go_at_call 10; refine AP.out.mono ?_; rintro e w4 ⟨rfl, s4, lk⟩; replace s4 := hide s4; replace lk := hide lk)
 have LK := hide (lk.out w4 (Below.refl _ _))
 clear AP B4 h1 h2 h3 h4 h5 lk kc kc2 kc3
 go_upto_region 7 with (go_at_call 9; refine LK.out.mono ?_; rintro e w5 ⟨rfl, b5⟩; replace b5 := hide b5)
 have N6 := heap_alloc_new w5 (.cells #[.int .i64 1, .int .i64 4, .int .i64 3, .int .i64 3, .int .i64 3, .bool false, .bool false, .int .i64 0] 37)
 have B6 := box_below w5 (.cells #[.int .i64 1, .int .i64 4, .int .i64 3, .int .i64 3, .int .i64 3, .bool false, .bool false, .int .i64 0] 37)
 obtain ⟨X6, hX6⟩ : ∃ X, Hid (w5.alloc (.cells #[.int .i64 1, .int .i64 4, .int .i64 3, .int .i64 3, .int .i64 3, .bool false, .bool false, .int .i64 0] 37) = X) := ⟨_, rfl⟩
 rw [hX6.out] at N6 B6
 rw [hX6.out]
 have SY := hide (hSY.out w5 X6 stb b (s4.out.below b5.out) B6)
 have h56 : Hid (w5.heap.size < X6.heap.size) := hide (heap_lt N6)
 replace N6 := hide N6
 clear B6 hX6 s4 b5 LK hSY
 go_upto_region 8 with (go_at_call 12; refine SY.out.mono ?_; rintro e w7 ⟨rfl, s7, n7⟩; replace s7 := hide s7; replace n7 := hide n7)
 have RD := hide (hRD.out w7 stb b s7.out)
 have N7 := hide ((n7.out _ (Nat.le_refl _) h56.out).trans N6.out)
 clear n7 N6 h56
 clear SY hRD
 go_upto_region 9 with (go_at_call 14; refine RD.out.mono ?_; rintro e w8 ⟨ra, rc, rfl, o8, b8⟩; replace o8 := hide o8; replace b8 := hide b8)
 have N9 := heap_alloc_new w8 (.cells #[.int .i64 2, .slice ra 1 rc] 56)
 have B9 := box_below w8 (.cells #[.int .i64 2, .slice ra 1 rc] 56)
 obtain ⟨X9, hX9⟩ : ∃ X, Hid (w8.alloc (.cells #[.int .i64 2, .slice ra 1 rc] 56) = X) := ⟨_, rfl⟩
 rw [hX9.out] at N9 B9
 rw [hX9.out]
 have K9 := str1 (o8.out.below B9)
 have y0 : X9.cell? ⟨w8.heap.size, 0, none⟩ = some (.int .i64 2) := by rw [cell_of N9]; rfl
 have y1 : X9.cell? ⟨w8.heap.size, 1, none⟩ = some (.slice ra 1 rc) := by rw [cell_of N9]; rfl
 have N10 := ((b8.out.trans (B9.mono b8.out.size)).block _ (heap_lt N7.out)).trans N7.out
 have z1 : X9.cell? ⟨w5.heap.size, 1, none⟩ = some (.int .i64 4) := by rw [cell_of N10]; rfl
 have z2 : X9.cell? ⟨w5.heap.size, 2, none⟩ = some (.int .i64 3) := by rw [cell_of N10]; rfl
 have z4 : X9.cell? ⟨w5.heap.size, 4, none⟩ = some (.int .i64 3) := by rw [cell_of N10]; rfl
 have FIN : Hid (Below w.heap.size w X9) := hide (((s7.out.below b8.out).below B9).be)
 clear N9 B9 hX9 o8 b8 s7 N7 N10 RD
 go_wp2_with fail
 go_ret
 exact ⟨rfl, FIN.out⟩
set_option maxRecDepth 100000
theorem lookFs : ∃ n0 n1 n2 n3 n4 n5 n6 n7 : String, Tryz.prog.underlying 37 = some (.struct (Tryz.prog.fieldsOf 37)) ∧ (Tryz.prog.fieldsOf 37).toList.map (fun f : Field => (f.name, f.type, f.offset)) = [(n0, 2, 0), (n1, 2, 1), (n2, 2, 2), (n3, 2, 3), (n4, 3, 4), (n5, 4, 5), (n6, 4, 6), (n7, 31, 7)] ∧ n0 ≠ "_" ∧ n1 ≠ "_" ∧ n2 ≠ "_" ∧ n3 ≠ "_" ∧ n4 ≠ "_" ∧ n5 ≠ "_" ∧ n6 ≠ "_" ∧ n7 ≠ "_" :=
 ⟨"First", "Next", "Durable", "Gen", "Segs", "Failed", "Closed", "Cause", by kernel_rfl, by kernel_rfl, by decide, by decide, by decide, by decide, by decide, by decide, by decide, by decide⟩
theorem lookHeld : Tryz.prog.stoodInHeld 37 = false := by kernel_rfl
theorem lookEq (w : World) (f nx du g : Int) (N : Int) : (Op.equalIn 10000 37 (.agg #[.int .i64 f, .int .i64 nx, .int .i64 du, .int .i64 g, .int .i64 N, .bool false, .bool false, .int .i64 0]) (.agg #[.int .i64 f, .int .i64 nx, .int .i64 du, .int .i64 g, .int .i64 N, .bool false, .bool false, .int .i64 0])).run Tryz.prog w = .ok true w := by
 obtain ⟨n0, n1, n2, n3, n4, n5, n6, n7, h1, h2, p0, p1, p2, p3, p4, p5, p6, p7⟩ := lookFs
 rw [run_equalIn_struct w 9999 37 _ _ h1 lookHeld]
 generalize (Tryz.prog.fieldsOf 37).toList = fs at h2
 have hl : fs.length = 8 := by have := congrArg List.length h2; simpa using this
 match fs, hl with
 | [f0, f1, f2, f3, f4, f5, f6, f7], _ =>
  simp only [List.map_cons, List.map_nil, List.cons.injEq, Prod.mk.injEq, and_true] at h2
  obtain ⟨⟨a1, a2, a3⟩, ⟨b1, b2, b3⟩, ⟨c1, c2, c3⟩, ⟨d1, d2, d3⟩, ⟨e1, e2, e3⟩, ⟨g1, g2, g3⟩, ⟨i1, i2, i3⟩, ⟨j1, j2, j3⟩⟩ := h2
  rw [← a1] at p0
  rw [← b1] at p1
  rw [← c1] at p2
  rw [← d1] at p3
  rw [← e1] at p4
  rw [← g1] at p5
  rw [← i1] at p6
  rw [← j1] at p7
  simp [Op.eqFields, p0, p1, p2, p3, p4, p5, p6, p7, a2, a3, b2, b3, c2, c3, d2, d3, e2, e3, g2, g3, i2, i3, j2, j3, go_sem]
theorem lookNeq (w : World) (f nx du g : Int) (N : Int) : (binOp .neq 37 (.agg #[.int .i64 f, .int .i64 nx, .int .i64 du, .int .i64 g, .int .i64 N, .bool false, .bool false, .int .i64 0]) (.agg #[.int .i64 f, .int .i64 nx, .int .i64 du, .int .i64 g, .int .i64 N, .bool false, .bool false, .int .i64 0])).run Tryz.prog w = .ok (.bool false) w := by
 rw [run_neq_struct, lookEq]
 rfl
theorem infoBs9 : (Tryz.prog.info? 54).map (fun i => (i.zero, i.size, i.bytes)) = some (some (.slice none 0 0), 1, 24) := by kernel_rfl
theorem nils_run (n : Nat) (hn : n ≤ 1000) : (∀ u : World, (Instr.makeSlice 35 (.int .i64 (n : Int)) (.int .i64 (n : Int))).run Tryz.prog u = .ok (.slice (some ⟨u.heap.size, 0, none⟩) n n) (u.alloc (.cells (madeCells #[.slice none 0 0] n) 54))) := by
 obtain ⟨i0, hi, hz0, hz1, hz2⟩ := info_parts infoBs9
 intro u
 rw [run_make u 35 54 i0 (.slice none 0 0) Tryz.underlying35 hi hz0 .i64 .i64 (n : Int) (n : Int) (by omega) (by omega) (by rw [hz2]; omega) (by omega), hz1]
 simp only [Int.toNat_natCast, Nat.mul_one]
 rfl
theorem nils_row {u : World} {g n : Nat} (hn : n ≤ 1000) (h : u.heap[g]? = some (.cells (madeCells #[.slice none 0 0] n) 54 (0, 0))) : Row u (.slice (some ⟨g, 0, none⟩) n n) (List.replicate n (.slice none 0 0)) ∧ Sls u (List.replicate n (.slice none 0 0)) (List.replicate n []) := by
 refine ⟨⟨some ⟨g, 0, none⟩, n, by simp, fun e => by simp at e, by simp, by unfold maxLen; omega, fun i hi => ⟨_, _, rfl, ?_⟩⟩, by simp, fun i a b => by simp; exact Sl.nil u⟩
 rw [cell_of h, ← Array.getElem?_toList, toList_madeCells_one]
 simp only [Nat.zero_add]
 exact List.getElem?_eq_getElem hi
theorem SE.mono {w wr : World} {stb b M : Nat} {m f0 nx du : Int} {L : List (List UInt8)} {q z q' z' : Nat} {c0 c1 : Int} (h : SE w wr stb b M m f0 nx du L q z c0) (h1 : q ≤ q') (h2 : z ≤ z') (h3 : c0 ≤ c1) : SE w wr stb b M m f0 nx du L q' z' c1 := by
 obtain ⟨K, A, ci, se, ti, t, D, F, c, a1, a2, a3, a4, a5, a6, a7, a8, a9, a10, a11⟩ := h
 exact ⟨K, A, ci, se, ti, t, D, F, c, a1, a2, a3, a4, a5, a6, a7, by omega, by omega, by omega, a11⟩
def EI (w wr : World) (stb b : Nat) (ba : Int) (T i : Nat) : Prop := ∃ (du : Int) (L : List (List UInt8)), L.length = T ∧ SE w wr stb b 1048576 100 ba (ba + (T : Int)) du L T (132 + T * 4112 + (T + i) * 5000) (8 + 20 * ((T : Int) + (i : Int)) + (i : Int))
theorem EI.next {w wr : World} {stb b : Nat} {ba : Int} {T i : Nat} (h : EI w wr stb b ba T i) : EI w wr stb b ba T (i + 1) := by
 obtain ⟨du, L, h1, h2⟩ := h
 exact ⟨du, L, h1, h2.mono (Nat.le_refl _) (by omega) (by omega)⟩
theorem EI.below {w wr q : World} {stb b : Nat} {ba : Int} {T i : Nat} (h : EI w wr stb b ba T i) (hb : Below wr.heap.size wr q) : EI w q stb b ba T i := by
 obtain ⟨du, L, h1, h2⟩ := h
 exact ⟨du, L, h1, h2.below hb⟩
theorem EI.be {w wr : World} {stb b : Nat} {ba : Int} {T i : Nat} (h : EI w wr stb b ba T i) : Below w.heap.size w wr := by
 obtain ⟨du, L, h1, h2⟩ := h
 exact h2.be
open Ix (wp_region_T wpAnyT wpAnyT_take wpAnyT_one wpAnyT_done vac)
set_option maxRecDepth 100000
theorem ints_get9 {w : World} {ao : Option Addr} {us : List Int} {k : IntKind} (g5 : Proofs.YtnimildpcnmjeaaGreatDoor.At w ao (us.map (Value.int k))) : ∀ i (hi : i < us.length), ∃ b off, ao = some ⟨b, off, none⟩ ∧ w.cell? ⟨b, off + i, none⟩ = some (.int k us[i]) := fun i hi => by
 obtain ⟨b, off, e, hc⟩ := g5 i (by simpa using hi)
 exact ⟨b, off, e, by rw [hc]; simp⟩
theorem rel_nx {j i : Nat} (h : j < i) : j + 1 ≤ i ∧ Value.int IntKind.i64 ((j : Int) + 1) = Value.int IntKind.i64 ((j + 1 : Nat) : Int) ∧ i - (intOf (Value.int IntKind.i64 ((j : Int) + 1))).toNat < i - (intOf (Value.int IntKind.i64 (j : Int))).toNat := by
 refine ⟨by omega, congrArg (Value.int IntKind.i64) (by omega), ?_⟩
 simp [intOf]
 omega
theorem ends_walk (w : World) (hT : Tab16 w) (left : Int) (z : Value) (ns : List Int) (hz : Row w z (ns.map (Value.int .i64))) (hu : ∀ u ∈ ns, -9223372036854775808 ≤ u ∧ u ≤ 9223372036854775807) :
    Calls Tryz.prog 4 #[.int .i64 left, z] w fun e w' => e = .returned (.bool true) ∧ Below w.heap.size w w' := by
 obtain ⟨ao, ca, rfl, _, g3, g4, g5⟩ := hz
 have ham : ca ≤ 9223372036854775807 := by unfold maxLen at g4; omega
 have HU := hide hu
 have HZ := hide (ints_get9 g5)
 have HT := hide hT
 rw [List.length_map] at g3
 obtain ⟨N, hN⟩ : ∃ N, Hid (ns.length = N) := ⟨_, rfl⟩
 rw [List.length_map, hN.out]
 rw [hN.out] at g3
 clear g4 g5 hu
 have hB := hide (begun14_any w hT)
 clear hT
 by_cases hl0 : left < 0
 ·go_enter Tryz.func4, Tryz.ntmps4
  go_wp2_with (go_at_call 5; refine hB.out.mono ?_; rintro e w1 ⟨rfl, B1⟩; replace B1 := hide B1)
  go_ret
  exact ⟨rfl, B1.out⟩
 by_cases hl1 : left > 40
 ·go_enter Tryz.func4, Tryz.ntmps4
  go_wp2_with (go_at_call 5; refine hB.out.mono ?_; rintro e w1 ⟨rfl, B1⟩; replace B1 := hide B1)
  go_ret
  exact ⟨rfl, B1.out⟩
 obtain ⟨NL, rfl⟩ := Int.eq_ofNat_of_zero_le (show 0 ≤ left by omega)
 have hNL : NL ≤ 40 := by omega
 have m1 : decide ((NL : Int) < 0) = false := by simp
 have m2 : decide ((NL : Int) > 40) = false := by simp; omega
 obtain ⟨ba, hba⟩ : ∃ ba : Int, Hid (ba = 9223372036854775807 - (NL : Int)) := ⟨_, rfl⟩
 have hw : IntKind.i64.wrap (9223372036854775807 - (NL : Int)) = ba := by rw [IntKind.wrap_i64, hba.out]; omega
 have hb1 : 1 ≤ ba := by have := hba.out; omega
 have hb2 : ba ≤ 9223372036854775807 := by have := hba.out; omega
 have hD : Hid (∀ q, Calls Tryz.prog 6 #[.int .i64 1048576] q fun e w' => ∃ b O, e = .returned (.pointer (some ⟨b, 0, none⟩)) ∧ DskE w' b (DS.new ((1048576 : Nat) : Int)) O ∧ Below q.heap.size q w' ∧ (∀ k, O k → q.heap.size ≤ k)) := hide (fun q => new_dsk q 1048576 (by decide) (by decide))
 have hO : Hid (∀ q b O, DskE q b (DS.new ((1048576 : Nat) : Int)) O → Below w.heap.size w q → (∀ k, O k → w.heap.size ≤ k) → Calls Tryz.prog 7 #[.pointer (some ⟨b, 0, none⟩), .agg #[.int .i64 100, .int .i64 ba]] q fun e w' => ∃ stb, e = .returned (.tuple #[.pointer (some ⟨stb, 0, none⟩), .agg #[.bool true, .int .i64 0, .int .i64 0], .int .i64 0]) ∧ EI w w' stb b ba 0 0) := hide (fun q b O hd hq hl => by
  refine (open_se hd hq hl 100 ba (by decide) (by decide) hb1 hb2 (tab_below HT.out hq) (by decide)).mono ?_
  rintro e w' ⟨stb, p1, p2, A, D, F, rfl, k1, k2, k3, k4, k5⟩
  refine ⟨stb, rfl, ba, [], rfl, _, A, _, _, _, _, D, F, 8, by simpa using k1, k2, k3, k4, by simp [Kst.new, newSG], rfl, da_new b ba _ p1 p2 _ rfl, by simp, by omega, by omega, by simp, by omega, by omega, by simp [Kst.new, newSG]⟩)
 have kf1 : ∀ (u : World) (f nx du g N : Int), (Instr.field 37 (.agg #[.int .i64 f, .int .i64 nx, .int .i64 du, .int .i64 g, .int .i64 N, .bool false, .bool false, .int .i64 0]) 1).run Tryz.prog u = .ok (.int .i64 nx) u := fun u f nx du g N => by kernel_rfl
 have kf5 : ∀ (u : World) (f nx du g N : Int), (Instr.field 37 (.agg #[.int .i64 f, .int .i64 nx, .int .i64 du, .int .i64 g, .int .i64 N, .bool false, .bool false, .int .i64 0]) 5).run Tryz.prog u = .ok (.bool false) u := fun u f nx du g N => by kernel_rfl
 have kne := lookNeq
 go_enter Tryz.func4, Tryz.ntmps4
 go_upto_region 6 with (first
  | (go_at_call 5; refine hB.out.mono ?_; rintro e w1 ⟨rfl, B1⟩; replace B1 := hide B1)
  | (go_at_call 6; refine (hD.out _).mono ?_; rintro e w2 ⟨b, O2, rfl, D2, B2, L2⟩; have E2 := hide (B1.out.trans (B2.mono B1.out.size)); have L2' : Hid (∀ k, O2 k → w.heap.size ≤ k) := hide (fun k hk => Nat.le_trans B1.out.size (L2 k hk)); replace D2 := hide D2; clear B2 L2)
  | (go_at_call 7; refine (hO.out _ _ _ D2.out E2.out L2'.out).mono ?_; rintro e w3 ⟨stb, rfl, e3⟩; replace e3 := hide e3))
 have B4 := box_below w3 (.cells #[.bool true, .int .i64 0, .int .i64 0] 30)
 obtain ⟨X4, hX4⟩ : ∃ X, Hid (w3.alloc (.cells #[.bool true, .int .i64 0, .int .i64 0] 30) = X) := ⟨_, rfl⟩
 rw [hX4.out] at B4
 rw [hX4.out]
 have e4 := hide (e3.out.below B4)
 clear hB hD hO B1 D2 E2 L2' e3 B4 hX4 m1 m2 hw
 go_wp2_with fail
 go_loopw [0, 8] (fun v0 v8 wr => ∃ T i : Nat, i ≤ N ∧ i ≤ 30 ∧ T ≤ NL ∧ v0 = .int .i64 ((NL : Int) - (T : Int)) ∧ v8 = .int .i64 (i : Int) ∧ Hid (EI w wr stb b ba T i)) (fun _ v8 _ => N - (intOf v8).toNat)
 case atStart => exact ⟨0, 0, by omega, by omega, by omega, by simp, rfl, e4⟩
 case round =>
  clear e4
  obtain ⟨T, i, hi, hi30, hTN, rfl, rfl, hE⟩ := hrel
  obtain ⟨du, L, hLT, hS⟩ := hE.out
  have hS := hide hS
  obtain ⟨g, Nn, hlk⟩ := hS.out.look
  have LK : Hid (∀ u, Below wr.heap.size wr u → Calls Tryz.prog 9 #[.pointer (some ⟨stb, 0, none⟩)] u fun e w' => e = .returned (.agg #[.int .i64 ba, .int .i64 (ba + (T : Int)), .int .i64 du, .int .i64 g, .int .i64 (Nn : Int), .bool false, .bool false, .int .i64 0]) ∧ Below u.heap.size u w') := hide hlk
  clear hlk
  have hwl : IntKind.i64.wrap (9223372036854775807 - ((NL : Int) - (T : Int))) = ba + (T : Int) := by have := hba.out; rw [IntKind.wrap_i64]; omega
  by_cases hlt : ¬ (i < N ∧ i < 30)
  ·have LK1 := hide (LK.out wr (Below.refl _ _))
   have BE := hide hE.out.be
   by_cases hlt1 : i = N
   ·subst hlt1
    clear hE hS hlt
    go_wp2_with (first
     | (go_at_call 9; refine LK1.out.mono ?_; rintro e w5 ⟨rfl, b5⟩; clear LK1; have LK2 := hide (LK.out w5 b5); replace BE := hide (BE.out.trans (b5.mono BE.out.size)); clear b5)
     | (go_at_call 9; refine LK2.out.mono ?_; rintro e w6 ⟨rfl, b6⟩; replace BE := hide (BE.out.trans (b6.mono BE.out.size)); clear b6))
    go_ret
    exact ⟨by first | rfl | simp, BE.out⟩
   ·have e30 : i = 30 := by omega
    have hlt2 : (i : Int) < (N : Int) := by omega
    subst e30
    clear hE hS hlt
    go_wp2_with (first
     | (go_at_call 9; refine LK1.out.mono ?_; rintro e w5 ⟨rfl, b5⟩; clear LK1; have LK2 := hide (LK.out w5 b5); replace BE := hide (BE.out.trans (b5.mono BE.out.size)); clear b5)
     | (go_at_call 9; refine LK2.out.mono ?_; rintro e w6 ⟨rfl, b6⟩; replace BE := hide (BE.out.trans (b6.mono BE.out.size)); clear b6))
    go_ret
    exact ⟨by first | rfl | simp, BE.out⟩
  have hiN : i < N := by omega
  have hi3 : i < 30 := by omega
  have hlt' : (i : Int) < (N : Int) := by omega
  have h30' : (i : Int) < 30 := by omega
  have RS := hide (rel_nx hiN)
  have kwi : IntKind.i64.wrap ((i : Int) + 1) = (i : Int) + 1 := by rw [IntKind.wrap_i64]; omega
  obtain ⟨qb, qo, rfl, q00⟩ := HZ.out i (by rw [hN.out]; omega)
  have hux := HU.out _ (List.getElem_mem (show i < ns.length by rw [hN.out]; omega))
  generalize ns[i]'(by rw [hN.out]; omega) = x at *
  have QC : Hid (∀ q, Below w.heap.size w q → q.cell? ⟨qb, qo + i, none⟩ = some (.int .i64 x)) := hide (fun q hq => by rw [hq.cell (p := ⟨qb, qo + i, none⟩) (lt_of_cell q00)]; exact q00)
  have q0 := QC.out wr hE.out.be
  clear q00
  by_cases hx1 : x < 1
  ·have JN := hide hE.out.next
   clear hE hS LK
   go_wp2_with fail
   exact ⟨⟨T, i + 1, RS.out.1, by omega, hTN, rfl, RS.out.2.1, JN⟩, RS.out.2.2⟩
  by_cases hx2 : x > 50
  ·have JN := hide hE.out.next
   clear hE hS LK
   go_wp2_with fail
   exact ⟨⟨T, i + 1, RS.out.1, by omega, hTN, rfl, RS.out.2.1, JN⟩, RS.out.2.2⟩
  obtain ⟨k, rfl⟩ : ∃ k : Nat, x = (k : Int) := ⟨x.toNat, by omega⟩
  have n1 : decide ((k : Int) < 1) = false := by simp; omega
  have n2 : decide ((k : Int) > 50) = false := by simp; omega
  have hk1 : 1 ≤ k := by omega
  have hk5 : k ≤ 50 := by omega
  have hmk := nils_run k (by omega)
  have LK1 := hide (LK.out wr (Below.refl _ _))
  clear hux hx1 hx2
  go_upto_region 13 with (go_at_call 9; refine LK1.out.mono ?_; rintro e w5 ⟨rfl, b5⟩; replace b5 := hide b5)
  have B6 := box_below w5 (.cells #[.int .i64 ba, .int .i64 (ba + (T : Int)), .int .i64 du, .int .i64 g, .int .i64 (Nn : Int), .bool false, .bool false, .int .i64 0] 37)
  have N6 := heap_alloc_new w5 (.cells #[.int .i64 ba, .int .i64 (ba + (T : Int)), .int .i64 du, .int .i64 g, .int .i64 (Nn : Int), .bool false, .bool false, .int .i64 0] 37)
  obtain ⟨X6, hX6⟩ : ∃ X, Hid (w5.alloc (.cells #[.int .i64 ba, .int .i64 (ba + (T : Int)), .int .i64 du, .int .i64 g, .int .i64 (Nn : Int), .bool false, .bool false, .int .i64 0] 37) = X) := ⟨_, rfl⟩
  rw [hX6.out] at B6 N6
  rw [hX6.out]
  have C6 : Hid (Below wr.heap.size wr X6) := hide (b5.out.trans (B6.mono b5.out.size))
  have W6 := hide (hE.out.be.trans (C6.out.mono hE.out.be.size))
  replace q0 := QC.out X6 W6.out
  have B7 := box_below X6 (.cells (madeCells #[.slice none 0 0] k) 54)
  have N7 := heap_alloc_new X6 (.cells (madeCells #[.slice none 0 0] k) 54)
  have C7 : Hid (Below wr.heap.size wr (X6.alloc (.cells (madeCells #[.slice none 0 0] k) 54))) := hide (C6.out.trans (B7.mono C6.out.size))
  have W7 := hide (hE.out.be.trans (C7.out.mono hE.out.be.size))
  have N67 := (B7.block _ (heap_lt N6)).trans N6
  have hnx := hba.out
  by_cases hlk : (k : Int) > (NL : Int) - (T : Int)
  ·obtain ⟨row7, sls7⟩ := nils_row (n := k) (by omega) N7
   have RF := hide (hS.out.refuse C7.out _ _ _ row7 sls7 (by omega) (by omega) (fun e => by have := congrArg List.length e; simp at this; omega) (fun d hd => by simp at hd; rw [hd.2]; simp) (by simp; omega))
   have HB6 : Hid (∀ q, Below (X6.alloc (.cells (madeCells #[.slice none 0 0] k) 54)).heap.size (X6.alloc (.cells (madeCells #[.slice none 0 0] k) 54)) q → q.heap[w5.heap.size]? = some (.cells #[.int .i64 ba, .int .i64 (ba + (T : Int)), .int .i64 du, .int .i64 g, .int .i64 (Nn : Int), .bool false, .bool false, .int .i64 0] 37) ∧ Below w.heap.size w q ∧ Below wr.heap.size wr q) := hide (fun q hq => ⟨(hq.block _ (heap_lt N67)).trans N67, W7.out.trans (hq.mono W7.out.size), C7.out.trans (hq.mono C7.out.size)⟩)
   clear B6 N6 hX6 B7 N7 N67 row7 sls7 hE C6 W6 C7 W7 b5 LK1 hnx
   go_upto_region 15 with (go_at_call 10; refine RF.out.mono ?_; rintro e w8 ⟨rfl, s8, b8⟩; replace s8 := hide s8; obtain ⟨h8, wb8, wr8⟩ := HB6.out w8 b8; replace q0 := QC.out w8 wb8; obtain ⟨y0, y1, y2, y3, y4, y5, y6, y7⟩ := (show ∀ j, w8.cell? ⟨w5.heap.size, j, none⟩ = (#[.int .i64 ba, .int .i64 (ba + (T : Int)), .int .i64 du, .int .i64 g, .int .i64 (Nn : Int), .bool false, .bool false, .int .i64 0] : Array Value)[j]? from fun j => cell_of h8) |> fun f => (⟨f 0, f 1, f 2, f 3, f 4, f 5, f 6, f 7⟩ : _ ∧ _ ∧ _ ∧ _ ∧ _ ∧ _ ∧ _ ∧ _); simp only [List.getElem?_toArray, List.getElem?_cons_zero, List.getElem?_cons_succ] at y0 y1 y2 y3 y4 y5 y6 y7; replace wr8 := hide wr8; clear b8 h8 wb8)
   have KP : Hid (w8.drew.cell? ⟨w5.heap.size, 0, none⟩ = some (.int .i64 ba) ∧ w8.drew.cell? ⟨w5.heap.size, 1, none⟩ = some (.int .i64 (ba + (T : Int))) ∧ w8.drew.cell? ⟨w5.heap.size, 2, none⟩ = some (.int .i64 du) ∧ w8.drew.cell? ⟨w5.heap.size, 3, none⟩ = some (.int .i64 g) ∧ w8.drew.cell? ⟨w5.heap.size, 4, none⟩ = some (.int .i64 (Nn : Int)) ∧ w8.drew.cell? ⟨w5.heap.size, 5, none⟩ = some (.bool false) ∧ w8.drew.cell? ⟨w5.heap.size, 6, none⟩ = some (.bool false) ∧ w8.drew.cell? ⟨w5.heap.size, 7, none⟩ = some (.int .i64 0)) := hide ⟨y0, y1, y2, y3, y4, y5, y6, y7⟩
   have DQ : Below w8.heap.size w8 w8.drew := (Below.refl _ _).drew
   have SQ : Hid (EI w w8.drew stb b ba T (i + 1) ∧ Below wr.heap.size wr w8.drew) := hide ⟨EI.next (i := i) ⟨du, L, hLT, s8.out.below DQ⟩, wr8.out.trans (DQ.mono wr8.out.size)⟩
   clear DQ y0 y1 y2 y3 y4 y5 y6 y7 q0 s8 wr8 RF HB6
   generalize w5.heap.size = p9 at *
   refine wp_region_T (fun q => q.cell? ⟨p9, 0, none⟩ = some (.int .i64 ba) ∧ q.cell? ⟨p9, 1, none⟩ = some (.int .i64 (ba + (T : Int))) ∧ q.cell? ⟨p9, 2, none⟩ = some (.int .i64 du) ∧ q.cell? ⟨p9, 3, none⟩ = some (.int .i64 g) ∧ q.cell? ⟨p9, 4, none⟩ = some (.int .i64 (Nn : Int)) ∧ q.cell? ⟨p9, 5, none⟩ = some (.bool false) ∧ q.cell? ⟨p9, 6, none⟩ = some (.bool false) ∧ q.cell? ⟨p9, 7, none⟩ = some (.int .i64 0)) 11 (by kernel_rfl) ?_
   generalize w8.drew = q at *
   refine Ix.tk 0 ⟨some 77, .move (.tmp 10), _, _, _, _⟩ (.int .i64 0) [1,2,5,6,11] ?_ KP.out ?_
   ·intro wq hSw; go_simp
   (try simp only [zzp, zzb, zzc])
   refine Ix.tk 1 ⟨some 78, .binOp .neq 2 (.tmp 77) (.const (Value.int IntKind.i64 0)) 2, _, _, _, _⟩ (.bool false) [2,5,6,11] ?_ KP.out ?_
   ·intro wq hSw
    obtain ⟨y0, y1, y2, y3, y4, y5, y6, y7⟩ := hSw
    go_simp
   (try simp only [zzp, zzb, zzc])
   refine Ix.tk 2 ⟨some 79, .move (.tmp 78), _, _, _, _⟩ (.bool false) [5,6,11] ?_ KP.out ?_
   ·intro wq hSw; go_simp
   (try simp only [zzp, zzb, zzc])
   refine Ix.tk 3 ⟨some 80, .move (.tmp 11), _, _, _, _⟩ (.int .i64 44) [4,5,6,11] ?_ KP.out ?_
   ·intro wq hSw; go_simp
   (try simp only [zzp, zzb, zzc])
   refine Ix.tk 4 ⟨some 81, .binOp .neq 31 (.tmp 80) (.const (Value.int IntKind.i64 44)) 31, _, _, _, _⟩ (.bool false) [5,6,11] ?_ KP.out ?_
   ·intro wq hSw
    obtain ⟨y0, y1, y2, y3, y4, y5, y6, y7⟩ := hSw
    go_simp
   (try simp only [zzp, zzb, zzc])
   refine Ix.tk 5 ⟨some 82, .pick (.tmp 79) (.const (Value.bool true)) (.tmp 81), _, _, _, _⟩ (.bool false) [6,11] ?_ KP.out ?_
   ·intro wq hSw
    obtain ⟨y0, y1, y2, y3, y4, y5, y6, y7⟩ := hSw
    go_simp
   (try simp only [zzp, zzb, zzc])
   refine Ix.tk 6 ⟨some 83, .move (.tmp 82), _, _, _, _⟩ (.bool false) [11] ?_ KP.out ?_
   ·intro wq hSw; go_simp
   (try simp only [zzp, zzb, zzc])
   refine Ix.tk 7 ⟨some 84, .move (.tmp 5), _, _, _, _⟩ (.pointer (some ⟨stb, 0, none⟩)) [8,10,11] ?_ KP.out ?_
   ·intro wq hSw; go_simp
   (try simp only [zzp, zzb, zzc])
   refine Ix.tk 9 ⟨some 86, .load 37 (.tmp 9), _, _, _, _⟩ (.agg #[.int .i64 ba, .int .i64 (ba + (T : Int)), .int .i64 du, .int .i64 g, .int .i64 (Nn : Int), .bool false, .bool false, .int .i64 0]) [10,11] ?_ KP.out ?_
   ·intro wq hSw
    obtain ⟨y0, y1, y2, y3, y4, y5, y6, y7⟩ := hSw
    go_simp
   (try simp only [zzp, zzb, zzc])
   refine wpAnyT_one (i := 8) (o := ⟨some 85, .call { callee := .value (.func 9), args := #[.tmp 84], argTypes := #[28] }, _, _, _, _⟩) (by kernel_rfl) rfl (fun K hK => ?_)
   go_simp
   go_at_call 9
   refine (LK.out q SQ.out.2).mono ?_
   rintro e w9 ⟨rfl, b9⟩
   have KQ : Hid (w9.cell? ⟨p9, 0, none⟩ = some (.int .i64 ba) ∧ w9.cell? ⟨p9, 1, none⟩ = some (.int .i64 (ba + (T : Int))) ∧ w9.cell? ⟨p9, 2, none⟩ = some (.int .i64 du) ∧ w9.cell? ⟨p9, 3, none⟩ = some (.int .i64 g) ∧ w9.cell? ⟨p9, 4, none⟩ = some (.int .i64 (Nn : Int)) ∧ w9.cell? ⟨p9, 5, none⟩ = some (.bool false) ∧ w9.cell? ⟨p9, 6, none⟩ = some (.bool false) ∧ w9.cell? ⟨p9, 7, none⟩ = some (.int .i64 0)) := hide (by
    obtain ⟨y0, y1, y2, y3, y4, y5, y6, y7⟩ := KP.out
    exact ⟨(b9.cell (lt_of_cell y0)).trans y0, (b9.cell (lt_of_cell y1)).trans y1, (b9.cell (lt_of_cell y2)).trans y2, (b9.cell (lt_of_cell y3)).trans y3, (b9.cell (lt_of_cell y4)).trans y4, (b9.cell (lt_of_cell y5)).trans y5, (b9.cell (lt_of_cell y6)).trans y6, (b9.cell (lt_of_cell y7)).trans y7⟩)
   have E9 := hide (SQ.out.1.below b9)
   refine hK.out _ _ (fun _ => KQ.out) ?_
   clear hK K b9
   (try simp only [zzp, zzb, zzc])
   refine wpAnyT_one (i := 10) (o := ⟨some 87, .binOp .neq 37 (.tmp 85) (.tmp 86) 37, _, _, _, _⟩) (by kernel_rfl) rfl (fun K hK => ?_)
   go_simp
   refine hK.out _ _ (fun _ => KQ.out) ?_
   clear hK K
   (try simp only [zzp, zzb, zzc])
   refine wpAnyT_one (i := 11) (o := ⟨some 88, .pick (.tmp 83) (.const (Value.bool true)) (.tmp 87), _, _, _, _⟩) (by kernel_rfl) rfl (fun K hK => ?_)
   go_simp
   refine hK.out _ _ (vac (by kernel_rfl)) ?_
   clear hK K
   (try simp only [zzp, zzb, zzc])
   refine wpAnyT_done (by kernel_rfl) ?_ _
   clear KQ KP SQ LK
   go_wp2_with fail
   exact ⟨⟨T, i + 1, RS.out.1, by omega, hTN, rfl, RS.out.2.1, E9⟩, RS.out.2.2⟩
  ·have hkT : T + k ≤ NL := by omega
   have n3 : decide ((k : Int) > (NL : Int) - (T : Int)) = false := by simp; omega
   have hz7 : (X6.alloc (.cells (madeCells #[.slice none 0 0] k) 54)).heap.size = X6.heap.size + 1 := by simp
   have hwx := C6.out.size
   have AP := hide (hS.out.append C7.out (tab_below HT.out W7.out) (lt_of_cell HT.out) X6.heap.size 0 k k (List.replicate k (.slice none 0 0)) (List.replicate k []) (fun u hu => nils_row (by omega) ((hu X6.heap.size hwx (by rw [hz7]; omega)).trans N7)) (by simp) hk1 (fun d hd => by simp at hd; rw [hd.2]; simp) (by omega) (by omega) (by omega) (by omega) (by omega))
   have P6 : Hid (wr.heap.size ≤ w5.heap.size ∧ w5.heap.size < (X6.alloc (.cells (madeCells #[.slice none 0 0] k) 54)).heap.size) := hide ⟨b5.out.size, heap_lt N67⟩
   have N67 := hide N67
   clear B6 N6 hX6 B7 N7 hE C6 W6 C7 W7 b5 LK1 hz7 hwx hS LK hnx
   go_upto_region 14 with (go_at_call 10; go_loud (refine AP.out.mono ?_; rintro e w8 ⟨rfl, du', s8, n8⟩; have h8 := (n8 _ P6.out.1 P6.out.2).trans N67.out; have y1 := cell_of (j := 1) h8; simp only [List.getElem?_toArray, List.getElem?_cons_zero, List.getElem?_cons_succ] at y1; replace q0 := QC.out w8 s8.be; replace s8 := hide s8; clear n8 h8))
   have SY := hide (s8.out.sync (Below.refl _ _) (by omega))
   have hwk : IntKind.i64.wrap ((NL : Int) - (T : Int) - (k : Int)) = (NL : Int) - (T : Int) - (k : Int) := by rw [IntKind.wrap_i64]; omega
   clear AP P6 N67 s8
   go_upto_region 22 with (go_at_call 12; refine SY.out.mono ?_; rintro e w9 ⟨rfl, s9, _⟩; replace q0 := QC.out w9 s9.be; replace s9 := hide s9)
   have RD := hide (s9.out.read (by have := hba.out; omega) (by omega) (lsn := ba + (T : Int)) (by omega) (by omega))
   clear SY y1
   go_upto_region 23 with (go_at_call 14; refine RD.out.mono ?_; rintro e w10 ⟨vd, d, rfl, od, _, b10⟩; obtain ⟨da, dc, ed, _⟩ := od.form; subst ed; clear od; replace b10 := hide b10)
   generalize d.length = dl at *
   have B11 := box_below w10 (.cells #[.int .i64 (ba + (T : Int)), .slice da dl dc] 56)
   have N11 := heap_alloc_new w10 (.cells #[.int .i64 (ba + (T : Int)), .slice da dl dc] 56)
   obtain ⟨X11, hX11⟩ : ∃ X, Hid (w10.alloc (.cells #[.int .i64 (ba + (T : Int)), .slice da dl dc] 56) = X) := ⟨_, rfl⟩
   rw [hX11.out] at B11 N11
   rw [hX11.out]
   have y0 := cell_of (j := 0) N11
   simp only [List.getElem?_toArray, List.getElem?_cons_zero] at y0
   have JN : Hid (EI w X11 stb b ba (T + k) (i + 1)) := hide (by
    have s11 := (s9.out.below b10.out).below B11
    refine ⟨ba + (T : Int) + (k : Int), L ++ List.replicate k [], by simp [hLT], ?_⟩
    have e1 : ba + ((T + k : Nat) : Int) = ba + (T : Int) + (k : Int) := by push_cast; omega
    rw [e1]
    exact s11.mono (by omega) (by omega) (by push_cast; omega))
   clear RD s9 b10 B11 N11 hX11
   go_wp2_with fail
   exact ⟨⟨T + k, i + 1, RS.out.1, by omega, hkT, by simp; omega, RS.out.2.1, JN⟩, RS.out.2.2⟩
end Go.Proofs.YtnimildpcnmjeaaGreatDoor.St
namespace Go.Proofs.YtnimildpcnmjeaaGreatDoor.Nm
open Go.RowKit
set_option maxRecDepth 100000
set_option maxRecDepth 100000
set_option maxRecDepth 100000
end Go.Proofs.YtnimildpcnmjeaaGreatDoor.Nm
namespace Go.Proofs.YtnimildpcnmjeaaGreatDoor.Nm
open Go.RowKit Go.ChangeShapes Go.WideShapes Go.ChangeAt
set_option maxRecDepth 100000
theorem vars_read {P : Program} {w : World} {n : String} {d : DataW Unit} : ∀ {l : List (String × DataW Unit)} {ps : List MemPlace}, DataW.LaidVars P w l ps → (n, d) ∈ l →
    ∃ g t cs fuel p, P.globalNamed n = some g ∧ (P.globals[g]?).map (·.type) = some t ∧ w.var? P n = some cs ∧ DataW.trod (fun _ => ()) P w 0 (fun _ => true) false fuel t cs.toList = some (d, p) := by
 intro l
 induction l with
 | nil => intro _ _ hm; cases hm
 | cons x r ih =>
  intro ps h hm
  obtain ⟨g, t, cs, fuel, p, q, h1, h2, h3, h4, h5, _⟩ := h
  rcases List.mem_cons.1 hm with e | e
  ·subst e; exact ⟨g, t, cs, fuel, p, h1, h2, h3, h4⟩
  ·exact ih h5 e
theorem laid_list : (Rows.laid_math_bits_deBruijn64tab : DataW Unit) = .agg (Lib.deBruijn64tab.map fun n : Nat => .lit (.int .u8 (n : Int))) := by rfl
theorem tab_all {l : List (String × DataW Unit)} {W : World} (h : laidMet Tryz.prog l W) (hm : ("math/bits.deBruijn64tab", Rows.laid_math_bits_deBruijn64tab) ∈ l) : ∀ j, j < Lib.deBruijn64tab.length → W.cell? ⟨3, j, none⟩ = some (.int .u8 (Lib.deBruijn64tab.getD j 0 : Nat)) := by
 obtain ⟨ps, hv, _⟩ := h
 obtain ⟨g, t, cs, fuel, p, h1, h2, h3, h4⟩ := vars_read hv hm
 obtain rfl := Option.some.inj ((show Tryz.prog.globalNamed "math/bits.deBruijn64tab" = some 3 by kernel_rfl).symm.trans h1)
 obtain rfl := Option.some.inj ((show (Tryz.prog.globals[3]?).map (·.type) = some 331 by kernel_rfl).symm.trans h2)
 obtain ⟨xs, m, _, ex, _, hl, hel⟩ := DataW.trod_array Tryz.underlying331 h4
 have c1 : Tryz.prog.cellsOf 5 = 1 := by kernel_rfl
 have hlen : Lib.deBruijn64tab.length = 64 := by decide
 intro j hj
 have hj64 : j < 64 := by omega
 have hE := hel j (by omega)
 rw [c1, Nat.mul_one, List.getElem?_eq_getElem (by omega)] at hE
 obtain ⟨z, e1, e2, _⟩ := DataW.trod_int Tryz.underlying5 hE
 rw [laid_list] at ex
 have e3 := (DataW.agg.inj (Prod.mk.inj ex).1).symm
 have e4 : (xs.map (·.1))[j]? = some (.lit (.int .u8 (Lib.deBruijn64tab.getD j 0 : Nat))) := by
  rw [e3, List.getElem?_map, List.getElem?_eq_getElem hj, List.getD_eq_getElem?_getD, List.getElem?_eq_getElem hj]; rfl
 rw [List.getElem?_map, List.getElem?_eq_getElem (by omega), e2] at e4
 simp only [Option.map_some, Option.some.injEq, DataW.lit.injEq, Lit.int.injEq, true_and] at e4
 show W.cell? _ = _
 rw [World.var?_cell h1 h3 j, ← e4]
 have h0 : ((cs.toList.drop j).take 1)[0]? = some (.int .u8 z) := by rw [e1]; rfl
 simpa using h0
theorem tab_of {l : List (String × DataW Unit)} {W : World} (h : laidMet Tryz.prog l W) (hm : ("math/bits.deBruijn64tab", Rows.laid_math_bits_deBruijn64tab) ∈ l) : Tab16 W := tab_all h hm 15 (by decide)
end Go.Proofs.YtnimildpcnmjeaaGreatDoor.Nm
