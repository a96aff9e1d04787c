/-
  There and back, by data.
-/
import Derived.Test.YtjehpijjneghpaaGreatK39
import Derived.Test.YtjehpijjneghpaaGreatK30
namespace Go.Proofs.YtjehpijjneghpaaGreat.Dk
open Go.RowKit Go.Maps Go.Sort Go.Shelf Go.Proofs.YtjehpijjneghpaaGreat.Nm
set_option linter.unusedVariables false
theorem wthn_id {n m : Nat} (h : n ≤ m) : wthn (n : Int) m = n := by unfold wthn; omega
theorem kdig_digs (L : Tls) (j : Nat) (hj : j < prodT L) : kdig L (keps (digs L j)) = digs L j := by
  induction L generalizing j with
  | nil => rfl
  | cons e r ih =>
    have hp := prodT_pos r
    simp only [digs, keps, List.map_cons, kdig, List.headD_cons, List.tail_cons]
    have h1 := ih (j % prodT r) (Nat.mod_lt _ (by omega))
    unfold keps at h1
    rw [h1, wthn_id]
    have := Nat.mod_lt (j / prodT r) (show 0 < e.2 + 1 by omega)
    omega
theorem FateOf.num {S : DS} {i d j : Nat} (h : FateOf S i d j) (hw : S.ways ≤ M40) : S.numE (d : Int) (keps (digs (S.tails (d : Int)) j)) = ((i : Int), 0) := by
  unfold DS.numE numK
  rw [if_pos hw, wthn_id h.dl, kdig_digs _ _ h.lt, numb_digs _ _ h.lt, ← h.eq]
theorem atE_ok {S : DS} {i : Nat} (hw : S.ways ≤ M40) (hi : i < S.ways) : S.atE (i : Int) = 0 := by
  unfold DS.atE
  rw [if_pos hw, if_pos (by omega)]
end Go.Proofs.YtjehpijjneghpaaGreat.Dk
namespace Go.Proofs.YtjehpijjneghpaaGreat.Dk
open Go.RowKit Go.Proofs.YtjehpijjneghpaaGreat.Nm
set_option linter.unusedVariables false
theorem wthn_wthn (n : Int) (m : Nat) : wthn ((wthn n m : Nat) : Int) m = wthn n m := by unfold wthn; omega
theorem crFl_dig (f : Fl) (k : Kep) (h : k.2 = []) : crFl f k = crFl f (((wthn k.1 (f.by_.length - f.la.length) : Nat) : Int), []) := by
  unfold crFl crF jnk
  simp only [h, wthn_wthn, List.take_nil]
theorem crashL_bare (l : Dr) (inj : ∀ s s' p, get l s = some p → get l s' = some p → s = s') (G : Nat → Fl) : ∀ (A : List (List UInt8)) (F : Nat → Fl) (ks : List Kep), A.Nodup → (∀ k ∈ ks, k.2 = []) → (∀ s ∈ A, ∀ p, get l s = some p → F p = G p) →
    crashL l A ks F = crashL l A (keps (kdig (A.map fun s => (s, tlOf G l s)) ks)) F
  | [], F, ks, _, _, _ => rfl
  | s :: r, F, ks, nd, hk, hF => by
    have h0 : (ks.headD (0, [])).2 = [] := by cases ks with | nil => rfl | cons a b => exact hk a (by simp)
    have ht : ∀ k ∈ ks.tail, k.2 = [] := fun k hx => hk k (List.mem_of_mem_tail hx)
    show crashL l r ks.tail (crash1 F l s (ks.headD (0, []))) = crashL l r (keps (kdig (r.map fun s => (s, tlOf G l s)) ks.tail)) (crash1 F l s (((wthn (ks.headD (0, [])).1 (tlOf G l s) : Nat) : Int), []))
    have e1 : crash1 F l s (ks.headD (0, [])) = crash1 F l s (((wthn (ks.headD (0, [])).1 (tlOf G l s) : Nat) : Int), []) := by
      unfold crash1 tlOf
      cases hg : get l s with
      | none => rfl
      | some p =>
        simp only
        rw [← hF s (by simp) p hg, ← crFl_dig _ _ h0]
    rw [← e1]
    refine crashL_bare l inj G r _ _ (List.nodup_cons.1 nd).2 ht (fun s' hs p hp => ?_)
    have hne : s' ≠ s := fun c => (List.nodup_cons.1 nd).1 (by rw [← c]; exact hs)
    rw [← hF s' (by simp [hs]) p hp]
    unfold crash1
    cases hg : get l s with
    | none => rfl
    | some q =>
      simp only
      have : p ≠ q := fun c => hne (inj s' s p hp (by rw [c]; exact hg))
      unfold upd
      rw [if_neg this]
theorem digs_numb : ∀ (L : Tls) (ds : List Nat), ds.length = L.length → (∀ k (hk : k < L.length), ds.getD k 0 ≤ L[k].2) → digs L (numb L ds) = ds
  | [], [], _, _ => rfl
  | e :: r, d :: t, h, hb => by
    have ht : ∀ k (hk : k < r.length), t.getD k 0 ≤ r[k].2 := fun k hk => by have := hb (k + 1) (by simp; omega); simpa using this
    have hd : d ≤ e.2 := hb 0 (by simp)
    have hn := numb_lt r t ht
    simp only [digs, numb, List.headD_cons, List.tail_cons]
    rw [show (d * prodT r + numb r t) / prodT r = d by rw [Nat.mul_comm, Nat.mul_add_div (by omega), Nat.div_eq_of_lt hn]; omega, show (d * prodT r + numb r t) % prodT r = numb r t by rw [Nat.mul_comm, Nat.mul_add_mod, Nat.mod_eq_of_lt hn], Nat.mod_eq_of_lt (by omega), digs_numb r t (by simpa using h) ht]
  | [], _ :: _, h, _ => by simp at h
  | _ :: _, [], h, _ => by simp at h
end Go.Proofs.YtjehpijjneghpaaGreat.Dk
namespace Go.Proofs.YtjehpijjneghpaaGreat.Re
open Go.RowKit Go.Maps Go.Sort Go.Shelf Go.Proofs.YtjehpijjneghpaaGreat.Nm Go.Proofs.YtjehpijjneghpaaGreat.Dk
set_option linter.unusedVariables false
theorem Rel.names {S : DS} {R : RB} (h : Rel S R) (n : Int) : (nms (S.front n)).Nodup := by
  obtain ⟨σ, L⟩ := h.like
  have e := L.front n
  rw [ds_front h.ri] at e
  have r := h.ri.frontR n
  rw [← nms_mv σ (S.front n), ← e, nms_rise r]
  unfold List.Nodup
  rw [List.pairwise_map]
  exact rise_keys r
theorem uq_front {S : DS} (h : S.uq) (n : Int) : ∀ s s' p, Dk.get (S.front n) s = some p → Dk.get (S.front n) s' = some p → s = s' :=
  fun s s' p h1 h2 => (Uqs.runs (wthn n S.P.length) h).inj _ (get_mem h1) _ (get_mem h2) rfl
theorem front_wthn (S : DS) (d : Int) : S.front ((wthn d S.P.length : Nat) : Int) = S.front d := by unfold DS.front; rw [wthn_wthn]
theorem tails_wthn (S : DS) (d : Int) : S.tails ((wthn d S.P.length : Nat) : Int) = S.tails d := by unfold DS.tails; rw [front_wthn]
theorem crash_wthn (S : DS) (d : Int) (ks : List Kep) : S.crash ((wthn d S.P.length : Nat) : Int) ks = S.crash d ks := by unfold DS.crash; rw [front_wthn]
def bareK (ks : List Kep) : List Kep := ks.map fun k => (k.1, [])
theorem kdig_bare : ∀ (L : Tls) (ks : List Kep), kdig L (bareK ks) = kdig L ks
  | [], _ => rfl
  | e :: r, [] => rfl
  | e :: r, k :: t => by
    show wthn k.1 e.2 :: kdig r (bareK t) = wthn k.1 e.2 :: kdig r t
    rw [kdig_bare r t]
theorem Rel.bare {S : DS} {R : RB} (h : Rel S R) (d : Int) (ks : List Kep) : S.crash d (bareK ks) = S.after (wthn d S.P.length) (numK (S.tails ((wthn d S.P.length : Nat) : Int)) ks) := by
  unfold DS.after
  rw [crash_wthn]
  unfold numK
  rw [digs_numb _ _ (kdig_len _ _) (fun k hk => by rw [kdig_get _ _ _ hk]; exact wthn_le _ _)]
  unfold DS.crash
  rw [crashL_bare (S.front d) (uq_front h.uq d) S.F _ S.F (bareK ks) (h.names d) (fun k hk => by obtain ⟨x, _, rfl⟩ := List.mem_map.1 hk; rfl) (fun _ _ _ _ => rfl), tails_wthn, kdig_bare]
  rfl
theorem crFl_flat (f : Fl) (k : Kep) : (crFl f k).by_.length - (crFl f k).la.length = 0 := by
  unfold crFl crF
  simp
theorem crashL_flat (l : Dr) : ∀ (A : List (List UInt8)) (ks : List Kep) (F : Nat → Fl) (p : Nat), (∃ s ∈ A, Dk.get l s = some p) ∨ (F p).by_.length - (F p).la.length = 0 → (crashL l A ks F p).by_.length - (crashL l A ks F p).la.length = 0
  | [], ks, F, p, h => by
    rcases h with ⟨s, hs, _⟩ | h
    · simp at hs
    · exact h
  | a :: r, ks, F, p, h => by
    show (crashL l r ks.tail (crash1 F l a (ks.headD (0, []))) p).by_.length - _ = 0
    refine crashL_flat l r _ _ p ?_
    have one : ∀ q, Dk.get l a = some q → (crash1 F l a (ks.headD (0, [])) q).by_.length - (crash1 F l a (ks.headD (0, [])) q).la.length = 0 := fun q hq => by
      unfold crash1
      rw [hq]
      simp only [upd_same]
      exact crFl_flat _ _
    by_cases hp : Dk.get l a = some p
    · exact .inr (one p hp)
    · rcases h with ⟨s, hs, hg⟩ | h
      · rcases List.mem_cons.1 hs with rfl | hs
        · exact absurd hg hp
        · exact .inl ⟨s, hs, hg⟩
      · right
        unfold crash1
        cases hg : Dk.get l a with
        | none => exact h
        | some q =>
          simp only
          rw [upd_ne _ _ (fun c => hp (by rw [hg, c]))]
          exact h
theorem prodT_flat : ∀ (L : Tls), (∀ e ∈ L, e.2 = 0) → prodT L = 1
  | [], _ => rfl
  | e :: r, h => by
    show (e.2 + 1) * prodT r = 1
    rw [h e (by simp), prodT_flat r (fun x hx => h x (by simp [hx]))]
theorem ways_crash (S : DS) (d : Int) (ks : List Kep) : (S.crash d ks).ways = 1 := by
  have hP : (S.crash d ks).P = [] := rfl
  unfold DS.ways
  rw [hP]
  show (DS.cnts _ (0 + 1)).sum = 1
  rw [cnts_sum]
  show 0 + prodT _ = 1
  rw [Nat.zero_add]
  refine prodT_flat _ fun e he => ?_
  unfold DS.tails at he
  obtain ⟨s, hs, rfl⟩ := List.mem_map.1 he
  show tlOf _ _ s = 0
  unfold tlOf
  cases hg : Dk.get ((S.crash d ks).front ((0 : Nat) : Int)) s with
  | none => rfl
  | some p =>
    simp only
    have hf : (S.crash d ks).front ((0 : Nat) : Int) = S.front d := rfl
    rw [hf] at hs hg
    exact crashL_flat _ _ _ _ _ (.inl ⟨s, hs, hg⟩)
theorem ways_pos (S : DS) : 1 ≤ S.ways := by
  unfold DS.ways
  rw [cnts_sum]
  have := prodT_pos (S.tails (S.P.length : Int))
  omega
theorem Alike.ways {σ : Nat → Nat} {S S' : DS} (h : Dk.Alike σ S S') : S'.ways = S.ways := by
  unfold DS.ways DS.cnts
  rw [h.P, List.length_map]
  congr 1
  refine List.map_congr_left fun d _ => ?_
  rw [h.tails]
theorem fate_num (S : DS) (d : Int) (ks : List Kep) : FateOf S ((S.cnts (wthn d S.P.length)).sum + numK (S.tails ((wthn d S.P.length : Nat) : Int)) ks) (wthn d S.P.length) (numK (S.tails ((wthn d S.P.length : Nat) : Int)) ks) :=
  ⟨wthn_le _ _, rfl, numb_lt _ _ fun k hk => by rw [kdig_get _ _ _ hk]; exact wthn_le _ _⟩
theorem num_ok {S : DS} (h : S.ways ≤ M40) (d : Int) (ks : List Kep) : ∃ k : Nat, (S.numE d ks) = ((k : Int), 0) ∧ FateOf S k (wthn d S.P.length) (numK (S.tails ((wthn d S.P.length : Nat) : Int)) ks) :=
  ⟨_, by unfold DS.numE; rw [if_pos h], fate_num S d ks⟩
theorem cnt_crash {σ : Nat → Nat} {S S' : DS} {d j : Nat} (h : Dk.Alike σ (S.after d j) S') : S'.cnt.2.1 = 1 := by
  have e : S'.ways = 1 := by rw [Alike.ways h]; exact ways_crash _ _ _
  unfold DS.cnt
  rw [e, if_pos (by decide)]
  rfl
end Go.Proofs.YtjehpijjneghpaaGreat.Re
namespace Go.Proofs.YtjehpijjneghpaaGreat.Dk
open Go.RowKit Go.Maps Go.Sort Go.Shelf Go.Proofs.YtjehpijjneghpaaGreat.Nm
set_option linter.unusedVariables false
theorem ci_append_new {w q q' : World} {b M : Nat} {L2 : Dr} {PP : List Ch} {F : Nat → Fl} {c : Int} (h : CI w q b M L2 PP F c) (hb : Below q.heap.size q q') (hc : c < 800000000) (s : ByteArray) (hs : s.size ≤ maxLen) {p : Nat} (hm : may s.data.toList = true) (hg : get (runs L2 PP) s.data.toList = some p) (v : Value) (D : List UInt8) (hv : Sl q' v D) (ho : ∀ b off n c, v = .slice (some ⟨b, off, none⟩) n c → q.heap.size ≤ b) (hD : sumL F (runs L2 PP) + D.length ≤ M) :
    Calls Tryz.prog 16 #[.pointer (some ⟨b, 0, none⟩), .string s, v] q' fun e w' => e = .returned (.tuple #[.int .i64 (D.length : Int), .int .i64 0]) ∧ CI w w' b M L2 PP (upd F p (apF (F p) D)) (c + 1) := by
  obtain ⟨S, O, hd, hC, hB, hlo⟩ := h
  have hB' := hB.trans (hb.mono hB.size)
  refine (append_dsk (hd.below hb) s hs v D hv (fun b' off n c' e _ k => by have := hd.lt _ k; have := ho b' off n c' e; omega) (by rw [hC.c7]; omega)).mono ?_
  rintro e w' ⟨he, O', hd', hg'⟩
  obtain ⟨k1, k2, k3⟩ := hC.append hm hg D hD
  rw [k1, k2] at he
  exact ⟨he, _, O', hd', k3, hg'.under hlo (Nat.le_refl _) hB', hg'.low hB'.size hlo⟩
def EI (w q : World) (b : Nat) (S : DS) (m : UInt8) (A B C : List UInt8) : Prop := ∃ O p r, DskE q b S O ∧ EachD S m A B C p r ∧ S.c7 < 1000 ∧ Below w.heap.size w q ∧ ∀ k, O k → w.heap.size ≤ k
theorem EI.below {w q q' : World} {b : Nat} {S : DS} {m : UInt8} {A B C : List UInt8} (h : EI w q b S m A B C) (hb : Below q.heap.size q q') : EI w q' b S m A B C := by
  obtain ⟨O, p, r, hd, he, hc, hB, hl⟩ := h
  exact ⟨O, p, r, hd.below hb, he, hc, hB.trans (hb.mono hB.size), hl⟩
theorem EI.bel {w q : World} {b : Nat} {S : DS} {m : UInt8} {A B C : List UInt8} (h : EI w q b S m A B C) : Below w.heap.size w q := by
  obtain ⟨O, p, r, hd, he, hc, hB, hl⟩ := h
  exact hB
theorem CI.each {w q : World} {b M p r : Nat} {F : Nat → Fl} {c : Int} {m : UInt8} {A B C : List UInt8} (h : CI w q b M [([97], p)] [.cr (sM m) r] F c) (hm : m = 98 ∨ m = 110) (hp : F p = ⟨A ++ B, A, 0⟩) (hr : F r = ⟨C, [], 0⟩) (hn : p ≠ r) (hc : c < 1000) : ∃ S, EI w q b S m A B C := by
  obtain ⟨S, O, hd, hC, hB, hlo⟩ := h
  exact ⟨S, O, p, r, hd, ⟨hm, hC.up, hC.l2, hC.P, by rw [hC.F]; exact hp, by rw [hC.F]; exact hr, hn⟩, by rw [hC.c7]; exact hc, hB, hlo⟩
theorem EI.ways {w q : World} {b : Nat} {S : DS} {m : UInt8} {A B C : List UInt8} (h : EI w q b S m A B C) : S.ways = (B.length + 1) * (C.length + 2) := by
  obtain ⟨O, p, r, hd, he, hc, hB, hl⟩ := h
  exact he.ways
theorem ei_ways {w q : World} {b : Nat} {S : DS} {m : UInt8} {A B C : List UInt8} (h : EI w q b S m A B C) (hw : (B.length + 1) * (C.length + 2) ≤ M40) :
    Calls Tryz.prog 31 #[.pointer (some ⟨b, 0, none⟩)] q fun e w' => e = .returned (.tuple #[.int .i64 (((B.length + 1) * (C.length + 2) : Nat) : Int), .int .i64 0]) ∧ Below q.heap.size q w' := by
  have hW := h.ways
  obtain ⟨O, p, r, hd, he, hc, hB, hl⟩ := h
  have := ways_dsk hd (by omega)
  have e : S.cnt = (S.cnts (S.P.length + 1), (S.ways : Int), 0) := by unfold DS.cnt; rw [if_pos (by rw [hW]; exact hw)]
  rw [e, hW] at this
  exact this
theorem ei_at {w q : World} {b : Nat} {S : DS} {m : UInt8} {A B C : List UInt8} (h : EI w q b S m A B C) (hw : (B.length + 1) * (C.length + 2) ≤ M40) (i : Nat) (hi : i < (B.length + 1) * (C.length + 2)) :
    Calls Tryz.prog 33 #[.pointer (some ⟨b, 0, none⟩), .int .i64 (i : Int)] q fun e w' => ∃ (d j : Nat) (ao : Option Addr) (n ca : Nat), e = .returned (.tuple #[.agg #[.int .i64 (d : Int), .slice ao n ca], .int .i64 0]) ∧ FateOf S i d j ∧ n = (S.tails (d : Int)).length ∧ n ≤ ca ∧ ca ≤ 9223372036854775807 ∧ Kp (fun k => q.heap.size ≤ k ∧ k < w'.heap.size) w' (.slice ao n ca) (keps (digs (S.tails (d : Int)) j)) ∧ Below q.heap.size q w' := by
  have hW := h.ways
  obtain ⟨O, p, r, hd, he, hc, hB, hl⟩ := h
  have h40 : i < M40 := by omega
  unfold M40 at h40
  refine (at_dsk hd (by omega) (i : Int) (by omega) (by omega)).mono ?_
  have h0 : S.atE (i : Int) = 0 := atE_ok (by rw [hW]; exact hw) (by rw [hW]; exact hi)
  rintro e w' ⟨hb, ⟨c, _⟩ | ⟨_, d, j, v, hf, rfl, hk⟩⟩
  · exact absurd h0 c
  · rw [Int.toNat_natCast] at hf
    have hkp := hk.kp (digs_small hd.ok d j hf.lt)
    have hkp0 := hkp
    obtain ⟨ao, cap, rfl, k1, k2, _⟩ := hkp
    rw [digs_keps_len] at k1 hkp0 ⊢
    exact ⟨d, j, ao, _, cap, rfl, hf, rfl, k1, by unfold maxLen at k2; omega, hkp0, hb⟩
theorem ei_number {w q : World} {b : Nat} {S : DS} {m : UInt8} {A B C : List UInt8} (h : EI w q b S m A B C) (hw : (B.length + 1) * (C.length + 2) ≤ M40) {i d j : Nat} (hf : FateOf S i d j) (v : Value) (Z : Nat → Prop) (hk : Kp Z q v (keps (digs (S.tails (d : Int)) j))) :
    Calls Tryz.prog 39 #[.pointer (some ⟨b, 0, none⟩), .agg #[.int .i64 (d : Int), v]] q fun e w' => e = .returned (.tuple #[.int .i64 (i : Int), .int .i64 0]) ∧ Below q.heap.size q w' := by
  have hW := h.ways
  obtain ⟨O, p, r, hd, he, hc, hB, hl⟩ := h
  have hdl := hf.dl
  have hcnt := hd.ok.cnt
  have := number_dsk hd (by omega) (d : Int) (by omega) (by omega) v _ Z hk
  rw [hf.num (by rw [hW]; exact hw)] at this
  exact this
theorem ei_after {w q : World} {b : Nat} {S : DS} {m : UInt8} {A B C : List UInt8} (h : EI w q b S m A B C) (hw : (B.length + 1) * (C.length + 2) ≤ M40) (i : Nat) (hi : i < (B.length + 1) * (C.length + 2)) :
    Calls Tryz.prog 35 #[.pointer (some ⟨b, 0, none⟩), .int .i64 (i : Int)] q fun e w' => ∃ b', e = .returned (.tuple #[.pointer (some ⟨b', 0, none⟩), .int .i64 0]) ∧ (∃ d j σ S' O', FateOf S i d j ∧ Alike σ (S.after d j) S' ∧ DskE w' b' S' O' ∧ ∀ k, O' k → q.heap.size ≤ k) ∧ Below q.heap.size q w' := by
  have hW := h.ways
  obtain ⟨O, p, r, hd, he, hc, hB, hl⟩ := h
  have h40 : i < M40 := by omega
  unfold M40 at h40
  refine (after_dsk hd he.uq (by omega) (i : Int) (by omega) (by omega)).mono ?_
  have h0 : S.atE (i : Int) = 0 := atE_ok (by rw [hW]; exact hw) (by rw [hW]; exact hi)
  rintro e w' ⟨hb, ⟨c, _⟩ | ⟨_, d, j, b', σ, S', O', hf, rfl, hal, hd', hlo⟩⟩
  · exact absurd h0 c
  · rw [Int.toNat_natCast] at hf
    exact ⟨b', rfl, ⟨d, j, σ, S', O', hf, hal, hd', hlo⟩, hb⟩
set_option maxRecDepth 100000 in
theorem ways_nil (w : World) : Calls Tryz.prog 31 #[.pointer none] w fun e w' => e = .returned (.tuple #[.int .i64 0, .int .i64 1]) ∧ w' = w := by
  have hC : Calls Tryz.prog 86 #[.pointer none] w fun e w' => e = .returned (.tuple #[.slice none 0 0, .int .i64 0, .int .i64 1]) ∧ w' = w := by
    go_enter Tryz.func86, Tryz.ntmps86
    go_wp2_with fail
    go_returns
    exact ⟨rfl, rfl⟩
  go_enter Tryz.func31, Tryz.ntmps31
  go_wp2_with (go_at_call 86; refine hC.mono ?_; rintro e w1 ⟨rfl, e1⟩; subst w1)
  go_ret2
  exact ⟨rfl, rfl⟩
end Go.Proofs.YtjehpijjneghpaaGreat.Dk
namespace Go.Proofs.YtjehpijjneghpaaGreat.Dk
open Go.RowKit Go.Maps Go.Sort Go.Shelf Go.Proofs.YtjehpijjneghpaaGreat.Nm
set_option linter.unusedVariables false
theorem get_am (p r : Nat) : get (runs [([97], p)] [.cr (sM 98) r]) (sM 98).data.toList = some r := rfl
theorem fate5 {S : DS} {p r d j : Nat} (h : EachD S 98 [] [97, 98, 99] [120] p r) (hf : FateOf S 5 d j) : d = 1 ∧ (S.tails (d : Int)).length = 2 := by
  have hd := hf.dl
  rw [h.P] at hd
  have h1 := hf.eq
  have h2 := hf.lt
  have hd2 : d = 0 ∨ d = 1 := by simp at hd; omega
  rcases hd2 with rfl | rfl
  · rw [show ((0 : Nat) : Int) = 0 from rfl, h.tails0] at h2
    simp [DS.cnts, prodT] at h1 h2
    omega
  · exact ⟨rfl, by rw [show ((1 : Nat) : Int) = 1 from rfl, h.tails1]; rfl⟩
set_option maxRecDepth 100000 in
set_option maxHeartbeats 4000000 in
theorem begun12_any (w : World) : Calls Tryz.prog 29 #[] w fun e w' => e = .returned (.bool true) ∧ Below w.heap.size w w' := by
  have s1 : sA.size ≤ 140737488355328 := by decide
  have s2 : (sM 98).size ≤ 140737488355328 := by decide
  have s3 : sA.size ≤ maxLen := by decide
  have s4 : (sM 98).size ≤ maxLen := by decide
  have hN := ci_new (w := w) w 100 (by decide) (Below.refl _ _)
  have h1 : Hid (∀ q b, CI w q b 100 [] [] noF 0 → Calls Tryz.prog 14 #[.pointer (some ⟨b, 0, none⟩), .string ⟨#[97]⟩] q fun e w' => e = .returned (.int .i64 0) ∧ ∃ p, CI w w' b 100 [] [.cr sA p] noF 1) := fun q b h => by
    refine (ci_create h (by decide) sA s1 may_a rfl (by decide)).mono ?_
    rintro e w' ⟨he, p, _, hc⟩
    rw [upd_noF] at hc
    exact ⟨he, p, hc⟩
  have h2 : Hid (∀ q b p, CI w q b 100 [] [.cr sA p] noF 1 → Calls Tryz.prog 15 #[.pointer (some ⟨b, 0, none⟩)] q fun e w' => e = .returned (.int .i64 0) ∧ CI w w' b 100 [([97], p)] [] noF 2) := fun q b p h => ci_syncDir h (by decide)
  have h3 : Hid (∀ q b p q' v, CI w q b 100 [([97], p)] [] noF 2 → Below q.heap.size q q' → Sl q' v [97, 98, 99] → (∀ b off n c, v = .slice (some ⟨b, off, none⟩) n c → q.heap.size ≤ b) → Calls Tryz.prog 16 #[.pointer (some ⟨b, 0, none⟩), .string ⟨#[97]⟩, v] q' fun e w' => e = .returned (.tuple #[.int .i64 3, .int .i64 0]) ∧ CI w w' b 100 [([97], p)] [] (upd noF p ⟨[97, 98, 99], [], 0⟩) 3) := fun q b p q' v h hb hv ho => ci_append_new h hb (by decide) sA s3 may_a (get_one _ _) v _ hv ho (by simp [sumL, noF, runs])
  have h4 : Hid (∀ q b p, CI w q b 100 [([97], p)] [] (upd noF p ⟨[97, 98, 99], [], 0⟩) 3 → Calls Tryz.prog 14 #[.pointer (some ⟨b, 0, none⟩), .string ⟨#[98]⟩] q fun e w' => e = .returned (.int .i64 0) ∧ ∃ r, p ≠ r ∧ CI w w' b 100 [([97], p)] [.cr (sM 98) r] (upd (upd noF p ⟨[97, 98, 99], [], 0⟩) r ⟨[], [], 0⟩) 4) := fun q b p h => by
    refine (ci_create h (by decide) (sM 98) s2 (may_m (.inl rfl)) rfl (by simp [runs])).mono ?_
    rintro e w' ⟨he, r, hr, hc⟩
    exact ⟨he, r, fun e => hr (by simp [e]), hc⟩
  have h5 : Hid (∀ q b p r q' v, p ≠ r → CI w q b 100 [([97], p)] [.cr (sM 98) r] (upd (upd noF p ⟨[97, 98, 99], [], 0⟩) r ⟨[], [], 0⟩) 4 → Below q.heap.size q q' → Sl q' v [120] → (∀ b off n c, v = .slice (some ⟨b, off, none⟩) n c → q.heap.size ≤ b) → Calls Tryz.prog 16 #[.pointer (some ⟨b, 0, none⟩), .string ⟨#[98]⟩, v] q' fun e w' => e = .returned (.tuple #[.int .i64 1, .int .i64 0]) ∧ ∃ S, EI w w' b S 98 [] [97, 98, 99] [120]) := fun q b p r q' v hn h hb hv ho => by
    refine (ci_append_new h hb (by decide) (sM 98) s4 (may_m (.inl rfl)) (get_am p r) v _ hv ho ?_).mono ?_
    · show sumL _ [([97], p), ([98], r)] + 1 ≤ 100
      simp [sumL, upd, hn]
    · rintro e w' ⟨he, hc⟩
      refine ⟨he, hc.each (.inl rfl) ?_ ?_ hn (by decide)⟩
      · rw [upd_ne _ _ hn, upd_ne _ _ hn, upd_same]; rfl
      · rw [upd_same, upd_same]; rfl
  have hw40 : ([97, 98, 99] : List UInt8).length + 1 ≤ 4 := by decide
  have e40 : ((([97, 98, 99] : List UInt8).length + 1) * (([120] : List UInt8).length + 2)) ≤ M40 := by decide
  have h6 : Hid (∀ q b S, EI w q b S 98 [] [97, 98, 99] [120] → Calls Tryz.prog 31 #[.pointer (some ⟨b, 0, none⟩)] q fun e w' => e = .returned (.tuple #[.int .i64 12, .int .i64 0]) ∧ Below q.heap.size q w') := fun q b S h => ei_ways h e40
  have h7 : Hid (∀ q b S, EI w q b S 98 [] [97, 98, 99] [120] → Calls Tryz.prog 33 #[.pointer (some ⟨b, 0, none⟩), .int .i64 5] q fun e w' => ∃ (j : Nat) (ao : Option Addr) (ca : Nat), e = .returned (.tuple #[.agg #[.int .i64 1, .slice ao 2 ca], .int .i64 0]) ∧ 2 ≤ ca ∧ ca ≤ 9223372036854775807 ∧ Hid (FateOf S 5 1 j) ∧ Hid (Kp (fun k => q.heap.size ≤ k ∧ k < w'.heap.size) w' (.slice ao 2 ca) (keps (digs (S.tails 1) j))) ∧ Hid (Below q.heap.size q w')) := fun q b S h => by
    refine (ei_at h e40 5 (by decide)).mono ?_
    rintro e w' ⟨d, j, ao, n, ca, rfl, hf, hn, k1, k2, hk, hb⟩
    obtain ⟨O, p, r, hd, he, _⟩ := h
    obtain ⟨rfl, h2⟩ := fate5 he hf
    rw [h2] at hn
    subst hn
    exact ⟨j, ao, ca, rfl, k1, k2, hf, hk, hb⟩
  have h8 : Hid (∀ q b S j v Z, EI w q b S 98 [] [97, 98, 99] [120] → FateOf S 5 1 j → Kp Z q v (keps (digs (S.tails 1) j)) → Calls Tryz.prog 39 #[.pointer (some ⟨b, 0, none⟩), .agg #[.int .i64 1, v]] q fun e w' => e = .returned (.tuple #[.int .i64 5, .int .i64 0]) ∧ Below q.heap.size q w') := fun q b S j v Z h hf hk => ei_number h e40 hf v Z hk
  have h9 : Hid (∀ q b S, EI w q b S 98 [] [97, 98, 99] [120] → Calls Tryz.prog 35 #[.pointer (some ⟨b, 0, none⟩), .int .i64 5] q fun e w' => ∃ b', e = .returned (.tuple #[.pointer (some ⟨b', 0, none⟩), .int .i64 0]) ∧ Hid (Below q.heap.size q w')) := fun q b S h => by
    refine (ei_after h e40 5 (by decide)).mono ?_
    rintro e w' ⟨b', rfl, _, hb⟩
    exact ⟨b', rfl, hb⟩
  have h10 : Hid (∀ q, Calls Tryz.prog 31 #[.pointer none] q fun e w' => e = .returned (.tuple #[.int .i64 0, .int .i64 1]) ∧ w' = q) := fun q => ways_nil q
  have kc := fun (w : World) (C : Array Value) (n c : Nat) => Lib.run_convert_bytes_const (P := Tryz.prog) w 30 5 C n c Tryz.underlying30 Tryz.underlying5
  clear s1 s2 s3 s4 hw40 e40
  go_enter Tryz.func29, Tryz.ntmps29
  go_upto_region 4 with (first
    | (go_at_call 9; refine hN.mono ?_; rintro e w1 ⟨b, rfl, D1⟩; replace D1 := hide D1)
    | (go_at_call 14; refine (h1.out _ _ D1.out).mono ?_; rintro e w2 ⟨rfl, p, D2⟩; replace D2 := hide D2)
    | (go_at_call 15; refine (h2.out _ _ _ D2.out).mono ?_; rintro e w3 ⟨rfl, D3⟩; replace D3 := hide D3))
  have B4 := hide (box_below w3 (.cells #[.int .u8 97, .int .u8 98, .int .u8 99] 5 (3, 4)))
  have S4 : Hid (Sl (w3.alloc (.cells #[.int .u8 97, .int .u8 98, .int .u8 99] 5 (3, 4))) (.slice (some ⟨w3.heap.size, 0, none⟩) 3 3) [97, 98, 99]) := sl_lit_mark w3 [97, 98, 99] 5 (3, 4) (by decide) _ rfl
  have F4 : Hid (∀ b off n c, Value.slice (some ⟨w3.heap.size, 0, none⟩) 3 3 = .slice (some ⟨b, off, none⟩) n c → w3.heap.size ≤ b) := fun b' off n c e => by
    simp only [Value.slice.injEq, Option.some.injEq, Addr.mk.injEq] at e
    omega
  go_upto_region 6 with (first
    | (go_at_call 16; refine (h3.out _ _ _ _ _ D3.out B4.out S4.out F4.out).mono ?_; rintro e w5 ⟨rfl, D5⟩; replace D5 := hide D5)
    | (go_at_call 14; refine (h4.out _ _ _ D5.out).mono ?_; rintro e w6 ⟨rfl, r, hn, D6⟩; replace D6 := hide D6; replace hn := hide hn))
  clear B4 S4 F4
  have B7 := hide (box_below w6 (.cells #[.int .u8 120] 5 (1, 2)))
  have S7 : Hid (Sl (w6.alloc (.cells #[.int .u8 120] 5 (1, 2))) (.slice (some ⟨w6.heap.size, 0, none⟩) 1 1) [120]) := sl_lit_mark w6 [120] 5 (1, 2) (by decide) _ rfl
  have F7 : Hid (∀ b off n c, Value.slice (some ⟨w6.heap.size, 0, none⟩) 1 1 = .slice (some ⟨b, off, none⟩) n c → w6.heap.size ≤ b) := fun b' off n c e => by
    simp only [Value.slice.injEq, Option.some.injEq, Addr.mk.injEq] at e
    omega
  go_upto_region 9 with (first
    | (go_at_call 16; refine (h5.out _ _ _ _ _ _ hn.out D6.out B7.out S7.out F7.out).mono ?_; rintro e w8 ⟨rfl, S, D8⟩; replace D8 := hide D8)
    | (go_at_call 31; refine (h6.out _ _ _ D8.out).mono ?_; rintro e w9 ⟨rfl, b9⟩; have D9 := hide (D8.out.below b9); clear b9)
    | (go_at_call 33; refine (h7.out _ _ _ D9.out).mono ?_; rintro e w10 ⟨j, ao, ca, rfl, c1, c2, hf, hk, b10⟩; have D10 := hide (D9.out.below b10.out)))
  have z2 := heap_alloc_new w10 (.cells #[.int .i64 1, .slice ao 2 ca] 34)
  have B11 := hide (box_below w10 (.cells #[.int .i64 1, .slice ao 2 ca] 34))
  obtain ⟨X, hX⟩ : ∃ X, Hid (w10.alloc (.cells #[.int .i64 1, .slice ao 2 ca] 34) = X) := ⟨_, rfl⟩
  rw [hX.out] at z2 B11 ⊢
  have D11 := hide (D10.out.below B11.out)
  have k11 := hide (hk.out.below B11.out)
  have KC : Hid (∀ q, Below X.heap.size X q → q.cell? ⟨w10.heap.size, 0, none⟩ = some (.int .i64 1) ∧ q.cell? ⟨w10.heap.size, 1, none⟩ = some (.slice ao 2 ca)) := fun q hq => by
    have z3 := (hq.block _ (heap_lt z2)).trans z2
    exact ⟨by simp [World.cell?, z3], by simp [World.cell?, z3]⟩
  obtain ⟨x0, x1⟩ := KC.out X (Below.refl _ _)
  clear z2 hk B7 S7 F7
  go_upto_region 12 with (first
    | (go_at_call 39; refine (h8.out _ _ _ _ _ _ D11.out hf.out k11.out).mono ?_; rintro e w12 ⟨rfl, b12⟩; have D12 := hide (D11.out.below b12); replace b12 := hide b12)
    | (go_at_call 35; refine (h9.out _ _ _ D12.out).mono ?_; rintro e w13 ⟨b', rfl, b13⟩; have D13 := hide (D12.out.below b13.out))
    | (go_at_call 31; refine (h10.out _).mono ?_; rintro e w14 ⟨rfl, e14⟩; subst w14))
  obtain ⟨y0, y1⟩ := KC.out w13 (b12.out.trans (b13.out.mono b12.out.size))
  go_wp2_with fail
  go_ret
  exact ⟨rfl, D13.out.bel⟩
end Go.Proofs.YtjehpijjneghpaaGreat.Dk
namespace Go.Proofs.YtjehpijjneghpaaGreat.Re
open Go.RowKit Go.Maps Go.Sort Go.Shelf Go.Proofs.YtjehpijjneghpaaGreat.Nm Go.Proofs.YtjehpijjneghpaaGreat.Dk
set_option linter.unusedVariables false
theorem DopOk.below {w w' : World} {o : Dop} (h : DopOk w o) (hb : Below w.heap.size w w') : DopOk w' o :=
  ⟨h.kind, h.nm, h.tn, Below.sl hb h.dat, h.datl, h.off, h.n, h.fs.below hb, h.fsl, h.dir, kp_mono (h.ks.below hb) (fun k hk => Nat.lt_of_lt_of_le hk hb.size), h.ksl, h.ksn⟩
theorem AtDops.below {w w' : World} {ao : Option Addr} {os : List Dop} (h : AtDops w ao os) (hb : Below w.heap.size w w') : AtDops w' ao os := fun i hi => by
  obtain ⟨b, off, e, hc⟩ := h i hi
  exact ⟨b, off, e, fun j u hu => by have := hc j u hu; rw [hb.cell (lt_of_cell this)]; exact this⟩
def bcells (ks : List Kep) : List Value := (ks.map fun k => [Value.int .i64 k.1, .slice none 0 0]).flatten
theorem bcells_cons (k : Kep) (ks : List Kep) : bcells (k :: ks) = [.int .i64 k.1, .slice none 0 0] ++ bcells ks := rfl
theorem bcells_snoc (ks : List Kep) (k : Kep) : bcells (ks ++ [k]) = bcells ks ++ [.int .i64 k.1, .slice none 0 0] := by
  unfold bcells
  simp
theorem bcells_at (ks : List Kep) : ∀ k (h : k < ks.length), (bcells ks)[k * 2]? = some (.int .i64 ks[k].1) ∧ (bcells ks)[k * 2 + 1]? = some (.slice none 0 0) := by
  induction ks with
  | nil => intro k h; simp at h
  | cons x r ih =>
    intro k h
    cases k with
    | zero => exact ⟨rfl, rfl⟩
    | succ k =>
      obtain ⟨a, b⟩ := ih k (by simpa using h)
      rw [bcells_cons, show (k + 1) * 2 = k * 2 + 1 + 1 by omega, show k * 2 + 1 + 1 + 1 = (k * 2 + 1) + 1 + 1 by omega]
      simp only [List.cons_append, List.nil_append, List.getElem?_cons_succ, List.getElem_cons_succ]
      exact ⟨a, b⟩
def Bk (B : Nat) (w : World) (v : Value) (ks : List Kep) : Prop := w.ownsRow B 88 2 v ks.length (bcells ks)
theorem Bk.nil (B : Nat) (w : World) : Bk B w (.slice none 0 0) [] := World.ownsRow_nil _ _ _ _
theorem Bk.kp {B : Nat} {w : World} {v : Value} {ks : List Kep} (h : Bk B w v ks) (hd : ∀ k ∈ ks, -9223372036854775808 ≤ k.1 ∧ k.1 ≤ 9223372036854775807) : Kp (fun k => B ≤ k ∧ k < w.heap.size) w v (bareK ks) := by
  have h0 := h
  have hl : (bareK ks).length = ks.length := by simp [bareK]
  rcases h.2 with ⟨rfl, e⟩ | ⟨g, cap, cur, rfl, hg, hh, a, b, _⟩
  · have : ks = [] := List.length_eq_zero_iff.1 e
    subst this
    exact ⟨none, 0, rfl, Nat.le_refl _, by decide, fun i hi => by simp [bareK] at hi⟩
  · refine ⟨_, cap, by rw [hl], by rw [hl]; exact a, b, fun i hi => ?_⟩
    rw [hl] at hi
    have e1 : (bareK ks)[i]'(by rw [hl]; exact hi) = (ks[i].1, []) := by simp [bareK]
    rw [e1]
    obtain ⟨c0, c1⟩ := bcells_at ks i hi
    have q0 := World.ownsRow.cells h0 (g := g) rfl (i * 2) _ c0
    have q1 := World.ownsRow.cells h0 (g := g) rfl (i * 2 + 1) _ c1
    rw [addr_add] at q0 q1
    have := hd ks[i] (List.getElem_mem hi)
    exact ⟨g, 0, .slice none 0 0, rfl, ⟨hg, heap_lt hh⟩, q0, q1, Sl.nil _, fun b off n c e => by simp at e, this.1, this.2⟩
structure BkI (w : World) (B g5 g9 b : Nat) (v9 : Value) (S : DS) (O : Nat → Prop) (d : Int) (vk : Value) (ks : List Kep) (q : World) : Prop where
  box : q.heap[g9]? = some (.cells #[.pointer (some ⟨b, 0, none⟩), v9] 29 (0, 0))
  fat : q.heap[g5]? = some (.cells #[.int .i64 d, vk] 34 (0, 0))
  dk : DskE q b S O
  kp : Kp (fun k => k < w.heap.size) q vk ks
  bel : Below w.heap.size w q
  lt9 : g9 < B
  lt5 : g5 < B
  ltO : ∀ k, O k → k < B
  ltw : w.heap.size ≤ B
  ltq : B ≤ q.heap.size
theorem BkI.but {w : World} {B g5 g9 b : Nat} {v9 : Value} {S : DS} {O : Nat → Prop} {d : Int} {vk : Value} {ks : List Kep} {q q' : World} {X : Nat → Prop} (h : BkI w B g5 g9 b v9 S O d vk ks q) (hb : But X q q') (hX : ∀ k, X k → B ≤ k) : BkI w B g5 g9 b v9 S O d vk ks q' :=
  ⟨hb.at h.box (fun c => by have := hX _ c; have := h.lt9; omega), hb.at h.fat (fun c => by have := hX _ c; have := h.lt5; omega), h.dk.but hb (fun k hk c => by have := hX _ c; have := h.ltO k hk; omega), h.kp.but hb (fun k hk c => by have := hX _ c; have := h.ltw; omega),
    h.bel.trans (hb.below h.bel.size (fun k hk => Nat.le_trans h.ltw (hX k hk))), h.lt9, h.lt5, h.ltO, h.ltw, Nat.le_trans h.ltq hb.size⟩
theorem BkI.below {w : World} {B g5 g9 b : Nat} {v9 : Value} {S : DS} {O : Nat → Prop} {d : Int} {vk : Value} {ks : List Kep} {q q' : World} (h : BkI w B g5 g9 b v9 S O d vk ks q) (hb : Below q.heap.size q q') : BkI w B g5 g9 b v9 S O d vk ks q' :=
  h.but (But.of_below hb fun _ => False) (fun _ c => c.elim)
theorem bk_ways {w : World} {B g5 g9 b : Nat} {v9 : Value} {S : DS} {O : Nat → Prop} {d : Int} {vk : Value} {ks : List Kep} {q : World} (h : BkI w B g5 g9 b v9 S O d vk ks q) (hc : S.c7 ≤ 60) :
    Calls Tryz.prog 31 #[.pointer (some ⟨b, 0, none⟩)] q fun e w' => e = .returned (.tuple #[.int .i64 S.cnt.2.1, .int .i64 S.cnt.2.2]) ∧ Below q.heap.size q w' := ways_dsk h.dk (by omega)
theorem bk_at {w : World} {B g5 g9 b : Nat} {v9 : Value} {S : DS} {O : Nat → Prop} {d : Int} {vk : Value} {ks : List Kep} {q : World} (h : BkI w B g5 g9 b v9 S O d vk ks q) (hc : S.c7 ≤ 60) (hw : S.ways ≤ M40) (a : Nat) (ha : a < S.ways) :
    Calls Tryz.prog 33 #[.pointer (some ⟨b, 0, none⟩), .int .i64 (a : Int)] q fun e w' => ∃ (x y : Nat) (ao : Option Addr) (n ca : Nat), e = .returned (.tuple #[.agg #[.int .i64 (x : Int), .slice ao n ca], .int .i64 0]) ∧ FateOf S a x y ∧ Kr w' (.slice ao n ca) (digs (S.tails (x : Int)) y) ∧ Kp (fun k => q.heap.size ≤ k ∧ k < w'.heap.size) w' (.slice ao n ca) (keps (digs (S.tails (x : Int)) y)) ∧ Below q.heap.size q w' := by
  have h40 : a < M40 := by omega
  unfold M40 at h40
  refine (at_dsk h.dk (by omega) (a : Int) (by omega) (by omega)).mono ?_
  have h0 : S.atE (a : Int) = 0 := atE_ok hw ha
  rintro e w' ⟨hb, ⟨c, _⟩ | ⟨_, x, y, v, hf, rfl, hk⟩⟩
  · exact absurd h0 c
  · rw [Int.toNat_natCast] at hf
    have hkp := hk.kp (digs_small h.dk.ok x y hf.lt)
    have hkr := kr_of hk
    obtain ⟨ao, ca, rfl, _⟩ := id hkr
    exact ⟨x, y, ao, _, ca, rfl, hf, hkr, hkp, hb⟩
theorem bk_number {w : World} {B g5 g9 b : Nat} {v9 : Value} {S : DS} {O : Nat → Prop} {d : Int} {vk : Value} {ks : List Kep} {q : World} (h : BkI w B g5 g9 b v9 S O d vk ks q) (hc : S.c7 ≤ 60) (hw : S.ways ≤ M40) {a x y : Nat} (hf : FateOf S a x y) {v : Value} {Z : Nat → Prop} (hk : Kp Z q v (keps (digs (S.tails (x : Int)) y))) :
    Calls Tryz.prog 39 #[.pointer (some ⟨b, 0, none⟩), .agg #[.int .i64 (x : Int), v]] q fun e w' => e = .returned (.tuple #[.int .i64 (a : Int), .int .i64 0]) ∧ Below q.heap.size q w' := by
  have hdl := hf.dl
  have hcnt := h.dk.ok.cnt
  have := number_dsk h.dk (by omega) (x : Int) (by omega) (by omega) v _ Z hk
  rw [hf.num hw] at this
  exact this
theorem bk_numberF {w : World} {B g5 g9 b : Nat} {v9 : Value} {S : DS} {O : Nat → Prop} {d : Int} {vk : Value} {ks : List Kep} {q : World} (h : BkI w B g5 g9 b v9 S O d vk ks q) (hc : S.c7 ≤ 60) (hw : S.ways ≤ M40) (d0 : -9223372036854775808 ≤ d) (d1 : d ≤ 9223372036854775807) :
    Calls Tryz.prog 39 #[.pointer (some ⟨b, 0, none⟩), .agg #[.int .i64 d, vk]] q fun e w' => ∃ a : Nat, e = .returned (.tuple #[.int .i64 (a : Int), .int .i64 0]) ∧ FateOf S a (wthn d S.P.length) (numK (S.tails ((wthn d S.P.length : Nat) : Int)) ks) ∧ Below q.heap.size q w' := by
  obtain ⟨a, e, hf⟩ := num_ok hw d ks
  refine (number_dsk h.dk (by omega) d d0 d1 vk ks _ h.kp).mono ?_
  rintro _ w' ⟨rfl, hb⟩
  rw [e]
  exact ⟨a, rfl, hf, hb⟩
theorem bk_after {w : World} {B g5 g9 b : Nat} {v9 : Value} {S : DS} {O : Nat → Prop} {d : Int} {vk : Value} {ks : List Kep} {q : World} (h : BkI w B g5 g9 b v9 S O d vk ks q) (hc : S.c7 ≤ 60) (hw : S.ways ≤ M40) (hu : S.uq) {a x y : Nat} (hf : FateOf S a x y) :
    Calls Tryz.prog 35 #[.pointer (some ⟨b, 0, none⟩), .int .i64 (a : Int)] q fun e w' => ∃ b' σ S' O', e = .returned (.tuple #[.pointer (some ⟨b', 0, none⟩), .int .i64 0]) ∧ Dk.Alike σ (S.after x y) S' ∧ DskE w' b' S' O' ∧ (∀ k, O' k → q.heap.size ≤ k) ∧ Below q.heap.size q w' := by
  have h40 : a < M40 := Nat.lt_of_lt_of_le hf.below hw
  unfold M40 at h40
  refine (after_dsk h.dk hu (by omega) (a : Int) (by omega) (by omega)).mono ?_
  have h0 : S.atE (a : Int) = 0 := atE_ok hw hf.below
  rintro e w' ⟨hb, ⟨c, _⟩ | ⟨_, x', y', b', σ, S', O', hf', rfl, hl, hd, lo⟩⟩
  · exact absurd h0 c
  · rw [Int.toNat_natCast] at hf'
    obtain ⟨rfl, rfl⟩ := hf.uniq hf'
    exact ⟨b', σ, S', O', rfl, hl, hd, lo, hb⟩
theorem fate_iff {S : DS} {a a' x y x' y' : Nat} (h : FateOf S a x y) (h' : FateOf S a' x' y') : ((x : Int) = (x' : Int) ∧ digs (S.tails (x : Int)) y = digs (S.tails (x' : Int)) y') ↔ a = a' := by
  constructor
  · rintro ⟨e1, e2⟩
    obtain rfl : x = x' := by omega
    have := numb_digs _ _ h.lt
    rw [e2, numb_digs _ _ h'.lt] at this
    rw [h.eq, h'.eq, this]
  · rintro rfl
    obtain ⟨rfl, rfl⟩ := h.uniq h'
    exact ⟨rfl, rfl⟩
theorem bk_eq {S : DS} {q : World} {a a' x y x' y' : Nat} (h : FateOf S a x y) (h' : FateOf S a' x' y') {va vb : Value} (ha : Kr q va (digs (S.tails (x : Int)) y)) (hb : Kr q vb (digs (S.tails (x' : Int)) y')) :
    Calls Tryz.prog 36 #[.agg #[.int .i64 (x : Int), va], .agg #[.int .i64 (x' : Int), vb]] q fun e w' => e = .returned (.bool (decide (a = a'))) ∧ Below q.heap.size q w' := by
  refine (fate_eq q _ _ va vb _ _ ha hb).mono ?_
  rintro e w' ⟨rfl, hb⟩
  exact ⟨by rw [decide_eq_decide.2 (fate_iff h h')], hb⟩
theorem back_same {S S1 S2 : DS} {R : RB} {σ τ : Nat → Nat} {d : Int} {ks : List Kep} (hr : Rel S R) (h1 : Dk.Alike σ (S.after (wthn d S.P.length) (numK (S.tails ((wthn d S.P.length : Nat) : Int)) ks)) S1) (h2 : Dk.Alike τ S S2) :
    S1.files = (S2.crash d (bareK ks)).files ∧ S1.lasts = (S2.crash d (bareK ks)).lasts := by
  have h3 := h2.crash d (bareK ks)
  rw [hr.bare] at h3
  exact ⟨by rw [h1.files, h3.files], by rw [h1.lasts, h3.lasts]⟩
end Go.Proofs.YtjehpijjneghpaaGreat.Re
