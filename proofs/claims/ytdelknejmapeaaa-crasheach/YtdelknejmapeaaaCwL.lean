/-
  begun of layer 12.
-/
import Derived.Test.YtdelknejmapeaaaCwa
namespace Go.Proofs.Ytdelknejmapeaaa.Dk
open Go.RowKit Go.Maps Go.Sort Go.Shelf Go.Proofs.Ytdelknejmapeaaa.Nm
set_option linter.unusedVariables false

theorem ci_append_new {w q q' : World} {b M : Nat} {L2 : Dr} {PP : List Ch} {F : Nat → Fl} {c : Int} (h : CI w q b M L2 PP F c) (hb : Below q.heap.size q q') (hc : c < 800000000) (s : ByteArray) (hs : s.size ≤ maxLen) {p : Nat} (hm : may s.data.toList = true) (hg : get (runs L2 PP) s.data.toList = some p) (v : Value) (D : List UInt8) (hv : Sl q' v D) (ho : ∀ b off n c, v = .slice (some ⟨b, off, none⟩) n c → q.heap.size ≤ b) (hD : sumL F (runs L2 PP) + D.length ≤ M) :
    Calls Try.prog 6 #[.pointer (some ⟨b, 0, none⟩), .string s, v] q' fun e w' => e = .returned (.tuple #[.int .i64 (D.length : Int), .int .i64 0]) ∧ CI w w' b M L2 PP (upd F p (apF (F p) D)) (c + 1) := by
  obtain ⟨S, O, hd, hC, hB, hlo⟩ := h
  have hB' := hB.trans (hb.mono hB.size)
  refine (append_dsk (hd.below hb) s hs v D hv (fun b' off n c' e _ k => by have := hd.lt _ k; have := ho b' off n c' e; omega) (by rw [hC.c7]; omega)).mono ?_
  rintro e w' ⟨he, O', hd', hg'⟩
  obtain ⟨k1, k2, k3⟩ := hC.append hm hg D hD
  rw [k1, k2] at he
  exact ⟨he, _, O', hd', k3, hg'.under hlo (Nat.le_refl _) hB', hg'.low hB'.size hlo⟩
/-- The disk of CrashEach, and of begun. -/
def EI (w q : World) (b : Nat) (S : DS) (m : UInt8) (A B C : List UInt8) : Prop := ∃ O p r, DskE q b S O ∧ EachD S m A B C p r ∧ S.c7 < 1000 ∧ Below w.heap.size w q ∧ ∀ k, O k → w.heap.size ≤ k
theorem EI.below {w q q' : World} {b : Nat} {S : DS} {m : UInt8} {A B C : List UInt8} (h : EI w q b S m A B C) (hb : Below q.heap.size q q') : EI w q' b S m A B C := by
  obtain ⟨O, p, r, hd, he, hc, hB, hl⟩ := h
  exact ⟨O, p, r, hd.below hb, he, hc, hB.trans (hb.mono hB.size), hl⟩
theorem EI.bel {w q : World} {b : Nat} {S : DS} {m : UInt8} {A B C : List UInt8} (h : EI w q b S m A B C) : Below w.heap.size w q := by
  obtain ⟨O, p, r, hd, he, hc, hB, hl⟩ := h
  exact hB
theorem CI.each {w q : World} {b M p r : Nat} {F : Nat → Fl} {c : Int} {m : UInt8} {A B C : List UInt8} (h : CI w q b M [([97], p)] [.cr (sM m) r] F c) (hm : m = 98 ∨ m = 110) (hp : F p = ⟨A ++ B, A, 0⟩) (hr : F r = ⟨C, [], 0⟩) (hn : p ≠ r) (hc : c < 1000) : ∃ S, EI w q b S m A B C := by
  obtain ⟨S, O, hd, hC, hB, hlo⟩ := h
  exact ⟨S, O, p, r, hd, ⟨hm, hC.up, hC.l2, hC.P, by rw [hC.F]; exact hp, by rw [hC.F]; exact hr, hn⟩, by rw [hC.c7]; exact hc, hB, hlo⟩
theorem EI.ways {w q : World} {b : Nat} {S : DS} {m : UInt8} {A B C : List UInt8} (h : EI w q b S m A B C) : S.ways = (B.length + 1) * (C.length + 2) := by
  obtain ⟨O, p, r, hd, he, hc, hB, hl⟩ := h
  exact he.ways
theorem ei_ways {w q : World} {b : Nat} {S : DS} {m : UInt8} {A B C : List UInt8} (h : EI w q b S m A B C) (hw : (B.length + 1) * (C.length + 2) ≤ M40) :
    Calls Try.prog 27 #[.pointer (some ⟨b, 0, none⟩)] q fun e w' => e = .returned (.tuple #[.int .i64 (((B.length + 1) * (C.length + 2) : Nat) : Int), .int .i64 0]) ∧ Below q.heap.size q w' := by
  have hW := h.ways
  obtain ⟨O, p, r, hd, he, hc, hB, hl⟩ := h
  have := ways_dsk hd (by omega)
  have e : S.cnt = (S.cnts (S.P.length + 1), (S.ways : Int), 0) := by unfold DS.cnt; rw [if_pos (by rw [hW]; exact hw)]
  rw [e, hW] at this
  exact this
theorem ei_at {w q : World} {b : Nat} {S : DS} {m : UInt8} {A B C : List UInt8} (h : EI w q b S m A B C) (hw : (B.length + 1) * (C.length + 2) ≤ M40) (i : Nat) (hi : i < (B.length + 1) * (C.length + 2)) :
    Calls Try.prog 50 #[.pointer (some ⟨b, 0, none⟩), .int .i64 (i : Int)] q fun e w' => ∃ (d j : Nat) (ao : Option Addr) (n ca : Nat), e = .returned (.tuple #[.agg #[.int .i64 (d : Int), .slice ao n ca], .int .i64 0]) ∧ FateOf S i d j ∧ n = (S.tails (d : Int)).length ∧ n ≤ ca ∧ ca ≤ 9223372036854775807 ∧ Kp (fun k => q.heap.size ≤ k ∧ k < w'.heap.size) w' (.slice ao n ca) (keps (digs (S.tails (d : Int)) j)) ∧ Below q.heap.size q w' := by
  have hW := h.ways
  obtain ⟨O, p, r, hd, he, hc, hB, hl⟩ := h
  have h40 : i < M40 := by omega
  unfold M40 at h40
  refine (at_dsk hd (by omega) (i : Int) (by omega) (by omega)).mono ?_
  have h0 : S.atE (i : Int) = 0 := atE_ok (by rw [hW]; exact hw) (by rw [hW]; exact hi)
  rintro e w' ⟨hb, ⟨c, _⟩ | ⟨_, d, j, v, hf, rfl, hk⟩⟩
  · exact absurd h0 c
  · rw [Int.toNat_natCast] at hf
    have hkp := hk.kp (digs_small hd.ok d j hf.lt)
    have hkp0 := hkp
    obtain ⟨ao, cap, rfl, k1, k2, _⟩ := hkp
    rw [digs_keps_len] at k1 hkp0 ⊢
    exact ⟨d, j, ao, _, cap, rfl, hf, rfl, k1, by unfold maxLen at k2; omega, hkp0, hb⟩
theorem ei_number {w q : World} {b : Nat} {S : DS} {m : UInt8} {A B C : List UInt8} (h : EI w q b S m A B C) (hw : (B.length + 1) * (C.length + 2) ≤ M40) {i d j : Nat} (hf : FateOf S i d j) (v : Value) (Z : Nat → Prop) (hk : Kp Z q v (keps (digs (S.tails (d : Int)) j))) :
    Calls Try.prog 51 #[.pointer (some ⟨b, 0, none⟩), .agg #[.int .i64 (d : Int), v]] q fun e w' => e = .returned (.tuple #[.int .i64 (i : Int), .int .i64 0]) ∧ Below q.heap.size q w' := by
  have hW := h.ways
  obtain ⟨O, p, r, hd, he, hc, hB, hl⟩ := h
  have hdl := hf.dl
  have hcnt := hd.ok.cnt
  have := number_dsk hd (by omega) (d : Int) (by omega) (by omega) v _ Z hk
  rw [hf.num (by rw [hW]; exact hw)] at this
  exact this
theorem ei_after {w q : World} {b : Nat} {S : DS} {m : UInt8} {A B C : List UInt8} (h : EI w q b S m A B C) (hw : (B.length + 1) * (C.length + 2) ≤ M40) (i : Nat) (hi : i < (B.length + 1) * (C.length + 2)) :
    Calls Try.prog 28 #[.pointer (some ⟨b, 0, none⟩), .int .i64 (i : Int)] q fun e w' => ∃ b', e = .returned (.tuple #[.pointer (some ⟨b', 0, none⟩), .int .i64 0]) ∧ (∃ d j σ S' O', FateOf S i d j ∧ Alike σ (S.after d j) S' ∧ DskE w' b' S' O' ∧ ∀ k, O' k → q.heap.size ≤ k) ∧ Below q.heap.size q w' := by
  have hW := h.ways
  obtain ⟨O, p, r, hd, he, hc, hB, hl⟩ := h
  have h40 : i < M40 := by omega
  unfold M40 at h40
  refine (after_dsk hd he.uq (by omega) (i : Int) (by omega) (by omega)).mono ?_
  have h0 : S.atE (i : Int) = 0 := atE_ok (by rw [hW]; exact hw) (by rw [hW]; exact hi)
  rintro e w' ⟨hb, ⟨c, _⟩ | ⟨_, d, j, b', σ, S', O', hf, rfl, hal, hd', hlo⟩⟩
  · exact absurd h0 c
  · rw [Int.toNat_natCast] at hf
    exact ⟨b', rfl, ⟨d, j, σ, S', O', hf, hal, hd', hlo⟩, hb⟩
set_option maxRecDepth 100000 in
theorem ways_nil (w : World) : Calls Try.prog 27 #[.pointer none] w fun e w' => e = .returned (.tuple #[.int .i64 0, .int .i64 1]) ∧ w' = w := by
  have hC : Calls Try.prog 52 #[.pointer none] w fun e w' => e = .returned (.tuple #[.slice none 0 0, .int .i64 0, .int .i64 1]) ∧ w' = w := by
    go_enter Try.func52, Try.ntmps52
    go_wp2_with fail
    go_returns
    exact ⟨rfl, rfl⟩
  go_enter Try.func27, Try.ntmps27
  go_wp2_with (go_at_call 52; refine hC.mono ?_; rintro e w1 ⟨rfl, e1⟩; subst w1)
  go_ret2
  exact ⟨rfl, rfl⟩
#print axioms ways_nil
end Go.Proofs.Ytdelknejmapeaaa.Dk
