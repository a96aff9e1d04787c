/-
  By data: what was written is read back.
-/
import Derived.Test.YtdhjlongdfgejaaCtJ
namespace Go.Proofs.Ytdhjlongdfgejaa.Ct

theorem vS_enc {n m : Nat} (r : List UInt8) (hn : n ≤ m) (hm : m < 18446744073709551616) : vS m (enc n ++ r, 0) = (r, 0) ∧ vV m (enc n ++ r, 0) = n := by
  have e := rv_enc n r (by omega)
  refine ⟨?_, ?_⟩
  · unfold vS
    rw [if_neg (by simp)]
    dsimp only
    rw [e, if_neg (by simp), if_neg (by simp; omega), nx, e]
    simp
  · unfold vV
    dsimp only
    rw [e, if_pos ⟨rfl, rfl, hn⟩]
theorem xS_fx {n : Nat} (r : List UInt8) (hn : n < 4294967296) : xS (fx 4 n ++ r, 0) = (r, 0) ∧ xV (fx 4 n ++ r, 0) = n := by
  have hl := fx_len 4 n
  refine ⟨?_, ?_⟩
  · unfold xS
    rw [if_neg (by simp), if_neg (by simp [hl])]
    dsimp only
    rw [List.drop_left' hl]
  · unfold xV
    rw [if_pos ⟨rfl, by simp [hl]⟩]
    dsimp only
    rw [List.take_left' hl]
    exact fx_num 4 n (by simpa using hn)
theorem seg_back {s : Sg} (r : List UInt8) (hs : SIn s) (h : 0 ≤ s.nm ∧ 0 ≤ s.ba ∧ 0 ≤ s.en ∧ 0 ≤ s.sz) : segS (segB s ++ r, 0) = (r, 0) ∧ segV (segB s ++ r, 0) = s := by
  obtain ⟨nm, ba, se, en, sz⟩ := s
  obtain ⟨h1, h2, h3, h4⟩ := h
  have a2 := hs.a2
  have b2 := hs.b2
  have c := hs.c
  have d2 := hs.d2
  have e2 := hs.e2
  dsimp only at *
  have e : segB ⟨nm, ba, se, en, sz⟩ ++ r = enc nm.toNat ++ (enc ba.toNat ++ (fx 4 se ++ (enc en.toNat ++ (enc sz.toNat ++ r)))) := by simp [segB]
  obtain ⟨p1, p2⟩ := vS_enc (n := nm.toNat) (m := top) (enc ba.toNat ++ (fx 4 se ++ (enc en.toNat ++ (enc sz.toNat ++ r)))) (by unfold top; omega) (by unfold top; omega)
  obtain ⟨q1, q2⟩ := vS_enc (n := ba.toNat) (m := top) (fx 4 se ++ (enc en.toNat ++ (enc sz.toNat ++ r))) (by unfold top; omega) (by unfold top; omega)
  obtain ⟨r1, r2⟩ := xS_fx (n := se) (enc en.toNat ++ (enc sz.toNat ++ r)) c
  obtain ⟨s1, s2⟩ := vS_enc (n := en.toNat) (m := top) (enc sz.toNat ++ r) (by unfold top; omega) (by unfold top; omega)
  obtain ⟨t1, t2⟩ := vS_enc (n := sz.toNat) (m := top) r (by unfold top; omega) (by unfold top; omega)
  rw [e]
  refine ⟨?_, ?_⟩
  · unfold segS nS
    rw [p1, q1, r1, s1, t1]
  · unfold segV nS nV
    rw [p1, q1, r1, s1, p2, q2, r2, s2, t2]
    simp only [Sg.mk.injEq]
    refine ⟨?_, ?_, ?_, ?_, ?_⟩ <;> first | omega | rfl | trivial
theorem segs_back (r : List UInt8) : ∀ (l : List Sg), (∀ s ∈ l, SIn s ∧ 0 ≤ s.nm ∧ 0 ≤ s.ba ∧ 0 ≤ s.en ∧ 0 ≤ s.sz) → segsS l.length (bodyC l ++ r, 0) = (r, 0) ∧ segsV l.length (bodyC l ++ r, 0) = l := by
  intro l
  induction l with
  | nil => intro _; exact ⟨by simp [segsS, bodyC], by simp [segsV]⟩
  | cons s t ih =>
    intro h
    have e : bodyC (s :: t) ++ r = segB s ++ (bodyC t ++ r) := by simp [bodyC]
    obtain ⟨hs, hs2⟩ := h s (by simp)
    obtain ⟨p1, p2⟩ := seg_back (bodyC t ++ r) hs hs2
    obtain ⟨q1, q2⟩ := ih (fun x hx => h x (by simp [hx]))
    rw [e, List.length_cons, segsS, segsV, p1, p2, q1, q2]
    exact ⟨rfl, rfl⟩
theorem betw_back {g f : Int} {l : List Sg} (hm : May g f l) (ha : AIn l) (hg : g ≤ 9223372036854775807) (hf : f ≤ 9223372036854775807) : betwF (midC g f l) = (0, g, f, l) := by
  have hg1 := hm.g1
  have hf1 := hm.f0
  have hn2 := hm.n2
  obtain ⟨p1, p2⟩ := vS_enc (n := g.toNat) (m := top) (enc f.toNat ++ (enc l.length ++ bodyC l)) (by unfold top; omega) (by unfold top; omega)
  obtain ⟨q1, q2⟩ := vS_enc (n := f.toNat) (m := top) (enc l.length ++ bodyC l) (by unfold top; omega) (by unfold top; omega)
  obtain ⟨r1, r2⟩ := vS_enc (n := l.length) (m := 64) (bodyC l) hn2 (by omega)
  obtain ⟨s1, s2⟩ := segs_back [] l (fun s hs => by
    obtain ⟨i, hi, rfl⟩ := List.getElem_of_mem hs
    have := hm.range hi
    rw [sg_get hi] at this
    exact ⟨ha _ (List.getElem_mem hi), this⟩)
  rw [List.append_nil] at s1 s2
  have a1 : nV (midC g f l, 0) = g.toNat := p2
  have a2 : nS (midC g f l, 0) = (enc f.toNat ++ (enc l.length ++ bodyC l), 0) := p1
  have a3 : nV (nS (midC g f l, 0)) = f.toNat := by rw [a2]; exact q2
  have a4 : cnt (midC g f l, 0) = l.length := by unfold cnt; rw [a2]; unfold nS; rw [q1]; exact r2
  have a5 : cntS (midC g f l, 0) = (bodyC l, 0) := by unfold cntS; rw [a2]; unfold nS; rw [q1]; exact r1
  unfold betwF
  rw [a1, a3, a4, a5, s1, s2, if_neg (by simp), if_neg]
  · simp only [Prod.mk.injEq, true_and, and_true]
    exact ⟨by omega, by omega⟩
  · rw [show ((g.toNat : Nat) : Int) = g by omega, show ((f.toNat : Nat) : Int) = f by omega]
    simp [hm]
theorem read_back {g f : Int} {l : List Sg} (hm : May g f l) (ha : AIn l) (hg : g ≤ 9223372036854775807) (hf : f ≤ 9223372036854775807) : readF (bytesC g f l) = (0, g, f, l) := by
  have hfl : (frontC g f l).length = 4 + (midC g f l).length := by simp [frontC, markC]; omega
  have hx := fx_len 4 (Crc.more 0#32 (frontC g f l)).toNat
  have hl : (bytesC g f l).length = (frontC g f l).length + 4 := by simp [bytesC, hx]
  have t1 : (bytesC g f l).take ((bytesC g f l).length - 4) = frontC g f l := by
    rw [hl, Nat.add_sub_cancel]; exact List.take_left' rfl
  have t2 : (bytesC g f l).drop ((bytesC g f l).length - 4) = fx 4 (Crc.more 0#32 (frontC g f l)).toNat := by
    rw [hl, Nat.add_sub_cancel]; exact List.drop_left' rfl
  have t3 : (bytesC g f l).take 4 = markC := by simp [bytesC, frontC, markC]
  have hpos := enc_pos g.toNat
  unfold readF
  rw [if_neg (by rw [hl, hfl]; have : 1 ≤ (midC g f l).length := by simp [midC]; omega
                 omega), if_neg (fun c => c t3), t1, t2, fx_num 4 _ (by have := (Crc.more 0#32 (frontC g f l)).isLt; simpa using this), if_neg (by simp)]
  rw [show (frontC g f l).drop 4 = midC g f l by simp [frontC, markC]]
  exact betw_back hm ha hg hf
#print axioms read_back
end Go.Proofs.Ytdhjlongdfgejaa.Ct
