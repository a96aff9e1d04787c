/-
  What is written is read, and what is read is what was written, by the bytes.
-/
import Derived.Test.YtophaolgmpdimaaFp
namespace Go.Proofs.Ytophaolgmpdimaa
open Go.RowKit

theorem cut2 (a b r : List UInt8) (n m : Nat) (ha : a.length = n) (hb : b.length = m) : ((a ++ (b ++ r)).drop n).take m = b := by
  rw [List.drop_left' ha, List.take_left' hb]
theorem rd_back (seed : Crc.R) (lsn : Nat) (d r : List UInt8) (h1 : 1 ≤ lsn) (h2 : lsn ≤ 9223372036854775806) (hd : d.length ≤ 4096) :
    rdF seed (frm seed lsn d ++ r) = ((lsn : Int), d, 16 + (d.length : Int), fsum seed lsn d, 0) := by
  have e0 : frm seed lsn d ++ r = fx 4 d.length ++ (fx 8 lsn ++ (fmark (fsum seed lsn d) ++ (d ++ r))) := by simp [frm, ffs]
  have n1 : fN (frm seed lsn d ++ r) = d.length := by
    rw [fN, e0, List.take_left' (fx_len 4 _)]
    exact fx_num 4 _ (by simp; omega)
  have n2 : fL (frm seed lsn d ++ r) = lsn := by
    rw [fL, e0, cut2 _ _ _ 4 8 (fx_len _ _) (fx_len _ _)]
    exact fx_num 8 _ (by simp; omega)
  have e1 : frm seed lsn d ++ r = (fx 4 d.length ++ fx 8 lsn) ++ (fmark (fsum seed lsn d) ++ (d ++ r)) := by simp [frm, ffs]
  have n3 : fM (frm seed lsn d ++ r) = (Crc.maskOf (fsum seed lsn d)).toNat := by
    rw [fM, e1, cut2 _ _ _ 12 4 (by simp [fx_len]) (fmark_len _), fmark]
    exact fx_num 4 _ (by have := Crc.lt32 (Crc.maskOf (fsum seed lsn d)); simpa using this)
  have e2 : frm seed lsn d ++ r = (fx 4 d.length ++ (fx 8 lsn ++ fmark (fsum seed lsn d))) ++ (d ++ r) := by simp [frm, ffs]
  have n4 : fD (frm seed lsn d ++ r) = d := by
    rw [fD, n1, e2, cut2 _ _ _ 16 d.length (by simp [fx_len, fmark_len]) rfl]
  have n5 : (frm seed lsn d ++ r).length = 16 + d.length + r.length := by rw [List.length_append, frm_len]
  have e : rdE seed (frm seed lsn d ++ r) = 0 := by
    rw [rdE, n1, n2, n3, n4, n5, if_neg (by omega), if_neg (by omega), if_neg (by omega), if_neg (by omega), if_neg (by simp)]
  rw [rdF, if_pos e, n1, n2, n4]
theorem rd_zero {seed : Crc.R} {l : List UInt8} (h : (rdF seed l).2.2.2.2 ≠ 0) : rdF seed l = (0, [], 0, 0#32, (rdF seed l).2.2.2.2) := by
  unfold rdF at h ⊢
  by_cases e : rdE seed l = 0
  · rw [if_pos e] at h; simp at h
  · rw [if_neg e]
theorem wr_back {seed : Crc.R} {l : List UInt8} (h : (rdF seed l).2.2.2.2 = 0) :
    rdE seed l = 0 ∧ rdF seed l = ((fL l : Int), fD l, 16 + (fN l : Int), fsum seed (fL l) (fD l), 0) ∧ 16 + fN l ≤ l.length ∧ 1 ≤ fL l ∧ fL l ≤ 9223372036854775806 ∧ (fD l).length = fN l ∧ fN l ≤ 4096 ∧ frm seed (fL l) (fD l) = l.take (16 + fN l) := by
  have e : rdE seed l = 0 := by
    unfold rdF at h
    by_cases e : rdE seed l = 0
    · exact e
    · rw [if_neg e] at h; exact h
  have hF : rdF seed l = ((fL l : Int), fD l, 16 + (fN l : Int), fsum seed (fL l) (fD l), 0) := by rw [rdF, if_pos e]
  have e' := e
  unfold rdE at e'
  by_cases a1 : l.length < 16
  · rw [if_pos a1] at e'; simp at e'
  rw [if_neg a1] at e'
  by_cases a2 : 4096 < fN l
  · rw [if_pos a2] at e'; simp at e'
  rw [if_neg a2] at e'
  by_cases a3 : fL l < 1 ∨ 9223372036854775806 < fL l
  · rw [if_pos a3] at e'; simp at e'
  rw [if_neg a3] at e'
  by_cases a4 : l.length - 16 < fN l
  · rw [if_pos a4] at e'; simp at e'
  rw [if_neg a4] at e'
  by_cases a5 : (Crc.maskOf (fsum seed (fL l) (fD l))).toNat ≠ fM l
  · rw [if_pos a5] at e'; simp at e'
  have a6 : (Crc.maskOf (fsum seed (fL l) (fD l))).toNat = fM l := by simpa using a5
  have hD : (fD l).length = fN l := by rw [fD]; simp; omega
  refine ⟨e, hF, by omega, by omega, by omega, hD, by omega, ?_⟩
  rw [frm, fmark, a6, hD, ffs, fN, fL, fM, num_fx8 _ 4 (by simp; omega), num_fx8 _ 8 (by simp; omega), num_fx8 _ 4 (by simp; omega)]
  rw [show 16 + num (l.take 4) = 4 + (8 + (4 + num (l.take 4))) by omega, List.take_add, List.take_add, List.take_add]
  simp [List.drop_drop, fD, fN]
theorem wrF_ok {seed : Crc.R} {lsn : Int} {d : List UInt8} (h1 : 1 ≤ lsn) (h2 : lsn ≤ 9223372036854775806) (hd : d.length ≤ 4096) : wrF seed lsn d = (frm seed lsn.toNat d, fsum seed lsn.toNat d, 0) := by
  rw [wrF, if_neg (by simp [inB, h1, h2]), if_neg (by omega)]
theorem wrF_inv {seed : Crc.R} {lsn : Int} {d : List UInt8} (h : (wrF seed lsn d).2.2 = 0) : 1 ≤ lsn ∧ lsn ≤ 9223372036854775806 ∧ d.length ≤ 4096 := by
  unfold wrF at h
  by_cases a1 : inB lsn 9223372036854775806 = false
  · rw [if_pos a1] at h; simp at h
  rw [if_neg a1] at h
  by_cases a2 : 4096 < d.length
  · rw [if_pos a2] at h; simp at h
  simp [inB] at a1
  omega
theorem rh_back (nm bs : Nat) (seed : Crc.R) (r : List UInt8) (h1 : 1 ≤ nm) (h2 : nm ≤ 9223372036854775807) (h3 : 1 ≤ bs) (h4 : bs ≤ 9223372036854775807) :
    rhF (hed nm bs seed ++ r) = ((nm : Int), (bs : Int), seed, hsum nm bs seed, 0) := by
  have hs := Crc.lt32 seed
  have e0 : hed nm bs seed ++ r = ttl ++ (fx 8 nm ++ (fx 8 bs ++ (fx 4 seed.toNat ++ (fmark (hsum nm bs seed) ++ r)))) := by simp [hed, hfs]
  have t0 : ttl.length = 8 := rfl
  have n0 : (hed nm bs seed ++ r).take 8 = ttl := by rw [e0, List.take_left' t0]
  have n1 : gN (hed nm bs seed ++ r) = nm := by
    rw [gN, e0, cut2 _ _ _ 8 8 t0 (fx_len _ _)]; exact fx_num 8 _ (by simp; omega)
  have e1 : hed nm bs seed ++ r = (ttl ++ fx 8 nm) ++ (fx 8 bs ++ (fx 4 seed.toNat ++ (fmark (hsum nm bs seed) ++ r))) := by simp [hed, hfs]
  have n2 : gB (hed nm bs seed ++ r) = bs := by
    rw [gB, e1, cut2 _ _ _ 16 8 (by simp [fx_len, t0]) (fx_len _ _)]; exact fx_num 8 _ (by simp; omega)
  have e2 : hed nm bs seed ++ r = (ttl ++ (fx 8 nm ++ fx 8 bs)) ++ (fx 4 seed.toNat ++ (fmark (hsum nm bs seed) ++ r)) := by simp [hed, hfs]
  have n3 : gS (hed nm bs seed ++ r) = seed.toNat := by
    rw [gS, e2, cut2 _ _ _ 24 4 (by simp [fx_len, t0]) (fx_len _ _)]; exact fx_num 4 _ (by simpa using hs)
  have e3 : hed nm bs seed ++ r = hfs nm bs seed ++ (fmark (hsum nm bs seed) ++ r) := by simp [hed]
  have n4 : gM (hed nm bs seed ++ r) = (Crc.maskOf (hsum nm bs seed)).toNat := by
    rw [gM, e3, cut2 _ _ _ 28 4 (hfs_len _ _ _) (fmark_len _), fmark]
    exact fx_num 4 _ (by have := Crc.lt32 (Crc.maskOf (hsum nm bs seed)); simpa using this)
  have n5 : (hed nm bs seed ++ r).take 28 = hfs nm bs seed := by rw [e3, List.take_left' (hfs_len _ _ _)]
  have n6 : (hed nm bs seed ++ r).length = 32 + r.length := by rw [List.length_append, hed_len]
  have s1 : sg64 nm = (nm : Int) := by rw [sg64, if_pos (by omega)]
  have s2 : sg64 bs = (bs : Int) := by rw [sg64, if_pos (by omega)]
  have e : rhE (hed nm bs seed ++ r) = 0 := by
    rw [rhE, n0, n1, n2, n4, n5, n6, s1, s2, if_neg (by omega), if_neg (by simp; omega), if_neg (by simp [hsum])]
  rw [rhF, if_pos e, n1, n2, n3, n5, s1, s2]
  simp [hsum]
theorem whF_inv {nm bs : Int} {seed : Crc.R} (h : (whF nm bs seed).2.2 = 0) : 1 ≤ nm ∧ 1 ≤ bs := by
  unfold whF at h
  by_cases a : nm < 1 ∨ bs < 1
  · rw [if_pos a] at h; simp at h
  · omega
theorem whF_ok {nm bs : Int} {seed : Crc.R} (h1 : 1 ≤ nm) (h2 : 1 ≤ bs) : whF nm bs seed = (hed nm.toNat bs.toNat seed, hsum nm.toNat bs.toNat seed, 0) := by
  rw [whF, if_neg (by omega)]
#print axioms rh_back
#print axioms wr_back
end Go.Proofs.Ytophaolgmpdimaa
