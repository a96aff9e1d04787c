/-
  What is written is read, and what is read is what was written, by the bytes; flumelaw6.Eq; frames one behind the other (for a seat without heads).
-/
import Derived.Test.YtebhkdaefjmbnaaFh
import Derived.Test.YtebhkdaefjmbnaaFd
import Derived.Test.YtebhkdaefjmbnaaEq
namespace Go.Proofs.Ytebhkdaefjmbnaa
open Go.RowKit
theorem num_fx (l : List UInt8) : fx l.length (num l) = l := by
  induction l with
  | nil => rfl
  | cons c r ih =>
    have hc := c.toNat_lt
    have e1 : (c.toNat + 256 * num r) % 256 = c.toNat := by omega
    have e2 : (c.toNat + 256 * num r) / 256 = num r := by omega
    rw [List.length_cons, num, fx, e1, e2, ih]
    simp
theorem num_fx8 (l : List UInt8) (n : Nat) (h : l.length = n) : fx n (num l) = l := by rw [← h]; exact num_fx l

theorem cut2 (a b r : List UInt8) (n m : Nat) (ha : a.length = n) (hb : b.length = m) : ((a ++ (b ++ r)).drop n).take m = b := by
  rw [List.drop_left' ha, List.take_left' hb]
theorem rd_back (seed : Crc.R) (lsn : Nat) (d r : List UInt8) (h1 : 1 ≤ lsn) (h2 : lsn ≤ 9223372036854775806) (hd : d.length ≤ 4096) :
    rdF seed (frm seed lsn d ++ r) = ((lsn : Int), d, 16 + (d.length : Int), fsum seed lsn d, 0) := by
  have e0 : frm seed lsn d ++ r = fx 4 d.length ++ (fx 8 lsn ++ (fmark (fsum seed lsn d) ++ (d ++ r))) := by simp [frm, ffs]
  have n1 : fN (frm seed lsn d ++ r) = d.length := by
    rw [fN, e0, List.take_left' (fx_len 4 _)]
    exact fx_num 4 _ (by simp; omega)
  have n2 : fL (frm seed lsn d ++ r) = lsn := by
    rw [fL, e0, cut2 _ _ _ 4 8 (fx_len _ _) (fx_len _ _)]
    exact fx_num 8 _ (by simp; omega)
  have e1 : frm seed lsn d ++ r = (fx 4 d.length ++ fx 8 lsn) ++ (fmark (fsum seed lsn d) ++ (d ++ r)) := by simp [frm, ffs]
  have n3 : fM (frm seed lsn d ++ r) = (Crc.maskOf (fsum seed lsn d)).toNat := by
    rw [fM, e1, cut2 _ _ _ 12 4 (by simp [fx_len]) (fmark_len _), fmark]
    exact fx_num 4 _ (by have := Crc.lt32 (Crc.maskOf (fsum seed lsn d)); simpa using this)
  have e2 : frm seed lsn d ++ r = (fx 4 d.length ++ (fx 8 lsn ++ fmark (fsum seed lsn d))) ++ (d ++ r) := by simp [frm, ffs]
  have n4 : fD (frm seed lsn d ++ r) = d := by
    rw [fD, n1, e2, cut2 _ _ _ 16 d.length (by simp [fx_len, fmark_len]) rfl]
  have n5 : (frm seed lsn d ++ r).length = 16 + d.length + r.length := by rw [List.length_append, frm_len]
  have e : rdE seed (frm seed lsn d ++ r) = 0 := by
    rw [rdE, n1, n2, n3, n4, n5, if_neg (by omega), if_neg (by omega), if_neg (by omega), if_neg (by omega), if_neg (by simp)]
  rw [rdF, if_pos e, n1, n2, n4]
theorem rd_zero {seed : Crc.R} {l : List UInt8} (h : (rdF seed l).2.2.2.2 ≠ 0) : rdF seed l = (0, [], 0, 0#32, (rdF seed l).2.2.2.2) := by
  unfold rdF at h ⊢
  by_cases e : rdE seed l = 0
  · rw [if_pos e] at h; simp at h
  · rw [if_neg e]
theorem wr_back {seed : Crc.R} {l : List UInt8} (h : (rdF seed l).2.2.2.2 = 0) :
    rdE seed l = 0 ∧ rdF seed l = ((fL l : Int), fD l, 16 + (fN l : Int), fsum seed (fL l) (fD l), 0) ∧ 16 + fN l ≤ l.length ∧ 1 ≤ fL l ∧ fL l ≤ 9223372036854775806 ∧ (fD l).length = fN l ∧ fN l ≤ 4096 ∧ frm seed (fL l) (fD l) = l.take (16 + fN l) := by
  have e : rdE seed l = 0 := by
    unfold rdF at h
    by_cases e : rdE seed l = 0
    · exact e
    · rw [if_neg e] at h; exact h
  have hF : rdF seed l = ((fL l : Int), fD l, 16 + (fN l : Int), fsum seed (fL l) (fD l), 0) := by rw [rdF, if_pos e]
  have e' := e
  unfold rdE at e'
  by_cases a1 : l.length < 16
  · rw [if_pos a1] at e'; simp at e'
  rw [if_neg a1] at e'
  by_cases a2 : 4096 < fN l
  · rw [if_pos a2] at e'; simp at e'
  rw [if_neg a2] at e'
  by_cases a3 : fL l < 1 ∨ 9223372036854775806 < fL l
  · rw [if_pos a3] at e'; simp at e'
  rw [if_neg a3] at e'
  by_cases a4 : l.length - 16 < fN l
  · rw [if_pos a4] at e'; simp at e'
  rw [if_neg a4] at e'
  by_cases a5 : (Crc.maskOf (fsum seed (fL l) (fD l))).toNat ≠ fM l
  · rw [if_pos a5] at e'; simp at e'
  have a6 : (Crc.maskOf (fsum seed (fL l) (fD l))).toNat = fM l := by simpa using a5
  have hD : (fD l).length = fN l := by rw [fD]; simp; omega
  refine ⟨e, hF, by omega, by omega, by omega, hD, by omega, ?_⟩
  rw [frm, fmark, a6, hD, ffs, fN, fL, fM, num_fx8 _ 4 (by simp; omega), num_fx8 _ 8 (by simp; omega), num_fx8 _ 4 (by simp; omega)]
  rw [show 16 + num (l.take 4) = 4 + (8 + (4 + num (l.take 4))) by omega, List.take_add, List.take_add, List.take_add]
  simp [List.drop_drop, fD, fN]
theorem wrF_ok {seed : Crc.R} {lsn : Int} {d : List UInt8} (h1 : 1 ≤ lsn) (h2 : lsn ≤ 9223372036854775806) (hd : d.length ≤ 4096) : wrF seed lsn d = (frm seed lsn.toNat d, fsum seed lsn.toNat d, 0) := by
  rw [wrF, if_neg (by simp [inB, h1, h2]), if_neg (by omega)]
theorem wrF_inv {seed : Crc.R} {lsn : Int} {d : List UInt8} (h : (wrF seed lsn d).2.2 = 0) : 1 ≤ lsn ∧ lsn ≤ 9223372036854775806 ∧ d.length ≤ 4096 := by
  unfold wrF at h
  by_cases a1 : inB lsn 9223372036854775806 = false
  · rw [if_pos a1] at h; simp at h
  rw [if_neg a1] at h
  by_cases a2 : 4096 < d.length
  · rw [if_pos a2] at h; simp at h
  simp [inB] at a1
  omega
theorem eqS_any (w : World) (v u : Value) (l m : List UInt8) (hv : Sl w v l) (hu : Sl w u m) :
    Calls Try.prog 21 #[v, u] w fun e w' => e = .returned (.bool (decide (l = m))) ∧ Qt w w' := by
  have a := hv.le
  have b := hu.le
  obtain ⟨ao, ca, rfl, _, _, _, h5⟩ := hv
  obtain ⟨bo, cb, rfl, _, _, _, k5⟩ := hu
  exact eq_any w ao bo l m ca cb a b h5 k5

set_option maxHeartbeats 400000 in
theorem eq6_any (w : World) (a b : Int) (v u : Value) (l m : List UInt8) (hv : Sl w v l) (hu : Sl w u m) :
    Calls Try.prog 9 #[.agg #[.int .i64 a, v], .agg #[.int .i64 b, u]] w fun e w' => e = .returned (.bool (decide (a = b) && decide (l = m))) ∧ Below w.heap.size w w' := by
  have hbb := hide (keepF (box_below w (.cells #[.int .i64 a, v] 41)) (box_below (w.alloc (.cells #[.int .i64 a, v] 41)) (.cells #[.int .i64 b, u] 41)))
  have hv2 := hide (Below.sl hbb.out hv)
  have hu2 := hide (Below.sl hbb.out hu)
  clear hv hu
  by_cases h : a = b
  · subst h
    rw [decide_eq_true rfl, Bool.true_and]
    obtain ⟨D, hD⟩ : ∃ D, Hid (decide (l = m) = D) := ⟨_, rfl⟩
    rw [hD.out]
    go_enter Try.func9, Try.ntmps9
    go_wp2_with fail
    refine (eqS_any _ _ _ l m hv2.out hu2.out).mono ?_
    rintro e w1 ⟨rfl, hq⟩
    rw [hD.out]
    have hb2 := hide (keepF hbb.out (hq.below _))
    clear hq
    go_wp2_with fail
    go_ret
    exact ⟨rfl, hb2.out⟩
  · rw [decide_eq_false h, Bool.false_and]
    have hi : (a == b) = false := by simpa using h
    clear h
    go_enter Try.func9, Try.ntmps9
    go_wp2_with fail
    go_ret
    exact ⟨rfl, hbb.out⟩


/-- The bytes of frames of the data ds, the first with the number b, each behind the sum of the one ahead; the last one's sum. -/
def chn : Crc.R → Nat → List (List UInt8) → List UInt8 × Crc.R
  | s, _, [] => ([], s)
  | s, b, d :: r => (frm s b d ++ (chn (fsum s b d) (b + 1) r).1, (chn (fsum s b d) (b + 1) r).2)
theorem chn_split (x y : List (List UInt8)) : ∀ (s : Crc.R) (b : Nat), chn s b (x ++ y) = ((chn s b x).1 ++ (chn (chn s b x).2 (b + x.length) y).1, (chn (chn s b x).2 (b + x.length) y).2) := by
  induction x with
  | nil => intro s b; simp [chn]
  | cons d r ih =>
    intro s b
    rw [List.cons_append, chn, ih, chn]
    simp only [List.append_assoc, List.length_cons, Nat.add_assoc, Nat.add_comm 1]
theorem chn_one (s : Crc.R) (b : Nat) (d : List UInt8) : chn s b [d] = (frm s b d, fsum s b d) := by simp [chn]
theorem chn_snoc (s : Crc.R) (b : Nat) (ds : List (List UInt8)) (i : Nat) (h : i < ds.length) : chn s b (ds.take (i + 1)) = ((chn s b (ds.take i)).1 ++ frm (chn s b (ds.take i)).2 (b + i) ds[i], fsum (chn s b (ds.take i)).2 (b + i) ds[i]) := by
  have hl : (ds.take i).length = i := by simp; omega
  rw [List.take_succ_eq_append_getElem h, chn_split, chn_one, hl]
theorem chn_len (ds : List (List UInt8)) : ∀ (s : Crc.R) (b : Nat), (∀ d ∈ ds, d.length ≤ 4096) → (chn s b ds).1.length ≤ 4112 * ds.length := by
  induction ds with
  | nil => intro s b _; simp [chn]
  | cons d r ih =>
    intro s b h
    have h1 := h d (by simp)
    have h2 := ih (fsum s b d) (b + 1) (fun e he => h e (by simp [he]))
    simp only [chn, List.length_append, frm_len, List.length_cons]
    omega
/-- What stands behind the first i frames. -/
theorem chn_drop (s : Crc.R) (b : Nat) (ds : List (List UInt8)) (i : Nat) (h : i < ds.length) : (chn s b ds).1 = (chn s b (ds.take i)).1 ++ (frm (chn s b (ds.take i)).2 (b + i) ds[i] ++ (chn (fsum (chn s b (ds.take i)).2 (b + i) ds[i]) (b + i + 1) (ds.drop (i + 1))).1) := by
  have e : ds = ds.take i ++ (ds[i] :: ds.drop (i + 1)) := by rw [← List.drop_eq_getElem_cons h, List.take_append_drop]
  have hl : (ds.take i).length = i := by simp; omega
  rw [show chn s b ds = chn s b (ds.take i ++ (ds[i] :: ds.drop (i + 1))) from congrArg (chn s b) e, chn_split, hl, chn]


end Go.Proofs.Ytebhkdaefjmbnaa
