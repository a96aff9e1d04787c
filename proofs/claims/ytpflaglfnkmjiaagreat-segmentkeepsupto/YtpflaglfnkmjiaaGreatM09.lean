/-
  A segment on a disk with nothing armed: Create, Put, Read, Look, Count.
-/
import Derived.Test.YtpflaglfnkmjiaaGreatM08
import Derived.Test.YtpflaglfnkmjiaaGreatM05
import Derived.Test.YtpflaglfnkmjiaaGreatM06
import Derived.Handy
import Derived.Deep.CutRange
import Derived.BigRegion
import Derived.BigQuiet
import Derived.Deep.RegionHeld3
import Derived.Test.YtpflaglfnkmjiaaGreatM01
import Derived.RangeFuncBound
import Derived.Shelf.Abstract
import Derived.WalkKit
import Derived.OwnWalkIn
import Derived.TacticsInMore
import Derived.LoopNIn
import Derived.LoopIn
set_option maxRecDepth 100000
set_option maxHeartbeats 40000000
set_option linter.unusedVariables false
namespace Go.Proofs.YtpflaglfnkmjiaaGreat.Sg
open Go.RowKit Go.Maps Go.Sort Go.Shelf Go.Proofs.YtpflaglfnkmjiaaGreat.Nm Go.Proofs.YtpflaglfnkmjiaaGreat.Dk
def CS (w q : World) (sb : Nat) (s : SG) (S : DS) : Prop :=
 ∃ (O : Nat → Prop) (xb mb : Nat) (v : Value), SW q sb s S O xb mb v ∧ Below w.heap.size w q ∧ (∀ k, O k → w.heap.size ≤ k) ∧ ∀ k, SOwn sb xb mb v k → w.heap.size ≤ k
theorem CS.below {w q q' : World} {sb : Nat} {s : SG} {S : DS} (h : CS w q sb s S) (hb : Below q.heap.size q q') : CS w q' sb s S := by
 obtain ⟨O, xb, mb, v, h, hB, l1, l2⟩ := h
 exact ⟨O, xb, mb, v, h.below hb, hB.trans (hb.mono hB.size), l1, l2⟩
theorem CS.bel {w q : World} {sb : Nat} {s : SG} {S : DS} (h : CS w q sb s S) : Below w.heap.size w q := by
 obtain ⟨O, xb, mb, v, h, hB, l1, l2⟩ := h
 exact hB
theorem Sst.cs {w q q' : World} {sb xb mb : Nat} {v v' : Value} {O O' : Nat → Prop} {s : SG} {S : DS} (h : Sst q q' sb xb mb v v' O O') (hS : SW q' sb s S O' xb mb v') (hB : Below w.heap.size w q) (l1 : ∀ k, O k → w.heap.size ≤ k) (l2 : ∀ k, SOwn sb xb mb v k → w.heap.size ≤ k) : CS w q' sb s S := by
 refine ⟨O', xb, mb, v', hS, ⟨h.but.os.trans hB.os, h.but.tape.trans hB.tape, h.but.output.trans hB.output, Nat.le_trans hB.size h.but.size, fun k hk => (h.but.block k (Nat.lt_of_lt_of_le hk hB.size) (fun c => ?_)).trans (hB.block k hk)⟩, fun k hk => ?_, fun k hk => ?_⟩
 ·rcases c with c | c
  ·have := l2 k c; omega
  ·have := l1 k c; omega
 ·rcases h.o k hk with c | c
  ·exact l1 k c
  ·exact Nat.le_trans hB.size c
 ·rcases hk with c | c | c | c
  ·exact l2 k (.inl c)
  ·exact l2 k (.inr (.inl c))
  ·exact l2 k (.inr (.inr (.inl c)))
  ·rcases h.v k c with c | c
   ·exact l2 k (.inr (.inr (.inr c)))
   ·exact Nat.le_trans hB.size c
theorem cs_put {w q : World} {sb : Nat} {s : SG} {S : DS} (h : CS w q sb s S) (ok : SOk s) (seed : Crc.R) (hsd : s.seed = (seed.toNat : Int)) (vd : Value) (vs : List Value) (ls : List (List UInt8)) (hr : Row q vd vs) (hs : Sls q vs ls) (hl : ls.length ≤ 34000000000) (hz : s.size + (ls.length : Int) * 4112 ≤ 2147483647) (hl2 : s.sd.length + ls.length ≤ 1000000000) (hf : s.file.size ≤ maxLen) (hc : S.c7 < 900000000) :
    Calls Tryz.prog 15 #[.pointer (some ⟨sb, 0, none⟩), vd] q fun e w' => e = .returned (.tuple #[.int .i64 (putF s S seed ls).2.1, .int .i64 (putF s S seed ls).2.2]) ∧ CS w w' sb (putF s S seed ls).1.1 (putF s S seed ls).1.2 := by
 obtain ⟨O, xb, mb, v, h, hB, l1, l2⟩ := h
 refine (putS_any h ok seed hsd vd vs ls hr hs hl hz hl2 hf hc).mono ?_
 rintro e w' ⟨rfl, v', O', hS, hst⟩
 exact ⟨rfl, hst.cs hS hB l1 l2⟩
theorem cs_read {w q : World} {sb : Nat} {s : SG} {S : DS} (h : CS w q sb s S) (ok : SOk s) (lsn : Int) (h0 : -9223372036854775808 ≤ lsn) (h1 : lsn ≤ 9223372036854775807) (hbs : 1 ≤ s.base) (hf : s.file.size ≤ maxLen) :
    Calls Tryz.prog 19 #[.pointer (some ⟨sb, 0, none⟩), .int .i64 lsn] q fun e w' => ∃ vd, e = .returned (.tuple #[.agg #[.int .i64 (rdS s S lsn).1.1, vd], .int .i64 (rdS s S lsn).2]) ∧ Ob q.heap.size w' vd (rdS s S lsn).1.2 ∧ Below q.heap.size q w' := by
 obtain ⟨O, xb, mb, v, h, hB, l1, l2⟩ := h
 exact readS_any h ok lsn h0 h1 hbs hf
theorem cs_look {w q : World} {sb : Nat} {s : SG} {S : DS} (h : CS w q sb s S) : Calls Tryz.prog 22 #[.pointer (some ⟨sb, 0, none⟩)] q fun e w' => e = .returned (.agg s.look) ∧ Below q.heap.size q w' := by
 obtain ⟨O, xb, mb, v, h, hB, l1, l2⟩ := h
 exact look_any h.sg
theorem cs_count {w q : World} {sb : Nat} {s : SG} {S : DS} (h : CS w q sb s S) : Calls Tryz.prog 21 #[.pointer (some ⟨s.b, 0, none⟩)] q fun e w' => e = .returned (.agg S.cs) ∧ Below q.heap.size q w' := by
 obtain ⟨O, xb, mb, v, h, hB, l1, l2⟩ := h
 exact count_dsk h.dk
theorem cs_create {w q : World} {b : Nat} {S : DS} {O : Nat → Prop} (h : DskE q b S O) (hB : Below w.heap.size w q) (l1 : ∀ k, O k → w.heap.size ≤ k) (file : ByteArray) (nm bs : Int) (seed : Crc.R) (hf : file.size ≤ 140737488355328) (hm : file.size ≤ maxLen) (hc : S.c7 < 800000000) (n0 : -9223372036854775808 ≤ nm) (n1 : nm ≤ 9223372036854775807) (b0 : -9223372036854775808 ≤ bs) (b1 : bs ≤ 9223372036854775807)
    (hgo : ∀ p, (creF S file nm bs seed p).2 = 0) :
    Calls Tryz.prog 13 #[.pointer (some ⟨b, 0, none⟩), .string file, .agg #[.int .i64 nm, .int .i64 bs, .int .u32 (seed.toNat : Int)]] q fun e w' => ∃ p sb, e = .returned (.tuple #[.pointer (some ⟨sb, 0, none⟩), .int .i64 0]) ∧ p ∉ S.ps ∧ CS w w' sb (newSG b file nm bs seed (whF nm bs seed).2.1) (creF S file nm bs seed p).1 := by
 refine (createS_any h file nm bs seed hf hm hc n0 n1 b0 b1).mono ?_
 rintro e w' ⟨p, O', hp, hps, hg, ⟨c, _⟩ | ⟨_, sb, xb, mb, v, rfl, hS, hlo⟩⟩
 ·exact absurd (hgo p) c
 ·exact ⟨p, sb, rfl, hps, O', xb, mb, v, hS, hg.under l1 (Nat.le_refl _) hB, hg.low hB.size l1, fun k hk => Nat.le_trans hB.size (hlo k hk)⟩
structure Clm (s : SG) (S : DS) (sd0 : Crc.R) (hd : List UInt8) (ds : List (List UInt8)) (M : Nat) (L2 : Dr) (PP : List Ch) (F : Nat → Fl) (c : Int) (p : Nat) : Prop where
 co : Coh s sd0 ds
 cd : s.cond = 0
 hh : hd.length = 32
 cm : Cm S M L2 PP F c
 my : may s.file.data.toList = true
 gt : get (runs L2 PP) s.file.data.toList = some p
 by_ : (F p).by_ = hd ++ (wk sd0 s.base ds ds.length).1
 sl : s.sd.length ≤ ds.length
theorem Clm.has {s : SG} {S : DS} {sd0 : Crc.R} {hd : List UInt8} {ds : List (List UInt8)} {M : Nat} {L2 : Dr} {PP : List Ch} {F : Nat → Fl} {c : Int} {p : Nat} (h : Clm s S sd0 hd ds M L2 PP F c p) : Has S s.file (hd ++ (wk sd0 s.base ds ds.length).1) :=
 ⟨p, h.cm.find h.my h.gt, by rw [h.cm.F]; exact h.by_⟩
theorem Clm.read {s : SG} {S : DS} {sd0 : Crc.R} {hd : List UInt8} {ds : List (List UInt8)} {M : Nat} {L2 : Dr} {PP : List Ch} {F : Nat → Fl} {c : Int} {p : Nat} (h : Clm s S sd0 hd ds M L2 PP F c p) {lsn : Int} (h1 : s.base ≤ lsn) (h2 : lsn < s.next) : rdS s S lsn = ((lsn, ds.getD (lsn - s.base).toNat []), 0) := h.co.read h.hh h.has h1 h2
theorem Clm.put {s : SG} {S : DS} {sd0 : Crc.R} {hd : List UInt8} {ds : List (List UInt8)} {M : Nat} {L2 : Dr} {PP : List Ch} {F : Nat → Fl} {c : Int} {p : Nat} (h : Clm s S sd0 hd ds M L2 PP F c p) (ls : List (List UInt8)) (h0 : ls ≠ []) (hd4 : ∀ d ∈ ls, d.length ≤ 4096) (hn : s.next + (ls.length : Int) ≤ 9223372036854775807) (hz : s.size + (ls.length : Int) * 4112 ≤ 2147483647) (hl : ds.length + ls.length ≤ 1000000000)
    (hM : sumL F (runs L2 PP) + (wk (wk sd0 s.base ds ds.length).2.2 s.next ls ls.length).1.length ≤ M) :
    (putF s S (wk sd0 s.base ds ds.length).2.2 ls).2 = (s.next, 0) ∧ (putF s S (wk sd0 s.base ds ds.length).2.2 ls).1 = (gk s (wk (wk sd0 s.base ds ds.length).2.2 s.next ls ls.length).2.1 ls.length, (S.append s.file (wk (wk sd0 s.base ds ds.length).2.2 s.next ls ls.length).1).1) ∧
     Clm (putF s S (wk sd0 s.base ds ds.length).2.2 ls).1.1 (putF s S (wk sd0 s.base ds ds.length).2.2 ls).1.2 sd0 hd (ds ++ ls) M L2 PP (upd F p (apF (F p) (wk (wk sd0 s.base ds ds.length).2.2 s.next ls ls.length).1)) (c + 1) p := by
 have hr : refF s ls = 0 := by
  unfold refF
  rw [if_neg (by rw [h.cd]; decide), if_neg h0, if_neg (by rintro ⟨d, d1, d2⟩; have := hd4 d d1; omega), if_neg (by omega)]
 obtain ⟨k1, k2, k3⟩ := h.cm.append h.my h.gt _ hM
 have e : putF s S (wk sd0 s.base ds ds.length).2.2 ls = ((gk s (wk (wk sd0 s.base ds ds.length).2.2 s.next ls ls.length).2.1 ls.length, (S.append s.file (wk (wk sd0 s.base ds ds.length).2.2 s.next ls ls.length).1).1), s.next, 0) := by
  unfold putF
  rw [if_neg (by rw [hr]; decide), if_neg (by rw [k2]; decide)]
 rw [e]
 have hsl := h.sl
 have hlen := (wk_len (wk sd0 s.base ds ds.length).2.2 s.next ls ls.length).2
 have hf := wk_fs (wk sd0 s.base ds ds.length).2.2 s.next ls ls.length
 obtain ⟨c1, _⟩ := h.co.puts h.co.e ls hd4 hn hz (by omega) ls.length (Nat.le_refl _)
 rw [List.take_length] at c1
 obtain ⟨g1, g2, g3, g4, g5, g6, g7⟩ := gk_b s (wk (wk sd0 s.base ds ds.length).2.2 s.next ls ls.length).2.1 ls.length
 have gl := (gk_ok h.co.ok (wk (wk sd0 s.base ds ds.length).2.2 s.next ls ls.length).2.1 (fun f h => (hf f h).1) (fun f h => (hf f h).2) (by rw [hlen]; omega) (by rw [hlen]; omega) (by rw [hlen]; omega) ls.length (by omega)).2
 refine ⟨rfl, rfl, ⟨c1, by show (gk s _ ls.length).cond = 0; rw [g3]; exact h.cd, h.hh, k3, ?_, ?_, ?_, ?_⟩⟩
 ·show may (gk s _ ls.length).file.data.toList = true; rw [g2]; exact h.my
 ·show get _ (gk s _ ls.length).file.data.toList = _; rw [g2]; exact h.gt
 ·show _ = hd ++ (wk sd0 (gk s _ ls.length).base (ds ++ ls) (ds ++ ls).length).1
  rw [upd_same, g4, List.length_append, (wk_shift (seed := sd0) (n := s.base) ds ls ls.length).2, ← h.co.n]
  show (F p).by_ ++ _ = _
  rw [h.by_, List.append_assoc]
 ·show (gk s _ ls.length).sd.length ≤ _
  rw [List.length_append]
  omega
theorem upd_upd {α : Type} (F : Nat → α) (p : Nat) (s t : α) : upd (upd F p s) p t = upd F p t := by
 funext q
 unfold upd
 split <;> rfl
theorem apNew (H : List UInt8) : apF ⟨[], [], 0⟩ H = ⟨H, [], 0⟩ := rfl
theorem cm_cre {S : DS} {M : Nat} {L2 : Dr} {PP : List Ch} {F : Nat → Fl} {c : Int} (h : Cm S M L2 PP F c) {file : ByteArray} {nm bs : Int} (seed : Crc.R) (h1 : 1 ≤ nm) (h2 : 1 ≤ bs) (hm : may file.data.toList = true) (hg : get (runs L2 PP) file.data.toList = none) (hl : (runs L2 PP).length < 256) (p : Nat) (hg2 : get (runs L2 (PP ++ [.cr file p])) file.data.toList = some p) (hM : sumL (upd F p ⟨[], [], 0⟩) (runs L2 (PP ++ [.cr file p])) + 32 ≤ M) :
    (creF S file nm bs seed p).2 = 0 ∧ Cm (creF S file nm bs seed p).1 M L2 (PP ++ [.cr file p]) (upd F p (syF ⟨hed nm.toNat bs.toNat seed, [], 0⟩)) (c + 3) := by
 obtain ⟨a1, a2⟩ := h.create hm hg hl p
 obtain ⟨b1, b2, b3⟩ := a2.append hm hg2 (hed nm.toNat bs.toNat seed) (by rw [hed_len]; exact hM)
 obtain ⟨c1, c2⟩ := b3.sync hm hg2
 have e : creF S file nm bs seed p = (((S.create file p).1.append file (hed nm.toNat bs.toNat seed)).1).sync file := by
  unfold creF
  rw [whF_ok h1 h2]
  simp only
  rw [if_neg (by simp), if_neg (by rw [a1]; simp), if_neg (by rw [b2]; simp)]
 rw [e]
 refine ⟨c1, ?_⟩
 rw [upd_same, upd_same, upd_upd, upd_upd, apNew] at c2
 rw [show c + 3 = c + 1 + 1 + 1 by omega]
 exact c2
theorem cm_clm {S : DS} {M : Nat} {L2 : Dr} {PP : List Ch} {F : Nat → Fl} {c : Int} {b p : Nat} {file : ByteArray} {nm bs : Int} {seed : Crc.R} (h : Cm S M L2 PP (upd F p (syF ⟨hed nm.toNat bs.toNat seed, [], 0⟩)) c) (h1 : 1 ≤ nm) (h2 : 1 ≤ bs) (h3 : bs ≤ 9223372036854775807) (hm : may file.data.toList = true) (hg : get (runs L2 PP) file.data.toList = some p) :
    Clm (newSG b file nm bs seed (whF nm bs seed).2.1) S (whF nm bs seed).2.1 (hed nm.toNat bs.toNat seed) [] M L2 PP (upd F p (syF ⟨hed nm.toNat bs.toNat seed, [], 0⟩)) c p :=
 ⟨newSG_coh b file nm bs seed _ h2 h3, rfl, hed_len _ _ _, h, hm, hg, by rw [upd_same]; show hed nm.toNat bs.toNat seed = hed nm.toNat bs.toNat seed ++ []; simp, Nat.le_refl _⟩
end Go.Proofs.YtpflaglfnkmjiaaGreat.Sg
namespace Go.Proofs.YtpflaglfnkmjiaaGreat
open Go.RowKit
structure Sc where
 c : Nat
 e : Nat
 n : Nat
 s : Crc.R
def whyS (L : List UInt8) (x : Sc) : Int :=
 if L.length ≤ x.e then 1 else if (rdF x.s (L.drop x.e)).2.2.2.2 ≠ 0 then (rdF x.s (L.drop x.e)).2.2.2.2 else if (rdF x.s (L.drop x.e)).1 ≠ (x.n : Int) then 6 else 0
def nxt (L : List UInt8) (x : Sc) : Sc := ⟨x.c + 1, x.e + (rdF x.s (L.drop x.e)).2.2.1.toNat, x.n + 1, (rdF x.s (L.drop x.e)).2.2.2.1⟩
def dat (L : List UInt8) (x : Sc) : List UInt8 := (rdF x.s (L.drop x.e)).2.1
def recS (L : List UInt8) (x : Sc) : Int × List UInt8 := if whyS L x = 0 then ((x.n : Int), dat L x) else (0, [])
def Sst (L : List UInt8) (x : Sc) : Nat → Sc
 | 0 => x
 | k + 1 => nxt L (Sst L x k)
def Good (L : List UInt8) (x : Sc) (k : Nat) : Prop := ∀ j, j < k → whyS L (Sst L x j) = 0
def IsK (L : List UInt8) (x : Sc) (K : Nat) : Prop := Good L x K ∧ whyS L (Sst L x K) ≠ 0
theorem rd_good {s : Crc.R} {l : List UInt8} (h : (rdF s l).2.2.2.2 = 0) : 16 ≤ l.length ∧ (rdF s l).1 = (fL l : Int) ∧ 1 ≤ fL l ∧ fL l ≤ 9223372036854775806 ∧ (rdF s l).2.2.1 = 16 + (fN l : Int) ∧ fN l ≤ 4096 ∧ fN l ≤ l.length - 16 ∧ (rdF s l).2.1 = fD l := by
 have e : rdE s l = 0 := by
  unfold rdF at h
  split at h
  ·assumption
  ·exact h
 have e2 := e
 unfold rdE at e2
 rw [rdF, if_pos e]
 split at e2
 ·cases e2
 split at e2
 ·cases e2
 split at e2
 ·cases e2
 split at e2
 ·cases e2
 refine ⟨by omega, rfl, by omega, by omega, rfl, by omega, by omega, rfl⟩
theorem why_zero {L : List UInt8} {x : Sc} (h : whyS L x = 0) : x.e < L.length ∧ (rdF x.s (L.drop x.e)).2.2.2.2 = 0 ∧ (rdF x.s (L.drop x.e)).1 = (x.n : Int) ∧ 1 ≤ x.n ∧ x.n ≤ 9223372036854775806 ∧
    (nxt L x).e ≤ L.length ∧ x.e + 16 ≤ (nxt L x).e ∧ ((x.e : Int) + (rdF x.s (L.drop x.e)).2.2.1 = ((nxt L x).e : Int)) ∧ (dat L x).length ≤ 4096 ∧ (nxt L x).e = x.e + 16 + (dat L x).length := by
 unfold whyS at h
 split at h
 ·cases h
 split at h
 ·rename_i h1 h2
  exact absurd h h2
 rename_i h1 h2
 split at h
 ·cases h
 rename_i h3
 have h2' : (rdF x.s (L.drop x.e)).2.2.2.2 = 0 := by simpa using h2
 have h3' : (rdF x.s (L.drop x.e)).1 = (x.n : Int) := by simpa using h3
 obtain ⟨a, b, c, d, f, g, i, j⟩ := rd_good h2'
 have hd : (fD (L.drop x.e)).length = fN (L.drop x.e) := by
  unfold fD; rw [List.length_take, List.length_drop]; omega
 rw [List.length_drop] at a i
 refine ⟨by omega, h2', h3', by omega, by omega, ?_, ?_, ?_, ?_, ?_⟩ <;> simp only [nxt, dat, f, j, hd] <;> omega
theorem good_e {L : List UInt8} {x : Sc} {k : Nat} (h : Good L x k) (he : x.e ≤ L.length) : (Sst L x k).e ≤ L.length ∧ x.e + 16 * k ≤ (Sst L x k).e ∧ (Sst L x k).c = x.c + k ∧ (Sst L x k).n = x.n + k := by
 induction k with
 | zero => exact ⟨he, by simp [Sst], by simp [Sst], by simp [Sst]⟩
 | succ k ih =>
  obtain ⟨a, b, c, d⟩ := ih (fun j hj => h j (by omega))
  obtain ⟨_, _, _, _, _, f, g, _⟩ := why_zero (h k (by omega))
  exact ⟨f, by show _ ≤ (nxt L (Sst L x k)).e; omega, by show (Sst L x k).c + 1 = _; omega, by show (Sst L x k).n + 1 = _; omega⟩
theorem good_next {L : List UInt8} {x : Sc} {k : Nat} (h : Good L x k) (h0 : whyS L (Sst L x k) = 0) : Good L x (k + 1) := fun j hj => by
 by_cases e : j = k
 ·rw [e]; exact h0
 ·exact h j (by omega)
theorem exK (L : List UInt8) (x : Sc) (he : x.e ≤ L.length) : ∃ K, IsK L x K := by
 refine Classical.byContradiction fun h => ?_
 have hg : ∀ k, Good L x k := fun k => by
  induction k with
  | zero => exact fun j hj => by omega
  | succ k ih => exact good_next ih (Classical.byContradiction fun h0 => h ⟨k, ih, h0⟩)
 have := good_e (hg (L.length + 1)) he
 omega
theorem IsK.unique {L : List UInt8} {x : Sc} {K K' : Nat} (h : IsK L x K) (h' : IsK L x K') : K = K' := by
 refine Classical.byContradiction fun hne => ?_
 rcases Nat.lt_or_ge K K' with hl | hl
 ·exact h.2 (h'.1 K hl)
 ·exact h'.2 (h.1 K' (by omega))
def EvS (L : List UInt8) (base : Int) (seed : Crc.R) (xs : List Sc) : Prop :=
 (base < 1 ∧ xs = []) ∨ (1 ≤ base ∧ ∃ K, IsK L ⟨0, 0, base.toNat, seed⟩ K ∧ xs = (List.range (K + 1)).map (Sst L ⟨0, 0, base.toNat, seed⟩))
theorem exS (L : List UInt8) (base : Int) (seed : Crc.R) : ∃ xs, EvS L base seed xs := by
 by_cases h : base < 1
 ·exact ⟨[], .inl ⟨h, rfl⟩⟩
 ·obtain ⟨K, hK⟩ := exK L ⟨0, 0, base.toNat, seed⟩ (Nat.zero_le _)
  exact ⟨_, .inr ⟨by omega, K, hK, rfl⟩⟩
def scv (x : Sc) (y : Int) : Value := .agg #[.int .i64 (x.c : Int), .int .i64 (x.e : Int), .int .i64 (x.n : Int), .int .u32 (x.s.toNat : Int), .int .i64 y]
def scc (x : Sc) (y : Int) : Array Value := #[.int .i64 (x.c : Int), .int .i64 (x.e : Int), .int .i64 (x.n : Int), .int .u32 (x.s.toNat : Int), .int .i64 y]
set_option maxRecDepth 100000
def whyOf (er lsn wanted : Int) : Int := if er = 2 then 2 else if er = 3 then 3 else if er = 4 then 4 else if er = 5 then 5 else if lsn ≠ wanted then 6 else 0
theorem why_any (w : World) (er lsn wanted : Int) :
    Calls Tryz.prog 201 #[.int .i64 er, .int .i64 lsn, .int .i64 wanted] w fun e w' => e = .returned (.int .i64 (whyOf er lsn wanted)) ∧ w' = w := by
 unfold whyOf
 by_cases h2 : er = 2
 ·subst h2
  go_enter Tryz.func201, Tryz.ntmps201
  go_wp2
  go_ret
  exact ⟨rfl, rfl⟩
 by_cases h3 : er = 3
 ·subst h3
  go_enter Tryz.func201, Tryz.ntmps201
  go_wp2
  go_ret
  exact ⟨rfl, rfl⟩
 by_cases h4 : er = 4
 ·subst h4
  go_enter Tryz.func201, Tryz.ntmps201
  go_wp2
  go_ret
  exact ⟨rfl, rfl⟩
 by_cases h5 : er = 5
 ·subst h5
  go_enter Tryz.func201, Tryz.ntmps201
  go_wp2
  go_ret
  exact ⟨rfl, rfl⟩
 rw [if_neg h2, if_neg h3, if_neg h4, if_neg h5]
 by_cases h6 : lsn = wanted
 ·subst h6
  go_enter Tryz.func201, Tryz.ntmps201
  go_wp2
  go_ret
  exact ⟨by simp, rfl⟩
 ·rw [if_pos h6]
  go_enter Tryz.func201, Tryz.ntmps201
  go_wp2
  go_ret
  exact ⟨rfl, rfl⟩
theorem whyS_of {L : List UInt8} {x : Sc} (he : x.e < L.length) : whyS L x = whyOf (rdF x.s (L.drop x.e)).2.2.2.2 (rdF x.s (L.drop x.e)).1 (x.n : Int) := by
 have key : ∀ s l, (rdF s l).2.2.2.2 = 0 ∨ (rdF s l).2.2.2.2 = 2 ∨ (rdF s l).2.2.2.2 = 3 ∨ (rdF s l).2.2.2.2 = 4 ∨ (rdF s l).2.2.2.2 = 5 := by
  intro s l
  unfold rdF
  split
  ·exact .inl rfl
  ·show rdE s l = 0 ∨ rdE s l = 2 ∨ rdE s l = 3 ∨ rdE s l = 4 ∨ rdE s l = 5
   unfold rdE
   repeat' split
   all_goals simp
 rw [whyS, if_neg (by omega)]
 unfold whyOf
 rcases key x.s (L.drop x.e) with h | h | h | h | h <;> simp only [h] <;> simp
theorem set5 {w : World} {b : Nat} {z0 z1 z2 z3 z4 : Value} {T : TypeId} (h : w.heap[b]? = some (.cells #[z0, z1, z2, z3, z4] T (0, 0))) (y : Value) : (w.setCell ⟨b, 4, none⟩ y).heap[b]? = some (.cells #[z0, z1, z2, z3, y] T (0, 0)) := by
 simp [World.setCell, Array.getElem?_modify, h]
theorem owns_ne {w : World} {b base n : Nat} {v : Value} {xs : List Value} {cs : Array Value} {T : TypeId} {fz : Nat × Nat} (h : w.ownsRow base 5 1 v n xs) (hb : w.heap[b]? = some (.cells cs T fz)) (hT : T ≠ 5) : v.ownBlock ≠ some b := fun e => by
 obtain ⟨_, p⟩ := id h
 rcases p with ⟨rfl, _⟩ | ⟨g, cap, cur, rfl, _, hg, _⟩
 ·simp [Value.ownBlock] at e
 ·simp [Value.ownBlock] at e
  subst e
  rw [hb] at hg
  simp at hg
  exact hT hg.2.1
def put5 (w : World) (b : Nat) (y0 y1 y2 y3 y4 : Value) : World := (put2 w b y0 y1 |>.setCell ⟨b, 2, none⟩ y2 |>.setCell ⟨b, 3, none⟩ y3).setCell ⟨b, 4, none⟩ y4
theorem put5_heap {w : World} {b : Nat} {z0 z1 z2 z3 z4 : Value} {T : TypeId} (h : w.heap[b]? = some (.cells #[z0, z1, z2, z3, z4] T (0, 0))) (y0 y1 y2 y3 y4 : Value) : (put5 w b y0 y1 y2 y3 y4).heap[b]? = some (.cells #[y0, y1, y2, y3, y4] T (0, 0)) := by
 unfold put5 put2
 rw [heap_setCell_same _ _ _ _ _ _ (heap_setCell_same _ _ _ _ _ _ (heap_setCell_same _ _ _ _ _ _ (heap_setCell_same _ _ _ _ _ _ (heap_setCell_same _ _ _ _ _ _ h))))]
 rfl
theorem put5_other (w : World) (b k : Nat) (y0 y1 y2 y3 y4 : Value) (h : k ≠ b) : (put5 w b y0 y1 y2 y3 y4).heap[k]? = w.heap[k]? := by
 unfold put5
 rw [heap_setCell_other _ _ k _ h, heap_setCell_other _ _ k _ h, heap_setCell_other _ _ k _ h]; exact put2_other w b k y0 y1 h
theorem put5_grown (w : World) (b : Nat) (y0 y1 y2 y3 y4 : Value) : w.grownBy (put5 w b y0 y1 y2 y3 y4) (some b) := grown_trans (grown_trans (grown_trans (put2_grown _ _ _ _) (grown_setCell _ _ _ _)) (grown_setCell _ _ _ _)) (grown_setCell _ _ _ _)
theorem heap_drew (w : World) : w.drew.heap = w.heap := rfl
theorem put25 {q : World} {b1 b2 : Nat} {z0 z1 y0 y1 y2 y3 y4 : Value} {T1 T2 : TypeId} (h1 : q.heap[b1]? = some (.cells #[z0, z1] T1 (0, 0))) (h2 : q.heap[b2]? = some (.cells #[y0, y1, y2, y3, y4] T2 (0, 0))) (hne : b1 ≠ b2) (hT1 : T1 ≠ 5) (hT2 : T2 ≠ 5) (x0 x1 u0 u1 u2 u3 u4 : Value) :
    ∃ U, (put5 (put2 q b1 x0 x1) b2 u0 u1 u2 u3 u4).drew = U ∧
     U.heap[b1]? = some (.cells #[x0, x1] T1 (0, 0)) ∧ U.heap[b2]? = some (.cells #[u0, u1, u2, u3, u4] T2 (0, 0)) ∧ (∀ (B : Nat) (w0 : World), Below B w0 q → B ≤ w0.heap.size → B ≤ b1 → B ≤ b2 → Below B w0 U) ∧
     (∀ (base : Nat) (v : Value) (n : Nat) (xs : List Value), q.ownsRow base 5 1 v n xs → U.ownsRow base 5 1 v n xs) := by
 refine ⟨_, rfl, ?_, ?_, ?_, ?_⟩
 ·rw [heap_drew, put5_other _ _ _ _ _ _ _ _ hne]
  exact put2_heap h1 x0 x1
 ·rw [heap_drew]
  have h2' : (put2 q b1 x0 x1).heap[b2]? = some (.cells #[y0, y1, y2, y3, y4] T2 (0, 0)) := by rw [put2_other _ _ _ _ _ hne.symm]; exact h2
  exact put5_heap h2' u0 u1 u2 u3 u4
 ·intro B w0 h hB k1 k2
  have hs : B ≤ q.heap.size := Nat.le_trans hB h.size
  exact ((h.grown (put2_grown q b1 x0 x1) hs (fun k e => by cases e; exact k1)).grown (put5_grown _ b2 u0 u1 u2 u3 u4) (by rw [put2_size]; exact hs) (fun k e => by cases e; exact k2)).drew
 ·intro base v n xs h
  have n1 := owns_ne h h1 hT1
  have n2 := owns_ne h h2 hT2
  have h' := h.kept (put2_grown q b1 x0 x1) (.inr n1)
  exact (h'.kept (put5_grown _ b2 u0 u1 u2 u3 u4) (.inr n2)).drew
theorem heap3 (w : World) (o0 o1 o2 : Obj) : (((w.alloc o0).alloc o1).alloc o2).heap[w.heap.size]? = some o0 ∧ (((w.alloc o0).alloc o1).alloc o2).heap[w.heap.size + 1]? = some o1 ∧ (((w.alloc o0).alloc o1).alloc o2).heap[w.heap.size + 1 + 1]? = some o2 := by
 refine ⟨?_, ?_, ?_⟩
 ·rw [Below.heap_alloc _ _ _ (by simp; omega), Below.heap_alloc _ _ _ (by simp)]; exact heap_alloc_new _ _
 ·rw [Below.heap_alloc _ _ _ (by simp)]; have := heap_alloc_new (w.alloc o0) o1; rwa [World.size_alloc] at this
 ·have := heap_alloc_new ((w.alloc o0).alloc o1) o2; rwa [World.size_alloc, World.size_alloc] at this
def stepR (L : List UInt8) (x : Sc) : Value := if whyS L x = 0 then scv (nxt L x) 0 else scv x (whyS L x)
theorem step_any (w : World) (v : Value) (L : List UInt8) (x : Sc) (hv : Sl w v L) (he : x.e ≤ L.length) (hc : x.c ≤ x.e) (hn : x.n ≤ 9223372036854775807) :
    Calls Tryz.prog 181 #[v, scv x 0] w fun e w' => ∃ v', e = .returned (.tuple #[.agg #[.int .i64 (recS L x).1, v'], stepR L x]) ∧ w'.ownsRow w.heap.size 5 1 v' (recS L x).2.length (bvals (recS L x).2) ∧ Below w.heap.size w w' := by
 unfold scv
 obtain ⟨ao, ca, rfl, g2, g3, g4, g5⟩ := hv
 have hm : ca ≤ 9223372036854775807 := by unfold maxLen at g4; omega
 obtain ⟨c, e, n, s⟩ := x
 have HS := hide (sl_drop e he g2 g3 g4 g5)
 simp only at he hc hn HS ⊢
 obtain ⟨M, hM⟩ : ∃ M, Hid (L.length = M) := ⟨_, rfl⟩
 rw [hM.out] at he g3 HS ⊢
 clear g2 g4 g5
 obtain ⟨R, hR⟩ : ∃ R, Hid (recS L ⟨c, e, n, s⟩ = R) := ⟨_, rfl⟩
 obtain ⟨Z, hZ⟩ : ∃ Z, Hid (stepR L ⟨c, e, n, s⟩ = Z) := ⟨_, rfl⟩
 rw [hR.out, hZ.out]
 generalize hz : (if ca = e then ao else Option.map (fun x : Addr => x.add e) ao) = zo at *
 have HB3 : Hid (Below w.heap.size w (((w.alloc (.cells #[.int .i64 (c : Int), .int .i64 (e : Int), .int .i64 (n : Int), .int .u32 (s.toNat : Int), .int .i64 0] 62)).alloc (.cells #[.int .i64 0, .slice none 0 0] 66)).alloc (.cells #[.int .i64 0, .int .i64 0, .int .i64 0, .int .u32 0, .int .i64 0] 62))) := (((Below.refl _ w).alloc (Nat.le_refl _) _).alloc (by simp) _).alloc (by simp; omega) _
 have HS3 := hide (Below.sl HB3.out HS.out)
 by_cases hend : e = M
 ·have hw1 : whyS L ⟨c, e, n, s⟩ = 1 := by rw [whyS, if_pos (by rw [hM.out]; exact Nat.le_of_eq hend.symm)]
  have hw0 : ¬ whyS L ⟨c, e, n, s⟩ = 0 := by rw [hw1]; omega
  obtain rfl : R = (0, []) := by rw [← hR.out, recS, if_neg hw0]
  obtain rfl : Z = scv ⟨c, e, n, s⟩ 1 := by rw [← hZ.out, stepR, if_neg hw0, hw1]
  clear HS HS3 hM hw1 hw0 hR hZ
  subst hend
  have hz0 : ((e - e : Nat) : Int) = 0 := by omega
  go_enter Tryz.func181, Tryz.ntmps181
  go_wp2_with fail
  go_region
  go_wp2_with fail
  go_returns
  exact ⟨_, rfl, World.ownsRow_nil _ _ _ _, ((((Below.refl _ w).alloc (Nat.le_refl _) _).alloc (by simp) _).alloc (by simp; omega) _).drew⟩
 ·have hz0 : (((M - e : Nat) : Int) == 0) = false := by simp; omega
  go_enter Tryz.func181, Tryz.ntmps181
  go_wp2_with fail
  refine (read_any _ _ _ _ HS3.out).mono ?_
  rintro e1 w1 ⟨v', rfl, ho, hb⟩
  have B1 := hide (keepF HB3.out hb)
  have b0 : Hid (w1.heap[w.heap.size]? = some (.cells #[.int .i64 (c : Int), .int .i64 (e : Int), .int .i64 (n : Int), .int .u32 (s.toNat : Int), .int .i64 0] 62 (0, 0))) := by
   show _ = _; rw [hb.block _ (by simp; omega)]; exact (heap3 _ _ _ _).1
  have b1 : Hid (w1.heap[w.heap.size + 1]? = some (.cells #[.int .i64 0, .slice none 0 0] 66 (0, 0))) := by
   show _ = _; rw [hb.block _ (by simp)]; exact (heap3 _ _ _ _).2.1
  have b2 : Hid (w1.heap[w.heap.size + 1 + 1]? = some (.cells #[.int .i64 0, .int .i64 0, .int .i64 0, .int .u32 0, .int .i64 0] 62 (0, 0))) := by
   show _ = _; rw [hb.block _ (by simp)]; exact (heap3 _ _ _ _).2.2
  have HO := hide (owns_lower ho (b' := w.heap.size) (by simp; omega))
  clear ho hb HB3 HS3 HS hz
  obtain ⟨F, hF⟩ : ∃ F, Hid (rdF s (L.drop e) = F) := ⟨_, rfl⟩
  rw [hF.out] at HO ⊢
  obtain ⟨l1, d1, z1, s1, r1⟩ := F
  simp only at HO ⊢
  obtain ⟨N1, hN1⟩ : ∃ N, Hid (d1.length = N) := ⟨_, rfl⟩
  obtain ⟨ao', ca', rfl⟩ := own_slice HO.out
  rw [hN1.out] at HO ⊢
  have a0 : Hid ((w1.alloc (.cells #[.int .i64 l1, .slice ao' N1 ca'] 66)).heap[w.heap.size]? = some (.cells #[.int .i64 (c : Int), .int .i64 (e : Int), .int .i64 (n : Int), .int .u32 (s.toNat : Int), .int .i64 0] 62 (0, 0))) := (Below.heap_alloc _ _ _ (heap_lt b0.out)).trans b0.out
  have a1 : Hid ((w1.alloc (.cells #[.int .i64 l1, .slice ao' N1 ca'] 66)).heap[w.heap.size + 1]? = some (.cells #[.int .i64 0, .slice none 0 0] 66 (0, 0))) := (Below.heap_alloc _ _ _ (heap_lt b1.out)).trans b1.out
  have a2 : Hid ((w1.alloc (.cells #[.int .i64 l1, .slice ao' N1 ca'] 66)).heap[w.heap.size + 1 + 1]? = some (.cells #[.int .i64 0, .int .i64 0, .int .i64 0, .int .u32 0, .int .i64 0] 62 (0, 0))) := (Below.heap_alloc _ _ _ (heap_lt b2.out)).trans b2.out
  have a3 : Hid ((w1.alloc (.cells #[.int .i64 l1, .slice ao' N1 ca'] 66)).heap[w1.heap.size]? = some (.cells #[.int .i64 l1, .slice ao' N1 ca'] 66 (0, 0))) := heap_alloc_new _ _
  have hlt1 := hide (heap_lt b2.out)
  have AO := hide (HO.out.alloc (.cells #[.int .i64 l1, .slice ao' N1 ca'] 66))
  have AB := hide (keepF B1.out (box_below w1 (.cells #[.int .i64 l1, .slice ao' N1 ca'] 66)))
  go_upto_region 6 with fail
  revert a0 a1 a2 a3 AO AB
  generalize w1.alloc (.cells #[.int .i64 l1, .slice ao' N1 ca'] 66) = q
  intro a0 a1 a2 a3 AO AB
  generalize w1.heap.size = rb at *
  clear B1 b0 b1 b2 HO
  have k0 : q.cell? ⟨w.heap.size, 0, none⟩ = some (.int .i64 (c : Int)) := by simp [World.cell?, a0.out]
  have k1 : q.cell? ⟨w.heap.size, 1, none⟩ = some (.int .i64 (e : Int)) := by simp [World.cell?, a0.out]
  have k2 : q.cell? ⟨w.heap.size, 2, none⟩ = some (.int .i64 (n : Int)) := by simp [World.cell?, a0.out]
  have k3 : q.cell? ⟨w.heap.size, 3, none⟩ = some (.int .u32 (s.toNat : Int)) := by simp [World.cell?, a0.out]
  have k4 : q.cell? ⟨w.heap.size, 4, none⟩ = some (.int .i64 0) := by simp [World.cell?, a0.out]
  have f4 : q.frozen? ⟨w.heap.size, 4, none⟩ = false := by simp [World.frozen?, a0.out]
  have r0 : q.cell? ⟨rb, 0, none⟩ = some (.int .i64 l1) := by simp [World.cell?, a3.out]
  have HY : Hid (whyS L ⟨c, e, n, s⟩ = whyOf r1 l1 (n : Int)) := by
   show _ = _
   rw [whyS_of (by rw [hM.out]; show e < M; omega)]
   simp only [hF.out]
  obtain ⟨y, hy⟩ : ∃ y, Hid (whyOf r1 l1 (n : Int) = y) := ⟨_, rfl⟩
  have HW : ∀ u : World, Calls Tryz.prog 201 #[.int .i64 r1, .int .i64 l1, .int .i64 (n : Int)] u fun e w' => e = .returned (.int .i64 y) ∧ w' = u := fun u => by rw [← hy.out]; exact why_any _ _ _ _
  replace HW := hide HW
  rw [hy.out] at HY
  clear hy
  go_upto_region 7 with (go_at_call 201; refine (HW.out _).mono ?_; rintro e2 w2 ⟨rfl, rfl⟩)
  clear k0 k1 k2 k3 k4 f4 r0
  have b0 := hide (set5 a0.out (.int .i64 y))
  have b1 := hide ((heap_setCell_other w2 ⟨w.heap.size, 4, none⟩ (w.heap.size + 1) (.int .i64 y) (by simp)).trans a1.out)
  have b2 := hide ((heap_setCell_other w2 ⟨w.heap.size, 4, none⟩ (w.heap.size + 1 + 1) (.int .i64 y) (by show w.heap.size + 1 + 1 ≠ w.heap.size; omega)).trans a2.out)
  have b3 := hide ((heap_setCell_other w2 ⟨w.heap.size, 4, none⟩ rb (.int .i64 y) (by have := hlt1.out; show rb ≠ w.heap.size; omega)).trans a3.out)
  have BO := hide (ownsRow_setCell_other AO.out (a := ⟨w.heap.size, 4, none⟩) (owns_ne AO.out a0.out (by decide)) (.int .i64 y))
  have BB := hide (AB.out.setCell (p := ⟨w.heap.size, 4, none⟩) (Nat.le_refl _) (.int .i64 y))
  revert b0 b1 b2 b3 BO BB
  generalize w2.setCell ⟨w.heap.size, 4, none⟩ (.int .i64 y) = q
  intro b0 b1 b2 b3 BO BB
  clear a0 a1 a2 a3 AO AB HW
  have k0 : q.cell? ⟨w.heap.size, 0, none⟩ = some (.int .i64 (c : Int)) := by simp [World.cell?, b0.out]
  have k1 : q.cell? ⟨w.heap.size, 1, none⟩ = some (.int .i64 (e : Int)) := by simp [World.cell?, b0.out]
  have k2 : q.cell? ⟨w.heap.size, 2, none⟩ = some (.int .i64 (n : Int)) := by simp [World.cell?, b0.out]
  have k3 : q.cell? ⟨w.heap.size, 3, none⟩ = some (.int .u32 (s.toNat : Int)) := by simp [World.cell?, b0.out]
  have k4 : q.cell? ⟨w.heap.size, 4, none⟩ = some (.int .i64 y) := by simp [World.cell?, b0.out]
  have r0 : q.cell? ⟨rb, 0, none⟩ = some (.int .i64 l1) := by simp [World.cell?, b3.out]
  have r1' : q.cell? ⟨rb, 1, none⟩ = some (.slice ao' N1 ca') := by simp [World.cell?, b3.out]
  have d0 : q.frozen? ⟨w.heap.size + 1, 0, none⟩ = false := by simp [World.frozen?, b1.out]
  have d1' : q.frozen? ⟨w.heap.size + 1, 1, none⟩ = false := by simp [World.frozen?, b1.out]
  have e0 : q.frozen? ⟨w.heap.size + 1 + 1, 0, none⟩ = false := by simp [World.frozen?, b2.out]
  have e1 : q.frozen? ⟨w.heap.size + 1 + 1, 1, none⟩ = false := by simp [World.frozen?, b2.out]
  have e2 : q.frozen? ⟨w.heap.size + 1 + 1, 2, none⟩ = false := by simp [World.frozen?, b2.out]
  have e3 : q.frozen? ⟨w.heap.size + 1 + 1, 3, none⟩ = false := by simp [World.frozen?, b2.out]
  have e4 : q.frozen? ⟨w.heap.size + 1 + 1, 4, none⟩ = false := by simp [World.frozen?, b2.out]
  have c0 : q.cell? ⟨w.heap.size + 1, 0, none⟩ = some (.int .i64 0) := by simp [World.cell?, b1.out]
  have c1 : q.cell? ⟨w.heap.size + 1, 1, none⟩ = some (.slice none 0 0) := by simp [World.cell?, b1.out]
  have g0 : q.cell? ⟨w.heap.size + 1 + 1, 0, none⟩ = some (.int .i64 0) := by simp [World.cell?, b2.out]
  have g1 : q.cell? ⟨w.heap.size + 1 + 1, 1, none⟩ = some (.int .i64 0) := by simp [World.cell?, b2.out]
  have g2 : q.cell? ⟨w.heap.size + 1 + 1, 2, none⟩ = some (.int .i64 0) := by simp [World.cell?, b2.out]
  have g3' : q.cell? ⟨w.heap.size + 1 + 1, 3, none⟩ = some (.int .u32 0) := by simp [World.cell?, b2.out]
  have g4 : q.cell? ⟨w.heap.size + 1 + 1, 4, none⟩ = some (.int .i64 0) := by simp [World.cell?, b2.out]
  by_cases hy : y = 0
  ·subst hy
   obtain ⟨z1', z2, z3, z4, z5, z6, z7, z8, z9, z10⟩ := why_zero HY.out
   have EN : nxt L ⟨c, e, n, s⟩ = ⟨c + 1, e + z1.toNat, n + 1, s1⟩ := by simp only [nxt, hF.out]
   have ED : dat L ⟨c, e, n, s⟩ = d1 := by simp only [dat, hF.out]
   rw [EN] at z6 z7 z8
   rw [hF.out] at z3 z8
   simp only at z3 z4 z5 z6 z7 z8
   rw [hM.out] at z6
   obtain rfl : R = ((n : Int), d1) := by rw [← hR.out, recS, if_pos HY.out, ED]
   obtain ⟨zn, rfl⟩ : ∃ zn : Nat, z1 = (zn : Int) := ⟨z1.toNat, by omega⟩
   rw [Int.toNat_natCast] at EN z6
   obtain rfl : Z = scv ⟨c + 1, e + zn, n + 1, s1⟩ 0 := by rw [← hZ.out, stepR, if_pos HY.out, EN]
   subst z3
   clear z1' z2 z4 z7 z8 z9 z10 EN ED hF hR hZ HY
   have o1 : (c : Int) + 1 ≤ 9223372036854775807 := by omega
   have o2 : (e : Int) + (zn : Int) ≤ 9223372036854775807 := by omega
   have o3 : (n : Int) + 1 ≤ 9223372036854775807 := by omega
   go_wp2_with fail
   go_region
   obtain ⟨U, hU, U1, U2, UB, UO⟩ := put25 b1.out b2.out (by omega) (by decide) (by decide) (.int .i64 (n : Int)) (.slice ao' N1 ca') (.int .i64 ((c : Int) + 1)) (.int .i64 ((e : Int) + (zn : Int))) (.int .i64 ((n : Int) + 1)) (.int .u32 (s1.toNat : Int)) (.int .i64 0)
   have UB' := hide (UB _ _ BB.out (Nat.le_refl _) (by omega) (by omega))
   have UO' := hide (UO _ _ _ _ BO.out)
   unfold put5 put2 at hU
   rw [hU]
   clear hU UB UO k0 k1 k2 k3 k4 r0 r1' d0 d1' e0 e1 e2 e3 e4 c0 c1 g0 g1 g2 g3' g4
   have k0 : U.cell? ⟨w.heap.size + 1, 0, none⟩ = some (.int .i64 (n : Int)) := by simp [World.cell?, U1]
   have k1 : U.cell? ⟨w.heap.size + 1, 1, none⟩ = some (.slice ao' N1 ca') := by simp [World.cell?, U1]
   have k2 : U.cell? ⟨w.heap.size + 1 + 1, 0, none⟩ = some (.int .i64 ((c : Int) + 1)) := by simp [World.cell?, U2]
   have k3 : U.cell? ⟨w.heap.size + 1 + 1, 1, none⟩ = some (.int .i64 ((e : Int) + (zn : Int))) := by simp [World.cell?, U2]
   have k4 : U.cell? ⟨w.heap.size + 1 + 1, 2, none⟩ = some (.int .i64 ((n : Int) + 1)) := by simp [World.cell?, U2]
   have k5 : U.cell? ⟨w.heap.size + 1 + 1, 3, none⟩ = some (.int .u32 (s1.toNat : Int)) := by simp [World.cell?, U2]
   have k6 : U.cell? ⟨w.heap.size + 1 + 1, 4, none⟩ = some (.int .i64 0) := by simp [World.cell?, U2]
   go_wp2_with fail
   refine bodyPost_ret (by simp [results, Tryz.results181, go_sem, k0, k1, k2, k3, k4, k5, k6]; rfl) rfl ?_
   exact ⟨.slice ao' N1 ca', by simp [scv], by rw [hN1.out]; exact UO'.out, UB'.out⟩
  ·have hw0 : ¬ whyS L ⟨c, e, n, s⟩ = 0 := by rw [HY.out]; exact hy
   obtain rfl : R = (0, []) := by rw [← hR.out, recS, if_neg hw0]
   obtain rfl : Z = scv ⟨c, e, n, s⟩ y := by rw [← hZ.out, stepR, if_neg hw0, HY.out]
   have hyb : (y != 0) = true := by simpa using hy
   go_wp2_with fail
   go_region
   obtain ⟨U, hU, U1, U2, UB, UO⟩ := put25 b1.out b2.out (by omega) (by decide) (by decide) (.int .i64 0) (.slice none 0 0) (.int .i64 (c : Int)) (.int .i64 (e : Int)) (.int .i64 (n : Int)) (.int .u32 (s.toNat : Int)) (.int .i64 y)
   have UB' := hide (UB _ _ BB.out (Nat.le_refl _) (by omega) (by omega))
   unfold put5 put2 at hU
   rw [hU]
   clear hU UB UO k0 k1 k2 k3 k4 r0 r1' d0 d1' e0 e1 e2 e3 e4 c0 c1 g0 g1 g2 g3' g4
   have k0 : U.cell? ⟨w.heap.size + 1, 0, none⟩ = some (.int .i64 0) := by simp [World.cell?, U1]
   have k1 : U.cell? ⟨w.heap.size + 1, 1, none⟩ = some (.slice none 0 0) := by simp [World.cell?, U1]
   have k2 : U.cell? ⟨w.heap.size + 1 + 1, 0, none⟩ = some (.int .i64 (c : Int)) := by simp [World.cell?, U2]
   have k3 : U.cell? ⟨w.heap.size + 1 + 1, 1, none⟩ = some (.int .i64 (e : Int)) := by simp [World.cell?, U2]
   have k4 : U.cell? ⟨w.heap.size + 1 + 1, 2, none⟩ = some (.int .i64 (n : Int)) := by simp [World.cell?, U2]
   have k5 : U.cell? ⟨w.heap.size + 1 + 1, 3, none⟩ = some (.int .u32 (s.toNat : Int)) := by simp [World.cell?, U2]
   have k6 : U.cell? ⟨w.heap.size + 1 + 1, 4, none⟩ = some (.int .i64 y) := by simp [World.cell?, U2]
   go_wp2_with fail
   refine bodyPost_ret (by simp [results, Tryz.results181, go_sem, k0, k1, k2, k3, k4, k5, k6]; rfl) rfl ?_
   exact ⟨_, rfl, World.ownsRow_nil _ _ _ _, UB'.out⟩
end Go.Proofs.YtpflaglfnkmjiaaGreat
namespace Go.Proofs.YtpflaglfnkmjiaaGreat
open Go.RowKit Go.Shelf
set_option maxRecDepth 100000
attribute [local go_sem] Oper.semAt_some
theorem steps_any (w : World) (ao : Option Addr) (nn ca : Nat) (base : Int) (seed : Crc.R) :
    Calls Tryz.prog 135 #[.slice ao nn ca, .int .i64 base, .int .u32 (seed.toNat : Int)] w fun e w' =>
     e = .returned (.func (.func 180) #[] #[.pointer (some ⟨w.heap.size + 1, 0, none⟩), .pointer (some ⟨w.heap.size + 1 + 1, 0, none⟩), .pointer (some ⟨w.heap.size, 0, none⟩)]) ∧
     w' = ((w.alloc (.cells #[.slice ao nn ca] 39)).alloc (.cells #[.int .i64 base] 2)).alloc (.cells #[.int .u32 (seed.toNat : Int)] 36) := by
 have hmf : ∀ (fn : Fn) (first cap : Array Value) (w : World), (Instr.makeFunc fn first cap).run Tryz.prog w = .ok (.func fn first cap) w := fun _ _ _ _ => rfl
 go_enter Tryz.func135, Tryz.ntmps135
 go_wp2_with fail
 go_ret
 exact ⟨rfl, rfl⟩
def RepS (L : List UInt8) (x : Sc) (args : Array Value) (W : World) (D : Nat → Prop) : Prop :=
 ∃ v, args = #[scv x (whyS L x), .agg #[.int .i64 (recS L x).1, v]] ∧ W.ownsRow 0 5 1 v (recS L x).2.length (bvals (recS L x).2) ∧ (∀ k, D k ↔ v.ownBlock = some k)
def RdOf (b1 b2 b3 : Nat) (v : Value) (L : List UInt8) (k : Nat) : Prop := k = b1 ∨ k = b2 ∨ k = b3 ∨ (0 < L.length ∧ v.ownBlock = some k)
theorem Sl.keep {w W : World} {v : Value} {l : List UInt8} (h : Sl w v l) (hk : ∀ k, 0 < l.length → v.ownBlock = some k → W.heap[k]? = w.heap[k]?) : Sl W v l := by
 obtain ⟨ao, cap, rfl, g2, g3, g4, g5⟩ := h
 refine ⟨ao, cap, rfl, g2, g3, g4, fun i hi => ?_⟩
 obtain ⟨b, off, rfl, hc⟩ := g5 i hi
 exact ⟨b, off, rfl, by rw [World.cell?_of_block (hk b (by omega) rfl)]; exact hc⟩
theorem Sl.blk {w : World} {v : Value} {l : List UInt8} (h : Sl w v l) (hl : 0 < l.length) : ∀ k, v.ownBlock = some k → k < w.heap.size := by
 obtain ⟨ao, cap, rfl, g2, g3, g4, g5⟩ := h
 obtain ⟨b, off, rfl, hc⟩ := g5 0 hl
 rintro k e
 simp [Value.ownBlock] at e
 subst e
 exact lt_of_cell hc
theorem st_n {L : List UInt8} {x0 : Sc} {k : Nat} (h : Good L x0 k) (h0 : x0.n ≤ 9223372036854775807) : (Sst L x0 k).n ≤ 9223372036854775807 := by
 cases k with
 | zero => exact h0
 | succ k =>
  obtain ⟨_, _, _, _, h5, _⟩ := why_zero (h k (by omega))
  show (Sst L x0 k).n + 1 ≤ _
  omega
def stz (L : List UInt8) (x : Sc) : Sc := if whyS L x = 0 then nxt L x else x
theorem stepR_eq (L : List UInt8) (x : Sc) : stepR L x = scv (stz L x) (whyS L x) := by
 unfold stepR stz
 by_cases h : whyS L x = 0
 ·rw [if_pos h, if_pos h, h]
 ·rw [if_neg h, if_neg h]
def msS (wr : World) (hb K : Nat) : Nat := 2 * (K - (intOf ((wr.cell? ⟨hb, 0, none⟩).getD undef)).toNat) + (if intOf ((wr.cell? ⟨hb, 4, none⟩).getD undef) = 0 then 1 else 0)
theorem msS_eq {wr : World} {hb : Nat} {x : Sc} {y : Int} (h : wr.heap[hb]? = some (.cells (scc x y) 62 (0, 0))) (K : Nat) : msS wr hb K = 2 * (K - x.c) + (if y = 0 then 1 else 0) := by
 simp [msS, World.cell?, h, scc, intOf]
theorem list_at {α : Type} (f : Nat → α) {n k : Nat} (h : k < n) : (List.range n).map f = ((List.range n).map f).take k ++ f k :: ((List.range n).map f).drop (k + 1) := by
 have e : ((List.range n).map f)[k]'(by simpa using h) = f k := by simp
 rw [← e, ← List.drop_eq_getElem_cons, List.take_append_drop]
theorem list_take {α : Type} (f : Nat → α) {n k : Nat} (h : k < n) : ((List.range n).map f).take k ++ [f k] = ((List.range n).map f).take (k + 1) := by
 have e : ((List.range n).map f)[k]'(by simpa using h) = f k := by simp
 rw [← e, ← List.take_succ_eq_append_getElem]
def SLoop (J : List Sc → (Nat → Prop) → World → Prop) (L : List UInt8) (x0 : Sc) (K : Nat) (W : World) (Rd : Nat → Prop) (hb : Nat) (wr : World) : Prop :=
 ∃ (k : Nat) (C1 : Nat → Prop) (x : Sc) (y : Int), wr.heap[hb]? = some (.cells (scc x y) 62 (0, 0)) ∧ J (((List.range (K + 1)).map (Sst L x0)).take k) C1 wr ∧ ¬ C1 hb ∧ (∀ j, Rd j → ¬ C1 j ∧ wr.heap[j]? = W.heap[j]?) ∧ (∀ j, C1 j → j < wr.heap.size) ∧ W.heap.size ≤ wr.heap.size ∧
  ((y = 0 ∧ k ≤ K ∧ x = Sst L x0 k) ∨ (y ≠ 0 ∧ k = K + 1 ∧ x = Sst L x0 K))
theorem steps_seq (w : World) (b1 b2 b3 : Nat) (v : Value) (L : List UInt8) (base : Int) (seed : Crc.R) (xs : List Sc) (hx : EvS L base seed xs) (g0 : -9223372036854775808 ≤ base) (g1 : base ≤ 9223372036854775807)
    (h1 : w.heap[b1]? = some (.cells #[.int .i64 base] 2 (0, 0))) (h2 : w.heap[b2]? = some (.cells #[.int .u32 (seed.toNat : Int)] 36 (0, 0))) (h3 : w.heap[b3]? = some (.cells #[v] 39 (0, 0))) (hv : Sl w v L) :
    Seq Tryz.prog 180 #[.pointer (some ⟨b1, 0, none⟩), .pointer (some ⟨b2, 0, none⟩), .pointer (some ⟨b3, 0, none⟩)] xs (RepS L) (RdOf b1 b2 b3 v L) w := by
 intro l J Jx C W hsz hRd hC hJ hJx hY h0
 refine callsIn_wide.2 ?_
 have c1 : W.cell? ⟨b1, 0, none⟩ = some (.int .i64 base) := by rw [World.cell?_of_block (hRd b1 (.inl rfl))]; simp [World.cell?, h1]
 have c2 : W.cell? ⟨b2, 0, none⟩ = some (.int .u32 (seed.toNat : Int)) := by rw [World.cell?_of_block (hRd b2 (.inr (.inl rfl)))]; simp [World.cell?, h2]
 have H3 : W.heap[b3]? = some (.cells #[v] 39 (0, 0)) := (hRd b3 (.inr (.inr (.inl rfl)))).trans h3
 have HV : Sl W v L := hv.keep fun k hl hk => hRd k (.inr (.inr (.inr ⟨hl, hk⟩)))
 have lt3 : b3 < W.heap.size := heap_lt H3
 replace H3 := hide H3
 replace HV := hide HV
 replace hC := hide hC
 replace hJ := hide hJ
 replace hJx := hide hJx
 replace hY := hide hY
 have HV0 := hide hv
 clear h1 h2 h3 hv hRd hsz
 by_cases hb1 : base < 1
 ·rcases hx with ⟨_, rfl⟩ | ⟨h, _⟩
  ·go_enter Tryz.func180, Tryz.ntmps180
   go_wp2_with fail
   go_returns
   exact ⟨⟨_, rfl⟩, .inl ⟨C, h0⟩⟩
  ·omega
 ·rcases hx with ⟨h, _⟩ | ⟨hb, K, hK, rfl⟩
  ·omega
  obtain ⟨bn, rfl⟩ : ∃ bn : Nat, base = (bn : Int) := ⟨base.toNat, by omega⟩
  rw [Int.toNat_natCast] at hK hY ⊢
  generalize hx : (⟨0, 0, bn, seed⟩ : Sc) = x0 at *
  have hx0 := hide hx.symm
  clear hx
  go_enter Tryz.func180, Tryz.ntmps180
  go_wp2_with fail
  go_loopw [] (fun wr => Hid (SLoop J L x0 K W (RdOf b1 b2 b3 v L) W.heap.size wr)) (fun wr => msS wr W.heap.size K)
  case atStart =>
   refine ⟨0, C, x0, 0, ?_, hJ.out _ _ _ _ h0 (But.alloc _ _ _), fun h => absurd (hC.out _ h).2 (Nat.lt_irrefl _), fun j hj => ⟨fun h => (hC.out _ h).1 hj, ?_⟩, fun j hj => by have := (hC.out j hj).2; simp; omega, by simp, .inl ⟨rfl, Nat.zero_le _, rfl⟩⟩
   ·have e : scc x0 0 = #[.int .i64 0, .int .i64 0, .int .i64 (bn : Int), .int .u32 (seed.toNat : Int), .int .i64 0] := by rw [hx0.out]; rfl
    rw [e]; exact heap_alloc_new _ _
   ·refine Below.heap_alloc _ _ _ ?_
    rcases hj with rfl | rfl | rfl | ⟨hl, hk⟩
    ·exact lt_of_cell c1
    ·exact lt_of_cell c2
    ·exact lt3
    ·exact HV.out.blk hl _ hk
  case round =>
   obtain ⟨k, C1, x, y, hh, hj, nb, hrd, hcl, hsz, hcase⟩ := hrel.out
   clear hrel
   have hh' := hide hh
   have k0 : wr.cell? ⟨W.heap.size, 0, none⟩ = some (.int .i64 (x.c : Int)) := by simp [World.cell?, hh, scc]
   have k1 : wr.cell? ⟨W.heap.size, 1, none⟩ = some (.int .i64 (x.e : Int)) := by simp [World.cell?, hh, scc]
   have k2 : wr.cell? ⟨W.heap.size, 2, none⟩ = some (.int .i64 (x.n : Int)) := by simp [World.cell?, hh, scc]
   have k3 : wr.cell? ⟨W.heap.size, 3, none⟩ = some (.int .u32 (x.s.toNat : Int)) := by simp [World.cell?, hh, scc]
   have k4 : wr.cell? ⟨W.heap.size, 4, none⟩ = some (.int .i64 y) := by simp [World.cell?, hh, scc]
   have k5 : wr.cell? ⟨b3, 0, none⟩ = some v := by rw [World.cell?_of_block (hrd b3 (.inr (.inr (.inl rfl)))).2]; simp [World.cell?, H3.out]
   replace hj := hide hj
   replace nb := hide nb
   replace hrd := hide hrd
   replace hcl := hide hcl
   replace hsz := hide hsz
   clear hh
   rcases hcase with ⟨rfl, hk, hxe⟩ | ⟨hy, hk, hxe⟩
   ·have hG : Good L x0 k := fun j hj => hK.1 j (by omega)
    obtain ⟨e1, e2, e3, e4⟩ := good_e hG (by rw [hx0.out]; exact Nat.zero_le _)
    have e5 := st_n hG (by rw [hx0.out]; show bn ≤ _; omega)
    rw [← hxe] at e1 e2 e3 e4 e5
    have e6 : x.c ≤ x.e := by have : x0.c = 0 := by rw [hx0.out]
                              omega
    have SV := hide (Sl.keep HV.out fun j hl hb => (hrd.out j (.inr (.inr (.inr ⟨hl, hb⟩)))).2)
    have HST := hide (step_any wr v L x SV.out e1 e6 e5)
    rw [stepR_eq] at HST
    unfold scv at HST
    obtain ⟨rl, rd, hR⟩ : ∃ rl rd, Hid (recS L x = (rl, rd)) := ⟨_, _, rfl⟩
    obtain ⟨y1, hy1⟩ : ∃ y1, Hid (whyS L x = y1) := ⟨_, rfl⟩
    obtain ⟨z, hz⟩ : ∃ z, Hid (stz L x = z) := ⟨_, rfl⟩
    obtain ⟨rn, hrn⟩ : ∃ rn, Hid (rd.length = rn) := ⟨_, rfl⟩
    rw [hR.out, hy1.out, hz.out] at HST
    simp only at HST
    rw [hrn.out] at HST
    obtain ⟨ao, ca, hvv, -⟩ := id SV.out
    obtain ⟨nn, hnn⟩ : ∃ nn, Hid (L.length = nn) := ⟨_, rfl⟩
    rw [hnn.out] at hvv
    subst hvv
    replace hG := hide hG
    replace hxe := hide hxe
    replace e1 := hide e1
    clear e2 e3 e4 e5 e6
    go_upto_region 4 with (go_at_call 181; refine HST.out.mono ?_; rintro e u ⟨v', rfl, ho, hb⟩; obtain ⟨ao', ca', rfl⟩ := own_slice ho)
    have lh := hide (heap_lt hh'.out)
    have qh : Hid (((u.alloc (.cells #[.int .i64 rl, .slice ao' rn ca'] 66)).alloc (.cells #[.int .i64 (z.c : Int), .int .i64 (z.e : Int), .int .i64 (z.n : Int), .int .u32 (z.s.toNat : Int), .int .i64 y1] 62)).heap[W.heap.size]? = some (.cells (scc x 0) 62 (0, 0))) := by
     have l1 := lh.out
     have l2 := hb.size
     show _ = _
     rw [Below.heap_alloc _ _ _ (by simp; omega), Below.heap_alloc _ _ _ (by omega), hb.block _ l1]; exact hh'.out
    have q1 : Hid (((u.alloc (.cells #[.int .i64 rl, .slice ao' rn ca'] 66)).alloc (.cells #[.int .i64 (z.c : Int), .int .i64 (z.e : Int), .int .i64 (z.n : Int), .int .u32 (z.s.toNat : Int), .int .i64 y1] 62)).heap[u.heap.size]? = some (.cells #[.int .i64 rl, .slice ao' rn ca'] 66 (0, 0))) := by
     show _ = _
     rw [Below.heap_alloc _ _ _ (by simp)]; exact heap_alloc_new _ _
    have q2 : Hid (((u.alloc (.cells #[.int .i64 rl, .slice ao' rn ca'] 66)).alloc (.cells #[.int .i64 (z.c : Int), .int .i64 (z.e : Int), .int .i64 (z.n : Int), .int .u32 (z.s.toNat : Int), .int .i64 y1] 62)).heap[u.heap.size + 1]? = some (.cells (scc z y1) 62 (0, 0))) := by
     show _ = _
     have := heap_alloc_new (u.alloc (.cells #[.int .i64 rl, .slice ao' rn ca'] 66)) (.cells #[.int .i64 (z.c : Int), .int .i64 (z.e : Int), .int .i64 (z.n : Int), .int .u32 (z.s.toNat : Int), .int .i64 y1] 62)
     rwa [World.size_alloc] at this
    have qB := hide ((hb.alloc hb.size (.cells #[.int .i64 rl, .slice ao' rn ca'] 66)).alloc (by have := hb.size; simp; omega) (.cells #[.int .i64 (z.c : Int), .int .i64 (z.e : Int), .int .i64 (z.n : Int), .int .u32 (z.s.toNat : Int), .int .i64 y1] 62))
    have qO := hide ((ho.alloc (.cells #[.int .i64 rl, .slice ao' rn ca'] 66)).alloc (.cells #[.int .i64 (z.c : Int), .int .i64 (z.e : Int), .int .i64 (z.n : Int), .int .u32 (z.s.toNat : Int), .int .i64 y1] 62))
    have ul := hide hb.size
    revert qh q1 q2 qB qO
    generalize (u.alloc (.cells #[.int .i64 rl, .slice ao' rn ca'] 66)).alloc (.cells #[.int .i64 (z.c : Int), .int .i64 (z.e : Int), .int .i64 (z.n : Int), .int .u32 (z.s.toNat : Int), .int .i64 y1] 62) = q
    intro qh q1 q2 qB qO
    generalize u.heap.size = ub at *
    clear ho hb k0 k1 k2 k3 k4 k5 HST
    have m4 : q.frozen? ⟨W.heap.size, 4, none⟩ = false := by simp [World.frozen?, qh.out, scc]
    have n4 : q.cell? ⟨ub + 1, 4, none⟩ = some (.int .i64 y1) := by simp [World.cell?, q2.out, scc]
    have m5 : q.cell? ⟨W.heap.size, 4, none⟩ = some (.int .i64 0) := by simp [World.cell?, qh.out, scc]
    go_upto_region 5 with fail
    clear m4 n4 m5
    have ne1 : ub ≠ W.heap.size := by have := lh.out; have := ul.out; omega
    have ne2 : ub + 1 ≠ W.heap.size := by have := lh.out; have := ul.out; omega
    have ph := hide (set5 qh.out (.int .i64 y1))
    have p1 := hide ((heap_setCell_other q ⟨W.heap.size, 4, none⟩ ub (.int .i64 y1) ne1).trans q1.out)
    have p2 := hide ((heap_setCell_other q ⟨W.heap.size, 4, none⟩ (ub + 1) (.int .i64 y1) ne2).trans q2.out)
    have pO := hide (ownsRow_setCell_other qO.out (a := ⟨W.heap.size, 4, none⟩) (owns_ne qO.out qh.out (by decide)) (.int .i64 y1))
    have pB : Hid (But (fun k => k = W.heap.size) wr (q.setCell ⟨W.heap.size, 4, none⟩ (.int .i64 y1))) :=
     (But.of_below qB.out _).trans (But.of_grownBy (grown_setCell _ _ _ _) (fun k e => by cases e; rfl))
    have bl := hide (owns_ne qO.out qh.out (by decide))
    revert ph p1 p2 pO pB
    generalize q.setCell ⟨W.heap.size, 4, none⟩ (.int .i64 y1) = p
    intro ph p1 p2 pO pB
    clear qh q1 q2 qB qO
    have hkK : k < K + 1 := by omega
    have hxs := list_at (Sst L x0) hkK
    rw [← hxe.out] at hxs
    have J1 := hJ.out _ _ _ _ hj.out (pB.out.mono fun j _ e => ⟨by omega, by rw [e]; exact nb.out⟩)
    have szp : wr.heap.size ≤ p.heap.size := pB.out.size
    have szW := hsz.out
    obtain ⟨fn, tmps, assign, body, hy, hRn⟩ := hY.out _ x _ C1 (fun j => (Value.slice ao' rn ca').ownBlock = some j) #[scv x y1, .agg #[.int .i64 rl, .slice ao' rn ca']] p hxs J1
     ⟨.slice ao' rn ca', by rw [hR.out, hy1.out], by rw [hR.out]; simp only; rw [hrn.out]; exact owns_lower pO.out (Nat.zero_le _), fun j => Iff.rfl⟩ (by omega)
     (fun j hj' => ⟨fun h => by have := hcl.out j h; have := (pO.out.lt j hj').1; omega, by have := (pO.out.lt j hj').1; omega, (pO.out.lt j hj').2⟩)
    have t0 : p.cell? ⟨W.heap.size, 0, none⟩ = some (.int .i64 (x.c : Int)) := by simp [World.cell?, ph.out]
    have t1 : p.cell? ⟨W.heap.size, 1, none⟩ = some (.int .i64 (x.e : Int)) := by simp [World.cell?, ph.out]
    have t2 : p.cell? ⟨W.heap.size, 2, none⟩ = some (.int .i64 (x.n : Int)) := by simp [World.cell?, ph.out]
    have t3 : p.cell? ⟨W.heap.size, 3, none⟩ = some (.int .u32 (x.s.toNat : Int)) := by simp [World.cell?, ph.out]
    have t4 : p.cell? ⟨W.heap.size, 4, none⟩ = some (.int .i64 y1) := by simp [World.cell?, ph.out]
    have t5 : p.cell? ⟨ub, 0, none⟩ = some (.int .i64 rl) := by simp [World.cell?, p1.out]
    have t6 : p.cell? ⟨ub, 1, none⟩ = some (.slice ao' rn ca') := by simp [World.cell?, p1.out]
    unfold scv at hy
    replace hRn := hide hRn
    refine (wpIn_wide (n := 0)).1 ?_
    gi_wp2
    clear hy t0 t1 t2 t3 t4 t5 t6
    refine ⟨rfl, hRn.out.mono ?_⟩
    clear hRn
    rintro e W3 (⟨rfl, C2, hJ2, hB2, hC2⟩ | ⟨rfl, C2, hJx2, -, -⟩)
    ·have nub : ¬ C1 (ub + 1) := fun h => by have := hcl.out _ h; have := ul.out; omega
     have w2 := hide (hB2.at p2.out nub)
     have wh := hide (hB2.at ph.out nb.out)
     have szb := hide (heap_lt p2.out)
     replace hJ2 := hide hJ2
     replace hB2 := hide hB2
     replace hC2 := hide hC2
     replace hxs := hide hxs
     replace J1 := hide J1
     have t0 : W3.cell? ⟨ub + 1, 0, none⟩ = some (.int .i64 (z.c : Int)) := by simp [World.cell?, w2.out, scc]
     have t1 : W3.cell? ⟨ub + 1, 1, none⟩ = some (.int .i64 (z.e : Int)) := by simp [World.cell?, w2.out, scc]
     have t2 : W3.cell? ⟨ub + 1, 2, none⟩ = some (.int .i64 (z.n : Int)) := by simp [World.cell?, w2.out, scc]
     have t3 : W3.cell? ⟨ub + 1, 3, none⟩ = some (.int .u32 (z.s.toNat : Int)) := by simp [World.cell?, w2.out, scc]
     have t4 : W3.cell? ⟨ub + 1, 4, none⟩ = some (.int .i64 y1) := by simp [World.cell?, w2.out, scc]
     have s0 : W3.cell? ⟨W.heap.size, 0, none⟩ = some (.int .i64 (x.c : Int)) := by simp [World.cell?, wh.out]
     have s1 : W3.cell? ⟨W.heap.size, 1, none⟩ = some (.int .i64 (x.e : Int)) := by simp [World.cell?, wh.out]
     have s2 : W3.cell? ⟨W.heap.size, 2, none⟩ = some (.int .i64 (x.n : Int)) := by simp [World.cell?, wh.out]
     have s3 : W3.cell? ⟨W.heap.size, 3, none⟩ = some (.int .u32 (x.s.toNat : Int)) := by simp [World.cell?, wh.out]
     have s4 : W3.cell? ⟨W.heap.size, 4, none⟩ = some (.int .i64 y1) := by simp [World.cell?, wh.out]
     have f0 : W3.frozen? ⟨W.heap.size, 0, none⟩ = false := by simp [World.frozen?, wh.out]
     have f1 : W3.frozen? ⟨W.heap.size, 1, none⟩ = false := by simp [World.frozen?, wh.out]
     have f2 : W3.frozen? ⟨W.heap.size, 2, none⟩ = false := by simp [World.frozen?, wh.out]
     have f3 : W3.frozen? ⟨W.heap.size, 3, none⟩ = false := by simp [World.frozen?, wh.out]
     have f4 : W3.frozen? ⟨W.heap.size, 4, none⟩ = false := by simp [World.frozen?, wh.out]
     gi_wp2
     go_wp2_with fail
     show Hid (SLoop J L x0 K W (RdOf b1 b2 b3 (.slice ao nn ca) L) W.heap.size (put5 W3 W.heap.size (.int .i64 (z.c : Int)) (.int .i64 (z.e : Int)) (.int .i64 (z.n : Int)) (.int .u32 (z.s.toNat : Int)) (.int .i64 y1))) ∧ msS (put5 W3 W.heap.size (.int .i64 (z.c : Int)) (.int .i64 (z.e : Int)) (.int .i64 (z.n : Int)) (.int .u32 (z.s.toNat : Int)) (.int .i64 y1)) W.heap.size K < msS wr W.heap.size K
     have h5 : (put5 W3 W.heap.size (.int .i64 (z.c : Int)) (.int .i64 (z.e : Int)) (.int .i64 (z.n : Int)) (.int .u32 (z.s.toNat : Int)) (.int .i64 y1)).heap[W.heap.size]? = some (.cells (scc z y1) 62 (0, 0)) := put5_heap wh.out _ _ _ _ _
     have hgr := put5_grown W3 W.heap.size (.int .i64 (z.c : Int)) (.int .i64 (z.e : Int)) (.int .i64 (z.n : Int)) (.int .u32 (z.s.toNat : Int)) (.int .i64 y1)
     have hot : ∀ j, j ≠ W.heap.size → (put5 W3 W.heap.size (.int .i64 (z.c : Int)) (.int .i64 (z.e : Int)) (.int .i64 (z.n : Int)) (.int .u32 (z.s.toNat : Int)) (.int .i64 y1)).heap[j]? = W3.heap[j]? := fun j hj => put5_other _ _ _ _ _ _ _ _ hj
     revert h5 hgr hot
     generalize put5 W3 W.heap.size (.int .i64 (z.c : Int)) (.int .i64 (z.e : Int)) (.int .i64 (z.n : Int)) (.int .u32 (z.s.toNat : Int)) (.int .i64 y1) = U
     intro h5 hgr hot
     have hxc : x.c = k := by rw [hxe.out, (good_e hG.out (by rw [hx0.out]; exact Nat.zero_le _)).2.2.1, hx0.out]; simp
     have hyK : (y1 = 0 ∧ k < K ∧ z = Sst L x0 (k + 1)) ∨ (y1 ≠ 0 ∧ k = K ∧ z = x) := by
      by_cases h : y1 = 0
      ·refine .inl ⟨h, ?_, ?_⟩
       ·by_cases e : k = K
        ·exfalso
         apply hK.2
         rw [← e, ← hxe.out, hy1.out, h]
        ·omega
       ·rw [← hz.out, stz, if_pos (by rw [hy1.out, h]), hxe.out]; rfl
      ·refine .inr ⟨h, ?_, ?_⟩
       ·by_cases e : k < K
        ·exfalso
         apply h
         rw [← hy1.out, hxe.out]
         exact hK.1 k e
        ·omega
       ·rw [← hz.out, stz, if_neg (by rw [hy1.out]; exact h)]
     have nC2 : ¬ C2 W.heap.size := fun h => by
      rcases (hC2.out _ h).1 with h | h | h
      ·exact nb.out h
      ·exact bl.out h
      ·have := heap_lt ph.out; omega
     refine ⟨⟨k + 1, C2, z, y1, h5, ?_, nC2, fun j hj' => ?_, fun j hj' => Nat.lt_of_lt_of_le (hC2.out j hj').2 hgr.size, Nat.le_trans szW (Nat.le_trans szp (Nat.le_trans hB2.out.size hgr.size)), ?_⟩, ?_⟩
     ·refine hJ.out _ _ W3 _ ?_ (But.of_grownBy hgr fun j e => by cases e; exact ⟨Nat.le_refl _, nC2⟩)
      have := hJ2.out
      rwa [hxe.out, list_take (Sst L x0) hkK] at this
     ·have hjl : j < W.heap.size := by
        rcases hj' with rfl | rfl | rfl | ⟨hl, hk⟩
        ·exact lt_of_cell c1
        ·exact lt_of_cell c2
        ·exact lt3
        ·exact HV.out.blk hl _ hk
      have hn1 := (hrd.out j hj').1
      refine ⟨fun h => ?_, ?_⟩
      ·rcases (hC2.out _ h).1 with h | h | h
       ·exact hn1 h
       ·have := (pO.out.lt j h).1; omega
       ·omega
      ·rw [hot j (by omega), hB2.out.block j (by omega) hn1, pB.out.block j (by omega) (by omega)]
       exact (hrd.out j hj').2
     ·rcases hyK with ⟨h, hk', hz'⟩ | ⟨h, hk', hz'⟩
      ·exact .inl ⟨h, by omega, hz'⟩
      ·exact .inr ⟨h, by omega, by rw [hz', hxe.out, hk']⟩
     ·rw [msS_eq h5, msS_eq hh'.out, if_pos rfl, hxc]
      rcases hyK with ⟨h, hk', hz'⟩ | ⟨h, hk', hz'⟩
      ·have : z.c = k + 1 := by
         rw [hz']; show (Sst L x0 k).c + 1 = _; rw [← hxe.out, hxc]
       rw [if_pos h, this]; omega
      ·rw [if_neg h, hz', hxc]; omega
    ·gi_wp2
     go_wp2_with fail
     go_returns
     refine ⟨⟨_, rfl⟩, .inr ⟨_, C2, ?_, hJx2⟩⟩
     rw [hxe.out, list_take (Sst L x0) hkK]
     exact List.take_prefix _ _
   ·have hyb : (y == 0) = false := by simpa using hy
    go_wp2_with fail
    go_returns
    refine ⟨⟨_, rfl⟩, .inl ⟨C1, ?_⟩⟩
    have := hj.out
    rwa [List.take_of_length_le (by simp; omega)] at this
set_option maxRecDepth 100000
attribute [local go_sem] Oper.semAt_some
theorem calls_marks {P : Program} {f : FuncId} {fn : Func} {c : Code} {args : Array Value} {w : World} {R : Ending → World → Prop} (hf : P.funcs[f]? = some fn) (hb : fn.body = some c)
    (h : c.wp P (bodyPostM Fence.wide 0 P fn R) { tmps := args ++ Array.replicate (fn.ntmps - args.size) undef, defers := [] } w) : Calls P f args w R :=
 callsIn_wide.1 (callsIn_of_wp_marks (n := 0) hf hb trivial ((wpIn_wide (n := 0)).2 h) rfl)
def lastc (L : List UInt8) (xs : List Sc) : Array Value := match xs.getLast? with
 | none => #[.int .i64 0, .int .i64 0, .int .i64 0, .int .u32 0, .int .i64 0]
 | some x => scc x (whyS L x)
theorem lastc_snoc (L : List UInt8) (xs : List Sc) (x : Sc) : lastc L (xs ++ [x]) = scc x (whyS L x) := by simp [lastc]
theorem lastc_form (L : List UInt8) (xs : List Sc) : ∃ z0 z1 z2 z3 z4 : Int, lastc L xs = #[.int .i64 z0, .int .i64 z1, .int .i64 z2, .int .u32 z3, .int .i64 z4] := by
 unfold lastc
 split
 ·exact ⟨_, _, _, _, _, rfl⟩
 ·exact ⟨_, _, _, _, _, rfl⟩
theorem five {w : World} {b : Nat} {z0 z1 z2 z3 z4 : Value} {T : TypeId} (h : w.heap[b]? = some (.cells #[z0, z1, z2, z3, z4] T (0, 0))) :
    w.cell? ⟨b, 0, none⟩ = some z0 ∧ w.cell? ⟨b, 1, none⟩ = some z1 ∧ w.cell? ⟨b, 2, none⟩ = some z2 ∧ w.cell? ⟨b, 3, none⟩ = some z3 ∧ w.cell? ⟨b, 4, none⟩ = some z4 ∧ w.frozen? ⟨b, 0, none⟩ = false ∧ w.frozen? ⟨b, 1, none⟩ = false ∧ w.frozen? ⟨b, 2, none⟩ = false ∧ w.frozen? ⟨b, 3, none⟩ = false ∧ w.frozen? ⟨b, 4, none⟩ = false := by
 simp [World.cell?, World.frozen?, h]
theorem heap5 (w : World) (o0 o1 o2 o3 o4 : Obj) : ∃ W, ((((w.alloc o0).alloc o1).alloc o2).alloc o3).alloc o4 = W ∧ W.heap.size = w.heap.size + 5 ∧ W.heap[w.heap.size]? = some o0 ∧ W.heap[w.heap.size + 1]? = some o1 ∧ W.heap[w.heap.size + 1 + 1]? = some o2 ∧ W.heap[w.heap.size + 1 + 1 + 1]? = some o3 ∧ W.heap[w.heap.size + 1 + 1 + 1 + 1]? = some o4 ∧ Below w.heap.size w W := by
 obtain ⟨a, b, c⟩ := heap3 w o0 o1 o2
 have hs : (((w.alloc o0).alloc o1).alloc o2).heap.size = w.heap.size + 1 + 1 + 1 := by simp
 have hB := (((Below.refl _ w).alloc (Nat.le_refl _) o0).alloc (by simp) o1).alloc (by simp; omega) o2
 revert a b c hs hB
 generalize ((w.alloc o0).alloc o1).alloc o2 = u
 intro a b c hs hB
 refine ⟨_, rfl, by simp [hs], ?_, ?_, ?_, ?_, ?_, (hB.alloc (by omega) o3).alloc (by simp; omega) o4⟩
 ·rw [Below.heap_alloc _ _ _ (by simp; omega), Below.heap_alloc _ _ _ (by omega)]; exact a
 ·rw [Below.heap_alloc _ _ _ (by simp; omega), Below.heap_alloc _ _ _ (by omega)]; exact b
 ·rw [Below.heap_alloc _ _ _ (by simp; omega), Below.heap_alloc _ _ _ (by omega)]; exact c
 ·rw [Below.heap_alloc _ _ _ (by simp; omega), ← hs]; exact heap_alloc_new _ _
 ·have := heap_alloc_new (u.alloc o3) o4; rwa [World.size_alloc, hs] at this
theorem over_any (w : World) (v : Value) (L : List UInt8) (base : Int) (seed : Crc.R) (xs : List Sc) (hx : EvS L base seed xs) (g0 : -9223372036854775808 ≤ base) (g1 : base ≤ 9223372036854775807) (hv : Sl w v L) :
    Calls Tryz.prog 69 #[v, .int .i64 base, .int .u32 (seed.toNat : Int)] w fun e w' => e = .returned (.agg (lastc L xs)) ∧ Below w.heap.size w w' := by
 have HV := hide hv
 obtain ⟨ao, ca, rfl, hrest⟩ := hv
 clear hrest
 obtain ⟨nn, hnn⟩ : ∃ nn, Hid (L.length = nn) := ⟨_, rfl⟩
 obtain ⟨LV, hLV⟩ : ∃ LV, Hid (lastc L xs = LV) := ⟨_, rfl⟩
 rw [hnn.out] at HV ⊢
 rw [hLV.out]
 refine calls_marks Tryz.func69 rfl ?_
 simp only [Tryz.ntmps69, List.size_toArray, List.length_cons, List.length_nil, Nat.reduceAdd, Nat.reduceSub, Array.replicate_succ, Array.replicate_zero, List.push_toArray, List.append_toArray, List.nil_append, List.cons_append]
 go_wp2_with (go_at_call 135; refine (steps_any _ _ _ _ _ _).mono ?_; rintro e u ⟨rfl, rfl⟩)
 obtain ⟨W0, hW0, hs, a0, a1, a2, a3, a4, aB⟩ := heap5 w (.cells #[.int .i64 0, .int .i64 0, .int .i64 0, .int .u32 0, .int .i64 0] 62) (.cells #[.int .i64 0, .int .i64 0, .int .i64 0, .int .u32 0, .int .i64 0] 62) (.cells #[.slice ao nn ca] 39) (.cells #[.int .i64 base] 2) (.cells #[.int .u32 (seed.toNat : Int)] 36)
 rw [hW0]
 have HV0 : Sl W0 (.slice ao nn ca) L := Below.sl aB HV.out
 have rlt : ∀ k, RdOf (w.heap.size + 1 + 1 + 1) (w.heap.size + 1 + 1 + 1 + 1) (w.heap.size + 1 + 1) (.slice ao nn ca) L k → k < W0.heap.size ∧ k ≠ w.heap.size + 1 := by
  rintro k (rfl | rfl | rfl | ⟨hl, hk⟩)
  ·exact ⟨by omega, by omega⟩
  ·exact ⟨by omega, by omega⟩
  ·exact ⟨by omega, by omega⟩
  ·have := HV.out.blk hl k hk
   exact ⟨by omega, by omega⟩
 refine wp_range (gf := 180) rfl (enters_of Tryz.func180 (by kernel_rfl) rfl) (steps_seq W0 _ _ _ _ L base seed xs hx g0 g1 a3 a4 a2 HV0) (Nat.le_refl _) (fun k hk => ⟨rfl, (rlt k hk).1⟩)
  (fun x args W D h => by obtain ⟨v', rfl, _⟩ := h; rfl)
  (fun pre C W => (∀ k, C k ↔ k = w.heap.size + 1) ∧ W.heap[w.heap.size + 1]? = some (.cells (lastc L pre) 62 (0, 0)) ∧ W.heap[w.heap.size]? = some (.cells #[.int .i64 0, .int .i64 0, .int .i64 0, .int .u32 0, .int .i64 0] 62 (0, 0)) ∧ Below w.heap.size w W)
  (fun _ _ _ _ => False) ?hI (fun _ _ _ _ _ h _ => h) (fun k => k = w.heap.size + 1) (fun k hk => ⟨fun h => (rlt k h).2 hk, by omega⟩) ⟨fun k => Iff.rfl, a1, a0, aB⟩ ?round ?done ?stop
 case hI =>
  rintro pre C A B ⟨h1, h2, h3, h4⟩ hb
  exact ⟨h1, hb.at h2 (by omega), hb.at h3 (by omega), h4.trans (hb.below (Nat.le_trans (by omega) h4.size) (fun k hk => by omega))⟩
 case round =>
  rintro l pre x rest C1 D args W1 hxs ⟨i1, i2, i3, i4⟩ ⟨v', rfl, ho, hDk⟩ hlt hD hl hlW nl nD
  have HI2 := hide i2
  have HI3 := hide i3
  have HI4 := hide i4
  have HI1 := hide i1
  clear i2 i3 i4 i1 HV a0 a1 a2 a3 a4 hD hDk ho
  obtain ⟨y1, hy1⟩ : ∃ y, Hid (whyS L x = y) := ⟨_, rfl⟩
  rw [hy1.out]
  unfold scv
  simp only [List.zip_toArray, List.zip_cons_cons, List.zip_nil_right, List.foldl_toArray, List.foldl_cons, List.foldl_nil]
  gi_wp2
  refine ⟨But.alloc _ _ _, ?_⟩
  intro Wb hWb hsb
  obtain ⟨z0, z1, z2, z3, z4, hz⟩ := lastc_form L pre
  have n1 := hide (hWb.at (heap_alloc_new _ _) (by omega))
  have n2 : Hid (Wb.heap[w.heap.size + 1]? = some (.cells #[.int .i64 z0, .int .i64 z1, .int .i64 z2, .int .u32 z3, .int .i64 z4] 62 (0, 0))) := by
   rw [← hz]
   exact hWb.at ((Below.heap_alloc _ _ _ (heap_lt HI2.out)).trans HI2.out) (by omega)
  have n3 := hide (hWb.at ((Below.heap_alloc _ _ _ (heap_lt HI3.out)).trans HI3.out) (by omega))
  have n4 : Hid (Below w.heap.size w Wb) := (HI4.out.alloc HI4.out.size _).trans (hWb.below (by have := HI4.out.size; simp; omega) (fun k e => by omega))
  clear HI2 HI3 HI4 hWb hz hW0 HV0
  obtain ⟨k0, k1, k2, k3, k4, -, -, -, -, -⟩ := five n1.out
  obtain ⟨m0, m1, m2, m3, m4, f0, f1, f2, f3, f4⟩ := five n2.out
  gi_wp2
  refine ⟨C1, ⟨HI1.out, ?_, ?_, ?_⟩, ?_, fun k hk => ⟨.inl hk, ?_⟩⟩
  ·rw [lastc_snoc, hy1.out]; exact put5_heap n2.out _ _ _ _ _
  ·exact (put5_other _ _ _ _ _ _ _ _ (by omega)).trans n3.out
  ·exact n4.out.grown (put5_grown _ _ _ _ _ _ _) n4.out.size (fun k e => by cases e; omega)
  ·exact But.of_grownBy (put5_grown _ _ _ _ _ _ _) (fun k e => by cases e; exact (HI1.out _).2 rfl)
  ·have := heap_lt n2.out
   have e := (HI1.out k).1 hk
   refine Nat.lt_of_lt_of_le ?_ (put5_grown _ _ _ _ _ _ _).size
   omega
 case done =>
  rintro C2 W ⟨i1, i2, i3, i4⟩ hK nD
  obtain ⟨z0, z1, z2, z3, z4, hz⟩ := lastc_form L xs
  rw [hz] at i2
  obtain rfl : LV = #[.int .i64 z0, .int .i64 z1, .int .i64 z2, .int .u32 z3, .int .i64 z4] := by rw [← hLV.out, hz]
  dsimp only
  have HI2 := hide i2
  have HI3 := hide i3
  have HI4 := hide i4
  have HK := hide hK
  clear i1 i2 i3 i4 hK HV a0 a1 a2 a3 a4 hW0 HV0
  obtain ⟨m0, m1, m2, m3, m4, -, -, -, -, -⟩ := five HI2.out
  obtain ⟨k0, k1, k2, k3, k4, f0, f1, f2, f3, f4⟩ := five HI3.out
  go_wp2_with fail
  have h5 := put5_heap HI3.out (.int .i64 z0) (.int .i64 z1) (.int .i64 z2) (.int .u32 z3) (.int .i64 z4)
  have hB := HI4.out.grown (put5_grown W w.heap.size (.int .i64 z0) (.int .i64 z1) (.int .i64 z2) (.int .u32 z3) (.int .i64 z4)) HI4.out.size (fun k e => by cases e; omega)
  have hK5 := (put5_other W w.heap.size W0.heap.size (.int .i64 z0) (.int .i64 z1) (.int .i64 z2) (.int .u32 z3) (.int .i64 z4) (by omega)).trans HK.out
  unfold put5 put2 at h5 hB hK5
  refine ⟨by simp, .inl ⟨_, _, rfl, run_takeDeferred hK5, ?_⟩⟩
  clear k0 k1 k2 k3 k4 f0 f1 f2 f3 f4 m0 m1 m2 m3 m4
  have h6 := (World.putObj_heap_other (o := .deferred none) (show w.heap.size ≠ W0.heap.size by omega)).trans h5
  have hB6 := hB.trans (belowK_b (w := w) (Nat.le_refl _) _ W0.heap.size _ (.deferred none) (by omega) hK5 rfl rfl)
  obtain ⟨k0, k1, k2, k3, k4, -, -, -, -, -⟩ := five h6
  exact ⟨_, by simp [results, Tryz.results69, go_sem, k0, k1, k2, k3, k4], rfl, hB6⟩
 case stop => exact fun _ _ _ _ _ h => h.elim
end Go.Proofs.YtpflaglfnkmjiaaGreat
namespace Go.Proofs.YtpflaglfnkmjiaaGreat.Sg
open Go.RowKit Go.Maps Go.Sort Go.Shelf Go.Proofs.YtpflaglfnkmjiaaGreat.Nm Go.Proofs.YtpflaglfnkmjiaaGreat.Dk
def raF (S : DS) (file : ByteArray) : List UInt8 × Int := if (S.size file).2 ≠ 0 then ([], (S.size file).2) else S.read file 0 (S.size file).1
theorem readAll_any {w : World} {b : Nat} {S : DS} {O : Nat → Prop} (h : DskE w b S O) (file : ByteArray) (hs : file.size ≤ maxLen) :
    Calls Tryz.prog 67 #[.pointer (some ⟨b, 0, none⟩), .string file] w fun e w' => ∃ v, e = .returned (.tuple #[v, .int .i64 (raF S file).2]) ∧ Ob w.heap.size w' v (raF S file).1 ∧ Below w.heap.size w w' := by
 have hZ := hide (size_dsk h file hs)
 have hR : Hid (∀ q, Below w.heap.size w q → Calls Tryz.prog 89 #[.pointer (some ⟨b, 0, none⟩), .string file, .int .i64 0, .int .i64 (S.size file).1] q fun e w' => ∃ v, e = .returned (.tuple #[v, .int .i64 (S.read file 0 (S.size file).1).2]) ∧ Ob q.heap.size w' v (S.read file 0 (S.size file).1).1 ∧ Below q.heap.size q w') := fun q hq => read_dsk (h.below hq) file hs 0 _
 have hF : Hid (raF S file = if (S.size file).2 ≠ 0 then ([], (S.size file).2) else S.read file 0 (S.size file).1) := rfl
 obtain ⟨R, hRf⟩ : ∃ R, Hid (raF S file = R) := ⟨_, rfl⟩
 rw [hRf.out] at hF ⊢
 obtain ⟨X, hX⟩ : ∃ X, Hid (S.size file = X) := ⟨_, rfl⟩
 rw [hX.out] at hZ hR hF
 obtain ⟨n, er⟩ := X
 simp only at hZ hR hF
 obtain ⟨Y, hY⟩ : ∃ Y, Hid (S.read file 0 n = Y) := ⟨_, rfl⟩
 rw [hY.out] at hR hF
 clear h hX hY hRf
 by_cases he : er = 0
 ·subst he
  go_enter Tryz.func67, Tryz.ntmps67
  go_wp2_with (first
   | (go_at_call 90; refine hZ.out.mono ?_; rintro e w1 ⟨rfl, B1⟩; replace B1 := hide B1)
   | (go_at_call 89; refine (hR.out _ B1.out).mono ?_; rintro e w2 ⟨v2, rfl, O2, B2⟩; replace O2 := hide O2; replace B2 := hide B2)
   | fail)
  go_ret2
  have e1 : R = Y := by rw [hF.out, if_neg (by simp)]
  rw [e1]
  exact ⟨v2, rfl, O2.out.low B1.out.size, keepF B1.out B2.out⟩
 ·go_enter Tryz.func67, Tryz.ntmps67
  go_wp2_with (first
   | (go_at_call 90; refine hZ.out.mono ?_; rintro e w1 ⟨rfl, B1⟩; replace B1 := hide B1)
   | fail)
  go_ret2
  have e1 : R = ([], er) := by rw [hF.out, if_pos he]
  rw [e1]
  exact ⟨_, rfl, Ob.nil _ _, B1.out⟩
theorem rd_wk {sd0 : Crc.R} {n : Int} {ds : List (List UInt8)} (h1 : 1 ≤ n) (h2 : n + (ds.length : Int) ≤ 9223372036854775807) (hd : ∀ d ∈ ds, d.length ≤ 4096) (post : List UInt8) {i : Nat} (hi : i < ds.length) :
    rdF (wk sd0 n ds i).2.2 (((wk sd0 n ds ds.length).1 ++ post).drop (wk sd0 n ds i).1.length) = (n + (i : Int), ds.getD i [], 16 + ((ds.getD i []).length : Int), fsum (wk sd0 n ds i).2.2 (n + (i : Int)).toNat (ds.getD i []), 0) := by
 obtain ⟨p2, hp⟩ := wk_at (seed := sd0) h1 h2 hd hi
 have hm : ds.getD i [] ∈ ds := by simp [List.getD, hi]
 rw [hp, List.append_assoc, List.drop_left' rfl, List.append_assoc, rd_back _ _ _ _ (by omega) (by omega) (hd _ hm)]
 rw [show (((n + (i : Int)).toNat : Nat) : Int) = n + (i : Int) by omega]
theorem scan_wk {sd0 : Crc.R} {n : Int} {ds : List (List UInt8)} (h1 : 1 ≤ n) (h2 : n + (ds.length : Int) ≤ 9223372036854775807) (hd : ∀ d ∈ ds, d.length ≤ 4096) (post : List UInt8) : ∀ i, i ≤ ds.length →
    Go.Proofs.YtpflaglfnkmjiaaGreat.Sst ((wk sd0 n ds ds.length).1 ++ post) ⟨0, 0, n.toNat, sd0⟩ i = ⟨i, (wk sd0 n ds i).1.length, n.toNat + i, (wk sd0 n ds i).2.2⟩ ∧ Good ((wk sd0 n ds ds.length).1 ++ post) ⟨0, 0, n.toNat, sd0⟩ i
 | 0, _ => ⟨rfl, fun j hj => by omega⟩
 | i + 1, hi => by
  obtain ⟨e1, e2⟩ := scan_wk (sd0 := sd0) h1 h2 hd post i (by omega)
  have hr := rd_wk (sd0 := sd0) h1 h2 hd post (i := i) (by omega)
  have hw := wk_step (seed := sd0) (i := i) (show i < ds.length by omega) h1 h2 hd
  obtain ⟨p2, hp⟩ := wk_at (seed := sd0) h1 h2 hd (i := i) (by omega)
  have hwhy : whyS ((wk sd0 n ds ds.length).1 ++ post) (Go.Proofs.YtpflaglfnkmjiaaGreat.Sst ((wk sd0 n ds ds.length).1 ++ post) ⟨0, 0, n.toNat, sd0⟩ i) = 0 := by
   rw [e1]
   unfold whyS
   simp only
   rw [hr, if_neg (by rw [hp]; simp [frm_len]; omega), if_neg (by simp), if_neg (by simp only; omega)]
  refine ⟨?_, good_next e2 hwhy⟩
  rw [Go.Proofs.YtpflaglfnkmjiaaGreat.Sst, e1]
  unfold nxt
  simp only
  rw [hr, hw]
  simp only [List.length_append, frm_len]
  congr 1
theorem scan_end {sd0 : Crc.R} {n : Int} {ds : List (List UInt8)} (h1 : 1 ≤ n) (h2 : n + (ds.length : Int) ≤ 9223372036854775807) (hd : ∀ d ∈ ds, d.length ≤ 4096) : IsK (wk sd0 n ds ds.length).1 ⟨0, 0, n.toNat, sd0⟩ ds.length ∧ whyS (wk sd0 n ds ds.length).1 (Go.Proofs.YtpflaglfnkmjiaaGreat.Sst (wk sd0 n ds ds.length).1 ⟨0, 0, n.toNat, sd0⟩ ds.length) = 1 := by
 obtain ⟨e1, e2⟩ := scan_wk (sd0 := sd0) h1 h2 hd [] ds.length (Nat.le_refl _)
 rw [List.append_nil] at e1 e2
 have hw : whyS (wk sd0 n ds ds.length).1 (Go.Proofs.YtpflaglfnkmjiaaGreat.Sst (wk sd0 n ds ds.length).1 ⟨0, 0, n.toNat, sd0⟩ ds.length) = 1 := by
  rw [e1]
  unfold whyS
  rw [if_pos (Nat.le_refl _)]
 exact ⟨⟨e2, by rw [hw]; decide⟩, hw⟩
def opk (L : List UInt8) (s : SG) : Nat → SG
 | 0 => s
 | i + 1 => (opk L s i).grown (rdF (BitVec.ofNat 32 (opk L s i).seed.toNat) (L.drop (opk L s i).size.toNat)).2.2.1 ((rdF (BitVec.ofNat 32 (opk L s i).seed.toNat) (L.drop (opk L s i).size.toNat)).2.2.2.1.toNat : Int)
theorem opk_b (L : List UInt8) (s : SG) : ∀ i, (opk L s i).b = s.b ∧ (opk L s i).file = s.file ∧ (opk L s i).cond = s.cond ∧ (opk L s i).base = s.base ∧ (opk L s i).num = s.num ∧ (opk L s i).hs = s.hs
 | 0 => ⟨rfl, rfl, rfl, rfl, rfl, rfl⟩
 | i + 1 => opk_b L s i
theorem grown_sd (s : SG) (z f : Int) : (s.grown z f).sd.length ≤ s.sd.length + 1 := by
 show (if (Ix.findF (Ix.addF s.x s.next s.size).2.l s.next).1.1 = s.next then sput s.sd s.next s.seed else s.sd).length ≤ _
 split
 ·exact sput_len _ _ _
 ·omega
theorem opk_coh {sd0 : Crc.R} {ds : List (List UInt8)} {s : SG} (h : Coh s sd0 []) (hs0 : s.sd = []) {H : List UInt8} (hH : H.length = 32) (h2 : s.base + (ds.length : Int) ≤ 9223372036854775807) (hd : ∀ d ∈ ds, d.length ≤ 4096) (hl : ds.length ≤ 500000) (post : List UInt8) : ∀ i, i ≤ ds.length →
    Coh (opk (H ++ ((wk sd0 s.base ds ds.length).1 ++ post)) s i) sd0 (ds.take i) ∧ (opk (H ++ ((wk sd0 s.base ds ds.length).1 ++ post)) s i).sd.length ≤ i
 | 0, _ => by
  refine ⟨?_, ?_⟩
  ·rw [List.take_zero]; exact h
  ·show s.sd.length ≤ 0; rw [hs0]; exact Nat.le_refl _
 | i + 1, hi => by
  obtain ⟨c, cl⟩ := opk_coh h hs0 hH h2 hd hl post i (by omega)
  obtain ⟨_, _, _, ob, _, _⟩ := opk_b (H ++ ((wk sd0 s.base ds ds.length).1 ++ post)) s i
  have ht : (ds.take i).length = i := by simp; omega
  have hpre : wk sd0 s.base (ds.take i) i = wk sd0 s.base ds i := by
   have := wk_prefix sd0 s.base (ds.take i) (ds.drop i) i (by omega)
   rw [List.take_append_drop] at this
   exact this.symm
  have cz := c.z
  have ce := c.e
  have cn := c.n
  rw [ht, ob] at cz ce cn
  rw [hpre] at cz ce
  have hlen := (wk_len sd0 s.base ds i).1
  have hm : ds.getD i [] ∈ ds := by simp [List.getD, show i < ds.length by omega]
  have hseed : BitVec.ofNat 32 (opk (H ++ ((wk sd0 s.base ds ds.length).1 ++ post)) s i).seed.toNat = (wk sd0 s.base ds i).2.2 := by rw [ce]; simp
  have hdrop : (H ++ ((wk sd0 s.base ds ds.length).1 ++ post)).drop (opk (H ++ ((wk sd0 s.base ds ds.length).1 ++ post)) s i).size.toNat = ((wk sd0 s.base ds ds.length).1 ++ post).drop (wk sd0 s.base ds i).1.length := by
   rw [cz, show ((32 : Int) + ((wk sd0 s.base ds i).1.length : Int)).toNat = H.length + (wk sd0 s.base ds i).1.length by omega, List.drop_append]
   simp
  have hr := rd_wk (sd0 := sd0) h.b1 h2 hd post (i := i) (by omega)
  have e : opk (H ++ ((wk sd0 s.base ds ds.length).1 ++ post)) s (i + 1) = (opk (H ++ ((wk sd0 s.base ds ds.length).1 ++ post)) s i).grown (16 + ((ds.getD i []).length : Int)) ((fsum (wk sd0 s.base ds i).2.2 (opk (H ++ ((wk sd0 s.base ds ds.length).1 ++ post)) s i).next.toNat (ds.getD i [])).toNat : Int) := by
   rw [opk, hseed, hdrop, hr, cn]
  have e3 : ds.take (i + 1) = ds.take i ++ [ds.getD i []] := by
   have hii : i < ds.length := by omega
   rw [List.take_add_one]
   simp [List.getD, hii]
  rw [e, e3]
  refine ⟨c.grow ce (hd _ hm) (by omega) (by omega) (by omega), ?_⟩
  have := grown_sd (opk (H ++ ((wk sd0 s.base ds ds.length).1 ++ post)) s i) (16 + ((ds.getD i []).length : Int)) ((fsum (wk sd0 s.base ds i).2.2 (opk (H ++ ((wk sd0 s.base ds ds.length).1 ++ post)) s i).next.toNat (ds.getD i [])).toNat : Int)
  omega
theorem SOk.grown {s : SG} (ok : SOk s) {z f : Int} (hz : 0 ≤ z ∧ z ≤ 4112) (hf : 0 ≤ f ∧ f < 4294967296) (hn : s.next ≤ 9223372036854775806) (hs : s.size + 4112 ≤ 2147483647) (hl : s.sd.length + 1 ≤ 1000000000) : SOk (s.grown z f) :=
 (gk_ok ok [(z, f)] (fun g hg => by simp at hg; rw [hg]; exact hz) (fun g hg => by simp at hg; rw [hg]; exact hf) (by simp; omega) (by simp; omega) (by simpa using hl) 1 (by simp)).1
theorem opk_sst {L : List UInt8} {b : Nat} {file : ByteArray} {nm bs : Int} {seed sum : Crc.R} (h1 : 1 ≤ bs) (h2 : bs ≤ 9223372036854775807) (hL : L.length ≤ 16777216) {K : Nat} (hG : Good (L.drop 32) ⟨0, 0, bs.toNat, sum⟩ K) : ∀ i, i ≤ K →
    (opk L (newSG b file nm bs seed sum) i).seed = ((Go.Proofs.YtpflaglfnkmjiaaGreat.Sst (L.drop 32) ⟨0, 0, bs.toNat, sum⟩ i).s.toNat : Int) ∧ (opk L (newSG b file nm bs seed sum) i).size = 32 + ((Go.Proofs.YtpflaglfnkmjiaaGreat.Sst (L.drop 32) ⟨0, 0, bs.toNat, sum⟩ i).e : Int) ∧ (opk L (newSG b file nm bs seed sum) i).next = bs + (i : Int) ∧ SOk (opk L (newSG b file nm bs seed sum) i) ∧ (opk L (newSG b file nm bs seed sum) i).sd.length ≤ i
 | 0, _ => ⟨rfl, rfl, by show bs = bs + 0; omega, newSG_ok b file nm bs seed sum h1 h2, Nat.le_refl _⟩
 | i + 1, hi => by
  obtain ⟨e1, e2, e3, e4, e5⟩ := opk_sst (b := b) (file := file) (nm := nm) (seed := seed) h1 h2 hL hG i (by omega)
  have hGi : Good (L.drop 32) ⟨0, 0, bs.toNat, sum⟩ i := fun j hj => hG j (by omega)
  obtain ⟨f1, f2, f3, f4⟩ := good_e hGi (Nat.zero_le _)
  have hw := why_zero (hG i (by omega))
  have hk : (L.drop 32).length ≤ 16777216 := by simp; omega
  have f2' : 16 * i ≤ (Go.Proofs.YtpflaglfnkmjiaaGreat.Sst (L.drop 32) ⟨0, 0, bs.toNat, sum⟩ i).e := by simpa using f2
  have f4' : (Go.Proofs.YtpflaglfnkmjiaaGreat.Sst (L.drop 32) ⟨0, 0, bs.toNat, sum⟩ i).n = bs.toNat + i := f4
  have hS : Go.Proofs.YtpflaglfnkmjiaaGreat.Sst (L.drop 32) ⟨0, 0, bs.toNat, sum⟩ (i + 1) = nxt (L.drop 32) (Go.Proofs.YtpflaglfnkmjiaaGreat.Sst (L.drop 32) ⟨0, 0, bs.toNat, sum⟩ i) := rfl
  have hop : opk L (newSG b file nm bs seed sum) (i + 1) = (opk L (newSG b file nm bs seed sum) i).grown (rdF (BitVec.ofNat 32 (opk L (newSG b file nm bs seed sum) i).seed.toNat) (L.drop (opk L (newSG b file nm bs seed sum) i).size.toNat)).2.2.1 ((rdF (BitVec.ofNat 32 (opk L (newSG b file nm bs seed sum) i).seed.toNat) (L.drop (opk L (newSG b file nm bs seed sum) i).size.toNat)).2.2.2.1.toNat : Int) := rfl
  rw [hS, hop]
  generalize opk L (newSG b file nm bs seed sum) i = s at *
  generalize Go.Proofs.YtpflaglfnkmjiaaGreat.Sst (L.drop 32) ⟨0, 0, bs.toNat, sum⟩ i = y at *
  have hseed : BitVec.ofNat 32 s.seed.toNat = y.s := by rw [e1]; simp
  have hdrop : L.drop s.size.toNat = (L.drop 32).drop y.e := by rw [e2, List.drop_drop]; congr 1
  rw [hseed, hdrop]
  obtain ⟨w1, w2, w3, w4, w5, _⟩ := hw
  obtain ⟨r1, r2, r3, r4, r5, r6, r7, r8⟩ := rd_good w2
  have hsum := (rdF y.s ((L.drop 32).drop y.e)).2.2.2.1.isLt
  refine ⟨?_, ?_, ?_, ?_, ?_⟩
  ·show ((rdF y.s ((L.drop 32).drop y.e)).2.2.2.1.toNat : Int) = ((nxt (L.drop 32) y).s.toNat : Int)
   rfl
  ·show s.size + (rdF y.s ((L.drop 32).drop y.e)).2.2.1 = 32 + ((y.e + (rdF y.s ((L.drop 32).drop y.e)).2.2.1.toNat : Nat) : Int)
   rw [r5]
   omega
  ·show s.next + 1 = bs + ((i + 1 : Nat) : Int)
   omega
  ·exact e4.grown (by rw [r5]; omega) (by omega) (by omega) (by omega) (by omega)
  ·have := grown_sd s (rdF y.s ((L.drop 32).drop y.e)).2.2.1 ((rdF y.s ((L.drop 32).drop y.e)).2.2.2.1.toNat : Int)
   omega
def OI (wc wr : World) (sb : Nat) (s : SG) (S : DS) (O : Nat → Prop) (xb mb : Nat) : Prop := ∃ v, SW wr sb s S O xb mb v ∧ Below wc.heap.size wc wr ∧ ∀ k, SOwn sb xb mb v k → wc.heap.size ≤ k
theorem OI.below {wc wr q : World} {sb : Nat} {s : SG} {S : DS} {O : Nat → Prop} {xb mb : Nat} (h : OI wc wr sb s S O xb mb) (hb : Below wr.heap.size wr q) : OI wc q sb s S O xb mb := by
 obtain ⟨v, h1, h2, h3⟩ := h
 exact ⟨v, h1.below hb, h2.trans (hb.mono h2.size), h3⟩
theorem OI.bel {wc wr : World} {sb : Nat} {s : SG} {S : DS} {O : Nat → Prop} {xb mb : Nat} (h : OI wc wr sb s S O xb mb) : Below wc.heap.size wc wr := by
 obtain ⟨v, h1, h2, h3⟩ := h
 exact h2
theorem OI.cells {wc wr : World} {sb : Nat} {s : SG} {S : DS} {O : Nat → Prop} {xb mb : Nat} (h : OI wc wr sb s S O xb mb) : wr.cell? ⟨sb, 6, none⟩ = some (.int .i64 s.size) ∧ wr.cell? ⟨sb, 7, none⟩ = some (.int .u32 s.seed) := by
 obtain ⟨v, h1, h2, h3⟩ := h
 obtain ⟨y0, y1, y2, y3, y4, y5, y6, y7, y8, y9, y10⟩ := h1.sg.cells
 exact ⟨y6, y7⟩
theorem OI.grow {wc wr : World} {sb : Nat} {s : SG} {S : DS} {O : Nat → Prop} {xb mb : Nat} (h : OI wc wr sb s S O xb mb) (ok : SOk s) (z sum : Int) (hn : s.next ≤ 9223372036854775806) (hz : 0 ≤ z) (hz2 : s.size + z ≤ 2147483647) :
    Calls Tryz.prog 60 #[.pointer (some ⟨sb, 0, none⟩), .int .i64 z, .int .u32 sum] wr fun e w' => e = .returned (.tuple #[]) ∧ OI wc w' sb (s.grown z sum) S O xb mb := by
 obtain ⟨v, h, h2, h3⟩ := h
 refine (grow_any h.sg ok z sum hn hz hz2).mono ?_
 rintro e w' ⟨rfl, v', g, b, o⟩
 refine ⟨rfl, v', ⟨g, h.dk.but b (fun k hk c => h.ap k c hk), fun k hk c => ?_⟩, ⟨b.os.trans h2.os, b.tape.trans h2.tape, b.output.trans h2.output, Nat.le_trans h2.size b.size, fun k hk => (b.block k (Nat.lt_of_lt_of_le hk h2.size) (fun c => by have := h3 k c; omega)).trans (h2.block k hk)⟩, fun k hk => ?_⟩
 ·rcases hk with hk | hk | hk | hk
  ·exact h.ap k (.inl hk) c
  ·exact h.ap k (.inr (.inl hk)) c
  ·exact h.ap k (.inr (.inr (.inl hk))) c
  ·rcases o k hk with q | q
   ·exact h.ap k (.inr (.inr (.inr q))) c
   ·have := h.dk.lt k c; omega
 ·rcases hk with hk | hk | hk | hk
  ·exact h3 k (.inl hk)
  ·exact h3 k (.inr (.inl hk))
  ·exact h3 k (.inr (.inr (.inl hk)))
  ·rcases o k hk with q | q
   ·exact h3 k (.inr (.inr (.inr q)))
   ·exact Nat.le_trans h2.size q
theorem evs_last {L : List UInt8} {bs : Int} {sum : Crc.R} {xs : List Sc} (h1 : 1 ≤ bs) (hx : EvS L bs sum xs) : ∃ K, IsK L ⟨0, 0, bs.toNat, sum⟩ K ∧ lastc L xs = scc (Go.Proofs.YtpflaglfnkmjiaaGreat.Sst L ⟨0, 0, bs.toNat, sum⟩ K) (whyS L (Go.Proofs.YtpflaglfnkmjiaaGreat.Sst L ⟨0, 0, bs.toNat, sum⟩ K)) ∧ (Go.Proofs.YtpflaglfnkmjiaaGreat.Sst L ⟨0, 0, bs.toNat, sum⟩ K).c = K := by
 rcases hx with ⟨c, _⟩ | ⟨_, K, hK, rfl⟩
 ·omega
 ·refine ⟨K, hK, ?_, ?_⟩
  ·rw [List.range_succ, List.map_append]
   exact lastc_snoc _ _ _
  ·have := (good_e hK.1 (Nat.zero_le _)).2.2.1
   simpa using this
theorem run_tail {w : World} {v : Value} {l : List UInt8} (h : Sl w v l) (a : Nat) (ha : a ≤ l.length) :
    ∃ v', (∀ q : World, (Instr.slice 39 v (some (.int .i64 (a : Int))) none none).run Tryz.prog q = .ok v' q) ∧ Sl w v' (l.drop a) := by
 obtain ⟨ao, ca, rfl, h2, h3, h4, h5⟩ := h
 refine ⟨.slice (if ca = a then ao else ao.map (·.add (a * 1))) (l.length - a) (ca - a), fun q => ?_, ?_⟩
 ·have e4 : (sizeOf 5).run Tryz.prog q = .ok 1 q := by kernel_rfl
  simp [Instr.slice, run_underlying Tryz.underlying39, Instr.sliceBounds, Instr.sliceBound, asIntOf, e4, ha, Result.andThen]
 ·have := sl_drop a ha h2 h3 h4 h5
  simpa using this
theorem put5_below {B : Nat} {u w : World} (h : Below B u w) {g : Nat} (hg : B ≤ g) (a0 a1 a2 a3 a4 : Value) : Below B u (((((w.setCell ⟨g, 0, none⟩ a0).setCell ⟨g, 1, none⟩ a1).setCell ⟨g, 2, none⟩ a2).setCell ⟨g, 3, none⟩ a3).setCell ⟨g, 4, none⟩ a4) := ((((h.setCell hg a0).setCell hg a1).setCell hg a2).setCell hg a3).setCell hg a4
theorem put5_at {w : World} {g : Nat} {y0 y1 y2 y3 y4 : Value} {T : TypeId} (h : w.heap[g]? = some (.cells #[y0, y1, y2, y3, y4] T (0, 0))) (a0 a1 a2 a3 a4 : Value) : (((((w.setCell ⟨g, 0, none⟩ a0).setCell ⟨g, 1, none⟩ a1).setCell ⟨g, 2, none⟩ a2).setCell ⟨g, 3, none⟩ a3).setCell ⟨g, 4, none⟩ a4).heap[g]? = some (.cells #[a0, a1, a2, a3, a4] T (0, 0)) := by
 rw [heap_setCell_same _ g 4 _ _ _ (heap_setCell_same _ g 3 _ _ _ (heap_setCell_same _ g 2 _ _ _ (heap_setCell_same _ g 1 _ _ _ (heap_setCell_same w g 0 _ _ _ h))))]
 rfl
theorem OI.set8 {wc wr : World} {sb : Nat} {s : SG} {S : DS} {O : Nat → Prop} {xb mb : Nat} (h : OI wc wr sb s S O xb mb) (n : Int) : OI wc (wr.setCell ⟨sb, 8, none⟩ (.int .i64 n)) sb { s with cond := n } S O xb mb := by
 obtain ⟨v, h1, h2, h3⟩ := h
 have hb : But (fun k => k = sb) wr (wr.setCell ⟨sb, 8, none⟩ (.int .i64 n)) := But.of_grownBy (grown_setCell wr sb 8 _) fun k e => by cases e; rfl
 refine ⟨v, ⟨h1.sg.set8 n, h1.dk.but hb (fun k hk c => h1.ap k (.inl c) hk), h1.ap⟩, h2.setCell (h3 sb (.inl rfl)) _, h3⟩
theorem OI.cell8 {wc wr : World} {sb : Nat} {s : SG} {S : DS} {O : Nat → Prop} {xb mb : Nat} (h : OI wc wr sb s S O xb mb) : wr.frozen? ⟨sb, 8, none⟩ = false ∧ wr.cell? ⟨sb, 8, none⟩ = some (.int .i64 s.cond) := by
 obtain ⟨v, h1, h2, h3⟩ := h
 obtain ⟨y0, y1, y2, y3, y4, y5, y6, y7, y8, y9, y10⟩ := h1.sg.cells
 exact ⟨h1.sg.frozen 8, y8⟩
def opE (L : List UInt8) (s : SG) (K : Nat) : SG := if (opk L s K).size < (L.length : Int) then { opk L s K with cond := 1 } else opk L s K
theorem put5_but {w : World} {g : Nat} (a0 a1 a2 a3 a4 : Value) : But (fun k => k = g) w (((((w.setCell ⟨g, 0, none⟩ a0).setCell ⟨g, 1, none⟩ a1).setCell ⟨g, 2, none⟩ a2).setCell ⟨g, 3, none⟩ a3).setCell ⟨g, 4, none⟩ a4) :=
 ((((but_sb w g 0 a0 (fun k => k = g) rfl).trans (but_sb _ g 1 a1 (fun k => k = g) rfl)).trans (but_sb _ g 2 a2 (fun k => k = g) rfl)).trans (but_sb _ g 3 a3 (fun k => k = g) rfl)).trans (but_sb _ g 4 a4 (fun k => k = g) rfl)
theorem raF_has {S : DS} {file : ByteArray} {B : List UInt8} (h : Has S file B) : raF S file = (B, 0) := by
 have h2 := h.read 0 B.length (by omega)
 obtain ⟨p, e, hB⟩ := h
 have h1 : S.size file = ((B.length : Int), 0) := by unfold DS.size; rw [e]; dsimp only; rw [hB]
 unfold raF
 rw [h1, if_neg (by simp)]
 simpa using h2
def dts (L : List UInt8) (x : Sc) (K : Nat) : List (List UInt8) := (List.range K).map fun i => dat L (Go.Proofs.YtpflaglfnkmjiaaGreat.Sst L x i)
theorem dts_len (L : List UInt8) (x : Sc) (K : Nat) : (dts L x K).length = K := by simp [dts]
theorem dts_get {L : List UInt8} {x : Sc} {K i : Nat} (h : i < K) : (dts L x K).getD i [] = dat L (Go.Proofs.YtpflaglfnkmjiaaGreat.Sst L x i) := by simp [dts, List.getD, h]
theorem dts_small {L : List UInt8} {x : Sc} {K : Nat} (h : Good L x K) : ∀ d ∈ dts L x K, d.length ≤ 4096 := fun d hd => by
 obtain ⟨i, hi, rfl⟩ := List.mem_map.1 hd
 exact (why_zero (h i (by simpa using hi))).2.2.2.2.2.2.2.2.1
theorem dts_next {L : List UInt8} {x : Sc} {K : Nat} (h : Good L x K) (he : x.e ≤ L.length) (hx : x.n ≤ 9223372036854775807) : x.n + K ≤ 9223372036854775807 := by
 cases K with
 | zero => omega
 | succ k =>
  have hk : Good L x k := fun j hj => h j (by omega)
  obtain ⟨_, _, _, e⟩ := good_e hk he
  have := (why_zero (h k (by omega))).2.2.2.2.1
  omega
theorem dts_wk {L : List UInt8} {n : Int} {sd0 : Crc.R} {K : Nat} (h1 : 1 ≤ n) (h : Good L ⟨0, 0, n.toNat, sd0⟩ K) : ∀ i, i ≤ K →
    (wk sd0 n (dts L ⟨0, 0, n.toNat, sd0⟩ K) i).1 = L.take (Go.Proofs.YtpflaglfnkmjiaaGreat.Sst L ⟨0, 0, n.toNat, sd0⟩ i).e ∧ (wk sd0 n (dts L ⟨0, 0, n.toNat, sd0⟩ K) i).2.2 = (Go.Proofs.YtpflaglfnkmjiaaGreat.Sst L ⟨0, 0, n.toNat, sd0⟩ i).s
 | 0, _ => ⟨rfl, rfl⟩
 | i + 1, hi => by
  obtain ⟨e1, e2⟩ := dts_wk h1 h i (by omega)
  have hg : Good L ⟨0, 0, n.toNat, sd0⟩ i := fun j hj => h j (by omega)
  obtain ⟨f1, f2, f3, f4⟩ := good_e hg (Nat.zero_le _)
  have f4' : (Go.Proofs.YtpflaglfnkmjiaaGreat.Sst L ⟨0, 0, n.toNat, sd0⟩ i).n = n.toNat + i := f4
  have hw := h i (by omega)
  obtain ⟨w1, w2, w3, w4, w5, w6, w7, w8, w9, w10⟩ := why_zero hw
  obtain ⟨b1, b2, b3, b4, b5, b6, b7, b8⟩ := wr_back w2
  have hS : Go.Proofs.YtpflaglfnkmjiaaGreat.Sst L ⟨0, 0, n.toNat, sd0⟩ (i + 1) = nxt L (Go.Proofs.YtpflaglfnkmjiaaGreat.Sst L ⟨0, 0, n.toNat, sd0⟩ i) := rfl
  have hd := dts_get (L := L) (x := ⟨0, 0, n.toNat, sd0⟩) (K := K) (i := i) (by omega)
  rw [wk, e1, e2, hd, hS]
  generalize Go.Proofs.YtpflaglfnkmjiaaGreat.Sst L ⟨0, 0, n.toNat, sd0⟩ i = y at *
  have hdat : dat L y = fD (L.drop y.e) := by unfold dat; rw [b2]
  have hL : (fL (L.drop y.e) : Int) = (y.n : Int) := by rw [b2] at w3; exact w3
  have hL2 : fL (L.drop y.e) = y.n := by omega
  have hsum : (nxt L y).s = fsum y.s y.n (fD (L.drop y.e)) := by unfold nxt; rw [b2, hL2]
  have hne : (nxt L y).e = y.e + (16 + fN (L.drop y.e)) := by rw [w10, hdat, b6]; omega
  rw [hdat, wrF_ok (by omega) (by omega) (by rw [b6]; omega)]
  have hn : (n + (i : Int)).toNat = y.n := by omega
  simp only
  rw [hn, hsum, hne]
  refine ⟨?_, rfl⟩
  rw [← hL2, b8]
  exact List.take_add.symm
theorem dts_split {L : List UInt8} {n : Int} {sd0 : Crc.R} {K : Nat} (h1 : 1 ≤ n) (h : Good L ⟨0, 0, n.toNat, sd0⟩ K) :
    L = (wk sd0 n (dts L ⟨0, 0, n.toNat, sd0⟩ K) (dts L ⟨0, 0, n.toNat, sd0⟩ K).length).1 ++ L.drop (Go.Proofs.YtpflaglfnkmjiaaGreat.Sst L ⟨0, 0, n.toNat, sd0⟩ K).e := by
 rw [dts_len, (dts_wk h1 h K (Nat.le_refl _)).1, List.take_append_drop]
theorem isK_ge13 {L : List UInt8} {x : Sc} {K m : Nat} (h : IsK L x K) (hg : Good L x m) : m ≤ K := by
 refine Classical.byContradiction fun hn => ?_
 exact h.2 (hg K (by omega))
theorem front_of {L post : List UInt8} {n : Int} {sd0 : Crc.R} {ds : List (List UInt8)} (h1 : 1 ≤ n) (h2 : n + (ds.length : Int) ≤ 9223372036854775807) (hd : ∀ d ∈ ds, d.length ≤ 4096) (hL : L = (wk sd0 n ds ds.length).1 ++ post) {K : Nat} (hK : IsK L ⟨0, 0, n.toNat, sd0⟩ K) :
    ds.length ≤ K ∧ ∀ i, i < ds.length → (dts L ⟨0, 0, n.toNat, sd0⟩ K).getD i [] = ds.getD i [] := by
 have hG := (scan_wk (sd0 := sd0) h1 h2 hd post ds.length (Nat.le_refl _)).2
 rw [← hL] at hG
 have hle := isK_ge13 hK hG
 refine ⟨hle, fun i hi => ?_⟩
 rw [dts_get (by omega), hL, (scan_wk (sd0 := sd0) h1 h2 hd post i (by omega)).1]
 unfold dat
 simp only
 rw [rd_wk h1 h2 hd post hi]
theorem rd_more {s : Crc.R} {l : List UInt8} (h : (rdF s l).2.2.2.2 = 0) (r : List UInt8) : rdF s (l ++ r) = rdF s l := by
 obtain ⟨b1, b2, b3, b4, b5, b6, b7, b8⟩ := wr_back h
 have e : l ++ r = frm s (fL l) (fD l) ++ (l.drop (16 + fN l) ++ r) := by
  rw [b8, ← List.append_assoc, List.take_append_drop]
 rw [e, rd_back s (fL l) (fD l) _ b4 b5 (by omega), b2, b6]
theorem good_app {L : List UInt8} {x : Sc} (R : List UInt8) : ∀ K, Good L x K → Good (L ++ R) x K ∧ Go.Proofs.YtpflaglfnkmjiaaGreat.Sst (L ++ R) x K = Go.Proofs.YtpflaglfnkmjiaaGreat.Sst L x K ∧ ∀ i, i < K → dat (L ++ R) (Go.Proofs.YtpflaglfnkmjiaaGreat.Sst L x i) = dat L (Go.Proofs.YtpflaglfnkmjiaaGreat.Sst L x i)
 | 0, _ => ⟨fun j hj => by omega, rfl, fun i hi => by omega⟩
 | K + 1, h => by
  have hg : Good L x K := fun j hj => h j (by omega)
  obtain ⟨g1, g2, g3⟩ := good_app R K hg
  obtain ⟨w1, w2, w3, _⟩ := why_zero (h K (by omega))
  have hr : rdF (Go.Proofs.YtpflaglfnkmjiaaGreat.Sst L x K).s ((L ++ R).drop (Go.Proofs.YtpflaglfnkmjiaaGreat.Sst L x K).e) = rdF (Go.Proofs.YtpflaglfnkmjiaaGreat.Sst L x K).s (L.drop (Go.Proofs.YtpflaglfnkmjiaaGreat.Sst L x K).e) := by
   rw [List.drop_append_of_le_length (by omega), rd_more w2]
  refine ⟨good_next g1 ?_, ?_, fun i hi => ?_⟩
  ·rw [g2]
   unfold whyS
   rw [if_neg (by rw [List.length_append]; omega), hr, if_neg (by rw [w2]; simp), if_neg (by rw [w3]; simp)]
  ·show nxt (L ++ R) (Go.Proofs.YtpflaglfnkmjiaaGreat.Sst (L ++ R) x K) = nxt L (Go.Proofs.YtpflaglfnkmjiaaGreat.Sst L x K)
   rw [g2]
   unfold nxt
   rw [hr]
  ·by_cases e : i = K
   ·subst e; unfold dat; rw [hr]
   ·exact g3 i (by omega)
theorem cut_of {L R : List UInt8} {n : Int} {sd0 : Crc.R} {ds : List (List UInt8)} (h1 : 1 ≤ n) (h2 : n + (ds.length : Int) ≤ 9223372036854775807) (hd : ∀ d ∈ ds, d.length ≤ 4096) (hL : L ++ R = (wk sd0 n ds ds.length).1) {K : Nat} (hK : IsK L ⟨0, 0, n.toNat, sd0⟩ K) :
    K ≤ ds.length ∧ ∀ i, i < K → (dts L ⟨0, 0, n.toNat, sd0⟩ K).getD i [] = ds.getD i [] := by
 obtain ⟨g1, g2, g3⟩ := good_app R K hK.1
 rw [hL] at g1
 have hW := (scan_end (sd0 := sd0) h1 h2 hd).1
 have hle := isK_ge13 hW g1
 refine ⟨hle, fun i hi => ?_⟩
 have gi := (good_app (L := L) (x := ⟨0, 0, n.toNat, sd0⟩) R i (fun j hj => hK.1 j (by omega))).2.1
 have hs := (scan_wk (sd0 := sd0) h1 h2 hd [] i (by omega)).1
 rw [List.append_nil, ← hL, gi] at hs
 rw [dts_get hi, ← g3 i hi, hL, hs]
 unfold dat
 simp only
 have := rd_wk (sd0 := sd0) h1 h2 hd [] (i := i) (by omega)
 rw [List.append_nil] at this
 rw [this]
theorem rf_in {s : SG} {S : DS} {pre post d : List UInt8} {lsn : Nat} {seed : Crc.R} (h : Has S s.file (pre ++ (frm seed lsn d ++ post))) (hs : (pre.length : Int) + 16 + (d.length : Int) ≤ s.size) (h1 : 1 ≤ lsn) (h2 : lsn ≤ 9223372036854775806) (hd : d.length ≤ 4096) :
    rfF s S (lsn : Int) (pre.length : Int) seed = (((lsn : Int), d), 16 + (d.length : Int), fsum seed lsn d, 0) := by
 have hl := frm_len seed lsn d
 have hB : (pre ++ (frm seed lsn d ++ post)).length = pre.length + (16 + d.length + post.length) := by simp [hl]
 have hm : min 16 (s.size - (pre.length : Int)) = ((16 : Nat) : Int) := by omega
 have hdr : (pre ++ (frm seed lsn d ++ post)).drop pre.length = frm seed lsn d ++ post := by simp
 have r1 := h.read pre.length 16 (by rw [hB]; omega)
 rw [hdr] at r1
 have hst : stv ((frm seed lsn d ++ post).take 16) 4 (0, 0) = d.length := by
  unfold stv
  rw [if_pos ⟨rfl, by simp [hl]; omega⟩]
  simp only [List.drop_zero, List.take_take]
  rw [show min 4 16 = 4 by rfl, frm_front, fx_num 4 _ (Nat.lt_of_le_of_lt hd (by decide))]
 have hsz : szF ((d.length : Nat) : Int) = ((16 + d.length : Nat) : Int) := by unfold szF; rw [if_pos (by omega)]; omega
 have r2 := h.read pre.length (16 + d.length) (by rw [hB]; omega)
 rw [hdr, List.take_left' hl] at r2
 have hfb : fbF s S (pre.length : Int) = (frm seed lsn d, 0) := by
  unfold fbF
  rw [hm, r1]
  simp only
  rw [if_neg (by simp), hst, hsz, if_neg (by omega), r2]
 have hrd := rd_back seed lsn d [] h1 h2 hd
 rw [List.append_nil] at hrd
 unfold rfF
 rw [hfb]
 simp only
 rw [if_neg (by simp), hrd]
 simp only
 rw [if_neg (by simp)]
theorem rl_in {s : SG} {S : DS} {hd post : List UInt8} {sd0 : Crc.R} {ls : List (List UInt8)} (h : Has S s.file (hd ++ ((wk sd0 s.base ls ls.length).1 ++ post))) (hs : s.size = (hd.length : Int) + ((wk sd0 s.base ls ls.length).1.length : Int)) (h1 : 1 ≤ s.base) (h2 : s.base + (ls.length : Int) ≤ 9223372036854775807) (hdl : ∀ d ∈ ls, d.length ≤ 4096) : ∀ k i, i + k < ls.length →
    rlF s S k (s.base + (i : Int)) ((hd.length : Int) + ((wk sd0 s.base ls i).1.length : Int)) (wk sd0 s.base ls i).2.2 = ((s.base + ((i + k : Nat) : Int), ls.getD (i + k) []), 0) := by
 have step : ∀ i, i < ls.length → rfF s S (s.base + (i : Int)) ((hd.length : Int) + ((wk sd0 s.base ls i).1.length : Int)) (wk sd0 s.base ls i).2.2 = ((s.base + (i : Int), ls.getD i []), 16 + ((ls.getD i []).length : Int), fsum (wk sd0 s.base ls i).2.2 (s.base + (i : Int)).toNat (ls.getD i []), 0) := fun i hi => by
  obtain ⟨p2, hp⟩ := wk_at (seed := sd0) h1 h2 hdl hi
  have hm : ls.getD i [] ∈ ls := by simp [List.getD, hi]
  have hlen : (wk sd0 s.base ls ls.length).1.length = (wk sd0 s.base ls i).1.length + (16 + (ls.getD i []).length + p2.length) := by rw [hp]; simp [frm_len]
  rw [hp, List.append_assoc, List.append_assoc, ← List.append_assoc] at h
  have := rf_in (pre := hd ++ (wk sd0 s.base ls i).1) (lsn := (s.base + (i : Int)).toNat) h (by rw [List.length_append]; omega) (by omega) (by omega) (hdl _ hm)
  rw [List.length_append, show (((s.base + (i : Int)).toNat : Nat) : Int) = s.base + (i : Int) by omega] at this
  rw [show ((hd.length : Int) + ((wk sd0 s.base ls i).1.length : Int)) = ((hd.length + (wk sd0 s.base ls i).1.length : Nat) : Int) by omega]
  exact this
 intro k
 induction k with
 | zero =>
  intro i hi
  rw [rlF, step i (by omega)]
  simp
 | succ k ih =>
  intro i hi
  rw [rlF, step i (by omega)]
  simp only
  rw [if_neg (by simp)]
  have hw := wk_step (seed := sd0) (i := i) (show i < ls.length by omega) h1 h2 hdl
  have := ih (i + 1) (by omega)
  rw [hw] at this
  simp only [List.length_append, frm_len] at this
  rw [show s.base + (i : Int) + 1 = s.base + ((i + 1 : Nat) : Int) by omega, show ((hd.length : Int) + ((wk sd0 s.base ls i).1.length : Int) + (16 + ((ls.getD i []).length : Int))) = ((hd.length : Int) + (((wk sd0 s.base ls i).1.length + (16 + (ls.getD i []).length) : Nat) : Int)) by omega, this]
  rw [show i + 1 + k = i + (k + 1) by omega]
theorem Coh.readIn {s : SG} {sd0 : Crc.R} {ds : List (List UInt8)} (h : Coh s sd0 ds) {S : DS} {hd post : List UInt8} (hh : hd.length = 32) (H : Has S s.file (hd ++ ((wk sd0 s.base ds ds.length).1 ++ post))) {lsn : Int} (h1 : s.base ≤ lsn) (h2 : lsn < s.next) :
    rdS s S lsn = ((lsn, ds.getD (lsn - s.base).toNat []), 0) := by
 have hn := h.n
 have hne : ds ≠ [] := fun c => by rw [c] at hn; simp at hn; omega
 obtain ⟨e, e1, e2, e3⟩ := find_some (h.f hne) h1
 obtain ⟨i, i1, i2, i3⟩ := h.x e e1
 have hsz : s.size = (hd.length : Int) + ((wk sd0 s.base ds ds.length).1.length : Int) := by rw [hh, h.z]; rfl
 have hsd : seedAt s e.1 = (wk sd0 s.base ds i).2.2 := by
  unfold seedAt
  rw [i3]
  simp
 have hi : e.1 = s.base + (i : Int) := by rw [i2]
 have ho : e.2 = (hd.length : Int) + ((wk sd0 s.base ds i).1.length : Int) := by rw [i2, hh]; rfl
 unfold rdS
 rw [if_neg (by omega), e3]
 simp only
 rw [hsd, ho, hi]
 have := rl_in H hsz h.b1 h.next2 h.d (lsn - (s.base + (i : Int))).toNat i (by omega)
 rw [this]
 have q : i + (lsn - (s.base + (i : Int))).toNat = (lsn - s.base).toNat := by omega
 rw [q, show s.base + (((lsn - s.base).toNat : Nat) : Int) = lsn by omega]
theorem Coh.setc {s : SG} {sd0 : Crc.R} {ds : List (List UInt8)} (h : Coh s sd0 ds) (n : Int) : Coh { s with cond := n } sd0 ds :=
 ⟨⟨h.ok.x, h.ok.n1, h.ok.n2, h.ok.z1, h.ok.z2, h.ok.l, h.ok.e, h.ok.d⟩, h.b1, h.n, h.z, h.e, h.d, h.x, h.f, h.f0, h.la⟩
theorem open_any (b : Nat) (file : ByteArray) {nm bs : Int} (seed : Crc.R) (n1 : 1 ≤ nm) (n2 : nm ≤ 9223372036854775807) (h1 : 1 ≤ bs) (h2 : bs ≤ 9223372036854775807) {L B : List UInt8} {sum : Crc.R} (hsum : sum = (whF nm bs seed).2.1) (hL : L = hed nm.toNat bs.toNat seed ++ B) (hB : B.length ≤ 8000000) {K : Nat} (hK : IsK B ⟨0, 0, bs.toNat, sum⟩ K) :
    32 ≤ L.length ∧ L.drop 32 = B ∧ rhF L = (nm, bs, seed, sum, 0) ∧ Coh (opE L (newSG b file nm bs seed sum) K) sum (dts B ⟨0, 0, bs.toNat, sum⟩ K) ∧ (opE L (newSG b file nm bs seed sum) K).file = file ∧ (opE L (newSG b file nm bs seed sum) K).base = bs ∧ (opE L (newSG b file nm bs seed sum) K).b = b ∧ (opE L (newSG b file nm bs seed sum) K).next = bs + (K : Int) ∧
     ∀ S, Has S file L → ∀ i, i < K → rdS (opE L (newSG b file nm bs seed sum) K) S (bs + (i : Int)) = ((bs + (i : Int), (dts B ⟨0, 0, bs.toNat, sum⟩ K).getD i []), 0) := by
 have hw : (whF nm bs seed).2.1 = Go.Proofs.YtpflaglfnkmjiaaGreat.hsum nm.toNat bs.toNat seed := by unfold whF; rw [if_neg (by omega)]
 have hh : (hed nm.toNat bs.toNat seed).length = 32 := hed_len _ _ _
 have hdr : L.drop 32 = B := by rw [hL, ← hh, List.drop_left' rfl]
 have hsp := dts_split h1 hK.1
 have hsm := dts_small hK.1
 have hlen := dts_len B ⟨0, 0, bs.toNat, sum⟩ K
 have hnx := dts_next hK.1 (Nat.zero_le _) (show bs.toNat ≤ 9223372036854775807 by omega)
 simp only at hnx
 have hKl : K ≤ 500000 := by
  have := (good_e hK.1 (Nat.zero_le _)).2.1
  have h3 := (good_e hK.1 (Nat.zero_le _)).1
  simp only at this
  omega
 generalize hP : B.drop (Go.Proofs.YtpflaglfnkmjiaaGreat.Sst B ⟨0, 0, bs.toNat, sum⟩ K).e = post at *
 generalize dts B ⟨0, 0, bs.toNat, sum⟩ K = ds at *
 have hc := (opk_coh (s := newSG b file nm bs seed sum) (newSG_coh b file nm bs seed sum h1 h2) rfl hh (ds := ds) (by show bs + _ ≤ _; omega) hsm (by omega) post ds.length (Nat.le_refl _)).1
 have hb0 : (newSG b file nm bs seed sum).base = bs := rfl
 rw [List.take_length, hb0, ← hsp, ← hL, hlen] at hc
 obtain ⟨o1, o2, o3, o4, o5, o6⟩ := opk_b L (newSG b file nm bs seed sum) K
 have hE : ∃ n, opE L (newSG b file nm bs seed sum) K = { opk L (newSG b file nm bs seed sum) K with cond := n } := by
  unfold opE
  split
  ·exact ⟨1, rfl⟩
  ·exact ⟨_, rfl⟩
 obtain ⟨n, hE⟩ := hE
 rw [hE]
 have hC := hc.setc n
 have hnext := hC.n
 have eb : ({ opk L (newSG b file nm bs seed sum) K with cond := n } : SG).base = bs := o4
 rw [eb, hlen] at hnext
 refine ⟨by rw [hL, List.length_append, hh]; omega, hdr, ?_, hC, o2, o4, o1, hnext, fun S hS i hi => ?_⟩
 ·rw [hL, rh_back nm.toNat bs.toNat seed _ (by omega) (by omega) (by omega) (by omega), hsum, hw]
  congr 1
  ·omega
  ·congr 1
   omega
 ·have hH : Has S ({ opk L (newSG b file nm bs seed sum) K with cond := n } : SG).file (hed nm.toNat bs.toNat seed ++ ((wk sum ({ opk L (newSG b file nm bs seed sum) K with cond := n } : SG).base ds ds.length).1 ++ post)) := by
    rw [eb, ← hsp, ← hL]
    show Has S (opk L (newSG b file nm bs seed sum) K).file L
    rw [o2]
    exact hS
  have := hC.readIn hh hH (lsn := bs + (i : Int)) (by rw [eb]; omega) (by rw [hnext]; omega)
  rw [this, eb]
  rw [show (bs + (i : Int) - bs).toNat = i by omega]
def fileB : ByteArray := ⟨#[115, 101, 103, 45, 48, 48, 48, 48, 48, 48, 48, 48, 48, 48, 48, 48, 48, 48, 48, 49, 46, 108, 111, 103]⟩
theorem may_file : may fileB.data.toList = true := by decide
theorem run_file (p : Nat) : runs [] [.cr fileB p] = [(fileB.data.toList, p)] := rfl
theorem get_one (k : List UInt8) (p : Nat) : get [(k, p)] k = some p := by simp [Dk.get]
theorem sum_one (F : Nat → Fl) (k : List UInt8) (p : Nat) : sumL F [(k, p)] = (F p).by_.length := by simp [sumL]
theorem new_cre (M : Nat) (h0 : 32 ≤ M) (nm bs : Int) (seed : Crc.R) (h1 : 1 ≤ nm) (h2 : 1 ≤ bs) (h3 : bs ≤ 9223372036854775807) (b p : Nat) :
    (creF (DS.new (M : Int)) fileB nm bs seed p).2 = 0 ∧ Clm (newSG b fileB nm bs seed (whF nm bs seed).2.1) (creF (DS.new (M : Int)) fileB nm bs seed p).1 (whF nm bs seed).2.1 (hed nm.toNat bs.toNat seed) [] M [] [.cr fileB p] (upd noF p (syF ⟨hed nm.toNat bs.toNat seed, [], 0⟩)) 3 p := by
 have hC : Cm (DS.new (M : Int)) M [] [] noF 0 := ⟨rfl, rfl, rfl, rfl, rfl, rfl, rfl⟩
 have hg : get (runs [] [.cr fileB p]) fileB.data.toList = some p := by rw [run_file]; exact get_one _ _
 obtain ⟨a1, a2⟩ := cm_cre hC seed h1 h2 may_file rfl (by decide) p hg (by show sumL _ (runs [] [.cr fileB p]) + 32 ≤ M; rw [run_file, sum_one, upd_same]; simpa using h0)
 exact ⟨a1, cm_clm a2 h1 h2 h3 may_file hg⟩
theorem wk_two {seed : Crc.R} {n : Int} (a b : List UInt8) (h1 : 1 ≤ n) (h2 : n + 2 ≤ 9223372036854775807) (ha : a.length ≤ 4096) (hb : b.length ≤ 4096) : (wk seed n [a, b] 2).1.length = 32 + a.length + b.length := by
 have hd : ∀ d ∈ [a, b], d.length ≤ 4096 := fun d hd => by simp at hd; rcases hd with rfl | rfl <;> assumption
 have h3 : n + (([a, b] : List (List UInt8)).length : Int) ≤ 9223372036854775807 := h2
 rw [wk_step (i := 1) (by simp) h1 h3 hd, wk_step (i := 0) (by simp) h1 h3 hd]
 simp only [List.length_append, frm_len, wk]
 simp
 omega
structure B2 (s : SG) (S : DS) (b : Nat) : Prop where
 b : s.b = b
 n : s.next = 7
 z : s.size = 67
 c : S.c7 = 4
 r : rdS s S 6 = ((6, [98, 99]), 0)
 ok : SOk s
 bs : s.base = 5
 f : s.file = fileB
theorem begun_put (b p : Nat) : (putF (newSG b fileB 1 5 0#32 (whF 1 5 0#32).2.1) (creF (DS.new 65536) fileB 1 5 0#32 p).1 (whF 1 5 0#32).2.1 [[97], [98, 99]]).2 = (5, 0) ∧
    B2 (putF (newSG b fileB 1 5 0#32 (whF 1 5 0#32).2.1) (creF (DS.new 65536) fileB 1 5 0#32 p).1 (whF 1 5 0#32).2.1 [[97], [98, 99]]).1.1 (putF (newSG b fileB 1 5 0#32 (whF 1 5 0#32).2.1) (creF (DS.new 65536) fileB 1 5 0#32 p).1 (whF 1 5 0#32).2.1 [[97], [98, 99]]).1.2 b := by
 obtain ⟨_, h⟩ := new_cre 65536 (by decide) 1 5 0#32 (by decide) (by decide) (by decide) b p
 have w2 := wk_two (seed := (whF 1 5 0#32).2.1) (n := 5) [97] [98, 99] (by decide) (by decide) (by decide) (by decide)
 have hnx : (newSG b fileB 1 5 0#32 (whF 1 5 0#32).2.1).next = 5 := rfl
 have hsz : (newSG b fileB 1 5 0#32 (whF 1 5 0#32).2.1).size = 32 := rfl
 have hbs : (newSG b fileB 1 5 0#32 (whF 1 5 0#32).2.1).base = 5 := rfl
 have hb : (newSG b fileB 1 5 0#32 (whF 1 5 0#32).2.1).b = b := rfl
 have hfl : (newSG b fileB 1 5 0#32 (whF 1 5 0#32).2.1).file = fileB := rfl
 have hhl := hed_len (1 : Int).toNat (5 : Int).toNat 0#32
 rw [show ((65536 : Nat) : Int) = 65536 from rfl] at h
 generalize (creF (DS.new 65536) fileB 1 5 0#32 p).1 = S at *
 generalize newSG b fileB 1 5 0#32 (whF 1 5 0#32).2.1 = s at *
 generalize (whF 1 5 0#32).2.1 = sd0 at *
 generalize hed (1 : Int).toNat (5 : Int).toNat 0#32 = H at *
 have hk : (wk sd0 s.base [] ([] : List (List UInt8)).length).2.2 = sd0 := rfl
 have hM : sumL (upd noF p (syF ⟨H, [], 0⟩)) (runs [] [.cr fileB p]) + (wk sd0 5 [[97], [98, 99]] 2).1.length ≤ 65536 := by
  rw [run_file, sum_one, upd_same, w2]
  show H.length + _ ≤ 65536
  rw [hhl]
  decide
 have hp := h.put [[97], [98, 99]] (by decide) (by decide) (by rw [hnx]; decide) (by rw [hsz]; decide) (by decide) (by rw [hk, hnx]; exact hM)
 rw [hk] at hp
 obtain ⟨p1, p2, p3⟩ := hp
 rw [hnx] at p1
 refine ⟨p1, ?_⟩
 have hcc := p3.cm.c7
 obtain ⟨g1, g2, g3, g4, g5, g6, g7⟩ := gk_b s (wk sd0 s.next [[97], [98, 99]] 2).2.1 2
 have q1 : (putF s S sd0 [[97], [98, 99]]).1.1 = gk s (wk sd0 s.next [[97], [98, 99]] 2).2.1 2 := by rw [p2]; rfl
 have hn2 := p3.co.n
 have hz2 := p3.co.z
 have hb2 : (putF s S sd0 [[97], [98, 99]]).1.1.base = 5 := by rw [q1, g4, hbs]
 rw [hb2] at hn2 hz2
 have hrd := p3.read (lsn := 6) (by rw [hb2]; decide) (by rw [hn2]; decide)
 rw [hb2] at hrd
 refine ⟨by rw [q1, g1, hb], hn2, ?_, hcc, hrd, p3.co.ok, hb2, by rw [q1, g2, hfl]⟩
 rw [hz2]
 show 32 + ((wk sd0 5 [[97], [98, 99]] 2).1.length : Int) = 67
 rw [w2]
 decide
end Go.Proofs.YtpflaglfnkmjiaaGreat.Sg
