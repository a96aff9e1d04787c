/-
  A segment that stands for the records that were put; Put and Read by data.
-/
import Derived.Test.YtbmnjaaacodgdaaL08
import Derived.Test.YtbmnjaaacodgdaaL06
import Derived.Laws.Rows
import Derived.Test.YtbmnjaaacodgdaaL05
import Derived.Deep.LoopGhost
set_option maxRecDepth 100000
set_option maxHeartbeats 40000000
set_option linter.unusedVariables false
namespace Go.Proofs.Ytbmnjaaacodgdaa.Sg
open Go.RowKit Go.Maps Go.Sort Go.Shelf Go.Proofs.Ytbmnjaaacodgdaa.Nm Go.Proofs.Ytbmnjaaacodgdaa.Dk
theorem sget_sins_ne (n f m : Int) (h : m ≠ n) : ∀ l : Sr, sget (sins (n, f) l) m = sget l m
 | [] => by
  have : (n == m) = false := by simpa using fun c => h c.symm
  simp [sins, sget, this]
 | y :: r => by
  have h1 : (n == m) = false := by simpa using fun c => h c.symm
  have ih := sget_sins_ne n f m h r
  simp only [sins]
  split
  ·simp only [sget, List.find?_cons, h1]
  ·simp only [sget, List.find?_cons] at ih ⊢
   cases y.1 == m
   ·exact ih
   ·rfl
theorem sget_sdel_ne (n m : Int) (h : m ≠ n) : ∀ l : Sr, sget (sdel l n) m = sget l m
 | [] => rfl
 | y :: r => by
  have ih := sget_sdel_ne n m h r
  unfold sdel at ih ⊢
  by_cases hy : y.1 = n
  ·have h1 : (y.1 == n) = true := by simpa using hy
   have h2 : (y.1 == m) = false := by simpa [hy] using fun c => h c.symm
   rw [List.filter_cons_of_neg (by simp [hy])]
   rw [ih]
   simp only [sget, List.find?_cons, h2]
  ·rw [List.filter_cons_of_pos (by simpa using hy)]
   simp only [sget, List.find?_cons] at ih ⊢
   cases y.1 == m
   ·exact ih
   ·rfl
theorem sget_sput_ne (l : Sr) {n f m : Int} (h : m ≠ n) : sget (sput l n f) m = sget l m := by
 unfold sput
 rw [sget_sins_ne n f m h, sget_sdel_ne n m h]
theorem find_some {l : List (Int × Int)} {n : Int} {p : Int × Int} (hp : p ∈ l) (h : p.1 ≤ n) : ∃ e, e ∈ l ∧ e.1 ≤ n ∧ Ix.findF l n = (e, true) := by
 have hm : p ∈ l.filter fun e => decide (e.1 ≤ n) := by simp [hp, h]
 unfold Ix.findF
 cases hq : (l.filter fun e => decide (e.1 ≤ n)).getLast? with
 | none => rw [List.getLast?_eq_none_iff] at hq; rw [hq] at hm; simp at hm
 | some e =>
  have := List.mem_of_getLast? hq
  simp at this
  exact ⟨e, this.1, this.2, rfl⟩
theorem find_snoc (l : List (Int × Int)) (n o : Int) : Ix.findF (l ++ [(n, o)]) n = ((n, o), true) := by
 unfold Ix.findF
 rw [List.filter_append]
 simp
structure Coh (s : SG) (sd0 : Crc.R) (ds : List (List UInt8)) : Prop where
 ok : SOk s
 b1 : 1 ≤ s.base
 n : s.next = s.base + (ds.length : Int)
 z : s.size = 32 + ((wk sd0 s.base ds ds.length).1.length : Int)
 e : s.seed = ((wk sd0 s.base ds ds.length).2.2.toNat : Int)
 d : ∀ d ∈ ds, d.length ≤ 4096
 x : ∀ p ∈ s.x.l, ∃ i, i < ds.length ∧ p = (s.base + (i : Int), 32 + ((wk sd0 s.base ds i).1.length : Int)) ∧ sget s.sd p.1 = some ((wk sd0 s.base ds i).2.2.toNat : Int)
 f : ds ≠ [] → (s.base, (32 : Int)) ∈ s.x.l
 f0 : ds = [] → s.x.l = []
 la : ds ≠ [] → s.x.la.1 = s.next - 1 ∧ s.x.la.2 < s.size
theorem newSG_coh (b : Nat) (file : ByteArray) (nm bs : Int) (seed sum : Crc.R) (h1 : 1 ≤ bs) (h2 : bs ≤ 9223372036854775807) : Coh (newSG b file nm bs seed sum) sum [] :=
 ⟨newSG_ok b file nm bs seed sum h1 h2, h1, by simp [newSG], rfl, rfl, fun d hd => by simp at hd, fun p hp => by simp [newSG] at hp, fun h => absurd rfl h, fun _ => rfl, fun h => absurd rfl h⟩
theorem Coh.next2 {s : SG} {sd0 : Crc.R} {ds : List (List UInt8)} (h : Coh s sd0 ds) : s.base + (ds.length : Int) ≤ 9223372036854775807 := by have := h.ok.n2; have := h.n; omega
theorem Coh.add {s : SG} {sd0 : Crc.R} {ds : List (List UInt8)} (h : Coh s sd0 ds) : ∃ l, (Ix.addF s.x s.next s.size).2 = ⟨s.x.st, l, (s.next, s.size)⟩ ∧ ((ds ≠ [] ∧ l = s.x.l) ∨ l = s.x.l ++ [(s.next, s.size)]) := by
 have a1 := h.ok.n1
 have a2 := h.ok.z1
 have a3 := h.ok.z2
 unfold Ix.addF
 rw [if_neg (by omega)]
 by_cases hd : ds = []
 ·have e := h.f0 hd
  rw [if_neg (by rw [e]; simp), if_pos (.inl e)]
  exact ⟨_, rfl, .inr rfl⟩
 ·obtain ⟨b1, b2⟩ := h.la hd
  rw [if_neg (by rintro ⟨_, c⟩; exact c ⟨by omega, b2⟩)]
  split
  ·exact ⟨_, rfl, .inr rfl⟩
  ·exact ⟨_, rfl, .inl ⟨hd, rfl⟩⟩
theorem Coh.grow {s : SG} {sd0 : Crc.R} {ds : List (List UInt8)} (h : Coh s sd0 ds) {d : List UInt8} {seed : Crc.R} (hs : s.seed = (seed.toNat : Int)) (hd : d.length ≤ 4096) (hn : s.next ≤ 9223372036854775806) (hz : s.size + 4112 ≤ 2147483647) (hl : s.sd.length + 1 ≤ 1000000000) :
    Coh (s.grown (16 + (d.length : Int)) ((fsum seed s.next.toNat d).toNat : Int)) sd0 (ds ++ [d]) := by
 have hds : ∀ d' ∈ ds ++ [d], d'.length ≤ 4096 := fun d' hd' => by
  rw [List.mem_append] at hd'
  rcases hd' with c | c
  ·exact h.d _ c
  ·simp at c; rw [c]; exact hd
 have hL : (ds ++ [d]).length = ds.length + 1 := by simp
 have hn0 := h.n
 have h2 : s.base + ((ds ++ [d]).length : Int) ≤ 9223372036854775807 := by rw [hL]; omega
 have hse : seed = (wk sd0 s.base ds ds.length).2.2 := by
  apply BitVec.eq_of_toNat_eq
  have := h.e
  omega
 have hgd : (ds ++ [d]).getD ds.length [] = d := by simp [List.getD]
 have hw := wk_step (seed := sd0) (i := ds.length) (ls := ds ++ [d]) (by rw [hL]; omega) h.b1 h2 hds
 rw [wk_prefix sd0 s.base ds [d] ds.length (Nat.le_refl _), hgd, ← hse, ← hn0] at hw
 have hok : SOk (s.grown (16 + (d.length : Int)) ((fsum seed s.next.toNat d).toNat : Int)) := by
  have q := (fsum seed s.next.toNat d).isLt
  have := (gk_ok h.ok [((16 + (d.length : Int)), ((fsum seed s.next.toNat d).toNat : Int))] (fun f hf => by simp at hf; rw [hf]; exact ⟨by show 0 ≤ 16 + (d.length : Int); omega, by show 16 + (d.length : Int) ≤ 4112; omega⟩) (fun f hf => by simp at hf; rw [hf]; exact ⟨by show (0 : Int) ≤ ((fsum seed s.next.toNat d).toNat : Int); omega, by show ((fsum seed s.next.toNat d).toNat : Int) < 4294967296; omega⟩) (by simp; omega) (by simp; omega) (by simpa using hl) 1 (by simp)).1
  exact this
 obtain ⟨l, hl1, hl2⟩ := h.add
 have hx : (s.grown (16 + (d.length : Int)) ((fsum seed s.next.toNat d).toNat : Int)).x = ⟨s.x.st, l, (s.next, s.size)⟩ := hl1
 have hsd : (s.grown (16 + (d.length : Int)) ((fsum seed s.next.toNat d).toNat : Int)).sd = if (Ix.findF l s.next).1.1 = s.next then sput s.sd s.next s.seed else s.sd := by
  show (if (Ix.findF (Ix.addF s.x s.next s.size).2.l s.next).1.1 = s.next then sput s.sd s.next s.seed else s.sd) = _
  rw [hl1]
 have old : ∀ p ∈ s.x.l, p.1 ≠ s.next ∧ ∃ i, i < (ds ++ [d]).length ∧ p = (s.base + (i : Int), 32 + ((wk sd0 s.base (ds ++ [d]) i).1.length : Int)) ∧ sget s.sd p.1 = some ((wk sd0 s.base (ds ++ [d]) i).2.2.toNat : Int) := fun p hp => by
  obtain ⟨i, hi, e1, e2⟩ := h.x p hp
  refine ⟨by rw [e1]; show s.base + (i : Int) ≠ _; omega, i, by rw [hL]; omega, ?_, ?_⟩
  ·rw [wk_prefix sd0 s.base ds [d] i (by omega)]; exact e1
  ·rw [wk_prefix sd0 s.base ds [d] i (by omega)]; exact e2
 refine ⟨hok, h.b1, ?_, ?_, ?_, hds, ?_, ?_, fun c => by simp at c, fun _ => ?_⟩
 ·show s.next + 1 = s.base + _; rw [hL]; omega
 ·show s.size + (16 + (d.length : Int)) = 32 + ((wk sd0 s.base (ds ++ [d]) (ds ++ [d]).length).1.length : Int)
  rw [hL, hw]
  have := h.z
  simp only [List.length_append, frm_len]
  omega
 ·show ((fsum seed s.next.toNat d).toNat : Int) = ((wk sd0 s.base (ds ++ [d]) (ds ++ [d]).length).2.2.toNat : Int)
  rw [hL, hw]
 ·intro p hp
  rw [hx] at hp
  rw [hsd]
  show ∃ i, i < (ds ++ [d]).length ∧ p = (s.base + (i : Int), 32 + ((wk sd0 s.base (ds ++ [d]) i).1.length : Int)) ∧ _
  rcases hl2 with ⟨hne, rfl⟩ | rfl
  ·obtain ⟨o1, o2⟩ := old p hp
   have hb := h.f hne
   obtain ⟨e, e1, e2, e3⟩ := find_some hb (show s.base ≤ s.next by omega)
   rw [if_neg (by rw [e3]; exact (old e e1).1)]
   exact o2
  ·rw [find_snoc, if_pos rfl]
   rw [List.mem_append] at hp
   rcases hp with hp | hp
   ·obtain ⟨o1, i, i1, i2, i3⟩ := old p hp
    exact ⟨i, i1, i2, by rw [sget_sput_ne _ o1]; exact i3⟩
   ·simp at hp
    subst hp
    refine ⟨ds.length, by rw [hL]; omega, ?_, ?_⟩
    ·rw [wk_prefix sd0 s.base ds [d] ds.length (Nat.le_refl _), hn0, h.z]
    ·show sget (sput s.sd s.next s.seed) s.next = some ((wk sd0 s.base (ds ++ [d]) ds.length).2.2.toNat : Int)
     rw [wk_prefix sd0 s.base ds [d] ds.length (Nat.le_refl _), sget_sput, h.e]
 ·intro _
  rw [hx]
  show (s.base, (32 : Int)) ∈ l
  by_cases hne : ds = []
  ·rcases hl2 with ⟨c, _⟩ | rfl
   ·exact absurd hne c
   ·have e1 : s.next = s.base := by rw [hn0, hne]; simp
    have e2 : s.size = 32 := by rw [h.z, hne]; simp [wk]
    rw [e1, e2]; simp
  ·have := h.f hne
   rcases hl2 with ⟨_, rfl⟩ | rfl
   ·exact this
   ·simp [this]
 ·rw [hx]
  refine ⟨?_, ?_⟩
  ·show s.next = s.next + 1 - 1; omega
  ·show s.size < s.size + (16 + (d.length : Int)); omega
theorem wk_shift {seed : Crc.R} {n : Int} (ds ls : List (List UInt8)) : ∀ i, wk (wk seed n ds ds.length).2.2 (n + (ds.length : Int)) ls i = ((wk seed n (ds ++ ls) (ds.length + i)).1.drop (wk seed n ds ds.length).1.length, (wk seed n (ds ++ ls) (ds.length + i)).2.1.drop ds.length, (wk seed n (ds ++ ls) (ds.length + i)).2.2) ∧ (wk seed n (ds ++ ls) (ds.length + i)).1 = (wk seed n ds ds.length).1 ++ (wk (wk seed n ds ds.length).2.2 (n + (ds.length : Int)) ls i).1
 | 0 => by
  rw [Nat.add_zero, wk_prefix seed n ds ls ds.length (Nat.le_refl _)]
  have := (wk_len seed n ds ds.length).2
  simp [wk, this]
 | i + 1 => by
  obtain ⟨e1, e2⟩ := wk_shift (seed := seed) (n := n) ds ls i
  have g : (ds ++ ls).getD (ds.length + i) [] = ls.getD i [] := by simp [List.getD, List.getElem?_append_right]
  have l1 := (wk_len seed n (ds ++ ls) (ds.length + i)).2
  have k : (wk (wk seed n ds ds.length).2.2 (n + (ds.length : Int)) ls i).2.2 = (wk seed n (ds ++ ls) (ds.length + i)).2.2 := by rw [e1]
  have k2 : (wk (wk seed n ds ds.length).2.2 (n + (ds.length : Int)) ls i).2.1 = (wk seed n (ds ++ ls) (ds.length + i)).2.1.drop ds.length := by rw [e1]
  have a : n + (ds.length : Int) + (i : Int) = n + ((ds.length + i : Nat) : Int) := by omega
  rw [← Nat.add_assoc, wk, wk, g, k, k2, a]
  refine ⟨?_, ?_⟩
  ·rw [e2]
   simp only [List.append_assoc, List.drop_left']
   congr 2
   rw [List.drop_append_of_le_length (by omega)]
  ·simp only
   rw [e2]
   simp
theorem wk_fsat {seed : Crc.R} {n : Int} {ls : List (List UInt8)} (h1 : 1 ≤ n) (h2 : n + (ls.length : Int) ≤ 9223372036854775807) (hd : ∀ d ∈ ls, d.length ≤ 4096) {i : Nat} : ∀ m, i < m → m ≤ ls.length → (wk seed n ls m).2.1.getD i (0, 0) = ((16 + (ls.getD i []).length : Int), ((fsum (wk seed n ls i).2.2 (n + (i : Int)).toNat (ls.getD i [])).toNat : Int))
 | 0, h, _ => by omega
 | m + 1, h, hm => by
  have l1 := (wk_len seed n ls m).2
  rw [wk_step (by omega) h1 h2 hd]
  by_cases e : i = m
  ·subst e
   simp [List.getD, l1]
  ·have := wk_fsat (seed := seed) h1 h2 hd (i := i) m (by omega) (by omega)
   rw [← this]
   simp [List.getD, List.getElem?_append_left (show i < (wk seed n ls m).2.1.length by omega)]
theorem Coh.puts {s : SG} {sd0 : Crc.R} {ds : List (List UInt8)} (h : Coh s sd0 ds) {seed : Crc.R} (hs : s.seed = (seed.toNat : Int)) (ls : List (List UInt8)) (hd : ∀ d ∈ ls, d.length ≤ 4096) (hn : s.next + (ls.length : Int) ≤ 9223372036854775807) (hz : s.size + (ls.length : Int) * 4112 ≤ 2147483647) (hl : s.sd.length + ls.length ≤ 1000000000) : ∀ i, i ≤ ls.length →
    Coh (gk s (wk seed s.next ls ls.length).2.1 i) sd0 (ds ++ ls.take i) ∧ (gk s (wk seed s.next ls ls.length).2.1 i).seed = ((wk seed s.next ls i).2.2.toNat : Int)
 | 0, _ => ⟨by simpa [gk] using h, hs⟩
 | i + 1, hi => by
  obtain ⟨c1, c2⟩ := h.puts hs ls hd hn hz hl i (by omega)
  have hf := wk_fs seed s.next ls ls.length
  have hlen := (wk_len seed s.next ls ls.length).2
  obtain ⟨_, _, _, g4, _, _, g7⟩ := gk_b s (wk seed s.next ls ls.length).2.1 i
  have gz := (gk_size s (wk seed s.next ls ls.length).2.1 (fun f h => (hf f h).1) i).2
  have gl := (gk_ok h.ok (wk seed s.next ls ls.length).2.1 (fun f h => (hf f h).1) (fun f h => (hf f h).2) (by rw [hlen]; omega) (by rw [hlen]; omega) (by rw [hlen]; omega) i (by omega)).2
  have hm : ls.getD i [] ∈ ls := by simp [List.getD, show i < ls.length by omega]
  have hw := wk_step (seed := seed) (i := i) (show i < ls.length by omega) h.ok.n1 hn hd
  have e1 := wk_fsat (seed := seed) h.ok.n1 hn hd (i := i) ls.length (by omega) (Nat.le_refl _)
  have hi4 : ((i : Int) + 1) * 4112 ≤ (ls.length : Int) * 4112 := by omega
  have q := c1.grow c2 (hd _ hm) (by omega) (by omega) (by omega)
  rw [g7] at q
  have e2 : gk s (wk seed s.next ls ls.length).2.1 (i + 1) = (gk s (wk seed s.next ls ls.length).2.1 i).grown (16 + ((ls.getD i []).length : Int)) ((fsum (wk seed s.next ls i).2.2 (s.next + (i : Int)).toNat (ls.getD i [])).toNat : Int) := by
   rw [gk, e1]
  have e3 : ds ++ ls.take (i + 1) = (ds ++ ls.take i) ++ [ls.getD i []] := by
   have hii : i < ls.length := by omega
   rw [List.take_add_one]
   simp [List.getD, hii]
  rw [e2, e3]
  refine ⟨q, ?_⟩
  rw [hw]
  rfl
theorem Coh.read {s : SG} {sd0 : Crc.R} {ds : List (List UInt8)} (h : Coh s sd0 ds) {S : DS} {hd : List UInt8} (hh : hd.length = 32) (H : Has S s.file (hd ++ (wk sd0 s.base ds ds.length).1)) {lsn : Int} (h1 : s.base ≤ lsn) (h2 : lsn < s.next) :
    rdS s S lsn = ((lsn, ds.getD (lsn - s.base).toNat []), 0) := by
 have hn := h.n
 have hne : ds ≠ [] := fun c => by rw [c] at hn; simp at hn; omega
 obtain ⟨e, e1, e2, e3⟩ := find_some (h.f hne) h1
 obtain ⟨i, i1, i2, i3⟩ := h.x e e1
 have hsz : s.size = ((hd ++ (wk sd0 s.base ds ds.length).1).length : Int) := by rw [List.length_append, hh, h.z]; simp
 have hsd : seedAt s e.1 = (wk sd0 s.base ds i).2.2 := by
  unfold seedAt
  rw [i3]
  simp
 have hi : e.1 = s.base + (i : Int) := by rw [i2]
 have ho : e.2 = (hd.length : Int) + ((wk sd0 s.base ds i).1.length : Int) := by rw [i2, hh]; rfl
 unfold rdS
 rw [if_neg (by omega), e3]
 simp only
 rw [hsd, ho, hi]
 have := rl_at H hsz h.b1 h.next2 h.d (lsn - (s.base + (i : Int))).toNat i (by omega)
 rw [this]
 have q : i + (lsn - (s.base + (i : Int))).toNat = (lsn - s.base).toNat := by omega
 rw [q, show s.base + (((lsn - s.base).toNat : Nat) : Int) = lsn by omega]
open Ix (wp_region_T wpAnyT wpAnyT_take wpAnyT_one wpAnyT_done vac)
def put8 (w : World) (g : Nat) (a0 a1 a2 a3 a4 a5 a6 a7 : Value) : World := ((((((((w.setCell ⟨g, 0, none⟩ a0).setCell ⟨g, 1, none⟩ a1).setCell ⟨g, 2, none⟩ a2).setCell ⟨g, 3, none⟩ a3).setCell ⟨g, 4, none⟩ a4).setCell ⟨g, 5, none⟩ a5).setCell ⟨g, 6, none⟩ a6).setCell ⟨g, 7, none⟩ a7)
theorem put8_heap {w : World} {g : Nat} {z0 z1 z2 z3 z4 z5 z6 z7 : Value} {T : TypeId} (h : w.heap[g]? = some (.cells #[z0, z1, z2, z3, z4, z5, z6, z7] T (0, 0))) (a0 a1 a2 a3 a4 a5 a6 a7 : Value) : (put8 w g a0 a1 a2 a3 a4 a5 a6 a7).heap[g]? = some (.cells #[a0, a1, a2, a3, a4, a5, a6, a7] T (0, 0)) := by
 unfold put8
 have e0 : (w.setCell ⟨g, 0, none⟩ a0).heap[g]? = some (.cells #[a0, z1, z2, z3, z4, z5, z6, z7] T (0, 0)) := by rw [heap_setCell_same _ g 0 _ _ _ h]; rfl
 have e1 : ((w.setCell ⟨g, 0, none⟩ a0).setCell ⟨g, 1, none⟩ a1).heap[g]? = some (.cells #[a0, a1, z2, z3, z4, z5, z6, z7] T (0, 0)) := by rw [heap_setCell_same _ g 1 _ _ _ e0]; rfl
 have e2 : (((w.setCell ⟨g, 0, none⟩ a0).setCell ⟨g, 1, none⟩ a1).setCell ⟨g, 2, none⟩ a2).heap[g]? = some (.cells #[a0, a1, a2, z3, z4, z5, z6, z7] T (0, 0)) := by rw [heap_setCell_same _ g 2 _ _ _ e1]; rfl
 have e3 : ((((w.setCell ⟨g, 0, none⟩ a0).setCell ⟨g, 1, none⟩ a1).setCell ⟨g, 2, none⟩ a2).setCell ⟨g, 3, none⟩ a3).heap[g]? = some (.cells #[a0, a1, a2, a3, z4, z5, z6, z7] T (0, 0)) := by rw [heap_setCell_same _ g 3 _ _ _ e2]; rfl
 have e4 : (((((w.setCell ⟨g, 0, none⟩ a0).setCell ⟨g, 1, none⟩ a1).setCell ⟨g, 2, none⟩ a2).setCell ⟨g, 3, none⟩ a3).setCell ⟨g, 4, none⟩ a4).heap[g]? = some (.cells #[a0, a1, a2, a3, a4, z5, z6, z7] T (0, 0)) := by rw [heap_setCell_same _ g 4 _ _ _ e3]; rfl
 have e5 : ((((((w.setCell ⟨g, 0, none⟩ a0).setCell ⟨g, 1, none⟩ a1).setCell ⟨g, 2, none⟩ a2).setCell ⟨g, 3, none⟩ a3).setCell ⟨g, 4, none⟩ a4).setCell ⟨g, 5, none⟩ a5).heap[g]? = some (.cells #[a0, a1, a2, a3, a4, a5, z6, z7] T (0, 0)) := by rw [heap_setCell_same _ g 5 _ _ _ e4]; rfl
 have e6 : (((((((w.setCell ⟨g, 0, none⟩ a0).setCell ⟨g, 1, none⟩ a1).setCell ⟨g, 2, none⟩ a2).setCell ⟨g, 3, none⟩ a3).setCell ⟨g, 4, none⟩ a4).setCell ⟨g, 5, none⟩ a5).setCell ⟨g, 6, none⟩ a6).heap[g]? = some (.cells #[a0, a1, a2, a3, a4, a5, a6, z7] T (0, 0)) := by rw [heap_setCell_same _ g 6 _ _ _ e5]; rfl
 have e7 : ((((((((w.setCell ⟨g, 0, none⟩ a0).setCell ⟨g, 1, none⟩ a1).setCell ⟨g, 2, none⟩ a2).setCell ⟨g, 3, none⟩ a3).setCell ⟨g, 4, none⟩ a4).setCell ⟨g, 5, none⟩ a5).setCell ⟨g, 6, none⟩ a6).setCell ⟨g, 7, none⟩ a7).heap[g]? = some (.cells #[a0, a1, a2, a3, a4, a5, a6, a7] T (0, 0)) := by rw [heap_setCell_same _ g 7 _ _ _ e6]; rfl
 exact e7
theorem put8_below {B : Nat} {u w : World} (h : Below B u w) {g : Nat} (hg : B ≤ g) (a0 a1 a2 a3 a4 a5 a6 a7 : Value) : Below B u (put8 w g a0 a1 a2 a3 a4 a5 a6 a7) := (((((((h.setCell hg a0).setCell hg a1).setCell hg a2).setCell hg a3).setCell hg a4).setCell hg a5).setCell hg a6).setCell hg a7
def SG.look (s : SG) : Array Value := #[.string s.file, .int .i64 s.num, .int .i64 s.base, .int .u32 s.hs, .int .i64 s.next, .int .i64 s.size, .int .u32 s.seed, .bool (s.cond != 0)]
theorem look_any {w : World} {sb : Nat} {s : SG} {xb mb : Nat} {v : Value} (h : Seg w sb s xb mb v) : Calls Try.prog 9 #[.pointer (some ⟨sb, 0, none⟩)] w fun e w' => e = .returned (.agg s.look) ∧ Below w.heap.size w w' := by
 have B1 := box_below w (.cells lookZ 37)
 have N1 := heap_alloc_new w (.cells lookZ 37)
 have S1 := h.below B1
 obtain ⟨y0, _⟩ := S1.cells
 have hM := hide (made_yes _ sb s.b y0)
 clear y0 h
 unfold lookZ at *
 obtain ⟨w1, hw1⟩ : ∃ w1, Hid (w.alloc (.cells #[.string ⟨#[]⟩, .int .i64 0, .int .i64 0, .int .u32 0, .int .i64 0, .int .i64 0, .int .u32 0, .bool false] 37) = w1) := ⟨_, rfl⟩
 rw [hw1.out] at B1 N1 S1 hM
 replace B1 := hide B1
 have hg : w.heap.size ≤ w.heap.size := Nat.le_refl _
 unfold SG.look
 go_enter Try.func9, Try.ntmps9
 go_upto_region 1 with fail
 rw [hw1.out]
 go_upto_region 3 with (first | (go_at_call 38; refine hM.out.mono ?_; rintro e w2 ⟨rfl, e1⟩; rw [e1]; clear e1 w2) | fail)
 obtain ⟨g, hgs⟩ : ∃ g, Hid (w.heap.size = g) := ⟨_, rfl⟩
 rw [hgs.out] at B1 N1 hg ⊢
 refine wp_region_T (fun q => Seg q sb s xb mb v) 26 (by kernel_rfl) ?_
 have KP : Hid (Seg w1.drew sb s xb mb v) := S1.below (Below.refl _ _).drew
 have KB : Hid (Below g w w1.drew) := hide (B1.out.trans ((Below.refl g w1).drew))
 have KN : Hid (w1.drew.heap[g]? = _) := hide N1
 clear S1 N1 B1 hM
 generalize w1.drew = q at *
 refine Ix.tk 0 ⟨some 7, .move (.tmp 0), _, _, _, _⟩ (.pointer (some ⟨sb, 0, none⟩)) [1,2,3,25,26] ?_ KP.out ?_
 ·intro wq hSw
  obtain ⟨y0, y1, y2, y3, y4, y5, y6, y7, y8, y9, y10⟩ := hSw.cells
  go_simp
 (try simp only [zzp, zzb, zzc])
 refine Ix.tk 1 ⟨some 8, .nilCheck (.tmp 7), _, _, _, _⟩ (.pointer (some ⟨sb, 0, none⟩)) [2,3,25,26] ?_ KP.out ?_
 ·intro wq hSw
  obtain ⟨y0, y1, y2, y3, y4, y5, y6, y7, y8, y9, y10⟩ := hSw.cells
  go_simp
 (try simp only [zzp, zzb, zzc])
 refine Ix.tk 2 ⟨some 9, .fieldAddr 93 (.tmp 8) 1, _, _, _, _⟩ (.pointer (some ⟨sb, 1, none⟩)) [3,25,26] ?_ KP.out ?_
 ·intro wq hSw
  obtain ⟨y0, y1, y2, y3, y4, y5, y6, y7, y8, y9, y10⟩ := hSw.cells
  go_simp
 (try simp only [zzp, zzb, zzc])
 refine Ix.tk 3 ⟨some 10, .load 9 (.tmp 9), _, _, _, _⟩ (.string s.file) [25,26] ?_ KP.out ?_
 ·intro wq hSw
  obtain ⟨y0, y1, y2, y3, y4, y5, y6, y7, y8, y9, y10⟩ := hSw.cells
  go_simp
 (try simp only [zzp, zzb, zzc])
 refine Ix.tk 4 ⟨some 11, .move (.tmp 0), _, _, _, _⟩ (.pointer (some ⟨sb, 0, none⟩)) [5,6,7,25,26] ?_ KP.out ?_
 ·intro wq hSw
  obtain ⟨y0, y1, y2, y3, y4, y5, y6, y7, y8, y9, y10⟩ := hSw.cells
  go_simp
 (try simp only [zzp, zzb, zzc])
 refine Ix.tk 5 ⟨some 12, .nilCheck (.tmp 11), _, _, _, _⟩ (.pointer (some ⟨sb, 0, none⟩)) [6,7,25,26] ?_ KP.out ?_
 ·intro wq hSw
  obtain ⟨y0, y1, y2, y3, y4, y5, y6, y7, y8, y9, y10⟩ := hSw.cells
  go_simp
 (try simp only [zzp, zzb, zzc])
 refine Ix.tk 6 ⟨some 13, .fieldAddr 93 (.tmp 12) 2, _, _, _, _⟩ (.pointer (some ⟨sb, 2, none⟩)) [7,25,26] ?_ KP.out ?_
 ·intro wq hSw
  obtain ⟨y0, y1, y2, y3, y4, y5, y6, y7, y8, y9, y10⟩ := hSw.cells
  go_simp
 (try simp only [zzp, zzb, zzc])
 refine Ix.tk 7 ⟨some 14, .load 32 (.tmp 13), _, _, _, _⟩ (.agg #[.int .i64 s.num, .int .i64 s.base, .int .u32 s.hs]) [25,26] ?_ KP.out ?_
 ·intro wq hSw
  obtain ⟨y0, y1, y2, y3, y4, y5, y6, y7, y8, y9, y10⟩ := hSw.cells
  go_simp
 (try simp only [zzp, zzb, zzc])
 refine Ix.tk 8 ⟨some 15, .move (.tmp 0), _, _, _, _⟩ (.pointer (some ⟨sb, 0, none⟩)) [9,10,11,25,26] ?_ KP.out ?_
 ·intro wq hSw
  obtain ⟨y0, y1, y2, y3, y4, y5, y6, y7, y8, y9, y10⟩ := hSw.cells
  go_simp
 (try simp only [zzp, zzb, zzc])
 refine Ix.tk 9 ⟨some 16, .nilCheck (.tmp 15), _, _, _, _⟩ (.pointer (some ⟨sb, 0, none⟩)) [10,11,25,26] ?_ KP.out ?_
 ·intro wq hSw
  obtain ⟨y0, y1, y2, y3, y4, y5, y6, y7, y8, y9, y10⟩ := hSw.cells
  go_simp
 (try simp only [zzp, zzb, zzc])
 refine Ix.tk 10 ⟨some 17, .fieldAddr 93 (.tmp 16) 3, _, _, _, _⟩ (.pointer (some ⟨sb, 5, none⟩)) [11,25,26] ?_ KP.out ?_
 ·intro wq hSw
  obtain ⟨y0, y1, y2, y3, y4, y5, y6, y7, y8, y9, y10⟩ := hSw.cells
  go_simp
 (try simp only [zzp, zzb, zzc])
 refine Ix.tk 11 ⟨some 18, .load 2 (.tmp 17), _, _, _, _⟩ (.int .i64 s.next) [25,26] ?_ KP.out ?_
 ·intro wq hSw
  obtain ⟨y0, y1, y2, y3, y4, y5, y6, y7, y8, y9, y10⟩ := hSw.cells
  go_simp
 (try simp only [zzp, zzb, zzc])
 refine Ix.tk 12 ⟨some 19, .move (.tmp 0), _, _, _, _⟩ (.pointer (some ⟨sb, 0, none⟩)) [13,14,15,25,26] ?_ KP.out ?_
 ·intro wq hSw
  obtain ⟨y0, y1, y2, y3, y4, y5, y6, y7, y8, y9, y10⟩ := hSw.cells
  go_simp
 (try simp only [zzp, zzb, zzc])
 refine Ix.tk 13 ⟨some 20, .nilCheck (.tmp 19), _, _, _, _⟩ (.pointer (some ⟨sb, 0, none⟩)) [14,15,25,26] ?_ KP.out ?_
 ·intro wq hSw
  obtain ⟨y0, y1, y2, y3, y4, y5, y6, y7, y8, y9, y10⟩ := hSw.cells
  go_simp
 (try simp only [zzp, zzb, zzc])
 refine Ix.tk 14 ⟨some 21, .fieldAddr 93 (.tmp 20) 4, _, _, _, _⟩ (.pointer (some ⟨sb, 6, none⟩)) [15,25,26] ?_ KP.out ?_
 ·intro wq hSw
  obtain ⟨y0, y1, y2, y3, y4, y5, y6, y7, y8, y9, y10⟩ := hSw.cells
  go_simp
 (try simp only [zzp, zzb, zzc])
 refine Ix.tk 15 ⟨some 22, .load 3 (.tmp 21), _, _, _, _⟩ (.int .i64 s.size) [25,26] ?_ KP.out ?_
 ·intro wq hSw
  obtain ⟨y0, y1, y2, y3, y4, y5, y6, y7, y8, y9, y10⟩ := hSw.cells
  go_simp
 (try simp only [zzp, zzb, zzc])
 refine Ix.tk 16 ⟨some 23, .move (.tmp 0), _, _, _, _⟩ (.pointer (some ⟨sb, 0, none⟩)) [17,18,19,25,26] ?_ KP.out ?_
 ·intro wq hSw
  obtain ⟨y0, y1, y2, y3, y4, y5, y6, y7, y8, y9, y10⟩ := hSw.cells
  go_simp
 (try simp only [zzp, zzb, zzc])
 refine Ix.tk 17 ⟨some 24, .nilCheck (.tmp 23), _, _, _, _⟩ (.pointer (some ⟨sb, 0, none⟩)) [18,19,25,26] ?_ KP.out ?_
 ·intro wq hSw
  obtain ⟨y0, y1, y2, y3, y4, y5, y6, y7, y8, y9, y10⟩ := hSw.cells
  go_simp
 (try simp only [zzp, zzb, zzc])
 refine Ix.tk 18 ⟨some 25, .fieldAddr 93 (.tmp 24) 5, _, _, _, _⟩ (.pointer (some ⟨sb, 7, none⟩)) [19,25,26] ?_ KP.out ?_
 ·intro wq hSw
  obtain ⟨y0, y1, y2, y3, y4, y5, y6, y7, y8, y9, y10⟩ := hSw.cells
  go_simp
 (try simp only [zzp, zzb, zzc])
 refine Ix.tk 19 ⟨some 26, .load 30 (.tmp 25), _, _, _, _⟩ (.int .u32 s.seed) [25,26] ?_ KP.out ?_
 ·intro wq hSw
  obtain ⟨y0, y1, y2, y3, y4, y5, y6, y7, y8, y9, y10⟩ := hSw.cells
  go_simp
 (try simp only [zzp, zzb, zzc])
 refine Ix.tk 20 ⟨some 27, .move (.tmp 0), _, _, _, _⟩ (.pointer (some ⟨sb, 0, none⟩)) [21,22,23,24,25,26] ?_ KP.out ?_
 ·intro wq hSw
  obtain ⟨y0, y1, y2, y3, y4, y5, y6, y7, y8, y9, y10⟩ := hSw.cells
  go_simp
 (try simp only [zzp, zzb, zzc])
 refine Ix.tk 21 ⟨some 28, .nilCheck (.tmp 27), _, _, _, _⟩ (.pointer (some ⟨sb, 0, none⟩)) [22,23,24,25,26] ?_ KP.out ?_
 ·intro wq hSw
  obtain ⟨y0, y1, y2, y3, y4, y5, y6, y7, y8, y9, y10⟩ := hSw.cells
  go_simp
 (try simp only [zzp, zzb, zzc])
 refine Ix.tk 22 ⟨some 29, .fieldAddr 93 (.tmp 28) 6, _, _, _, _⟩ (.pointer (some ⟨sb, 8, none⟩)) [23,24,25,26] ?_ KP.out ?_
 ·intro wq hSw
  obtain ⟨y0, y1, y2, y3, y4, y5, y6, y7, y8, y9, y10⟩ := hSw.cells
  go_simp
 (try simp only [zzp, zzb, zzc])
 refine Ix.tk 23 ⟨some 30, .load 89 (.tmp 29), _, _, _, _⟩ (.int .i64 s.cond) [24,25,26] ?_ KP.out ?_
 ·intro wq hSw
  obtain ⟨y0, y1, y2, y3, y4, y5, y6, y7, y8, y9, y10⟩ := hSw.cells
  go_simp
 (try simp only [zzp, zzb, zzc])
 refine Ix.tk 24 ⟨some 31, .binOp .neq 89 (.tmp 30) (.const (Value.int IntKind.i64 0)) 89, _, _, _, _⟩ (.bool (s.cond != 0)) [25,26] ?_ KP.out ?_
 ·intro wq hSw
  obtain ⟨y0, y1, y2, y3, y4, y5, y6, y7, y8, y9, y10⟩ := hSw.cells
  go_simp
 (try simp only [zzp, zzb, zzc])
 refine Ix.tk 25 ⟨some 32, .build 37 #[(0, .tmp 10), (1, .tmp 14), (2, .tmp 18), (3, .tmp 22), (4, .tmp 26), (5, .tmp 31)], _, _, _, _⟩ (.agg #[.string s.file, .int .i64 s.num, .int .i64 s.base, .int .u32 s.hs, .int .i64 s.next, .int .i64 s.size, .int .u32 s.seed, .bool (s.cond != 0)]) [26] ?_ KP.out ?_
 ·intro wq hSw
  obtain ⟨y0, y1, y2, y3, y4, y5, y6, y7, y8, y9, y10⟩ := hSw.cells
  go_simp
 (try simp only [zzp, zzb, zzc])
 have FIN := hide (put8_heap KN.out (.string s.file) (.int .i64 s.num) (.int .i64 s.base) (.int .u32 s.hs) (.int .i64 s.next) (.int .i64 s.size) (.int .u32 s.seed) (.bool (s.cond != 0)))
 have FB := hide (put8_below KB.out hg (.string s.file) (.int .i64 s.num) (.int .i64 s.base) (.int .u32 s.hs) (.int .i64 s.next) (.int .i64 s.size) (.int .u32 s.seed) (.bool (s.cond != 0)))
 have FZ : ∀ j, q.frozen? ⟨g, j, none⟩ = false := fun j => by simp [World.frozen?, KN.out]
 have c0 : ∀ j, q.cell? ⟨g, j, none⟩ = _ := fun j => cell_of KN.out
 unfold put8 at FIN FB
 refine wpAnyT_one (i := 26) (o := ⟨none, .store 37 (.tmp 2) (.tmp 32), _, _, _, _⟩) (by kernel_rfl) rfl (fun K hK => ?_)
 go_simp
 refine hK.out _ _ (vac (by kernel_rfl)) ?_
 clear hK K
 (try simp only [zzq])
 refine wpAnyT_done (by kernel_rfl) ?_ _
 go_wp2_with fail
 try simp only [Exit.inBlock, Exit.then]
 refine bodyPost_ret (v := .agg _) (results_cell_row rfl _ _ g 37 _ (0, 0) _ rfl FIN.out Try.underlying37 rfl lookSize) rfl ?_
 exact ⟨rfl, by rw [hgs.out]; exact FB.out⟩
def CS (w q : World) (sb : Nat) (s : SG) (S : DS) : Prop :=
 ∃ (O : Nat → Prop) (xb mb : Nat) (v : Value), SW q sb s S O xb mb v ∧ Below w.heap.size w q ∧ (∀ k, O k → w.heap.size ≤ k) ∧ ∀ k, SOwn sb xb mb v k → w.heap.size ≤ k
theorem CS.below {w q q' : World} {sb : Nat} {s : SG} {S : DS} (h : CS w q sb s S) (hb : Below q.heap.size q q') : CS w q' sb s S := by
 obtain ⟨O, xb, mb, v, h, hB, l1, l2⟩ := h
 exact ⟨O, xb, mb, v, h.below hb, hB.trans (hb.mono hB.size), l1, l2⟩
theorem CS.bel {w q : World} {sb : Nat} {s : SG} {S : DS} (h : CS w q sb s S) : Below w.heap.size w q := by
 obtain ⟨O, xb, mb, v, h, hB, l1, l2⟩ := h
 exact hB
theorem Sst.cs {w q q' : World} {sb xb mb : Nat} {v v' : Value} {O O' : Nat → Prop} {s : SG} {S : DS} (h : Sst q q' sb xb mb v v' O O') (hS : SW q' sb s S O' xb mb v') (hB : Below w.heap.size w q) (l1 : ∀ k, O k → w.heap.size ≤ k) (l2 : ∀ k, SOwn sb xb mb v k → w.heap.size ≤ k) : CS w q' sb s S := by
 refine ⟨O', xb, mb, v', hS, ⟨h.but.os.trans hB.os, h.but.tape.trans hB.tape, h.but.output.trans hB.output, Nat.le_trans hB.size h.but.size, fun k hk => (h.but.block k (Nat.lt_of_lt_of_le hk hB.size) (fun c => ?_)).trans (hB.block k hk)⟩, fun k hk => ?_, fun k hk => ?_⟩
 ·rcases c with c | c
  ·have := l2 k c; omega
  ·have := l1 k c; omega
 ·rcases h.o k hk with c | c
  ·exact l1 k c
  ·exact Nat.le_trans hB.size c
 ·rcases hk with c | c | c | c
  ·exact l2 k (.inl c)
  ·exact l2 k (.inr (.inl c))
  ·exact l2 k (.inr (.inr (.inl c)))
  ·rcases h.v k c with c | c
   ·exact l2 k (.inr (.inr (.inr c)))
   ·exact Nat.le_trans hB.size c
theorem cs_put {w q : World} {sb : Nat} {s : SG} {S : DS} (h : CS w q sb s S) (ok : SOk s) (seed : Crc.R) (hsd : s.seed = (seed.toNat : Int)) (vd : Value) (vs : List Value) (ls : List (List UInt8)) (hr : Row q vd vs) (hs : Sls q vs ls) (hl : ls.length ≤ 34000000000) (hz : s.size + (ls.length : Int) * 4112 ≤ 2147483647) (hl2 : s.sd.length + ls.length ≤ 1000000000) (hf : s.file.size ≤ maxLen) (hc : S.c7 < 900000000) :
    Calls Try.prog 8 #[.pointer (some ⟨sb, 0, none⟩), vd] q fun e w' => e = .returned (.tuple #[.int .i64 (putF s S seed ls).2.1, .int .i64 (putF s S seed ls).2.2]) ∧ CS w w' sb (putF s S seed ls).1.1 (putF s S seed ls).1.2 := by
 obtain ⟨O, xb, mb, v, h, hB, l1, l2⟩ := h
 refine (putS_any h ok seed hsd vd vs ls hr hs hl hz hl2 hf hc).mono ?_
 rintro e w' ⟨rfl, v', O', hS, hst⟩
 exact ⟨rfl, hst.cs hS hB l1 l2⟩
theorem cs_read {w q : World} {sb : Nat} {s : SG} {S : DS} (h : CS w q sb s S) (ok : SOk s) (lsn : Int) (h0 : -9223372036854775808 ≤ lsn) (h1 : lsn ≤ 9223372036854775807) (hbs : 1 ≤ s.base) (hf : s.file.size ≤ maxLen) :
    Calls Try.prog 30 #[.pointer (some ⟨sb, 0, none⟩), .int .i64 lsn] q fun e w' => ∃ vd, e = .returned (.tuple #[.agg #[.int .i64 (rdS s S lsn).1.1, vd], .int .i64 (rdS s S lsn).2]) ∧ Ob q.heap.size w' vd (rdS s S lsn).1.2 ∧ Below q.heap.size q w' := by
 obtain ⟨O, xb, mb, v, h, hB, l1, l2⟩ := h
 exact readS_any h ok lsn h0 h1 hbs hf
theorem cs_look {w q : World} {sb : Nat} {s : SG} {S : DS} (h : CS w q sb s S) : Calls Try.prog 9 #[.pointer (some ⟨sb, 0, none⟩)] q fun e w' => e = .returned (.agg s.look) ∧ Below q.heap.size q w' := by
 obtain ⟨O, xb, mb, v, h, hB, l1, l2⟩ := h
 exact look_any h.sg
theorem cs_count {w q : World} {sb : Nat} {s : SG} {S : DS} (h : CS w q sb s S) : Calls Try.prog 29 #[.pointer (some ⟨s.b, 0, none⟩)] q fun e w' => e = .returned (.agg S.cs) ∧ Below q.heap.size q w' := by
 obtain ⟨O, xb, mb, v, h, hB, l1, l2⟩ := h
 exact count_dsk h.dk
theorem cs_create {w q : World} {b : Nat} {S : DS} {O : Nat → Prop} (h : DskE q b S O) (hB : Below w.heap.size w q) (l1 : ∀ k, O k → w.heap.size ≤ k) (file : ByteArray) (nm bs : Int) (seed : Crc.R) (hf : file.size ≤ 140737488355328) (hm : file.size ≤ maxLen) (hc : S.c7 < 800000000) (n0 : -9223372036854775808 ≤ nm) (n1 : nm ≤ 9223372036854775807) (b0 : -9223372036854775808 ≤ bs) (b1 : bs ≤ 9223372036854775807)
    (hgo : ∀ p, (creF S file nm bs seed p).2 = 0) :
    Calls Try.prog 7 #[.pointer (some ⟨b, 0, none⟩), .string file, .agg #[.int .i64 nm, .int .i64 bs, .int .u32 (seed.toNat : Int)]] q fun e w' => ∃ p sb, e = .returned (.tuple #[.pointer (some ⟨sb, 0, none⟩), .int .i64 0]) ∧ p ∉ S.ps ∧ CS w w' sb (newSG b file nm bs seed (whF nm bs seed).2.1) (creF S file nm bs seed p).1 := by
 refine (createS_any h file nm bs seed hf hm hc n0 n1 b0 b1).mono ?_
 rintro e w' ⟨p, O', hp, hps, hg, ⟨c, _⟩ | ⟨_, sb, xb, mb, v, rfl, hS, hlo⟩⟩
 ·exact absurd (hgo p) c
 ·exact ⟨p, sb, rfl, hps, O', xb, mb, v, hS, hg.under l1 (Nat.le_refl _) hB, hg.low hB.size l1, fun k hk => Nat.le_trans hB.size (hlo k hk)⟩
structure Clm (s : SG) (S : DS) (sd0 : Crc.R) (hd : List UInt8) (ds : List (List UInt8)) (M : Nat) (L2 : Dr) (PP : List Ch) (F : Nat → Fl) (c : Int) (p : Nat) : Prop where
 co : Coh s sd0 ds
 cd : s.cond = 0
 hh : hd.length = 32
 cm : Cm S M L2 PP F c
 my : may s.file.data.toList = true
 gt : get (runs L2 PP) s.file.data.toList = some p
 by_ : (F p).by_ = hd ++ (wk sd0 s.base ds ds.length).1
 sl : s.sd.length ≤ ds.length
theorem Clm.has {s : SG} {S : DS} {sd0 : Crc.R} {hd : List UInt8} {ds : List (List UInt8)} {M : Nat} {L2 : Dr} {PP : List Ch} {F : Nat → Fl} {c : Int} {p : Nat} (h : Clm s S sd0 hd ds M L2 PP F c p) : Has S s.file (hd ++ (wk sd0 s.base ds ds.length).1) :=
 ⟨p, h.cm.find h.my h.gt, by rw [h.cm.F]; exact h.by_⟩
theorem Clm.read {s : SG} {S : DS} {sd0 : Crc.R} {hd : List UInt8} {ds : List (List UInt8)} {M : Nat} {L2 : Dr} {PP : List Ch} {F : Nat → Fl} {c : Int} {p : Nat} (h : Clm s S sd0 hd ds M L2 PP F c p) {lsn : Int} (h1 : s.base ≤ lsn) (h2 : lsn < s.next) : rdS s S lsn = ((lsn, ds.getD (lsn - s.base).toNat []), 0) := h.co.read h.hh h.has h1 h2
theorem Clm.put {s : SG} {S : DS} {sd0 : Crc.R} {hd : List UInt8} {ds : List (List UInt8)} {M : Nat} {L2 : Dr} {PP : List Ch} {F : Nat → Fl} {c : Int} {p : Nat} (h : Clm s S sd0 hd ds M L2 PP F c p) (ls : List (List UInt8)) (h0 : ls ≠ []) (hd4 : ∀ d ∈ ls, d.length ≤ 4096) (hn : s.next + (ls.length : Int) ≤ 9223372036854775807) (hz : s.size + (ls.length : Int) * 4112 ≤ 2147483647) (hl : ds.length + ls.length ≤ 1000000000)
    (hM : sumL F (runs L2 PP) + (wk (wk sd0 s.base ds ds.length).2.2 s.next ls ls.length).1.length ≤ M) :
    (putF s S (wk sd0 s.base ds ds.length).2.2 ls).2 = (s.next, 0) ∧ (putF s S (wk sd0 s.base ds ds.length).2.2 ls).1 = (gk s (wk (wk sd0 s.base ds ds.length).2.2 s.next ls ls.length).2.1 ls.length, (S.append s.file (wk (wk sd0 s.base ds ds.length).2.2 s.next ls ls.length).1).1) ∧
     Clm (putF s S (wk sd0 s.base ds ds.length).2.2 ls).1.1 (putF s S (wk sd0 s.base ds ds.length).2.2 ls).1.2 sd0 hd (ds ++ ls) M L2 PP (upd F p (apF (F p) (wk (wk sd0 s.base ds ds.length).2.2 s.next ls ls.length).1)) (c + 1) p := by
 have hr : refF s ls = 0 := by
  unfold refF
  rw [if_neg (by rw [h.cd]; decide), if_neg h0, if_neg (by rintro ⟨d, d1, d2⟩; have := hd4 d d1; omega), if_neg (by omega)]
 obtain ⟨k1, k2, k3⟩ := h.cm.append h.my h.gt _ hM
 have e : putF s S (wk sd0 s.base ds ds.length).2.2 ls = ((gk s (wk (wk sd0 s.base ds ds.length).2.2 s.next ls ls.length).2.1 ls.length, (S.append s.file (wk (wk sd0 s.base ds ds.length).2.2 s.next ls ls.length).1).1), s.next, 0) := by
  unfold putF
  rw [if_neg (by rw [hr]; decide), if_neg (by rw [k2]; decide)]
 rw [e]
 have hsl := h.sl
 have hlen := (wk_len (wk sd0 s.base ds ds.length).2.2 s.next ls ls.length).2
 have hf := wk_fs (wk sd0 s.base ds ds.length).2.2 s.next ls ls.length
 obtain ⟨c1, _⟩ := h.co.puts h.co.e ls hd4 hn hz (by omega) ls.length (Nat.le_refl _)
 rw [List.take_length] at c1
 obtain ⟨g1, g2, g3, g4, g5, g6, g7⟩ := gk_b s (wk (wk sd0 s.base ds ds.length).2.2 s.next ls ls.length).2.1 ls.length
 have gl := (gk_ok h.co.ok (wk (wk sd0 s.base ds ds.length).2.2 s.next ls ls.length).2.1 (fun f h => (hf f h).1) (fun f h => (hf f h).2) (by rw [hlen]; omega) (by rw [hlen]; omega) (by rw [hlen]; omega) ls.length (by omega)).2
 refine ⟨rfl, rfl, ⟨c1, by show (gk s _ ls.length).cond = 0; rw [g3]; exact h.cd, h.hh, k3, ?_, ?_, ?_, ?_⟩⟩
 ·show may (gk s _ ls.length).file.data.toList = true; rw [g2]; exact h.my
 ·show get _ (gk s _ ls.length).file.data.toList = _; rw [g2]; exact h.gt
 ·show _ = hd ++ (wk sd0 (gk s _ ls.length).base (ds ++ ls) (ds ++ ls).length).1
  rw [upd_same, g4, List.length_append, (wk_shift (seed := sd0) (n := s.base) ds ls ls.length).2, ← h.co.n]
  show (F p).by_ ++ _ = _
  rw [h.by_, List.append_assoc]
 ·show (gk s _ ls.length).sd.length ≤ _
  rw [List.length_append]
  omega
theorem upd_upd {α : Type} (F : Nat → α) (p : Nat) (s t : α) : upd (upd F p s) p t = upd F p t := by
 funext q
 unfold upd
 split <;> rfl
theorem apNew (H : List UInt8) : apF ⟨[], [], 0⟩ H = ⟨H, [], 0⟩ := rfl
theorem cm_cre {S : DS} {M : Nat} {L2 : Dr} {PP : List Ch} {F : Nat → Fl} {c : Int} (h : Cm S M L2 PP F c) {file : ByteArray} {nm bs : Int} (seed : Crc.R) (h1 : 1 ≤ nm) (h2 : 1 ≤ bs) (hm : may file.data.toList = true) (hg : get (runs L2 PP) file.data.toList = none) (hl : (runs L2 PP).length < 256) (p : Nat) (hg2 : get (runs L2 (PP ++ [.cr file p])) file.data.toList = some p) (hM : sumL (upd F p ⟨[], [], 0⟩) (runs L2 (PP ++ [.cr file p])) + 32 ≤ M) :
    (creF S file nm bs seed p).2 = 0 ∧ Cm (creF S file nm bs seed p).1 M L2 (PP ++ [.cr file p]) (upd F p (syF ⟨hed nm.toNat bs.toNat seed, [], 0⟩)) (c + 3) := by
 obtain ⟨a1, a2⟩ := h.create hm hg hl p
 obtain ⟨b1, b2, b3⟩ := a2.append hm hg2 (hed nm.toNat bs.toNat seed) (by rw [hed_len]; exact hM)
 obtain ⟨c1, c2⟩ := b3.sync hm hg2
 have e : creF S file nm bs seed p = (((S.create file p).1.append file (hed nm.toNat bs.toNat seed)).1).sync file := by
  unfold creF
  rw [whF_ok h1 h2]
  simp only
  rw [if_neg (by simp), if_neg (by rw [a1]; simp), if_neg (by rw [b2]; simp)]
 rw [e]
 refine ⟨c1, ?_⟩
 rw [upd_same, upd_same, upd_upd, upd_upd, apNew] at c2
 rw [show c + 3 = c + 1 + 1 + 1 by omega]
 exact c2
theorem cm_clm {S : DS} {M : Nat} {L2 : Dr} {PP : List Ch} {F : Nat → Fl} {c : Int} {b p : Nat} {file : ByteArray} {nm bs : Int} {seed : Crc.R} (h : Cm S M L2 PP (upd F p (syF ⟨hed nm.toNat bs.toNat seed, [], 0⟩)) c) (h1 : 1 ≤ nm) (h2 : 1 ≤ bs) (h3 : bs ≤ 9223372036854775807) (hm : may file.data.toList = true) (hg : get (runs L2 PP) file.data.toList = some p) :
    Clm (newSG b file nm bs seed (whF nm bs seed).2.1) S (whF nm bs seed).2.1 (hed nm.toNat bs.toNat seed) [] M L2 PP (upd F p (syF ⟨hed nm.toNat bs.toNat seed, [], 0⟩)) c p :=
 ⟨newSG_coh b file nm bs seed _ h2 h3, rfl, hed_len _ _ _, h, hm, hg, by rw [upd_same]; show hed nm.toNat bs.toNat seed = hed nm.toNat bs.toNat seed ++ []; simp, Nat.le_refl _⟩
def fileB : ByteArray := ⟨#[115, 101, 103, 45, 48, 48, 48, 48, 48, 48, 48, 48, 48, 48, 48, 48, 48, 48, 48, 49, 46, 108, 111, 103]⟩
theorem may_file : may fileB.data.toList = true := by decide
theorem run_file (p : Nat) : runs [] [.cr fileB p] = [(fileB.data.toList, p)] := rfl
theorem get_one (k : List UInt8) (p : Nat) : get [(k, p)] k = some p := by simp [Dk.get]
theorem sum_one (F : Nat → Fl) (k : List UInt8) (p : Nat) : sumL F [(k, p)] = (F p).by_.length := by simp [sumL]
theorem new_cre (M : Nat) (h0 : 32 ≤ M) (nm bs : Int) (seed : Crc.R) (h1 : 1 ≤ nm) (h2 : 1 ≤ bs) (h3 : bs ≤ 9223372036854775807) (b p : Nat) :
    (creF (DS.new (M : Int)) fileB nm bs seed p).2 = 0 ∧ Clm (newSG b fileB nm bs seed (whF nm bs seed).2.1) (creF (DS.new (M : Int)) fileB nm bs seed p).1 (whF nm bs seed).2.1 (hed nm.toNat bs.toNat seed) [] M [] [.cr fileB p] (upd noF p (syF ⟨hed nm.toNat bs.toNat seed, [], 0⟩)) 3 p := by
 have hC : Cm (DS.new (M : Int)) M [] [] noF 0 := ⟨rfl, rfl, rfl, rfl, rfl, rfl, rfl⟩
 have hg : get (runs [] [.cr fileB p]) fileB.data.toList = some p := by rw [run_file]; exact get_one _ _
 obtain ⟨a1, a2⟩ := cm_cre hC seed h1 h2 may_file rfl (by decide) p hg (by show sumL _ (runs [] [.cr fileB p]) + 32 ≤ M; rw [run_file, sum_one, upd_same]; simpa using h0)
 exact ⟨a1, cm_clm a2 h1 h2 h3 may_file hg⟩
theorem wk_two {seed : Crc.R} {n : Int} (a b : List UInt8) (h1 : 1 ≤ n) (h2 : n + 2 ≤ 9223372036854775807) (ha : a.length ≤ 4096) (hb : b.length ≤ 4096) : (wk seed n [a, b] 2).1.length = 32 + a.length + b.length := by
 have hd : ∀ d ∈ [a, b], d.length ≤ 4096 := fun d hd => by simp at hd; rcases hd with rfl | rfl <;> assumption
 have h3 : n + (([a, b] : List (List UInt8)).length : Int) ≤ 9223372036854775807 := h2
 rw [wk_step (i := 1) (by simp) h1 h3 hd, wk_step (i := 0) (by simp) h1 h3 hd]
 simp only [List.length_append, frm_len, wk]
 simp
 omega
structure B2 (s : SG) (S : DS) (b : Nat) : Prop where
 b : s.b = b
 n : s.next = 7
 z : s.size = 67
 c : S.c7 = 4
 r : rdS s S 6 = ((6, [98, 99]), 0)
 ok : SOk s
 bs : s.base = 5
 f : s.file = fileB
theorem begun_put (b p : Nat) : (putF (newSG b fileB 1 5 0#32 (whF 1 5 0#32).2.1) (creF (DS.new 65536) fileB 1 5 0#32 p).1 (whF 1 5 0#32).2.1 [[97], [98, 99]]).2 = (5, 0) ∧
    B2 (putF (newSG b fileB 1 5 0#32 (whF 1 5 0#32).2.1) (creF (DS.new 65536) fileB 1 5 0#32 p).1 (whF 1 5 0#32).2.1 [[97], [98, 99]]).1.1 (putF (newSG b fileB 1 5 0#32 (whF 1 5 0#32).2.1) (creF (DS.new 65536) fileB 1 5 0#32 p).1 (whF 1 5 0#32).2.1 [[97], [98, 99]]).1.2 b := by
 obtain ⟨_, h⟩ := new_cre 65536 (by decide) 1 5 0#32 (by decide) (by decide) (by decide) b p
 have w2 := wk_two (seed := (whF 1 5 0#32).2.1) (n := 5) [97] [98, 99] (by decide) (by decide) (by decide) (by decide)
 have hnx : (newSG b fileB 1 5 0#32 (whF 1 5 0#32).2.1).next = 5 := rfl
 have hsz : (newSG b fileB 1 5 0#32 (whF 1 5 0#32).2.1).size = 32 := rfl
 have hbs : (newSG b fileB 1 5 0#32 (whF 1 5 0#32).2.1).base = 5 := rfl
 have hb : (newSG b fileB 1 5 0#32 (whF 1 5 0#32).2.1).b = b := rfl
 have hfl : (newSG b fileB 1 5 0#32 (whF 1 5 0#32).2.1).file = fileB := rfl
 have hhl := hed_len (1 : Int).toNat (5 : Int).toNat 0#32
 rw [show ((65536 : Nat) : Int) = 65536 from rfl] at h
 generalize (creF (DS.new 65536) fileB 1 5 0#32 p).1 = S at *
 generalize newSG b fileB 1 5 0#32 (whF 1 5 0#32).2.1 = s at *
 generalize (whF 1 5 0#32).2.1 = sd0 at *
 generalize hed (1 : Int).toNat (5 : Int).toNat 0#32 = H at *
 have hk : (wk sd0 s.base [] ([] : List (List UInt8)).length).2.2 = sd0 := rfl
 have hM : sumL (upd noF p (syF ⟨H, [], 0⟩)) (runs [] [.cr fileB p]) + (wk sd0 5 [[97], [98, 99]] 2).1.length ≤ 65536 := by
  rw [run_file, sum_one, upd_same, w2]
  show H.length + _ ≤ 65536
  rw [hhl]
  decide
 have hp := h.put [[97], [98, 99]] (by decide) (by decide) (by rw [hnx]; decide) (by rw [hsz]; decide) (by decide) (by rw [hk, hnx]; exact hM)
 rw [hk] at hp
 obtain ⟨p1, p2, p3⟩ := hp
 rw [hnx] at p1
 refine ⟨p1, ?_⟩
 have hcc := p3.cm.c7
 obtain ⟨g1, g2, g3, g4, g5, g6, g7⟩ := gk_b s (wk sd0 s.next [[97], [98, 99]] 2).2.1 2
 have q1 : (putF s S sd0 [[97], [98, 99]]).1.1 = gk s (wk sd0 s.next [[97], [98, 99]] 2).2.1 2 := by rw [p2]; rfl
 have hn2 := p3.co.n
 have hz2 := p3.co.z
 have hb2 : (putF s S sd0 [[97], [98, 99]]).1.1.base = 5 := by rw [q1, g4, hbs]
 rw [hb2] at hn2 hz2
 have hrd := p3.read (lsn := 6) (by rw [hb2]; decide) (by rw [hn2]; decide)
 rw [hb2] at hrd
 refine ⟨by rw [q1, g1, hb], hn2, ?_, hcc, hrd, p3.co.ok, hb2, by rw [q1, g2, hfl]⟩
 rw [hz2]
 show 32 + ((wk sd0 5 [[97], [98, 99]] 2).1.length : Int) = 67
 rw [w2]
 decide
theorem str2 {B : Nat} {w : World} {ra : Option Addr} {rc : Nat} (h : Ob B w (.slice ra 2 rc) [98, 99]) : (convert 40 9 (.slice ra 2 rc)).run Try.prog w = .ok (.string ⟨#[98, 99]⟩) w := by
 obtain ⟨ao, ca, e, h2, h3, h4, h5⟩ := h.sl
 simp only [Value.slice.injEq] at e
 obtain ⟨rfl, _, rfl⟩ := e
 obtain ⟨b, off, rfl, _⟩ := h5 0 (by decide)
 refine run_convert_bytes_arg w 40 5 Try.underlying40 Try.underlying5 b off 2 rc [98, 99] rfl (fun i hi => ?_) 9 Try.underlying9
 obtain ⟨b', off', e', hc⟩ := h5 i hi
 simp only [Option.some.injEq, Addr.mk.injEq] at e'
 obtain ⟨rfl, rfl, _⟩ := e'
 rw [hc]
 match i, hi with
 | 0, _ => rfl
 | 1, _ => rfl
theorem begun13_any (w : World) : Calls Try.prog 5 #[] w fun e w' => e = .returned (.bool true) ∧ Below w.heap.size w w' := by
 have hN := new_dsk w 65536 (by decide) (by decide)
 have hC : Hid (∀ q b O, DskE q b (DS.new 65536) O → Below w.heap.size w q → (∀ k, O k → w.heap.size ≤ k) → Calls Try.prog 7 #[.pointer (some ⟨b, 0, none⟩), .string ⟨#[115, 101, 103, 45, 48, 48, 48, 48, 48, 48, 48, 48, 48, 48, 48, 48, 48, 48, 48, 49, 46, 108, 111, 103]⟩, .agg #[.int .i64 1, .int .i64 5, .int .u32 0]] q fun e w' => ∃ p sb, e = .returned (.tuple #[.pointer (some ⟨sb, 0, none⟩), .int .i64 0]) ∧ p ∉ (DS.new 65536).ps ∧ CS w w' sb (newSG b fileB 1 5 0#32 (whF 1 5 0#32).2.1) (creF (DS.new 65536) fileB 1 5 0#32 p).1) := fun q b O h hB hl =>
  cs_create h hB hl fileB 1 5 0#32 (by decide) (by decide) (by decide) (by decide) (by decide) (by decide) (by decide) fun p => (new_cre 65536 (by decide) 1 5 0#32 (by decide) (by decide) (by decide) b p).1
 have hP : Hid (∀ q sb b p vd vs, CS w q sb (newSG b fileB 1 5 0#32 (whF 1 5 0#32).2.1) (creF (DS.new 65536) fileB 1 5 0#32 p).1 → Row q vd vs → Sls q vs [[97], [98, 99]] → Calls Try.prog 8 #[.pointer (some ⟨sb, 0, none⟩), vd] q fun e w' => e = .returned (.tuple #[.int .i64 5, .int .i64 0]) ∧ ∃ s S, CS w w' sb s S ∧ B2 s S b) := fun q sb b p vd vs h hr hs => by
  obtain ⟨_, hc⟩ := new_cre 65536 (by decide) 1 5 0#32 (by decide) (by decide) (by decide) b p
  have hc7 := hc.cm.c7
  refine (cs_put h hc.co.ok (whF 1 5 0#32).2.1 rfl vd vs [[97], [98, 99]] hr hs (by decide) (by show (32 : Int) + _ ≤ _; decide) (by show (0 : Nat) + _ ≤ _; decide) (by show fileB.size ≤ maxLen; decide) (by show (creF (DS.new ((65536 : Nat) : Int)) fileB 1 5 0#32 p).1.c7 < _; rw [hc7]; decide)).mono ?_
  rintro e w' ⟨rfl, hS⟩
  obtain ⟨e1, e2⟩ := begun_put b p
  rw [e1]
  exact ⟨rfl, _, _, hS, e2⟩
 have hR : Hid (∀ q sb b s S, CS w q sb s S → B2 s S b → Calls Try.prog 30 #[.pointer (some ⟨sb, 0, none⟩), .int .i64 6] q fun e w' => ∃ vd, e = .returned (.tuple #[.agg #[.int .i64 6, vd], .int .i64 0]) ∧ Ob q.heap.size w' vd [98, 99] ∧ Below q.heap.size q w') := fun q sb b s S h k => by
  have := cs_read h k.ok 6 (by decide) (by decide) (by rw [k.bs]; decide) (by rw [k.f]; decide)
  rw [k.r] at this
  exact this
 have hL : Hid (∀ q sb s S b, CS w q sb s S → B2 s S b → Calls Try.prog 9 #[.pointer (some ⟨sb, 0, none⟩)] q fun e w' => ∃ l0 l1 l2 l3 l6 l7, e = .returned (.agg #[.string l0, .int .i64 l1, .int .i64 l2, .int .u32 l3, .int .i64 7, .int .i64 67, .int .u32 l6, .bool l7]) ∧ Below q.heap.size q w') := fun q sb s S b h k => by
  have := cs_look h
  unfold SG.look at this
  rw [k.n, k.z] at this
  refine this.mono ?_
  rintro e w' ⟨rfl, hb⟩
  exact ⟨_, _, _, _, _, _, rfl, hb⟩
 have hK : Hid (∀ q sb s S b, CS w q sb s S → B2 s S b → Calls Try.prog 29 #[.pointer (some ⟨b, 0, none⟩)] q fun e w' => ∃ l0 l1 l2 l3 l4 l5 l6 l8, e = .returned (.agg #[.int .i64 l0, .int .i64 l1, .int .i64 l2, .int .i64 l3, .int .i64 l4, .int .i64 l5, .int .i64 l6, .int .i64 4, .int .i64 l8]) ∧ Below q.heap.size q w') := fun q sb s S b h k => by
  have := cs_count h
  unfold DS.cs at this
  rw [k.c, k.b] at this
  refine this.mono ?_
  rintro e w' ⟨rfl, hb⟩
  exact ⟨_, _, _, _, _, _, _, _, rfl, hb⟩
 have kc := fun (w : World) (C : Array Value) (n c : Nat) => Lib.run_convert_bytes_const (P := Try.prog) w 40 5 C n c Try.underlying40 Try.underlying5
 go_enter Try.func5, Try.ntmps5
 go_upto_region 5 with (first
  | (go_at_call 6; refine hN.mono ?_; rintro e w1 ⟨b, O1, rfl, D1, B1, L1⟩; replace D1 := hide D1; replace B1 := hide B1; replace L1 := hide L1)
  | (go_at_call 7; refine (hC.out _ _ _ D1.out B1.out L1.out).mono ?_; rintro e w2 ⟨p, sb, rfl, _, C2⟩; replace C2 := hide C2)
  | fail)
 have kc2 := kc (w2.alloc (.cells #[.int .u8 97] 5 (1, 2))) #[.int .u8 98, .int .u8 99] 2 2
 rw [show (w2.alloc (.cells #[.int .u8 97] 5 (1, 2))).heap.size = w2.heap.size + 1 by simp] at kc2
 have X1 := box_below w2 (.cells #[.int .u8 97] 5 (1, 2))
 have X2 := box_below (w2.alloc (.cells #[.int .u8 97] 5 (1, 2))) (.cells #[.int .u8 98, .int .u8 99] 5 (2, 3))
 have X3 := box_below ((w2.alloc (.cells #[.int .u8 97] 5 (1, 2))).alloc (.cells #[.int .u8 98, .int .u8 99] 5 (2, 3))) (.cells #[.slice (some ⟨w2.heap.size, 0, none⟩) 1 1, .slice (some ⟨w2.heap.size + 1, 0, none⟩) 2 2] 40)
 have S1 : Sl (w2.alloc (.cells #[.int .u8 97] 5 (1, 2))) (.slice (some ⟨w2.heap.size, 0, none⟩) 1 1) [97] := sl_lit_mark w2 [97] 5 (1, 2) (by decide) _ rfl
 have S2 : Sl ((w2.alloc (.cells #[.int .u8 97] 5 (1, 2))).alloc (.cells #[.int .u8 98, .int .u8 99] 5 (2, 3))) (.slice (some ⟨w2.heap.size + 1, 0, none⟩) 2 2) [98, 99] := by
  have := sl_lit_mark (w2.alloc (.cells #[.int .u8 97] 5 (1, 2))) [98, 99] 5 (2, 3) (by decide) _ rfl
  rw [show (w2.alloc (.cells #[.int .u8 97] 5 (1, 2))).heap.size = w2.heap.size + 1 by simp] at this
  exact this
 have R3 : Row (((w2.alloc (.cells #[.int .u8 97] 5 (1, 2))).alloc (.cells #[.int .u8 98, .int .u8 99] 5 (2, 3))).alloc (.cells #[.slice (some ⟨w2.heap.size, 0, none⟩) 1 1, .slice (some ⟨w2.heap.size + 1, 0, none⟩) 2 2] 40)) (.slice (some ⟨w2.heap.size + 1 + 1, 0, none⟩) 2 2) [.slice (some ⟨w2.heap.size, 0, none⟩) 1 1, .slice (some ⟨w2.heap.size + 1, 0, none⟩) 2 2] := by
  have := row_lit ((w2.alloc (.cells #[.int .u8 97] 5 (1, 2))).alloc (.cells #[.int .u8 98, .int .u8 99] 5 (2, 3))) [.slice (some ⟨w2.heap.size, 0, none⟩) 1 1, .slice (some ⟨w2.heap.size + 1, 0, none⟩) 2 2] 40 (by show 2 ≤ maxLen; decide)
  rw [show ((w2.alloc (.cells #[.int .u8 97] 5 (1, 2))).alloc (.cells #[.int .u8 98, .int .u8 99] 5 (2, 3))).heap.size = w2.heap.size + 1 + 1 by simp] at this
  exact this
 have T3 : Sls (((w2.alloc (.cells #[.int .u8 97] 5 (1, 2))).alloc (.cells #[.int .u8 98, .int .u8 99] 5 (2, 3))).alloc (.cells #[.slice (some ⟨w2.heap.size, 0, none⟩) 1 1, .slice (some ⟨w2.heap.size + 1, 0, none⟩) 2 2] 40)) [.slice (some ⟨w2.heap.size, 0, none⟩) 1 1, .slice (some ⟨w2.heap.size + 1, 0, none⟩) 2 2] [[97], [98, 99]] := ⟨rfl, fun i h h' => match i, h, h' with
  | 0, _, _ => Below.sl X3 (Below.sl X2 S1)
  | 1, _, _ => Below.sl X3 S2⟩
 have C3 := hide (((C2.out.below X1).below X2).below X3)
 replace R3 := hide R3
 replace T3 := hide T3
 clear X1 X2 X3 S1 S2 C2
 go_upto_region 6 with (first
  | (go_at_call 8; refine (hP.out _ _ _ _ _ _ C3.out R3.out T3.out).mono ?_; rintro e w4 ⟨rfl, s4, S4, C4, K4⟩; replace C4 := hide C4; replace K4 := hide K4)
  | fail)
 clear C3 R3 T3 kc2
 go_upto_region 7 with (first
  | (go_at_call 30; refine (hR.out _ _ _ _ _ C4.out K4.out).mono ?_; rintro e w5 ⟨vd, rfl, O5, B5⟩; obtain ⟨ra, rc, rfl, rr1, rr2⟩ := O5.form; have hst := hide (str2 O5); replace O5 := hide O5; replace rr1 := hide rr1; replace rr2 := hide rr2; have C5 := hide (C4.out.below B5); replace B5 := hide B5)
  | fail)
 have X6 := box_below w5 (.cells #[.int .i64 6, .slice ra 2 rc] 78)
 have N6 := heap_alloc_new w5 (.cells #[.int .i64 6, .slice ra 2 rc] 78)
 have C6 := hide (C5.out.below X6)
 have O6 := hide (Ob.below O5.out X6)
 obtain ⟨w6, hw6⟩ : ∃ w6, Hid (w5.alloc (.cells #[.int .i64 6, .slice ra 2 rc] 78) = w6) := ⟨_, rfl⟩
 rw [hw6.out] at N6 C6 O6
 obtain ⟨g6, hg6⟩ : ∃ g6, Hid (w5.heap.size = g6) := ⟨_, rfl⟩
 rw [hg6.out] at N6
 replace N6 := hide N6
 rw [hw6.out, hg6.out]
 clear X6 C5 O5 hst B5 hw6 C4
 go_upto_region 8 with (first
  | (go_at_call 9; refine (hL.out _ _ _ _ _ C6.out K4.out).mono ?_; rintro e w7 ⟨l0, l1, l2, l3, l6, l7, rfl, B7⟩; have C7 := hide (C6.out.below B7); have N7 := hide ((B7.block _ (heap_lt N6.out)).trans N6.out); have O7 := hide (Ob.below O6.out B7); clear B7)
  | fail)
 have X8 := box_below w7 (.cells #[.string l0, .int .i64 l1, .int .i64 l2, .int .u32 l3, .int .i64 7, .int .i64 67, .int .u32 l6, .bool l7] 37)
 have C8 := hide (C7.out.below X8)
 have N8 := (X8.block _ (heap_lt N7.out)).trans N7.out
 have hst := str2 (Ob.below O7.out X8)
 have x0 : (w7.alloc (.cells #[.string l0, .int .i64 l1, .int .i64 l2, .int .u32 l3, .int .i64 7, .int .i64 67, .int .u32 l6, .bool l7] 37)).cell? ⟨g6, 0, none⟩ = some (.int .i64 6) := by rw [cell_of N8]; rfl
 have x1 : (w7.alloc (.cells #[.string l0, .int .i64 l1, .int .i64 l2, .int .u32 l3, .int .i64 7, .int .i64 67, .int .u32 l6, .bool l7] 37)).cell? ⟨g6, 1, none⟩ = some (.slice ra 2 rc) := by rw [cell_of N8]; rfl
 clear X8 N8 C7 N7 O7 N6 O6 C6
 have hf7 : ∀ (q : World) (k0 k1 k2 k3 k4 k5 k6 k8 : Int), (Instr.field 51 (.agg #[.int .i64 k0, .int .i64 k1, .int .i64 k2, .int .i64 k3, .int .i64 k4, .int .i64 k5, .int .i64 k6, .int .i64 4, .int .i64 k8]) 7).run Try.prog q = .ok (.int .i64 4) q := fun q k0 k1 k2 k3 k4 k5 k6 k8 => by kernel_rfl
 go_wp2_with (first
  | (go_at_call 29; refine (hK.out _ _ _ _ _ C8.out K4.out).mono ?_; rintro e w9 ⟨k0, k1, k2, k3, k4, k5, k6, k8, rfl, B9⟩; have C9 := hide (C8.out.below B9); clear B9)
  | fail)
 go_ret
 exact ⟨rfl, C9.out.bel⟩
theorem nils_mem {k : Nat} {d : List UInt8} (h : d ∈ List.replicate k ([] : List UInt8)) : d.length ≤ 4096 := by
 rw [List.mem_replicate] at h
 rw [h.2]
 decide
theorem wk_nils {seed : Crc.R} {n : Int} {k : Nat} (h1 : 1 ≤ n) (h2 : n + (k : Int) ≤ 9223372036854775807) : ∀ i, i ≤ k → (wk seed n (List.replicate k []) i).1.length = 16 * i
 | 0, _ => rfl
 | i + 1, hi => by
  have ih := wk_nils (seed := seed) (n := n) (k := k) h1 h2 i (by omega)
  have hg : (List.replicate k ([] : List UInt8)).getD i [] = [] := by simp [List.getD, show i < k by omega]
  rw [wk_step (by simp; omega) h1 (by simpa using h2) fun d hd => nils_mem hd, hg]
  simp only [List.length_append, frm_len, ih]
  simp
  omega
structure Fu (s : SG) (S : DS) (m : Nat) (left i : Int) : Prop where
 ex : ∃ sd0 hd F c p, Clm s S sd0 hd (List.replicate m []) 65536 [] [.cr fileB p] F c p ∧ c ≤ 3 + i
 n : s.next = 9223372036854775807 - left
 m : (m : Int) + left ≤ 50
 l : 0 ≤ left
 f : s.file = fileB
theorem Fu.no {s : SG} {S : DS} {m : Nat} {left i : Int} (h : Fu s S m left i) (seed : Crc.R) {k : Nat} (h1 : 1 ≤ k) (hk : left < (k : Int)) : putF s S seed (List.replicate k []) = ((s, S), 0, 44) := by
 obtain ⟨sd0, hd, F, c, p, hc, _⟩ := h.ex
 have hn := h.n
 have hr : refF s (List.replicate k []) = 44 := by
  unfold refF
  rw [if_neg (by rw [hc.cd]; decide), if_neg (by cases k with | zero => omega | succ k => simp [List.replicate]), if_neg (by rintro ⟨d, d1, d2⟩; have := nils_mem d1; omega), if_pos (by rw [List.length_replicate]; omega)]
 unfold putF
 rw [hr, if_pos (by decide)]
theorem Fu.put {s : SG} {S : DS} {m : Nat} {left i : Int} (h : Fu s S m left i) {k : Nat} (h1 : 1 ≤ k) (hk : (k : Int) ≤ left) : ∃ seed : Crc.R, s.seed = (seed.toNat : Int) ∧ (putF s S seed (List.replicate k [])).2 = (9223372036854775807 - left, 0) ∧ Fu (putF s S seed (List.replicate k [])).1.1 (putF s S seed (List.replicate k [])).1.2 (m + k) (left - (k : Int)) (i + 1) := by
 obtain ⟨sd0, hd, F, c, p, hc, hci⟩ := h.ex
 have hn := h.n
 have hm := h.m
 have hcn := hc.co.n
 have hb1 := hc.co.b1
 rw [List.length_replicate] at hcn
 have hz := hc.co.z
 rw [List.length_replicate, wk_nils hb1 (by omega) m (Nat.le_refl _)] at hz
 have hby := hc.by_
 have hlen : (F p).by_.length = 32 + 16 * m := by
  rw [hby, List.length_append, hc.hh, List.length_replicate, wk_nils hb1 (by omega) m (Nat.le_refl _)]
 have q := hc.put (List.replicate k []) (by cases k with | zero => omega | succ k => simp [List.replicate]) (fun d hd => nils_mem hd) (by rw [List.length_replicate]; omega) (by rw [List.length_replicate]; omega) (by rw [List.length_replicate, List.length_replicate]; omega)
  (by rw [run_file, sum_one, hlen, List.length_replicate, List.length_replicate, wk_nils (by omega) (by omega) k (Nat.le_refl _)]; omega)
 refine ⟨_, hc.co.e, by rw [q.1, hn], ?_⟩
 obtain ⟨q1, q2, q3⟩ := q
 obtain ⟨g1, g2, g3, g4, g5, g6, g7⟩ := gk_b s (wk (wk sd0 s.base (List.replicate m []) (List.replicate m []).length).2.2 s.next (List.replicate k []) (List.replicate k []).length).2.1 (List.replicate k ([] : List UInt8)).length
 rw [List.replicate_append_replicate] at q3
 refine ⟨⟨sd0, hd, _, c + 1, p, q3, by omega⟩, ?_, by omega, by omega, ?_⟩
 ·rw [q2]
  show (gk s _ _).next = _
  rw [g7, List.length_replicate, hn]
  omega
 ·rw [q2]
  show (gk s _ _).file = _
  rw [g2, h.f]
theorem Fu.new (b p : Nat) (left : Int) (h0 : 0 ≤ left) (h1 : left ≤ 50) : (creF (DS.new 65536) fileB 1 (9223372036854775807 - left) 0#32 p).2 = 0 ∧ Fu (newSG b fileB 1 (9223372036854775807 - left) 0#32 (whF 1 (9223372036854775807 - left) 0#32).2.1) (creF (DS.new 65536) fileB 1 (9223372036854775807 - left) 0#32 p).1 0 left 0 := by
 obtain ⟨a1, a2⟩ := new_cre 65536 (by decide) 1 (9223372036854775807 - left) 0#32 (by decide) (by omega) (by omega) b p
 exact ⟨a1, ⟨⟨_, _, _, _, p, a2, by omega⟩, rfl, by omega, h0, rfl⟩⟩
theorem Fu.ok {s : SG} {S : DS} {m : Nat} {left i : Int} (h : Fu s S m left i) : SOk s ∧ 1 ≤ s.base ∧ s.cond = 0 ∧ s.size = 32 + 16 * (m : Int) ∧ s.sd.length ≤ m ∧ S.c7 ≤ 3 + i := by
 obtain ⟨sd0, hd, F, c, p, hc, hci⟩ := h.ex
 have hz := hc.co.z
 have hn := h.n
 have hm := h.m
 have hl := h.l
 have hcn := hc.co.n
 have hb1 := hc.co.b1
 rw [List.length_replicate] at hcn
 rw [List.length_replicate, wk_nils hb1 (by omega) m (Nat.le_refl _)] at hz
 refine ⟨hc.co.ok, hb1, hc.cd, by rw [hz]; omega, by have := hc.sl; rw [List.length_replicate] at this; exact this, by rw [hc.cm.c7]; exact hci⟩
theorem sls_nils (w : World) (k : Nat) : Sls w (List.replicate k (.slice none 0 0)) (List.replicate k []) := ⟨by simp, fun i h h' => by
 simp only [List.getElem_replicate]
 exact (Ob.nil 0 w).sl⟩
theorem cs_full {w q : World} {sb : Nat} {s : SG} {S : DS} {m : Nat} {left i : Int} (h : CS w q sb s S) (hF : Fu s S m left i) (hi : i ≤ 50) {k : Nat} (h1 : 1 ≤ k) (h2 : k ≤ 60) (vd : Value) (hr : Row q vd (List.replicate k (.slice none 0 0))) :
    Calls Try.prog 8 #[.pointer (some ⟨sb, 0, none⟩), vd] q fun e w' => e = .returned (.tuple (if left < (k : Int) then #[.int .i64 0, .int .i64 44] else #[.int .i64 (9223372036854775807 - left), .int .i64 0])) ∧ ∃ s' S' m', CS w w' sb s' S' ∧ Fu s' S' m' (if left < (k : Int) then left else left - (k : Int)) (i + 1) := by
 obtain ⟨o1, o2, o3, o4, o5, o6⟩ := hF.ok
 have hm := hF.m
 have hl := hF.l
 have L : (List.replicate k ([] : List UInt8)).length = k := List.length_replicate
 have run : ∀ seed : Crc.R, s.seed = (seed.toNat : Int) → Calls Try.prog 8 #[.pointer (some ⟨sb, 0, none⟩), vd] q fun e w' => e = .returned (.tuple #[.int .i64 (putF s S seed (List.replicate k [])).2.1, .int .i64 (putF s S seed (List.replicate k [])).2.2]) ∧ CS w w' sb (putF s S seed (List.replicate k [])).1.1 (putF s S seed (List.replicate k [])).1.2 := fun seed hs =>
  cs_put h o1 seed hs vd _ (List.replicate k []) hr (sls_nils q k) (by rw [L]; omega) (by rw [L, o4]; omega) (by rw [L]; omega) (by rw [hF.f]; decide) (by omega)
 by_cases hk : left < (k : Int)
 ·rw [if_pos hk, if_pos hk]
  obtain ⟨sd0, hd, F, c, p, hc, hci⟩ := hF.ex
  refine (run _ hc.co.e).mono ?_
  rintro e w' ⟨rfl, hS⟩
  rw [hF.no _ h1 hk] at hS ⊢
  exact ⟨rfl, s, S, m, hS, ⟨sd0, hd, F, c, p, hc, by omega⟩, hF.n, hF.m, hF.l, hF.f⟩
 ·rw [if_neg hk, if_neg hk]
  obtain ⟨seed, hs, e1, e2⟩ := hF.put h1 (by omega)
  refine (run seed hs).mono ?_
  rintro e w' ⟨rfl, hS⟩
  rw [e1]
  exact ⟨rfl, _, _, _, hS, e2⟩
theorem infoBs : (Try.prog.info? 40).map (fun i => (i.zero, i.size, i.bytes)) = some (some (.slice none 0 0), 1, 24) := by kernel_rfl
theorem make_nils (n : Nat) (hn : n ≤ 60) : ∃ C : Array Value, (∀ u : World, (Instr.makeSlice 35 (.int .i64 (n : Int)) (.int .i64 (n : Int))).run Try.prog u = .ok (.slice (some ⟨u.heap.size, 0, none⟩) n n) (u.alloc (.cells C 40))) ∧ ∀ u : World, Row (u.alloc (.cells C 40)) (.slice (some ⟨u.heap.size, 0, none⟩) n n) (List.replicate n (.slice none 0 0)) := by
 obtain ⟨i0, hi, hz0, hz1, hz2⟩ := info_parts infoBs
 refine ⟨madeCells #[.slice none 0 0] n, fun u => ?_, fun u => ?_⟩
 ·rw [run_make u 35 40 i0 (.slice none 0 0) Try.underlying35 hi hz0 .i64 .i64 (n : Int) (n : Int) (by omega) (by omega) (by rw [hz2]; omega) (by omega), hz1]
  simp only [Int.toNat_natCast, Nat.mul_one]
  rfl
 ·have hh := heap_alloc_new u (.cells (madeCells #[.slice none 0 0] n) 40)
  refine ⟨some ⟨u.heap.size, 0, none⟩, n, by simp, fun e => by simp at e, by simp, by unfold maxLen; omega, fun i hi => ⟨_, _, rfl, ?_⟩⟩
  rw [cell_of hh, ← Array.getElem?_toList, toList_madeCells_one]
  simp only [Nat.zero_add]
  exact List.getElem?_eq_getElem hi
def FuI (w wr : World) (sb : Nat) (l : Int) (i : Nat) : Prop := ∃ s S m, CS w wr sb s S ∧ Fu s S m l (i : Int)
theorem FuI.below {w wr q : World} {sb : Nat} {l : Int} {i : Nat} (h : FuI w wr sb l i) (hb : Below wr.heap.size wr q) : FuI w q sb l i := by
 obtain ⟨s, S, m, h1, h2⟩ := h
 exact ⟨s, S, m, h1.below hb, h2⟩
theorem FuI.bel {w wr : World} {sb : Nat} {l : Int} {i : Nat} (h : FuI w wr sb l i) : Below w.heap.size w wr := by
 obtain ⟨s, S, m, h1, h2⟩ := h
 exact h1.bel
theorem FuI.rng {w wr : World} {sb : Nat} {l : Int} {i : Nat} (h : FuI w wr sb l i) : 0 ≤ l ∧ l ≤ 50 := by
 obtain ⟨s, S, m, h1, h2⟩ := h
 have := h2.l
 have := h2.m
 omega
theorem FuI.up {w wr : World} {sb : Nat} {l : Int} {i : Nat} (h : FuI w wr sb l i) : FuI w wr sb l (i + 1) := by
 obtain ⟨s, S, m, h1, ⟨sd0, hd, F, c, p, hc, hci⟩, h3, h4, h5, h6⟩ := h
 exact ⟨s, S, m, h1, ⟨sd0, hd, F, c, p, hc, by omega⟩, h3, h4, h5, h6⟩
theorem FuI.put {w wr : World} {sb : Nat} {l : Int} {i : Nat} (h : FuI w wr sb l i) (hi : i ≤ 50) {k : Nat} (h1 : 1 ≤ k) (h2 : k ≤ 60) (vd : Value) (hr : Row wr vd (List.replicate k (.slice none 0 0))) :
    Calls Try.prog 8 #[.pointer (some ⟨sb, 0, none⟩), vd] wr fun e w' => e = .returned (.tuple (if l < (k : Int) then #[.int .i64 0, .int .i64 44] else #[.int .i64 (9223372036854775807 - l), .int .i64 0])) ∧ FuI w w' sb (if l < (k : Int) then l else l - (k : Int)) (i + 1) := by
 obtain ⟨s, S, m, a1, a2⟩ := h
 refine (cs_full a1 a2 (by omega) h1 h2 vd hr).mono ?_
 rintro e w' ⟨rfl, s', S', m', b1, b2⟩
 exact ⟨rfl, s', S', m', b1, b2⟩
theorem FuI.look {w wr : World} {sb : Nat} {l : Int} {i : Nat} (h : FuI w wr sb l i) : Calls Try.prog 9 #[.pointer (some ⟨sb, 0, none⟩)] wr fun e w' => ∃ l0 l1 l2 l3 l5 l6, e = .returned (.agg #[.string l0, .int .i64 l1, .int .i64 l2, .int .u32 l3, .int .i64 (9223372036854775807 - l), .int .i64 l5, .int .u32 l6, .bool false]) ∧ FuI w w' sb l i := by
 obtain ⟨s, S, m, a1, a2⟩ := h
 obtain ⟨o1, o2, o3, o4, o5, o6⟩ := a2.ok
 have := cs_look a1
 unfold SG.look at this
 rw [a2.n, o3] at this
 refine this.mono ?_
 rintro e w' ⟨rfl, hb⟩
 exact ⟨_, _, _, _, _, _, rfl, s, S, m, a1.below hb, a2⟩
theorem FuI.new {w q : World} {b : Nat} {O : Nat → Prop} (h : DskE q b (DS.new 65536) O) (hB : Below w.heap.size w q) (l1 : ∀ k, O k → w.heap.size ≤ k) (left : Int) (h0 : 0 ≤ left) (h1 : left ≤ 50) :
    Calls Try.prog 7 #[.pointer (some ⟨b, 0, none⟩), .string fileB, .agg #[.int .i64 1, .int .i64 (9223372036854775807 - left), .int .u32 0]] q fun e w' => ∃ sb, e = .returned (.tuple #[.pointer (some ⟨sb, 0, none⟩), .int .i64 0]) ∧ FuI w w' sb left 0 := by
 refine (cs_create h hB l1 fileB 1 (9223372036854775807 - left) 0#32 (by decide) (by decide) (by decide) (by decide) (by decide) (by omega) (by omega) fun p => (Fu.new b p left h0 h1).1).mono ?_
 rintro e w' ⟨p, sb, rfl, _, hC⟩
 exact ⟨sb, rfl, _, _, 0, hC, (Fu.new b p left h0 h1).2⟩
theorem ints_get {w : World} {ao : Option Addr} {us : List Int} {k : IntKind} (g5 : Proofs.Ytbmnjaaacodgdaa.At w ao (us.map (Value.int k))) : ∀ i (hi : i < us.length), ∃ b off, ao = some ⟨b, off, none⟩ ∧ w.cell? ⟨b, off + i, none⟩ = some (.int k us[i]) := fun i hi => by
 obtain ⟨b, off, e, hc⟩ := g5 i (by simpa using hi)
 exact ⟨b, off, e, by rw [hc]; simp⟩
theorem fld_next (u : World) (l0 : ByteArray) (l1 l2 l3 x l5 l6 : Int) : (Instr.field 37 (.agg #[.string l0, .int .i64 l1, .int .i64 l2, .int .u32 l3, .int .i64 x, .int .i64 l5, .int .u32 l6, .bool false]) 2).run Try.prog u = .ok (.int .i64 x) u := by kernel_rfl
theorem fld_broken (u : World) (l0 : ByteArray) (l1 l2 l3 x l5 l6 : Int) : (Instr.field 37 (.agg #[.string l0, .int .i64 l1, .int .i64 l2, .int .u32 l3, .int .i64 x, .int .i64 l5, .int .u32 l6, .bool false]) 5).run Try.prog u = .ok (.bool false) u := by kernel_rfl
theorem full_walk (w : World) (left : Int) (z : Value) (ns : List Int) (hz : Row w z (ns.map (Value.int .i64))) (hu : ∀ u ∈ ns, -9223372036854775808 ≤ u ∧ u ≤ 9223372036854775807) :
    Calls Try.prog 3 #[.int .i64 left, z] w fun e w' => e = .returned (.bool true) ∧ Below w.heap.size w w' := by
 obtain ⟨ao, ca, rfl, _, g3, g4, g5⟩ := hz
 have ham : ca ≤ 9223372036854775807 := by unfold maxLen at g4; omega
 have HU := hide hu
 have HZ := hide (ints_get g5)
 rw [List.length_map] at g3
 obtain ⟨N, hN⟩ : ∃ N, Hid (ns.length = N) := ⟨_, rfl⟩
 rw [List.length_map, hN.out]
 rw [hN.out] at g3
 clear g4 g5 hu
 have hB := hide (begun13_any w)
 have kf := fld_next
 have kb := fld_broken
 have hD : Hid (∀ q, _) := fun q => new_dsk q 65536 (by decide) (by decide)
 go_enter Try.func3, Try.ntmps3
 go_upto_region 3 with (first
  | (go_at_call 5; refine hB.out.mono ?_; rintro e w1 ⟨rfl, B1⟩; replace B1 := hide B1)
  | fail)
 by_cases hl0 : left < 0
 ·go_wp2_with fail
  go_ret
  exact ⟨rfl, B1.out⟩
 by_cases hl1 : 50 < left
 ·go_wp2_with fail
  go_ret
  exact ⟨rfl, B1.out⟩
 have hw : IntKind.i64.wrap (9223372036854775807 - left) = 9223372036854775807 - left := by rw [IntKind.wrap_i64]; omega
 go_upto_region 6 with (first
  | (go_at_call 6; refine (hD.out _).mono ?_; rintro e w2 ⟨b, O2, rfl, D2, B2, L2⟩; have E2 := hide (bs2 B1.out B2); have L2' : Hid (∀ k, O2 k → w.heap.size ≤ k) := fun k hk => Nat.le_trans B1.out.size (L2 k hk); replace D2 := hide D2; clear B2 L2)
  | fail)
 have hC : Hid (Calls Try.prog 7 #[.pointer (some ⟨b, 0, none⟩), .string ⟨#[115, 101, 103, 45, 48, 48, 48, 48, 48, 48, 48, 48, 48, 48, 48, 48, 48, 48, 48, 49, 46, 108, 111, 103]⟩, .agg #[.int .i64 1, .int .i64 (9223372036854775807 - left), .int .u32 0]] w2 fun e w' => ∃ sb, e = .returned (.tuple #[.pointer (some ⟨sb, 0, none⟩), .int .i64 0]) ∧ FuI w w' sb left 0) := FuI.new D2.out E2.out L2'.out left (by omega) (by omega)
 go_upto_region 9 with (first
  | (go_at_call 7; refine hC.out.mono ?_; rintro e w3 ⟨sb, rfl, F3⟩; replace F3 := hide F3)
  | fail)
 clear hC D2 E2 L2' B1 hw hl0 hl1
 go_wp2_with fail
 go_loopg [0, 8] N (fun kx v0 v8 wr => ∃ (i : Nat) (l : Int), i ≤ N ∧ i ≤ 50 ∧ N - i ≤ kx ∧ v0 = .int .i64 l ∧ v8 = .int .i64 (i : Int) ∧ Hid (FuI w wr sb l i))
 case atStart => exact ⟨0, left, Nat.zero_le _, by omega, Nat.le_refl _, rfl, rfl, F3.out⟩
 case round =>
  clear F3
  obtain ⟨i, l, hi, hi50, hkx, rfl, rfl, hF⟩ := hrel
  obtain ⟨hr0, hr1⟩ := hF.out.rng
  have hwl : IntKind.i64.wrap (9223372036854775807 - l) = 9223372036854775807 - l := by rw [IntKind.wrap_i64]; omega
  have hL : Hid (∀ q, FuI w q sb l i → Calls Try.prog 9 #[.pointer (some ⟨sb, 0, none⟩)] q fun e w' => ∃ l0 l1 l2 l3 l5 l6, e = .returned (.agg #[.string l0, .int .i64 l1, .int .i64 l2, .int .u32 l3, .int .i64 (9223372036854775807 - l), .int .i64 l5, .int .u32 l6, .bool false]) ∧ FuI w w' sb l i) := fun q h => h.look
  by_cases hlt : ¬ i < N
  ·obtain rfl : i = N := by omega
   have hng : ¬ ((i : Int) < (i : Int)) := by omega
   clear hi hi50 hkx g3 ham
   go_wp2_with (first
    | (go_at_call 9; refine (hL.out _ F5.out).mono ?_; rintro e w6 ⟨l0', l1', l2', l3', l5', l6', rfl, F6⟩; replace F6 := hide F6)
    | (go_at_call 9; refine (hL.out _ hF.out).mono ?_; rintro e w5 ⟨l0, l1, l2, l3, l5, l6, rfl, F5⟩; replace F5 := hide F5)
    | fail)
   go_ret
   exact ⟨by first | rfl | simp, F6.out.bel⟩
  have hlt' : (i : Int) < (N : Int) := by omega
  by_cases h50 : ¬ i < 50
  ·have hng : ¬ ((i : Int) < 50) := by omega
   clear hi hi50 hkx g3 ham
   go_wp2_with (first
    | (go_at_call 9; refine (hL.out _ F5.out).mono ?_; rintro e w6 ⟨l0', l1', l2', l3', l5', l6', rfl, F6⟩; replace F6 := hide F6)
    | (go_at_call 9; refine (hL.out _ hF.out).mono ?_; rintro e w5 ⟨l0, l1, l2, l3, l5, l6, rfl, F5⟩; replace F5 := hide F5)
    | fail)
   go_ret
   exact ⟨by first | rfl | simp, F6.out.bel⟩
  have h50' : (i : Int) < 50 := by omega
  clear hL
  obtain ⟨qb, qo, rfl, q00⟩ := HZ.out i (by rw [hN.out]; omega)
  have hux := HU.out _ (List.getElem_mem (show i < ns.length by rw [hN.out]; omega))
  generalize ns[i]'(by rw [hN.out]; omega) = x at *
  have q0 := (hF.out.bel.cell (lt_of_cell q00)).trans q00
  replace q00 := hide q00
  have i2 : (0 : Int) ≤ (i : Int) := by omega
  by_cases hx1 : x < 1
  ·go_wp2_with fail
   go_roundg (N - (i + 1))
   case measure => omega
   case rel => exact ⟨i + 1, l, by omega, by omega, Nat.le_refl _, rfl, by go_num, hF.out.up⟩
  by_cases hx2 : 60 < x
  ·go_wp2_with fail
   go_roundg (N - (i + 1))
   case measure => omega
   case rel => exact ⟨i + 1, l, by omega, by omega, Nat.le_refl _, rfl, by go_num, hF.out.up⟩
  obtain ⟨k, rfl⟩ : ∃ k : Nat, x = (k : Int) := ⟨x.toNat, by omega⟩
  obtain ⟨C, hmk, hrow⟩ := make_nils k (by omega)
  have X4 := box_below wr (.cells C 40)
  have hP := FuI.put (hF.out.below X4) hi50 (k := k) (by omega) (by omega) _ (hrow wr)
  clear hrow
  by_cases hlk : l < (k : Int)
  ·rw [if_pos hlk, if_pos hlk] at hP
   replace hP := hide hP
   clear X4
   go_wp2_with (first
    | (go_at_call 8; refine hP.out.mono ?_; rintro e w4 ⟨rfl, F4⟩; have q4 := (F4.bel.cell (lt_of_cell q00.out)).trans q00.out; replace F4 := hide F4)
    | fail)
   go_roundg (N - (i + 1))
   case measure => omega
   case rel => exact ⟨i + 1, l, by omega, by omega, Nat.le_refl _, rfl, by go_num, F4.out⟩
  ·rw [if_neg hlk, if_neg hlk] at hP
   replace hP := hide hP
   have hwk : IntKind.i64.wrap (l - (k : Int)) = l - (k : Int) := by rw [IntKind.wrap_i64]; omega
   clear X4
   go_wp2_with (first
    | (go_at_call 8; refine hP.out.mono ?_; rintro e w4 ⟨rfl, F4⟩; have q4 := (F4.bel.cell (lt_of_cell q00.out)).trans q00.out; replace F4 := hide F4)
    | fail)
   go_roundg (N - (i + 1))
   case measure => omega
   case rel => exact ⟨i + 1, l - (k : Int), by omega, by omega, Nat.le_refl _, by first | rfl | go_num, by go_num, F4.out⟩
end Go.Proofs.Ytbmnjaaacodgdaa.Sg
