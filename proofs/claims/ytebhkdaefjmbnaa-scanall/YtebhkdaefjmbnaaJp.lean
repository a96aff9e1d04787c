/-
  The scan of frames that were written one behind the other, of a front, of a rest: by the bytes.
-/
import Derived.Test.YtebhkdaefjmbnaaFq7
import Derived.Test.YtebhkdaefjmbnaaJc
namespace Go.Proofs.Ytebhkdaefjmbnaa
open Go.RowKit
set_option linter.unusedVariables false

theorem isK_ge {L : List UInt8} {x : Sc} {K m : Nat} (h : IsK L x K) (hg : Good L x m) : m ≤ K := by
  refine Classical.byContradiction fun hn => ?_
  exact h.2 (hg K (by omega))
theorem st_mono {L : List UInt8} {x : Sc} {K m : Nat} (h : Good L x K) (hm : m ≤ K) : (Sst L x m).e ≤ (Sst L x K).e := by
  induction K with
  | zero => rw [show m = 0 by omega]; exact Nat.le_refl _
  | succ K ih =>
    by_cases e : m = K + 1
    · rw [e]; exact Nat.le_refl _
    · have h1 := ih (fun j hj => h j (by omega)) (by omega)
      obtain ⟨_, _, _, _, _, _, g, _⟩ := why_zero (h K (by omega))
      show _ ≤ (nxt L (Sst L x K)).e
      omega
/-- Where a scan's state reads a frame. -/
theorem why_frm {L : List UInt8} {x : Sc} {d r : List UInt8} (he : x.e ≤ L.length) (h1 : 1 ≤ x.n) (h2 : x.n ≤ 9223372036854775806) (hd : d.length ≤ 4096) (hl : L.drop x.e = frm x.s x.n d ++ r) :
    whyS L x = 0 ∧ nxt L x = ⟨x.c + 1, x.e + 16 + d.length, x.n + 1, fsum x.s x.n d⟩ ∧ dat L x = d := by
  have hr := rd_back x.s x.n d r h1 h2 hd
  have hlen : 16 ≤ (L.drop x.e).length := by rw [hl, List.length_append, frm_len]; omega
  rw [List.length_drop] at hlen
  refine ⟨?_, ?_, ?_⟩
  · rw [whyS, if_neg (by omega), hl, hr]; simp
  · rw [nxt, hl, hr]; simp; omega
  · rw [dat, hl, hr]
theorem chain_st (s : Crc.R) (b : Nat) (ds : List (List UInt8)) (r : List UInt8) (h1 : 1 ≤ b) (h2 : b + ds.length ≤ 9223372036854775807) (hd : ∀ d ∈ ds, d.length ≤ 4096) :
    ∀ j, j ≤ ds.length → Good ((chn s b ds).1 ++ r) ⟨0, 0, b, s⟩ j ∧ Sst ((chn s b ds).1 ++ r) ⟨0, 0, b, s⟩ j = ⟨j, (chn s b (ds.take j)).1.length, b + j, (chn s b (ds.take j)).2⟩ := by
  intro j
  induction j with
  | zero => intro _; exact ⟨fun j hj => by omega, by simp [Sst, chn]⟩
  | succ j ih =>
    intro hj
    obtain ⟨g, e⟩ := ih (by omega)
    have hdr := chn_drop s b ds j (by omega)
    have hdj : ds[j].length ≤ 4096 := hd _ (List.getElem_mem _)
    have hl : ((chn s b ds).1 ++ r).drop (chn s b (ds.take j)).1.length = frm (chn s b (ds.take j)).2 (b + j) ds[j] ++ ((chn (fsum (chn s b (ds.take j)).2 (b + j) ds[j]) (b + j + 1) (ds.drop (j + 1))).1 ++ r) := by
      rw [hdr, List.append_assoc, List.drop_left, List.append_assoc]
    obtain ⟨w0, w1, w2⟩ := why_frm (L := (chn s b ds).1 ++ r) (x := ⟨j, (chn s b (ds.take j)).1.length, b + j, (chn s b (ds.take j)).2⟩) (by rw [hdr]; simp) (by show 1 ≤ b + j; omega) (by show b + j ≤ _; omega) hdj hl
    refine ⟨good_next g (by rw [e]; exact w0), ?_⟩
    show nxt _ (Sst _ _ j) = _
    rw [e, w1]
    rw [chn_snoc s b ds j (by omega)]
    simp [frm_len]
    omega
theorem chain_isK (s : Crc.R) (b : Nat) (ds : List (List UInt8)) (h1 : 1 ≤ b) (h2 : b + ds.length ≤ 9223372036854775807) (hd : ∀ d ∈ ds, d.length ≤ 4096) :
    IsK (chn s b ds).1 ⟨0, 0, b, s⟩ ds.length ∧ Sst (chn s b ds).1 ⟨0, 0, b, s⟩ ds.length = ⟨ds.length, (chn s b ds).1.length, b + ds.length, (chn s b ds).2⟩ ∧ whyS (chn s b ds).1 (Sst (chn s b ds).1 ⟨0, 0, b, s⟩ ds.length) = 1 := by
  have h := chain_st s b ds [] h1 h2 hd ds.length (Nat.le_refl _)
  rw [List.append_nil, List.take_length] at h
  have hw : whyS (chn s b ds).1 (Sst (chn s b ds).1 ⟨0, 0, b, s⟩ ds.length) = 1 := by rw [h.2, whyS, if_pos (Nat.le_refl _)]
  exact ⟨⟨h.1, by rw [hw]; omega⟩, h.2, hw⟩

/-- A frame that was read stands at the front. -/
theorem rd_front {s : Crc.R} {l : List UInt8} (h : (rdF s l).2.2.2.2 = 0) (m : Nat) (hm : 16 + (rdF s l).2.1.length ≤ m) : rdF s (l.take m) = rdF s l := by
  obtain ⟨a1, a2, a3, a4, a5, a6, a7, a8⟩ := wr_back h
  have hd : (rdF s l).2.1.length = fN l := by rw [a2]; exact a6
  have e1 : (l.take m) = frm s (fL l) (fD l) ++ (l.take m).drop (16 + fN l) := by
    rw [a8, show l.take (16 + fN l) = (l.take m).take (16 + fN l) by rw [List.take_take, Nat.min_eq_left (by omega)], List.take_append_drop]
  have e2 := rd_back s (fL l) (fD l) ((l.take m).drop (16 + fN l)) a4 a5 (by omega)
  rw [← e1] at e2
  rw [e2, a2, a6]
/-- A frame that is cut short. -/
theorem rd_part (s : Crc.R) (lsn : Nat) (d r : List UInt8) (m : Nat) (h1 : 1 ≤ lsn) (h2 : lsn ≤ 9223372036854775806) (hd : d.length ≤ 4096) (hm : m < 16 + d.length) : (rdF s ((frm s lsn d ++ r).take m)).2.2.2.2 = 2 := by
  have key : rdE s ((frm s lsn d ++ r).take m) = 2 := by
    have hlen : ((frm s lsn d ++ r).take m).length = m := by rw [List.length_take, List.length_append, frm_len]; omega
    unfold rdE
    by_cases h16 : m < 16
    · rw [if_pos (by rw [hlen]; exact h16)]
    · have hr := rd_back s lsn d r h1 h2 hd
      obtain ⟨b1, b2, b3, b4, b5, b6, b7, b8⟩ := wr_back (show (rdF s (frm s lsn d ++ r)).2.2.2.2 = 0 by rw [hr])
      rw [hr] at b2
      have f1 : fN ((frm s lsn d ++ r).take m) = fN (frm s lsn d ++ r) := by unfold fN; rw [List.take_take, Nat.min_eq_left (by omega)]
      have f2 : fL ((frm s lsn d ++ r).take m) = fL (frm s lsn d ++ r) := by unfold fL; rw [List.drop_take, List.take_take, Nat.min_eq_left (by omega)]
      have f3 : fN (frm s lsn d ++ r) = d.length := by
        have := congrArg (fun t => t.2.2.1) b2
        simp at this; omega
      rw [if_neg (by rw [hlen]; exact h16), f1, f2, if_neg (by omega), if_neg (by omega), if_pos (by rw [hlen]; omega)]
  rw [rdF, if_neg (by rw [key]; omega)]
  exact key
/-- A scan's states depend on the front alone. -/
theorem st_take {L : List UInt8} {x : Sc} (cut : Nat) : ∀ j, Good L x j → (Sst L x j).e ≤ cut → x.e ≤ L.length → Good (L.take cut) x j ∧ Sst (L.take cut) x j = Sst L x j ∧ (∀ i, i < j → dat (L.take cut) (Sst L x i) = dat L (Sst L x i)) := by
  intro j
  induction j with
  | zero => intro _ _ _; exact ⟨fun i hi => by omega, rfl, fun i hi => by omega⟩
  | succ j ih =>
    intro hg hc he
    have hgj : Good L x j := fun i hi => hg i (by omega)
    have hw := hg j (by omega)
    obtain ⟨y1, y2, y3, y4, y5, y6, y7, y8, y9, y10⟩ := why_zero hw
    have hle : (Sst L x j).e ≤ cut := Nat.le_trans (by show _ ≤ (nxt L (Sst L x j)).e; omega) hc
    obtain ⟨g, e, hdat⟩ := ih hgj hle he
    have hc' : (nxt L (Sst L x j)).e ≤ cut := hc
    have hrd : rdF (Sst L x j).s ((L.take cut).drop (Sst L x j).e) = rdF (Sst L x j).s (L.drop (Sst L x j).e) := by
      rw [List.drop_take]
      exact rd_front y2 _ (by have : (rdF (Sst L x j).s (L.drop (Sst L x j).e)).2.1 = dat L (Sst L x j) := rfl
                              rw [this]; omega)
    have hw' : whyS (L.take cut) (Sst (L.take cut) x j) = 0 := by
      rw [e, whyS, if_neg (by rw [List.length_take]; omega), hrd, y2, y3]; simp
    refine ⟨good_next g hw', ?_, fun i hi => ?_⟩
    · show nxt _ (Sst _ _ j) = nxt _ (Sst _ _ j)
      rw [e, nxt, nxt, hrd]
    · by_cases e2 : i = j
      · rw [e2, dat, dat, hrd]
      · exact hdat i (by omega)
theorem front_isK {L : List UInt8} {x : Sc} {K : Nat} (h : IsK L x K) (he : x.e ≤ L.length) : IsK (L.take (Sst L x K).e) x K ∧ Sst (L.take (Sst L x K).e) x K = Sst L x K ∧ whyS (L.take (Sst L x K).e) (Sst (L.take (Sst L x K).e) x K) = 1 := by
  obtain ⟨g, e, -⟩ := st_take (Sst L x K).e K h.1 (Nat.le_refl _) he
  have hw : whyS (L.take (Sst L x K).e) (Sst (L.take (Sst L x K).e) x K) = 1 := by
    rw [e, whyS, if_pos (by rw [List.length_take]; omega)]
  exact ⟨⟨g, by rw [hw]; omega⟩, e, hw⟩
theorem rest_why (L : List UInt8) (x : Sc) (he : x.e ≤ L.length) : whyS (L.drop x.e) ⟨0, 0, x.n, x.s⟩ = whyS L x := by
  unfold whyS
  simp only [List.drop_zero, List.length_drop]
  by_cases h : L.length ≤ x.e
  · rw [if_pos h, if_pos (by omega)]
  · rw [if_neg h, if_neg (by omega)]
theorem rest_isK {L : List UInt8} {x : Sc} {K : Nat} (h : IsK L x K) (he : x.e ≤ L.length) : IsK (L.drop (Sst L x K).e) ⟨0, 0, (Sst L x K).n, (Sst L x K).s⟩ 0 := by
  refine ⟨fun j hj => by omega, ?_⟩
  show whyS _ ⟨0, 0, _, _⟩ ≠ 0
  rw [rest_why L (Sst L x K) (good_e h.1 he).1]
  exact h.2
/-- A cut of frames that were written one behind the other. -/
theorem cut_isK (s : Crc.R) (b : Nat) (ds : List (List UInt8)) (h1 : 1 ≤ b) (h2 : b + ds.length ≤ 9223372036854775807) (hd : ∀ d ∈ ds, d.length ≤ 4096) (cut n : Nat) (hn : n ≤ ds.length) (hc : (chn s b (ds.take n)).1.length ≤ cut)
    (hx : ∀ h : n < ds.length, cut < (chn s b (ds.take (n + 1))).1.length) (hcl : cut ≤ (chn s b ds).1.length) :
    IsK ((chn s b ds).1.take cut) ⟨0, 0, b, s⟩ n ∧ Sst ((chn s b ds).1.take cut) ⟨0, 0, b, s⟩ n = ⟨n, (chn s b (ds.take n)).1.length, b + n, (chn s b (ds.take n)).2⟩ ∧ (whyS ((chn s b ds).1.take cut) (Sst ((chn s b ds).1.take cut) ⟨0, 0, b, s⟩ n) = 1 ↔ cut = (chn s b (ds.take n)).1.length) := by
  have hs := chain_st s b ds [] h1 h2 hd n hn
  rw [List.append_nil] at hs
  obtain ⟨g, e, -⟩ := st_take (L := (chn s b ds).1) cut n hs.1 (by rw [hs.2]; exact hc) (Nat.zero_le _)
  rw [hs.2] at e
  have hlen : ((chn s b ds).1.take cut).length = cut := by rw [List.length_take]; omega
  by_cases hcn : cut = (chn s b (ds.take n)).1.length
  · have hw : whyS ((chn s b ds).1.take cut) (Sst ((chn s b ds).1.take cut) ⟨0, 0, b, s⟩ n) = 1 := by
      rw [e, whyS, if_pos (by rw [hlen, ← hcn]; exact Nat.le_refl _)]
    exact ⟨⟨g, by rw [hw]; omega⟩, e, fun _ => hcn, fun _ => hw⟩
  · have hnl : n < ds.length := by
      refine Classical.byContradiction fun h => hcn ?_
      have : n = ds.length := by omega
      rw [this, List.take_length] at hc ⊢
      omega
    have hcut := hx hnl
    rw [chn_snoc s b ds n hnl, List.length_append, frm_len] at hcut
    have hdr := chn_drop s b ds n hnl
    have hdn : ds[n].length ≤ 4096 := hd _ (List.getElem_mem _)
    have hl : ((chn s b ds).1.take cut).drop (chn s b (ds.take n)).1.length = (frm (chn s b (ds.take n)).2 (b + n) ds[n] ++ (chn (fsum (chn s b (ds.take n)).2 (b + n) ds[n]) (b + n + 1) (ds.drop (n + 1))).1).take (cut - (chn s b (ds.take n)).1.length) := by
      rw [List.drop_take, hdr, List.drop_left]
    have hrp := rd_part (chn s b (ds.take n)).2 (b + n) ds[n] (chn (fsum (chn s b (ds.take n)).2 (b + n) ds[n]) (b + n + 1) (ds.drop (n + 1))).1 (cut - (chn s b (ds.take n)).1.length) (by omega) (by omega) hdn (by omega)
    have hw : whyS ((chn s b ds).1.take cut) (Sst ((chn s b ds).1.take cut) ⟨0, 0, b, s⟩ n) = 2 := by
      rw [e, whyS, if_neg (by rw [hlen]; show ¬ cut ≤ (chn s b (ds.take n)).1.length; omega)]
      show (if (rdF (chn s b (ds.take n)).2 (((chn s b ds).1.take cut).drop (chn s b (ds.take n)).1.length)).2.2.2.2 ≠ 0 then (rdF (chn s b (ds.take n)).2 (((chn s b ds).1.take cut).drop (chn s b (ds.take n)).1.length)).2.2.2.2 else _) = 2
      rw [hl, hrp]; simp
    exact ⟨⟨g, by rw [hw]; omega⟩, e, fun h => by rw [hw] at h; omega, fun h => absurd h hcn⟩

end Go.Proofs.Ytebhkdaefjmbnaa
