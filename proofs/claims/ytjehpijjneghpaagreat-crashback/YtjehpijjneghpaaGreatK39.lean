/-
  Lists of files, compared: one list, twice in memory.
-/
import Derived.Test.YtjehpijjneghpaaGreatK33
import Derived.Test.YtjehpijjneghpaaGreatK26
import Derived.Test.YtjehpijjneghpaaGreatK11
import Derived.Test.YtjehpijjneghpaaGreatK32
import Derived.Test.YtjehpijjneghpaaGreatK35
import Derived.Test.YtjehpijjneghpaaGreatK17
import Derived.Test.YtjehpijjneghpaaGreatK38
import Derived.Test.YtjehpijjneghpaaGreatK27
import Derived.Test.YtjehpijjneghpaaGreatK30
import Derived.BigQuiet
namespace Go.Proofs.YtjehpijjneghpaaGreat.Re
open Go.RowKit Go.Maps Go.Sort Go.Shelf Go.Proofs.YtjehpijjneghpaaGreat.Nm Go.Proofs.YtjehpijjneghpaaGreat.Dk
set_option linter.unusedVariables false
theorem eqT (w : World) (x y : Value) (l : List UInt8) (hx : Sl w x l) (hy : Sl w y l) : Calls Tryz.prog 21 #[x, y] w fun e w' => e = .returned (.bool true) ∧ Qt w w' := by
  obtain ⟨ao, ca, rfl, g2, g3, g4, g5⟩ := hx
  obtain ⟨bo, cb, rfl, k2, k3, k4, k5⟩ := hy
  refine (eq_any w ao bo l l ca cb (by omega) (by omega) g5 k5).mono ?_
  rintro e w' ⟨rfl, q⟩
  exact ⟨by simp, q⟩
def Fr (w : World) (v : Value) (L : Fil2) : Prop := ∃ ao ca, v = .slice ao L.length ca ∧ L.length ≤ ca ∧ ca ≤ 9223372036854775807 ∧ ∀ i (h : i < L.length), ∃ b off vj, ao = some ⟨b, off, none⟩ ∧ w.cell? ⟨b, off + i * 2, none⟩ = some (.string (bsOf L[i].1)) ∧ w.cell? ⟨b, off + i * 2 + 1, none⟩ = some vj ∧ Sl w vj L[i].2
theorem ficells_at : ∀ (L : Fil2) (vs : List Value), vs.length = L.length → ∀ i l u, L[i]? = some l → vs[i]? = some u → (Dk.fcells L vs)[i * 2]? = some (encStr l.1) ∧ (Dk.fcells L vs)[i * 2 + 1]? = some u
  | [], [], _, i, k, u, h, _ => by simp at h
  | a :: r, b :: s, h, i, k, u, h1, h2 => by
    cases i with
    | zero => simp at h1 h2; subst h1 h2; exact ⟨rfl, rfl⟩
    | succ i =>
      have := ficells_at r s (by simpa using h) i k u (by simpa using h1) (by simpa using h2)
      rw [show (i + 1) * 2 = i * 2 + 1 + 1 by omega]
      simpa [Dk.fcells] using this
  | [], _ :: _, h, _, _, _, _, _ => by simp at h
  | _ :: _, [], h, _, _, _, _, _ => by simp at h
theorem fr_of {B : Nat} {w : World} {v : Value} {L : Fil2} {vs : List Value} (h : FlI B w v L vs) : Fr w v L := by
  rcases id h.row with ⟨h0, ⟨e, hz⟩ | ⟨g, cap, cur, e, hB, hc, h1, h2, h3, h4⟩⟩
  · exact ⟨none, 0, by rw [hz]; exact e, by omega, by omega, fun i hi => by omega⟩
  · refine ⟨some ⟨g, 0, none⟩, cap, e, h1, by unfold maxLen at h2; omega, fun i hi => ?_⟩
    have hv : i < vs.length := by rw [h.len]; exact hi
    have q := ficells_at L vs h.len i L[i] vs[i] (List.getElem?_eq_getElem hi) (List.getElem?_eq_getElem hv)
    have ce := World.ownsRow.cells h.row (g := g) (by rw [e]; rfl)
    have c1 := ce _ _ q.1
    have c2 := ce _ _ q.2
    rw [addr_add] at c1 c2
    exact ⟨g, 0, vs[i], rfl, c1, c2, (h.ob i _ _ (List.getElem?_eq_getElem hv) (List.getElem?_eq_getElem hi)).sl⟩
theorem Fr.below {w w' : World} {v : Value} {L : Fil2} (h : Fr w v L) (hb : Below w.heap.size w w') : Fr w' v L := by
  obtain ⟨ao, ca, e, h1, h2, h3⟩ := h
  refine ⟨ao, ca, e, h1, h2, fun i hi => ?_⟩
  obtain ⟨b, off, vj, e1, c1, c2, s⟩ := h3 i hi
  exact ⟨b, off, vj, e1, by rw [hb.cell (lt_of_cell c1)]; exact c1, by rw [hb.cell (lt_of_cell c2)]; exact c2, Below.sl hb s⟩
set_option maxRecDepth 100000 in
set_option maxHeartbeats 1000000 in
theorem files_eq (w : World) (va vb : Value) (L : Fil2) (ha : Fr w va L) (hb : Fr w vb L) :
    Calls Tryz.prog 42 #[va, vb] w fun e w' => e = .returned (.bool true) ∧ Below w.heap.size w w' := by
  obtain ⟨aa, ac, rfl, a1, a2, a3⟩ := ha
  obtain ⟨ba, bc, rfl, b1, b2, b3⟩ := hb
  obtain ⟨N, hN⟩ : ∃ N, Hid (L.length = N) := ⟨_, rfl⟩
  rw [hN.out] at a1 b1 ⊢
  replace a3 := hide a3
  replace b3 := hide b3
  go_enter Tryz.func42, Tryz.ntmps42
  go_wp2_with fail
  go_loopw [5] (fun i wr => ∃ k : Nat, i = .int .i64 k ∧ k ≤ N ∧ Hid (Below w.heap.size w wr)) (fun i _ => N - (intOf i).toNat)
  case atStart => exact ⟨0, rfl, Nat.zero_le _, Below.refl _ _⟩
  case round =>
    obtain ⟨k, rfl, hk, hB⟩ := hrel
    by_cases hlt : k < N
    · have i1 : (k : Int) < (N : Int) := by omega
      have hkl : k < L.length := by rw [hN.out]; exact hlt
      obtain ⟨ga, oa, vx, rfl, x0, x1, sx⟩ := a3.out k hkl
      obtain ⟨gb, ob, vy, rfl, y0, y1, sy⟩ := b3.out k hkl
      rw [← hB.out.cell (p := ⟨ga, oa + k * 2, none⟩) (lt_of_cell x0)] at x0
      rw [← hB.out.cell (p := ⟨ga, oa + k * 2 + 1, none⟩) (lt_of_cell x1)] at x1
      rw [← hB.out.cell (p := ⟨gb, ob + k * 2, none⟩) (lt_of_cell y0)] at y0
      rw [← hB.out.cell (p := ⟨gb, ob + k * 2 + 1, none⟩) (lt_of_cell y1)] at y1
      have SX := hide (Below.sl hB.out sx)
      have SY := hide (Below.sl hB.out sy)
      clear sx sy
      obtain ⟨_, _, rfl, _⟩ := id SX.out
      obtain ⟨_, _, rfl, _⟩ := id SY.out
      generalize bsOf L[k].1 = t at *
      generalize L[k].2 = D at *
      go_wp2_with fail
      go_quiet ((go_at_call 21; exact Calls.quiet_of (eqT _ _ _ D (Qt.sl ⟨_, rfl⟩ SX.out) (Qt.sl ⟨_, rfl⟩ SY.out))))
      have B3 : Hid (Below w.heap.size w (wr.drewN nq)) := hB.out.trans ((Qt.below ⟨nq, rfl⟩ _).mono hB.out.size)
      generalize wr.drewN nq = wy at *
      go_wp2_with fail
      go_roundw
      case rel => exact ⟨k + 1, by go_num, by omega, B3⟩
      case measure => simp [intOf]; omega
    · have i1 : ¬ ((k : Int) < (N : Int)) := by omega
      go_wp2_with fail
      go_ret
      exact ⟨rfl, hB.out⟩
end Go.Proofs.YtjehpijjneghpaaGreat.Re
namespace Go.Proofs.YtjehpijjneghpaaGreat.Re
open Go.RowKit Go.Maps Go.Sort Go.Shelf Go.Proofs.YtjehpijjneghpaaGreat.Nm Go.Proofs.YtjehpijjneghpaaGreat.Dk
set_option linter.unusedVariables false
def Nr (w : World) (v : Value) (L : List (List UInt8)) : Prop := ∃ ao ca, v = .slice ao L.length ca ∧ L.length ≤ ca ∧ ca ≤ 9223372036854775807 ∧ ∀ i (h : i < L.length), ∃ b off, ao = some ⟨b, off, none⟩ ∧ w.cell? ⟨b, off + i, none⟩ = some (.string (bsOf L[i]))
theorem Nr.below {w w' : World} {v : Value} {L : List (List UInt8)} (h : Nr w v L) (hb : Below w.heap.size w w') : Nr w' v L := by
  obtain ⟨ao, ca, e, h1, h2, h3⟩ := h
  refine ⟨ao, ca, e, h1, h2, fun i hi => ?_⟩
  obtain ⟨b, off, e1, c1⟩ := h3 i hi
  exact ⟨b, off, e1, by rw [hb.cell (lt_of_cell c1)]; exact c1⟩
end Go.Proofs.YtjehpijjneghpaaGreat.Re
namespace Go.Proofs.YtjehpijjneghpaaGreat.Re
open Go.RowKit Go.Maps Go.Sort Go.Shelf Go.Proofs.YtjehpijjneghpaaGreat.Nm Go.Proofs.YtjehpijjneghpaaGreat.Dk
open Ix (wp_region_T wpAnyT wpAnyT_take wpAnyT_one wpAnyT_done vac)
set_option linter.unusedVariables false
theorem files_dskE {w : World} {b : Nat} {S : DS} {O : Nat → Prop} (h : DskE w b S O) (hc : S.c7 < 1000000000) : Calls Tryz.prog 23 #[.pointer (some ⟨b, 0, none⟩)] w fun e w' => ∃ v, e = .returned v ∧ Fr w' v S.files ∧ Below w.heap.size w w' := by
  obtain ⟨f, g, pd, am, VB, VL, hd⟩ := h
  refine (files_any hd hc).mono ?_
  rintro e w' ⟨v, vs, rfl, h1, h2⟩
  exact ⟨v, rfl, fr_of h1, h2⟩
theorem lasts_dskE {w : World} {b : Nat} {S : DS} {O : Nat → Prop} (h : DskE w b S O) (hc : S.c7 < 1000000000) : Calls Tryz.prog 24 #[.pointer (some ⟨b, 0, none⟩)] w fun e w' => ∃ v, e = .returned v ∧ Fr w' v S.lasts ∧ Below w.heap.size w w' := by
  obtain ⟨f, g, pd, am, VB, VL, hd⟩ := h
  refine (lasts_any hd hc).mono ?_
  rintro e w' ⟨v, vs, rfl, h1, h2⟩
  exact ⟨v, rfl, fr_of h1, h2⟩
end Go.Proofs.YtjehpijjneghpaaGreat.Re
namespace Go.Proofs.YtjehpijjneghpaaGreat.Re
open Go.RowKit Go.Maps Go.Sort Go.Shelf Go.Proofs.YtjehpijjneghpaaGreat.Nm Go.Proofs.YtjehpijjneghpaaGreat.Dk
open Ix (wp_region_T wpAnyT wpAnyT_take wpAnyT_one wpAnyT_done vac)
set_option linter.unusedVariables false
theorem bt {w q : World} (h : Below w.heap.size w q) (o : Obj) : Below w.heap.size w (q.alloc o) := h.trans ((box_below q o).mono h.size)
theorem bs2 {w q q' : World} (h : Below w.heap.size w q) (h2 : Below q.heap.size q q') : Below w.heap.size w q' := h.trans (h2.mono h.size)
structure DA (w q : World) (pb qb : Nat) (k : Nat) : Prop where
  out : ∃ b1 S1 R1 Q1 b2 S2 R2 Q2, PW q pb b1 S1 R1 Q1 ∧ PW q qb b2 S2 R2 Q2 ∧ (∀ j, Q1 j → ¬ Q2 j) ∧ Rel S1 R1 ∧ Rel S2 R2 ∧ S1.c7 ≤ (k : Int) ∧ S2.c7 ≤ (k : Int) ∧ (∀ j, Q1 j → w.heap.size ≤ j) ∧ (∀ j, Q2 j → w.heap.size ≤ j)
  bel : Below w.heap.size w q
theorem DA.below {w q q' : World} {pb qb k : Nat} (h : DA w q pb qb k) (hb : Below q.heap.size q q') : DA w q' pb qb k := by
  obtain ⟨b1, S1, R1, Q1, b2, S2, R2, Q2, p1, p2, rest⟩ := h.out
  exact ⟨⟨b1, S1, R1, Q1, b2, S2, R2, Q2, p1.below hb, p2.below hb, rest⟩, bs2 h.bel hb⟩
theorem pair_new {w u q : World} {b : Nat} {most : Int} {O : Nat → Prop} (hD : DskE u b (DS.new most) O) (hlo : ∀ k, O k → w.heap.size ≤ k) (hu : Below w.heap.size w u) (hq : Below u.heap.size u q) (hR : RM q u.heap.size (RB.new most) RV.nil) :
    PW (q.alloc (.cells #[.pointer (some ⟨b, 0, none⟩), .pointer (some ⟨u.heap.size, 0, none⟩)] 29)) q.heap.size b (DS.new most) (RB.new most) (own q.heap.size O u.heap.size RV.nil) ∧ ∀ k, own q.heap.size O u.heap.size RV.nil k → w.heap.size ≤ k := by
  refine ⟨(px_new hD hq hR).toPW, ?_⟩
  rintro k (e | c | ⟨x, c⟩)
  · have := hu.size; have := hq.size; omega
  · exact hlo k c
  · have := blk_nil c; have := hu.size; omega
end Go.Proofs.YtjehpijjneghpaaGreat.Re
namespace Go.Proofs.YtjehpijjneghpaaGreat.Re
open Go.RowKit Go.Maps Go.Sort Go.Shelf Go.Proofs.YtjehpijjneghpaaGreat.Nm Go.Proofs.YtjehpijjneghpaaGreat.Dk
set_option linter.unusedVariables false
structure D1 (w q : World) (B pb tb k : Nat) : Prop where
  out : ∃ b S R Q, PW q pb b S R Q ∧ Rel S R ∧ S.c7 ≤ (k : Int) ∧ (∀ j, Q j → B ≤ j)
  bel : Below w.heap.size w q
  hB : w.heap.size ≤ B ∧ B ≤ q.heap.size
  box : q.heap[tb]? = some (.cells #[.pointer none, .pointer none] 29 (0, 0))
  lt : tb < B
theorem D1.next {w q : World} {B pb tb k : Nat} (h : D1 w q B pb tb k) : D1 w q B pb tb (k + 1) := by
  obtain ⟨b, S, R, Q, p, r, c, l⟩ := h.out
  exact ⟨⟨b, S, R, Q, p, r, by omega, l⟩, h.bel, h.hB, h.box, h.lt⟩
theorem d1_plays {w q : World} {B pb tb k : Nat} (h : D1 w q B pb tb k) (hk : k ≤ 1000) (o : Dop) (ho : DopOk w o) : Calls Tryz.prog 11 #[.pointer (some ⟨pb, 0, none⟩), opV o] q fun e w' => e = .returned (.bool true) ∧ D1 w w' B pb tb (k + 1) := by
  obtain ⟨b, S, R, Q, p, r, c, l⟩ := h.out
  have l0 : ∀ j, Q j → w.heap.size ≤ j := fun j hj => Nat.le_trans h.hB.1 (l j hj)
  refine (pl_all (W0 := w) o ⟨p, ho, h.bel, l0, r.ri, r.uq, by omega, by have := r.cnts; omega⟩).mono ?_
  rintro e w' ⟨⟨rr, S', Q', b', rfl, pw, g, pl, hr, hb⟩⟩
  obtain rfl := hr r
  exact ⟨rfl, ⟨b', S', R.play o, Q', pw, rel_play r pl, by have := play_c7 pl; omega, g.low h.hB.2 l⟩, g.under l0 (Nat.le_refl _) h.bel, ⟨h.hB.1, Nat.le_trans h.hB.2 g.but.size⟩, g.but.at h.box (fun c => by have := l _ c; have := h.lt; omega), h.lt⟩
structure Md (w : World) (e : Ending) (w' : World) : Prop where
  out : ∃ pb b rb S R O V, e = .returned (.tuple #[.agg #[.pointer (some ⟨b, 0, none⟩), .pointer (some ⟨rb, 0, none⟩)], .bool true]) ∧ PX w' pb b rb S R O V ∧ Rel S R ∧ S.c7 ≤ 60 ∧ (∀ j, own pb O rb V j → w.heap.size ≤ j) ∧ Below w.heap.size w w'
set_option maxRecDepth 100000 in
set_option maxHeartbeats 2000000 in
theorem made_any (w : World) (ao : Option Addr) (cap : Nat) (os : List Dop) (hos : os.length ≤ cap) (hcap : cap ≤ maxLen) (hat : AtDops w ao os) (hok : ∀ o ∈ os, DopOk w o) :
    Calls Tryz.prog 30 #[.int .i64 65536, .slice ao os.length cap] w (Md w) := by
  have hm : cap ≤ 9223372036854775807 := by unfold maxLen at hcap; omega
  replace hat := hide hat
  replace hok := hide hok
  obtain ⟨N, hN⟩ : ∃ N, Hid (os.length = N) := ⟨_, rfl⟩
  rw [hN.out] at hos ⊢
  clear hcap
  have BT := hide (box_below w (.cells #[.pointer none, .pointer none] 29))
  have NT := heap_alloc_new w (.cells #[.pointer none, .pointer none] 29)
  have zt : (w.alloc (.cells #[.pointer none, .pointer none] 29)).heap.size = w.heap.size + 1 := by simp
  obtain ⟨wt, hwt⟩ : ∃ wt, Hid (w.alloc (.cells #[.pointer none, .pointer none] 29) = wt) := ⟨_, rfl⟩
  rw [hwt.out] at BT NT zt
  replace zt := hide zt
  replace NT := hide NT
  have hN1 := new_dsk wt 65536 (by decide) (by decide)
  go_enter Tryz.func30, Tryz.ntmps30
  go_upto_region 1 with fail
  rw [hwt.out]
  go_upto_region 2 with (first
    | (go_at_call 9; refine hN1.mono ?_; rintro e wa ⟨ba, Oa, rfl, Da, Ba, la⟩; replace la := hide la; replace Da := hide Da; replace Ba := hide Ba)
    | (go_at_call 10; refine (new_ref _ 65536 (by decide) (by decide)).mono ?_; rintro e wb ⟨rfl, Rb, Bb⟩; replace Rb := hide Rb; replace Bb := hide Bb))
  clear hN1
  have P1 := hide (pair_new Da.out la.out Ba.out Bb.out Rb.out)
  have BP := hide (bt (bs2 Ba.out Bb.out) (.cells #[.pointer (some ⟨ba, 0, none⟩), .pointer (some ⟨wa.heap.size, 0, none⟩)] 29))
  have X1 := heap_alloc_new wb (.cells #[.pointer (some ⟨ba, 0, none⟩), .pointer (some ⟨wa.heap.size, 0, none⟩)] 29)
  generalize wb.alloc (.cells #[.pointer (some ⟨ba, 0, none⟩), .pointer (some ⟨wa.heap.size, 0, none⟩)] 29) = wp at *
  generalize hpb : wb.heap.size = pb at *
  have A0 : Hid (D1 w wp wt.heap.size pb w.heap.size 0) := ⟨⟨ba, _, _, _, P1.out.1, rel_new 65536 (by decide), Int.le_refl _, P1.out.2⟩, bs2 BT.out BP.out, ⟨BT.out.size, BP.out.size⟩, (BP.out.block _ (heap_lt NT.out)).trans NT.out, by have := zt.out; omega⟩
  obtain ⟨x1, x2⟩ := two_cells X1
  clear P1 BP X1 Da Ba la Rb Bb hpb
  go_wp2_with fail
  clear x1 x2
  go_loopw [7] (fun i wr => ∃ k : Nat, i = .int .i64 k ∧ k ≤ N ∧ k ≤ 60 ∧ Hid (D1 w wr wt.heap.size pb w.heap.size k)) (fun i _ => N - (intOf i).toNat)
  case atStart => exact ⟨0, rfl, Nat.zero_le _, Nat.zero_le _, A0⟩
  case round =>
    obtain ⟨k, rfl, hk, hk2, hD⟩ := hrel
    by_cases hgo : k < N ∧ k < 60
    · obtain ⟨hlt, hlt2⟩ := hgo
      have j1 : (k : Int) < (N : Int) := by omega
      have j2 : (k : Int) < 60 := by omega
      have hkl : k < os.length := by rw [hN.out]; exact hlt
      obtain ⟨gb, off, rfl, hcl⟩ := hat.out k hkl
      have hdo := hide (hok.out _ (List.getElem_mem hkl))
      obtain ⟨da, dc, hvd, _, d3, d4, _⟩ := id hdo.out.dat
      obtain ⟨fa, fc, hvf, _⟩ := id hdo.out.fs
      obtain ⟨qa, qc, hvq, _⟩ := id hdo.out.ks
      have d4' : dc ≤ 9223372036854775807 := by unfold maxLen at d4; omega
      have hc : Hid (∀ j u, (os[k]).cells[j]? = some u → wr.cell? ⟨gb, off + k * 10 + j, none⟩ = some u) := fun j u hu => by have := hcl j u hu; rw [hD.out.bel.cell (lt_of_cell this)]; exact this
      generalize os[k] = o at *
      obtain ⟨okk, os_, on, ot, ov, oD, oo, onn, of, ofs, od, ovk, oks⟩ := o
      dsimp only at hvd hvf hvq
      subst hvd hvf hvq
      have x0 : wr.cell? ⟨gb, off + k * 10, none⟩ = some (.int .i64 okk) := hc.out 0 _ rfl
      have x1 : wr.cell? ⟨gb, off + k * 10 + 1, none⟩ = some (.bool os_) := hc.out 1 _ rfl
      have x2 : wr.cell? ⟨gb, off + k * 10 + 2, none⟩ = some (.string on) := hc.out 2 _ rfl
      have x3 : wr.cell? ⟨gb, off + k * 10 + 3, none⟩ = some (.string ot) := hc.out 3 _ rfl
      have x4 : wr.cell? ⟨gb, off + k * 10 + 4, none⟩ = some (.slice da oD.length dc) := hc.out 4 _ rfl
      have x5 : wr.cell? ⟨gb, off + k * 10 + 5, none⟩ = some (.int .i64 oo) := hc.out 5 _ rfl
      have x6 : wr.cell? ⟨gb, off + k * 10 + 6, none⟩ = some (.int .i64 onn) := hc.out 6 _ rfl
      have x7 : wr.cell? ⟨gb, off + k * 10 + 7, none⟩ = some (.slice fa ofs.length fc) := hc.out 7 _ rfl
      have x8 : wr.cell? ⟨gb, off + k * 10 + 8, none⟩ = some (.int .i64 od) := hc.out 8 _ rfl
      have x9 : wr.cell? ⟨gb, off + k * 10 + 9, none⟩ = some (.slice qa oks.length qc) := hc.out 9 _ rfl
      clear hcl d4
      by_cases e5 : (oD.length : Int) ≤ 8192
      · have hP := d1_plays hD.out (by omega) ⟨okk, os_, on, ot, .slice da oD.length dc, oD, oo, onn, .slice fa ofs.length fc, ofs, od, .slice qa oks.length qc, oks⟩ hdo.out
        unfold opV at hP
        dsimp only at hP
        go_wp2_with (go_at_call 11; refine hP.mono ?_; rintro e w9 ⟨rfl, K9⟩; replace K9 := hide K9)
        go_roundw
        case rel => exact ⟨k + 1, by go_num, by omega, by omega, K9⟩
        case measure => simp [intOf]; omega
      · go_wp2_with fail
        go_roundw
        case rel => exact ⟨k + 1, by go_num, by omega, by omega, hD.out.next⟩
        case measure => simp [intOf]; omega
    · obtain ⟨b, S, R, Q, pw, hr, hc, lo⟩ := hD.out.out
      obtain ⟨rb, O, V, px, rfl⟩ := pw
      obtain ⟨x1, x2⟩ := two_cells px.box
      obtain ⟨y1, y2, y3, y4, y5, y6, y7, y8⟩ := two_store (.pointer (some ⟨b, 0, none⟩)) (.pointer (some ⟨rb, 0, none⟩)) hD.out.box
      have nT : Hid (∀ j, own pb O rb V j → ¬ j = w.heap.size) := fun j hj e => by have q1 := lo j hj; have q2 := zt.out; omega
      have PE := hide (px.but y6 nT.out)
      have BE : Hid (Below w.heap.size w ((wr.setCell ⟨w.heap.size, 0, none⟩ (.pointer (some ⟨b, 0, none⟩))).setCell ⟨w.heap.size, 1, none⟩ (.pointer (some ⟨rb, 0, none⟩)))) := but_new hD.out.bel y6 (Nat.le_refl _)
      have lo' : Hid (∀ j, own pb O rb V j → w.heap.size ≤ j) := fun j hj => Nat.le_trans BT.out.size (lo j hj)
      have hr' := hide hr
      have hc' : Hid (S.c7 ≤ 60) := by show _ ≤ _; omega
      replace y5 := hide y5
      replace y6 := hide y6
      have hend : ¬ ((k : Int) < (N : Int)) ∨ ((k : Int) < (N : Int) ∧ ¬ ((k : Int) < 60)) := by omega
      clear hgo px lo hr hc hD
      rcases hend with j1 | ⟨j1, j2⟩
      · go_wp2_with fail
        try simp only [Exit.inBlock, Exit.then]
        refine bodyPost_ret (v := .tuple #[.agg #[.pointer (some ⟨b, 0, none⟩), .pointer (some ⟨rb, 0, none⟩)], .bool true]) (by simp [results, Tryz.results30, go_sem, y7, y8]; try rfl) rfl ?_
        exact ⟨⟨pb, b, rb, S, R, O, V, rfl, PE.out, hr'.out, hc'.out, lo'.out, BE.out⟩⟩
      · go_wp2_with fail
        try simp only [Exit.inBlock, Exit.then]
        refine bodyPost_ret (v := .tuple #[.agg #[.pointer (some ⟨b, 0, none⟩), .pointer (some ⟨rb, 0, none⟩)], .bool true]) (by simp [results, Tryz.results30, go_sem, y7, y8]; try rfl) rfl ?_
        exact ⟨⟨pb, b, rb, S, R, O, V, rfl, PE.out, hr'.out, hc'.out, lo'.out, BE.out⟩⟩
end Go.Proofs.YtjehpijjneghpaaGreat.Re
namespace Go.Proofs.YtjehpijjneghpaaGreat.Re
open Go.RowKit Go.Maps Go.Sort Go.Shelf Go.Proofs.YtjehpijjneghpaaGreat.Nm Go.Proofs.YtjehpijjneghpaaGreat.Dk
set_option linter.unusedVariables false
def Kr (w : World) (v : Value) (D : List Nat) : Prop := ∃ ao ca, v = .slice ao D.length ca ∧ D.length ≤ ca ∧ ca ≤ 9223372036854775807 ∧ ∀ i (h : i < D.length), ∃ b off, ao = some ⟨b, off, none⟩ ∧ w.cell? ⟨b, off + i * 2, none⟩ = some (.int .i64 (D[i] : Int)) ∧ w.cell? ⟨b, off + i * 2 + 1, none⟩ = some (.slice none 0 0)
theorem kr_of {B : Nat} {w : World} {v : Value} {D : List Nat} (h : Ks B w v D) : Kr w v D := by
  rcases id h with ⟨h0, ⟨e, hz⟩ | ⟨g, cap, cur, e, hB, hc, h1, h2, h3, h4⟩⟩
  · exact ⟨none, 0, by rw [hz]; exact e, by omega, by omega, fun i hi => by omega⟩
  · refine ⟨some ⟨g, 0, none⟩, cap, e, h1, by unfold maxLen at h2; omega, fun i hi => ?_⟩
    have ce := World.ownsRow.cells (show w.ownsRow B _ 2 v D.length (kcells D) from h) (g := g) (by rw [e]; rfl)
    have q := kcells_at D i hi
    have c1 := ce _ _ q.1
    have c2 := ce _ _ q.2
    rw [addr_add] at c1 c2
    exact ⟨g, 0, rfl, c1, c2⟩
theorem Kr.below {w w' : World} {v : Value} {D : List Nat} (h : Kr w v D) (hb : Below w.heap.size w w') : Kr w' v D := by
  obtain ⟨ao, ca, e, h1, h2, h3⟩ := h
  refine ⟨ao, ca, e, h1, h2, fun i hi => ?_⟩
  obtain ⟨b, off, e1, c1, c2⟩ := h3 i hi
  exact ⟨b, off, e1, by rw [hb.cell (lt_of_cell c1)]; exact c1, by rw [hb.cell (lt_of_cell c2)]; exact c2⟩
set_option maxRecDepth 100000 in
set_option maxHeartbeats 2000000 in
theorem fate_eq (w : World) (d d' : Int) (va vb : Value) (D E : List Nat) (ha : Kr w va D) (hb : Kr w vb E) :
    Calls Tryz.prog 36 #[.agg #[.int .i64 d, va], .agg #[.int .i64 d', vb]] w fun e w' => e = .returned (.bool (decide (d = d' ∧ D = E))) ∧ Below w.heap.size w w' := by
  obtain ⟨aa, ac, rfl, a1, a2, a3⟩ := ha
  obtain ⟨ba, bc, rfl, b1, b2, b3⟩ := hb
  obtain ⟨N, hN⟩ : ∃ N, Hid (D.length = N) := ⟨_, rfl⟩
  obtain ⟨N2, hN2⟩ : ∃ N2, Hid (E.length = N2) := ⟨_, rfl⟩
  rw [hN.out] at a1 ⊢
  rw [hN2.out] at b1 ⊢
  replace a3 := hide a3
  replace b3 := hide b3
  have B1 := hide (box_below w (.cells #[.int .i64 d, .slice aa N ac] 34))
  have X1 := heap_alloc_new w (.cells #[.int .i64 d, .slice aa N ac] 34)
  have z1 : (w.alloc (.cells #[.int .i64 d, .slice aa N ac] 34)).heap.size = w.heap.size + 1 := by simp
  obtain ⟨w1, hw1⟩ : ∃ w1, Hid (w.alloc (.cells #[.int .i64 d, .slice aa N ac] 34) = w1) := ⟨_, rfl⟩
  rw [hw1.out] at B1 X1 z1
  have B2 := hide (box_below w1 (.cells #[.int .i64 d', .slice ba N2 bc] 34))
  have X2 := heap_alloc_new w1 (.cells #[.int .i64 d', .slice ba N2 bc] 34)
  obtain ⟨w2, hw2⟩ : ∃ w2, Hid (w1.alloc (.cells #[.int .i64 d', .slice ba N2 bc] 34) = w2) := ⟨_, rfl⟩
  rw [hw2.out] at B2 X2
  rw [z1] at X2
  have X12 := (B2.out.block _ (heap_lt X1)).trans X1
  have B02 := hide (bs2 B1.out B2.out)
  obtain ⟨x0, x1⟩ := two_cells X12
  obtain ⟨y0, y1⟩ := two_cells X2
  by_cases hd : d = d' ∧ N = N2
  · obtain ⟨rfl, rfl⟩ := hd
    go_enter Tryz.func36, Tryz.ntmps36
    go_upto_region 1 with fail
    rw [hw1.out, hw2.out]
    go_wp2_with fail
    clear x0 x1 y0 y1
    go_loopw [5] (fun i wr => ∃ k : Nat, i = .int .i64 k ∧ k ≤ N ∧ Hid (Below w2.heap.size w2 wr) ∧ Hid (D.take k = E.take k)) (fun i _ => N - (intOf i).toNat)
    case atStart => exact ⟨0, rfl, Nat.zero_le _, Below.refl _ _, rfl⟩
    case round =>
      obtain ⟨k, rfl, hk, hB, hT⟩ := hrel
      obtain ⟨x0, x1⟩ := two_cells ((hB.out.block _ (heap_lt X12)).trans X12)
      obtain ⟨y0, y1⟩ := two_cells ((hB.out.block _ (heap_lt X2)).trans X2)
      have BR := hide (bs2 B02.out hB.out)
      by_cases hlt : k < N
      · have i1 : (k : Int) < (N : Int) := by omega
        have hkl : k < D.length := by rw [hN.out]; exact hlt
        have hkm : k < E.length := by rw [hN2.out]; exact hlt
        obtain ⟨ga, oa, rfl, p0, p1⟩ := a3.out k hkl
        obtain ⟨gb, ob, rfl, q0, q1⟩ := b3.out k hkm
        rw [← BR.out.cell (p := ⟨ga, oa + k * 2, none⟩) (lt_of_cell p0)] at p0
        rw [← BR.out.cell (p := ⟨ga, oa + k * 2 + 1, none⟩) (lt_of_cell p1)] at p1
        rw [← BR.out.cell (p := ⟨gb, ob + k * 2, none⟩) (lt_of_cell q0)] at q0
        rw [← BR.out.cell (p := ⟨gb, ob + k * 2 + 1, none⟩) (lt_of_cell q1)] at q1
        by_cases he : D[k] = E[k]
        · have hT2 : Hid (D.take (k + 1) = E.take (k + 1)) := by
            show _ = _
            rw [List.take_succ_eq_append_getElem hkl, List.take_succ_eq_append_getElem hkm, hT.out, he]
          rw [← he] at q0
          generalize (D[k] : Int) = n at *
          go_wp2_with fail
          go_quiet (fail)
          have B3 : Hid (Below w2.heap.size w2 (wr.drewN nq)) := hB.out.trans ((Qt.below ⟨nq, rfl⟩ _).mono hB.out.size)
          generalize wr.drewN nq = wy at *
          go_wp2_with fail
          go_roundw
          case rel => exact ⟨k + 1, by go_num, by omega, B3, hT2⟩
          case measure => simp [intOf]; omega
        · have hno : Hid (¬ D = E) := fun c => he (by subst c; rfl)
          have h3 : (((D[k] : Nat) : Int) == ((E[k] : Nat) : Int)) = false := by simpa using (fun c => he (by omega))
          have h4 : (((D[k] : Nat) : Int) != ((E[k] : Nat) : Int)) = true := by simpa using (fun c => he (by omega))
          generalize (D[k] : Int) = n at *
          generalize (E[k] : Int) = m at *
          go_wp2_with fail
          go_quiet (fail)
          have B3 : Hid (Below w2.heap.size w2 (wr.drewN nq)) := hB.out.trans ((Qt.below ⟨nq, rfl⟩ _).mono hB.out.size)
          generalize wr.drewN nq = wy at *
          go_wp2_with fail
          go_ret
          exact ⟨by simp [hno.out], bs2 B02.out B3.out⟩
      · have i1 : ¬ ((k : Int) < (N : Int)) := by omega
        have hDE : Hid (D = E) := by
          show _ = _
          have := hT.out
          rw [List.take_of_length_le (by rw [hN.out]; omega), List.take_of_length_le (by rw [hN2.out]; omega)] at this
          exact this
        go_wp2_with fail
        go_ret
        exact ⟨by simp [hDE.out], BR.out⟩
  · have hno : Hid (¬ (d = d' ∧ D = E)) := fun c => hd ⟨c.1, by rw [← hN.out, ← hN2.out, c.2]⟩
    by_cases h1 : d = d'
    · subst h1
      have h2 : ¬ ((N : Int) = (N2 : Int)) := fun c => hd ⟨rfl, by omega⟩
      have h3 : ((N : Int) != (N2 : Int)) = true := by simpa using h2
      go_enter Tryz.func36, Tryz.ntmps36
      go_upto_region 1 with fail
      rw [hw1.out, hw2.out]
      go_wp2_with fail
      go_ret
      have hDE : ¬ D = E := fun c => hno.out ⟨by first | rfl | trivial, c⟩
      exact ⟨by rw [decide_eq_false hDE]; rfl, B02.out⟩
    · have h3 : (d != d') = true := by simpa using h1
      go_enter Tryz.func36, Tryz.ntmps36
      go_upto_region 1 with fail
      rw [hw1.out, hw2.out]
      go_wp2_with fail
      go_ret
      exact ⟨by rw [decide_eq_false hno.out]; try rfl, B02.out⟩
end Go.Proofs.YtjehpijjneghpaaGreat.Re
namespace Go.Proofs.YtjehpijjneghpaaGreat.Dk
open Go.RowKit Go.Maps Go.Sort Go.Shelf Go.Proofs.YtjehpijjneghpaaGreat.Nm
set_option linter.unusedVariables false
def kdig : Tls → List Kep → List Nat
  | [], _ => []
  | e :: r, ks => wthn (ks.headD (0, [])).1 e.2 :: kdig r ks.tail
theorem kdig_len (L : Tls) (ks : List Kep) : (kdig L ks).length = L.length := by
  induction L generalizing ks with
  | nil => rfl
  | cons e r ih => simp [kdig, ih]
theorem kdig_get (L : Tls) (ks : List Kep) (k : Nat) (hk : k < L.length) : (kdig L ks).getD k 0 = wthn (ks.getD k (0, [])).1 L[k].2 := by
  induction L generalizing ks k with
  | nil => simp at hk
  | cons e r ih =>
    cases k with
    | zero => cases ks <;> simp [kdig]
    | succ k =>
      have := ih ks.tail k (by simpa using hk)
      cases ks with
      | nil => simpa [kdig] using this
      | cons x y => simpa [kdig] using this
theorem wthn_le (n : Int) (m : Nat) : wthn n m ≤ m := by unfold wthn; omega
def numK (L : Tls) (ks : List Kep) : Nat := numb L (kdig L ks)
theorem numK_take (L : Tls) (ks : List Kep) (k : Nat) (hk : k < L.length) : numb (L.take (k + 1)) (kdig L ks) = numb (L.take k) (kdig L ks) * (L[k].2 + 1) + wthn (ks.getD k (0, [])).1 L[k].2 := by
  rw [List.take_succ_eq_append_getElem hk, numb_snoc, List.length_take, Nat.min_eq_left (by omega), kdig_get L ks k hk]
theorem numK_lt (L : Tls) (ks : List Kep) (k : Nat) : numb (L.take k) (kdig L ks) < prodT L := by
  refine Nat.lt_of_lt_of_le (numb_lt (L.take k) _ fun i hi => ?_) (prodT_take L k)
  rw [List.length_take] at hi
  rw [kdig_get L ks i (by omega), List.getElem_take]
  exact wthn_le _ _
theorem withinC_any (w : World) (n : Int) (m : Nat) (h0 : -9223372036854775808 ≤ n) (h1 : n ≤ 9223372036854775807) (hm : (m : Int) ≤ 9223372036854775807) :
    Calls Tryz.prog 91 #[.int .i64 n, .int .i64 (m : Int)] w fun e w' => e = .returned (.int .i64 (wthn n m : Int)) ∧ w' = w := by
  obtain ⟨E, hE⟩ : ∃ E : Nat, Hid (wthn n m = E) := ⟨_, rfl⟩
  rw [hE.out]
  have hq := hE.out
  unfold wthn at hq
  go_enter Tryz.func91, Tryz.ntmps91
  go_wp2_with fail
  all_goals
    go_ret
    refine ⟨?_, rfl⟩
    show Ending.returned (Value.int .i64 _) = _
    congr 2
    omega
end Go.Proofs.YtjehpijjneghpaaGreat.Dk
namespace Go.Proofs.YtjehpijjneghpaaGreat.Dk
open Go.RowKit Go.Maps Go.Sort Go.Shelf Go.Proofs.YtjehpijjneghpaaGreat.Nm
set_option linter.unusedVariables false
set_option maxRecDepth 100000 in
set_option maxHeartbeats 2000000 in
theorem together_any (w : World) (v vk : Value) (L : Tls) (ks : List Kep) (Z : Nat → Prop) (hv : Tr w v L) (hk : Kp Z w vk ks) (hs : ∀ e ∈ L, e.2 ≤ 16777216) (hp : prodT L ≤ M40) :
    Calls Tryz.prog 92 #[v, vk] w fun e w' => e = .returned (.int .i64 (numK L ks : Int)) ∧ Below w.heap.size w w' := by
  obtain ⟨R, hR⟩ : ∃ R, Hid (numK L ks = R) := ⟨_, rfl⟩
  rw [hR.out]
  obtain ⟨ao, ca, rfl, q1, q2, q3⟩ := hv
  obtain ⟨ak, ck, rfl, p1, p2, p3⟩ := hk
  have p2' : (ck : Int) ≤ 9223372036854775807 := by unfold maxLen at p2; omega
  clear p2
  obtain ⟨N, hN⟩ : ∃ N, Hid (L.length = N) := ⟨_, rfl⟩
  obtain ⟨M, hM⟩ : ∃ M, Hid (ks.length = M) := ⟨_, rfl⟩
  rw [hN.out] at q1 ⊢
  rw [hM.out] at p1 ⊢
  replace q3 := hide q3
  replace p3 := hide p3
  replace hs := hide hs
  have hp2 : Hid ((prodT L : Int) ≤ 1099511627776) := by show _ ≤ _; unfold M40 at hp; omega
  clear hp
  go_enter Tryz.func92, Tryz.ntmps92
  go_wp2_with fail
  go_loopw [5, 10] (fun v5 i wr => ∃ k x : Nat, i = .int .i64 k ∧ k ≤ N ∧ v5 = .int .i64 x ∧ Hid (x = numb (L.take k) (kdig L ks)) ∧ Hid (Below w.heap.size w wr)) (fun _ i _ => N - (intOf i).toNat)
  case atStart => exact ⟨0, 0, rfl, Nat.zero_le _, rfl, rfl, Below.refl _ _⟩
  case round =>
    obtain ⟨k, x, rfl, hk, rfl, ex, hB⟩ := hrel
    by_cases hlt : k < N
    · have i1 : (k : Int) < (N : Int) := by omega
      have hkl : k < L.length := by rw [hN.out]; exact hlt
      obtain ⟨gb, off, rfl, c0, c1⟩ := q3.out k hkl
      rw [← hB.out.cell (p := ⟨gb, off + k * 2, none⟩) (lt_of_cell c0)] at c0
      rw [← hB.out.cell (p := ⟨gb, off + k * 2 + 1, none⟩) (lt_of_cell c1)] at c1
      have hn := hs.out L[k] (List.getElem_mem hkl)
      have ey := numK_take L ks k hkl
      have ez := numK_lt L ks (k + 1)
      have ez2 := hp2.out
      obtain ⟨y, ey2⟩ : ∃ y, Hid (y = numb (L.take (k + 1)) (kdig L ks)) := ⟨_, rfl⟩
      rw [← ey2.out, ← ex.out] at ey
      rw [← ey2.out] at ez
      have y1 : (y : Int) ≤ 1099511627776 := by omega
      generalize L[k].2 = n at *
      generalize bsOf L[k].1 = s at *
      obtain ⟨z, hz⟩ : ∃ z, Hid (z = x * (n + 1)) := ⟨_, rfl⟩
      rw [← hz.out] at ey
      have t5 : (x : Int) * ((n : Int) + 1) = (z : Int) := by rw [hz.out]; norm_cast
      have z1 : (z : Int) ≤ 1099511627776 := by omega
      obtain ⟨X, hX⟩ : ∃ X, Hid (wr.alloc (.cells #[.string s, .int .i64 (n : Int)] 68) = X) := ⟨_, rfl⟩
      have B0 : Hid (Below w.heap.size w X) := by
        rw [← hX.out]
        exact hB.out.trans ((box_below wr (.cells #[.string s, .int .i64 (n : Int)] 68)).mono hB.out.size)
      have z0 := heap_alloc_new wr (.cells #[.string s, .int .i64 (n : Int)] 68)
      rw [hX.out] at z0
      have hBase := base_any X s n hn
      have x0 : X.cell? ⟨wr.heap.size, 0, none⟩ = some (.string s) := by simp [World.cell?, z0]
      have x1 : X.cell? ⟨wr.heap.size, 1, none⟩ = some (.int .i64 (n : Int)) := by simp [World.cell?, z0]
      replace z0 := hide z0
      replace ez := hide ez
      replace ey := hide ey
      clear ez2
      by_cases hm : k < M
      · have i2 : (k : Int) < (M : Int) := by omega
        obtain ⟨kb, koff, vj, rfl, _, k1, _, _, _, m0, m1⟩ := p3.out k (by rw [hM.out]; exact hm)
        have ed : Hid (ks.getD k (0, []) = ks[k]'(by rw [hM.out]; exact hm)) := by show _ = _; simp [List.getD_eq_getElem?_getD, List.getElem?_eq_getElem (show k < ks.length by rw [hM.out]; exact hm)]
        rw [ed.out] at ey
        generalize (ks[k]'(by rw [hM.out]; exact hm)).1 = kn at *
        obtain ⟨d, hd⟩ : ∃ d, Hid (wthn kn n = d) := ⟨_, rfl⟩
        rw [hd.out] at ey
        have d1 : (d : Int) ≤ 16777216 := by have := wthn_le kn n; rw [hd.out] at this; omega
        have hW := withinC_any
        go_upto_region 5 with fail
        rw [hX.out]
        go_upto_region 7 with (go_at_call 113; refine hBase.mono ?_; rintro e w2 ⟨rfl, b2⟩; have e2 := (b2.block _ (heap_lt z0.out)).trans z0.out; have g0 : w2.cell? ⟨wr.heap.size, 0, none⟩ = some (.string s) := (by simp [World.cell?, e2]); have g1 : w2.cell? ⟨wr.heap.size, 1, none⟩ = some (.int .i64 (n : Int)) := (by simp [World.cell?, e2]); have B2 : Hid (Below w.heap.size w w2) := B0.out.trans (b2.mono B0.out.size); have g2 : w2.cell? ⟨kb, koff + k * 2, none⟩ = some (.int .i64 kn) := (by rw [B2.out.cell (lt_of_cell k1)]; exact k1); clear e2 b2)
        have t6 : (z : Int) + (d : Int) = (y : Int) := by have := ey.out; omega
        have w6 : Hid (wrap64 ((z : Int) + (d : Int)) = (y : Int)) := by show _ = _; rw [t6]; unfold wrap64; omega
        have nn : (n : Int) ≤ 9223372036854775807 := by omega
        clear t5 x0 x1 hBase hn
        go_quiet ((go_at_call 91; exact Calls.quiet_of_same (withinC_any _ kn n m0 m1 nn)))
        rw [hd.out]
        go_wp2_with fail
        have B3 : Hid (Below w.heap.size w (w2.drewN nq)) := B2.out.trans ((Qt.below ⟨nq, rfl⟩ _).mono B2.out.size)
        generalize w2.drewN nq = w3 at *
        go_roundw
        case rel => exact ⟨k + 1, y, by go_num, by omega, by first | (rw [w6.out]) | (congr 1), ey2, B3⟩
        case measure => simp [intOf]; omega
      · have i2 : ¬ ((k : Int) < (M : Int)) := by omega
        have ed : Hid (ks.getD k (0, []) = (0, [])) := by show _ = _; rw [List.getD_eq_getElem?_getD, List.getElem?_eq_none (by rw [hM.out]; omega)]; rfl
        rw [ed.out] at ey
        have e3 : z = y := by have := ey.out; unfold wthn at this; simp at this; omega
        go_upto_region 5 with fail
        rw [hX.out]
        go_wp2_with (go_at_call 113; refine hBase.mono ?_; rintro e w2 ⟨rfl, b2⟩; have B2 : Hid (Below w.heap.size w w2) := B0.out.trans (b2.mono B0.out.size); clear b2)
        go_roundw
        case rel => exact ⟨k + 1, z, by go_num, by omega, by go_num, by rw [e3]; exact ey2, B2⟩
        case measure => simp [intOf]; omega
    · obtain rfl : k = N := by omega
      rw [List.take_of_length_le (by rw [hN.out]; omega)] at ex
      go_wp2_with fail
      go_ret
      refine ⟨?_, hB.out⟩
      rw [← hR.out, numK, ← ex.out]
      rfl
end Go.Proofs.YtjehpijjneghpaaGreat.Dk
namespace Go.Proofs.YtjehpijjneghpaaGreat.Dk
open Go.RowKit Go.Maps Go.Sort Go.Shelf Go.Proofs.YtjehpijjneghpaaGreat.Nm
open Ix (wp_region_T wpAnyT wpAnyT_take wpAnyT_one wpAnyT_done vac)
set_option linter.unusedVariables false
def DS.numE (S : DS) (d : Int) (ks : List Kep) : Int × Int := if S.ways ≤ M40 then ((((S.cnts (wthn d S.P.length)).sum + numK (S.tails ((wthn d S.P.length : Nat) : Int)) ks : Nat) : Int), 0) else (0, 9)
theorem ways_tails {S : DS} (h : S.ways ≤ M40) {d : Nat} (hd : d ≤ S.P.length) : prodT (S.tails (d : Int)) ≤ M40 := by
  have h1 := cnts_mono S (show d + 1 ≤ S.P.length + 1 by omega)
  have h2 := cnts_sum S d
  unfold DS.ways at h
  omega
set_option maxRecDepth 100000 in
set_option maxHeartbeats 2000000 in
theorem number_dsk {w : World} {b : Nat} {S : DS} {O : Nat → Prop} (h : DskE w b S O) (hc : S.c7 < 900000000) (d : Int) (n0 : -9223372036854775808 ≤ d) (n1 : d ≤ 9223372036854775807) (vk : Value) (ks : List Kep) (Z : Nat → Prop) (hk : Kp Z w vk ks) :
    Calls Tryz.prog 39 #[.pointer (some ⟨b, 0, none⟩), .agg #[.int .i64 d, vk]] w fun e w' => e = .returned (.tuple #[.int .i64 (S.numE d ks).1, .int .i64 (S.numE d ks).2]) ∧ Below w.heap.size w w' := by
  have B0 := hide (box_below w (.cells #[.int .i64 d, vk] 34))
  have N0 := hide (heap_alloc_new w (.cells #[.int .i64 d, vk] 34))
  have HK := hide hk
  obtain ⟨ak, ck, rfl, _⟩ := hk
  obtain ⟨u, hu⟩ : ∃ u, Hid (w.alloc (.cells #[.int .i64 d, .slice ak ks.length ck] 34) = u) := ⟨_, rfl⟩
  rw [hu.out] at B0 N0
  have hok := h.ok
  have hC := ccount_dsk (h.below B0.out) hc
  obtain ⟨R, hR⟩ : ∃ R, Hid (S.numE d ks = R) := ⟨_, rfl⟩
  rw [hR.out]
  by_cases hw : S.ways ≤ M40
  · have hcnt : S.cnt = (S.cnts (S.P.length + 1), (S.ways : Int), 0) := by unfold DS.cnt; rw [if_pos hw]
    rw [hcnt] at hC
    clear hcnt
    obtain ⟨N, hN⟩ : ∃ N, Hid (S.P.length = N) := ⟨_, rfl⟩
    rw [hN.out] at hC
    obtain ⟨D, hD⟩ : ∃ D, Hid (wthn d N = D) := ⟨_, rfl⟩
    have hDN : D ≤ N := by rw [← hD.out]; exact wthn_le _ _
    have hNb : (N : Int) ≤ 900000000 := by have := hok.cnt; rw [← hN.out]; omega
    have hRe : Hid (R = ((((S.cnts D).sum + numK (S.tails (D : Int)) ks : Nat) : Int), 0)) := by show _ = _; rw [← hR.out]; unfold DS.numE; rw [if_pos hw, hN.out, hD.out]
    have hWi := withinC_any
    have htot : Hid ((((S.cnts D).sum + numK (S.tails (D : Int)) ks : Nat) : Int) ≤ 1099511627776) := by
      show _ ≤ _
      have h1 := cnts_mono S (show D + 1 ≤ S.P.length + 1 by rw [hN.out]; omega)
      have h2 := cnts_sum S D
      have h3 := numK_lt (S.tails (D : Int)) ks (S.tails (D : Int)).length
      rw [List.take_length] at h3
      unfold DS.ways M40 at hw
      unfold numK
      omega
    have KT : Hid (∀ q, Below w.heap.size w q → Calls Tryz.prog 27 #[.pointer (some ⟨b, 0, none⟩), .int .i64 (D : Int)] q fun e w' => ∃ v, e = .returned v ∧ Tr w' v (S.tails (D : Int)) ∧ Below q.heap.size q w') := fun q hq => by
      refine (tails_dsk (h.below hq) (by omega) (D : Int) (by omega) (by omega)).mono ?_
      rintro e w' ⟨v, rfl, ht, hb⟩
      exact ⟨v, rfl, ht.tr, hb⟩
    have KG : Hid (∀ q v, Below w.heap.size w q → Tr q v (S.tails (D : Int)) → Calls Tryz.prog 92 #[v, .slice ak ks.length ck] q fun e w' => e = .returned (.int .i64 (numK (S.tails (D : Int)) ks : Int)) ∧ Below q.heap.size q w') := fun q v hq hv => together_any q v _ _ ks Z hv (HK.out.but (X := fun _ => False) (But.of_below (hq.mono (Nat.le_refl _)) _) (fun _ _ c => c)) (tails_small hok _) (ways_tails hw (by rw [hN.out]; exact hDN))
    clear h hok hc
    go_enter Tryz.func39, Tryz.ntmps39
    go_upto_region 1 with fail
    rw [hu.out]
    go_upto_region 4 with (go_at_call 86; refine hC.mono ?_; rintro e w1 ⟨v, rfl, c1, b1⟩; have z1 := hide ((b1.block _ (heap_lt N0.out)).trans N0.out); replace b1 := hide b1; replace c1 := hide c1)
    have B1 : Hid (Below w.heap.size w w1) := B0.out.trans (b1.out.mono B0.out.size)
    obtain ⟨av, cv, rfl, hf1, hf2⟩ := c1.out.form
    rw [cnts_len] at c1 hf1 ⊢
    have hM1 : ((N + 1 : Nat) : Int) - 1 = (N : Int) := by omega
    have y0 : w1.cell? ⟨w.heap.size, 0, none⟩ = some (.int .i64 d) := by simp [World.cell?, z1.out]
    have y1 : w1.cell? ⟨w.heap.size, 1, none⟩ = some (.slice ak ks.length ck) := by simp [World.cell?, z1.out]
    have hWi2 := hWi w1 d N n0 n1 (by omega)
    rw [hD.out] at hWi2
    clear hWi hC
    go_upto_region 5 with (go_at_call 91; refine hWi2.mono ?_; rintro e w2 ⟨rfl, e2⟩; subst w2)
    have KC : Hid (∀ q, Below w1.heap.size w1 q → q.cell? ⟨w.heap.size, 1, none⟩ = some (.slice ak ks.length ck)) := fun q hq => by rw [hq.cell (lt_of_cell y1)]; exact y1
    have bb := Below.refl w1.heap.size w1
    clear hWi2 y0
    go_region_with (first
      | (go_at_call 27; refine (KT.out _ (B1.out.trans ((by first | exact bb | exact bb.drew | exact bb.drew.drew | exact bb.drew.drew.drew : Below w1.heap.size w1 _).mono B1.out.size))).mono ?_; rintro e w2 ⟨v2, rfl, r2, b2⟩; have b3 : Below w1.heap.size w1 w2 := (by first | exact bb.trans b2 | exact bb.drew.trans b2 | exact bb.drew.drew.trans b2 | exact bb.drew.drew.drew.trans b2); have y2 := KC.out w2 b3; have b5 := Below.refl w2.heap.size w2; have B2 := B1.out.trans (b3.mono B1.out.size); replace b2 := hide b2)
      | (go_at_call 92; refine (KG.out _ v2 (by first | exact B2 | exact B2.drew | exact B2.drew.drew) (by first | exact r2 | exact r2.below b5.drew | exact r2.below b5.drew.drew)).mono ?_; rintro e w3 ⟨rfl, b4⟩; have b6 : Below w2.heap.size w2 w3 := (by first | exact b5.trans b4 | exact b5.drew.trans b4 | exact b5.drew.drew.trans b4)))
    all_goals
      have b7 : Hid (Below w1.heap.size w1 w3) := b3.trans (b6.mono b3.size)
      have B5 : Hid (Below w.heap.size w w3) := B1.out.trans (b7.out.mono B1.out.size)
      have c3 := hide (c1.out.below b7.out)
      clear b3 b6 b4 y2 b5 B2 r2 y1 bb hM1
      have tot : Hid ((((S.cnts D).sum + numK (S.tails (D : Int)) ks : Nat) : Int) ≤ 1099511627776) := htot
      have hmono : Hid (∀ k, k ≤ D → (S.cnts k).sum ≤ (S.cnts D).sum) := fun k hk => cnts_mono S hk
      generalize numK (S.tails (D : Int)) ks = nk at *
      have hDc : (D : Int) ≤ (cv : Int) := by omega
      have hDN2 : (D : Int) ≤ ((N + 1 : Nat) : Int) := by omega
      go_wp2_with fail
      go_loopw [10, 38] (fun v10 vi wr => ∃ k x : Nat, vi = .int .i64 k ∧ k ≤ D ∧ v10 = .int .i64 x ∧ Hid (x = (S.cnts k).sum + nk) ∧ wr = w3) (fun _ vi _ => D - (intOf vi).toNat)
      case atStart => exact ⟨0, nk, rfl, Nat.zero_le _, rfl, by show _ = _; simp [DS.cnts], rfl⟩
      case round =>
        obtain ⟨k, x, rfl, hk, rfl, ex, rfl⟩ := hrel
        by_cases hlt : k < D
        · have i1 : (k : Int) < (D : Int) := by omega
          obtain ⟨g, cap, e, hcell⟩ := c3.out.at (cnts_get S (N + 1) k (by omega))
          rw [cnts_len] at e
          simp only [Value.slice.injEq] at e
          obtain ⟨rfl, _, rfl⟩ := e
          have hsum : Hid ((S.cnts (k + 1)).sum = (S.cnts k).sum + prodT (S.tails (k : Int))) := cnts_sum S k
          have hmo := hmono.out (k + 1) (by omega)
          obtain ⟨c, hcc⟩ : ∃ c, Hid (prodT (S.tails (k : Int)) = c) := ⟨_, rfl⟩
          rw [hcc.out] at hcell hsum
          have hb2 : (x : Int) + (c : Int) ≤ 1099511627776 := by have h1 := ex.out; have h2 := hsum.out; have h3 := tot.out; omega
          clear hmo
          go_wp2_with fail
          go_roundw
          case rel => exact ⟨k + 1, x + c, by go_num, by omega, by go_num, by show _ = _; have h1 := ex.out; have h2 := hsum.out; omega, trivial⟩
          case measure => simp [intOf]; omega
        · obtain rfl : k = D := by omega
          go_wp2_with fail
          go_ret2
          rw [hRe.out, ← ex.out]
          exact ⟨rfl, B5.out⟩
  · have hcnt : S.cnt = ([], 0, 9) := by unfold DS.cnt; rw [if_neg hw]
    rw [hcnt] at hC
    have hRe : Hid (R = (0, 9)) := by show _ = _; rw [← hR.out]; unfold DS.numE; rw [if_neg hw]
    clear h hok hw hcnt
    go_enter Tryz.func39, Tryz.ntmps39
    go_upto_region 1 with fail
    rw [hu.out]
    go_wp2_with (go_at_call 86; refine hC.mono ?_; rintro e w1 ⟨v, rfl, _, b1⟩; replace b1 := hide b1)
    go_ret2
    rw [hRe.out]
    exact ⟨rfl, B0.out.trans (b1.out.mono B0.out.size)⟩
end Go.Proofs.YtjehpijjneghpaaGreat.Dk
