/-
  Lists of files, compared: one list, twice in memory.
-/
import Derived.Test.YtjehpijjneghpaaGreatM36
import Derived.Test.YtjehpijjneghpaaGreatM29
import Derived.Test.YtjehpijjneghpaaGreatM13
import Derived.Test.YtjehpijjneghpaaGreatM35
namespace Go.Proofs.YtjehpijjneghpaaGreat.Re
open Go.RowKit Go.Maps Go.Sort Go.Shelf Go.Proofs.YtjehpijjneghpaaGreat.Nm Go.Proofs.YtjehpijjneghpaaGreat.Dk
set_option linter.unusedVariables false
theorem eqT (w : World) (x y : Value) (l : List UInt8) (hx : Sl w x l) (hy : Sl w y l) : Calls Tryz.prog 21 #[x, y] w fun e w' => e = .returned (.bool true) ∧ Qt w w' := by
  obtain ⟨ao, ca, rfl, g2, g3, g4, g5⟩ := hx
  obtain ⟨bo, cb, rfl, k2, k3, k4, k5⟩ := hy
  refine (eq_any w ao bo l l ca cb (by omega) (by omega) g5 k5).mono ?_
  rintro e w' ⟨rfl, q⟩
  exact ⟨by simp, q⟩
def Fr (w : World) (v : Value) (L : Fil2) : Prop := ∃ ao ca, v = .slice ao L.length ca ∧ L.length ≤ ca ∧ ca ≤ 9223372036854775807 ∧ ∀ i (h : i < L.length), ∃ b off vj, ao = some ⟨b, off, none⟩ ∧ w.cell? ⟨b, off + i * 2, none⟩ = some (.string (bsOf L[i].1)) ∧ w.cell? ⟨b, off + i * 2 + 1, none⟩ = some vj ∧ Sl w vj L[i].2
theorem ficells_at : ∀ (L : Fil2) (vs : List Value), vs.length = L.length → ∀ i l u, L[i]? = some l → vs[i]? = some u → (Dk.fcells L vs)[i * 2]? = some (encStr l.1) ∧ (Dk.fcells L vs)[i * 2 + 1]? = some u
  | [], [], _, i, k, u, h, _ => by simp at h
  | a :: r, b :: s, h, i, k, u, h1, h2 => by
    cases i with
    | zero => simp at h1 h2; subst h1 h2; exact ⟨rfl, rfl⟩
    | succ i =>
      have := ficells_at r s (by simpa using h) i k u (by simpa using h1) (by simpa using h2)
      rw [show (i + 1) * 2 = i * 2 + 1 + 1 by omega]
      simpa [Dk.fcells] using this
  | [], _ :: _, h, _, _, _, _, _ => by simp at h
  | _ :: _, [], h, _, _, _, _, _ => by simp at h
theorem fr_of {B : Nat} {w : World} {v : Value} {L : Fil2} {vs : List Value} (h : FlI B w v L vs) : Fr w v L := by
  rcases id h.row with ⟨h0, ⟨e, hz⟩ | ⟨g, cap, cur, e, hB, hc, h1, h2, h3, h4⟩⟩
  · exact ⟨none, 0, by rw [hz]; exact e, by omega, by omega, fun i hi => by omega⟩
  · refine ⟨some ⟨g, 0, none⟩, cap, e, h1, by unfold maxLen at h2; omega, fun i hi => ?_⟩
    have hv : i < vs.length := by rw [h.len]; exact hi
    have q := ficells_at L vs h.len i L[i] vs[i] (List.getElem?_eq_getElem hi) (List.getElem?_eq_getElem hv)
    have ce := World.ownsRow.cells h.row (g := g) (by rw [e]; rfl)
    have c1 := ce _ _ q.1
    have c2 := ce _ _ q.2
    rw [addr_add] at c1 c2
    exact ⟨g, 0, vs[i], rfl, c1, c2, (h.ob i _ _ (List.getElem?_eq_getElem hv) (List.getElem?_eq_getElem hi)).sl⟩
theorem Fr.below {w w' : World} {v : Value} {L : Fil2} (h : Fr w v L) (hb : Below w.heap.size w w') : Fr w' v L := by
  obtain ⟨ao, ca, e, h1, h2, h3⟩ := h
  refine ⟨ao, ca, e, h1, h2, fun i hi => ?_⟩
  obtain ⟨b, off, vj, e1, c1, c2, s⟩ := h3 i hi
  exact ⟨b, off, vj, e1, by rw [hb.cell (lt_of_cell c1)]; exact c1, by rw [hb.cell (lt_of_cell c2)]; exact c2, Below.sl hb s⟩
set_option maxRecDepth 100000 in
set_option maxHeartbeats 1000000 in
theorem files_eq (w : World) (va vb : Value) (L : Fil2) (ha : Fr w va L) (hb : Fr w vb L) :
    Calls Tryz.prog 42 #[va, vb] w fun e w' => e = .returned (.bool true) ∧ Below w.heap.size w w' := by
  obtain ⟨aa, ac, rfl, a1, a2, a3⟩ := ha
  obtain ⟨ba, bc, rfl, b1, b2, b3⟩ := hb
  obtain ⟨N, hN⟩ : ∃ N, Hid (L.length = N) := ⟨_, rfl⟩
  rw [hN.out] at a1 b1 ⊢
  replace a3 := hide a3
  replace b3 := hide b3
  go_enter Tryz.func42, Tryz.ntmps42
  go_wp2_with fail
  go_loopw [5] (fun i wr => ∃ k : Nat, i = .int .i64 k ∧ k ≤ N ∧ Hid (Below w.heap.size w wr)) (fun i _ => N - (intOf i).toNat)
  case atStart => exact ⟨0, rfl, Nat.zero_le _, Below.refl _ _⟩
  case round =>
    obtain ⟨k, rfl, hk, hB⟩ := hrel
    by_cases hlt : k < N
    · have i1 : (k : Int) < (N : Int) := by omega
      have hkl : k < L.length := by rw [hN.out]; exact hlt
      obtain ⟨ga, oa, vx, rfl, x0, x1, sx⟩ := a3.out k hkl
      obtain ⟨gb, ob, vy, rfl, y0, y1, sy⟩ := b3.out k hkl
      rw [← hB.out.cell (p := ⟨ga, oa + k * 2, none⟩) (lt_of_cell x0)] at x0
      rw [← hB.out.cell (p := ⟨ga, oa + k * 2 + 1, none⟩) (lt_of_cell x1)] at x1
      rw [← hB.out.cell (p := ⟨gb, ob + k * 2, none⟩) (lt_of_cell y0)] at y0
      rw [← hB.out.cell (p := ⟨gb, ob + k * 2 + 1, none⟩) (lt_of_cell y1)] at y1
      have SX := hide (Below.sl hB.out sx)
      have SY := hide (Below.sl hB.out sy)
      clear sx sy
      obtain ⟨_, _, rfl, _⟩ := id SX.out
      obtain ⟨_, _, rfl, _⟩ := id SY.out
      generalize bsOf L[k].1 = t at *
      generalize L[k].2 = D at *
      go_wp2_with fail
      go_quiet ((go_at_call 21; exact Calls.quiet_of (eqT _ _ _ D (Qt.sl ⟨_, rfl⟩ SX.out) (Qt.sl ⟨_, rfl⟩ SY.out))))
      have B3 : Hid (Below w.heap.size w (wr.drewN nq)) := hB.out.trans ((Qt.below ⟨nq, rfl⟩ _).mono hB.out.size)
      generalize wr.drewN nq = wy at *
      go_wp2_with fail
      go_roundw
      case rel => exact ⟨k + 1, by go_num, by omega, B3⟩
      case measure => simp [intOf]; omega
    · have i1 : ¬ ((k : Int) < (N : Int)) := by omega
      go_wp2_with fail
      go_ret
      exact ⟨rfl, hB.out⟩
def Nr (w : World) (v : Value) (L : List (List UInt8)) : Prop := ∃ ao ca, v = .slice ao L.length ca ∧ L.length ≤ ca ∧ ca ≤ 9223372036854775807 ∧ ∀ i (h : i < L.length), ∃ b off, ao = some ⟨b, off, none⟩ ∧ w.cell? ⟨b, off + i, none⟩ = some (.string (bsOf L[i]))
theorem Nr.below {w w' : World} {v : Value} {L : List (List UInt8)} (h : Nr w v L) (hb : Below w.heap.size w w') : Nr w' v L := by
  obtain ⟨ao, ca, e, h1, h2, h3⟩ := h
  refine ⟨ao, ca, e, h1, h2, fun i hi => ?_⟩
  obtain ⟨b, off, e1, c1⟩ := h3 i hi
  exact ⟨b, off, e1, by rw [hb.cell (lt_of_cell c1)]; exact c1⟩
theorem list_dskE {w : World} {b : Nat} {S : DS} {O : Nat → Prop} (h : DskE w b S O) (hc : S.c7 < 1000000000) : Calls Tryz.prog 26 #[.pointer (some ⟨b, 0, none⟩)] w fun e w' => ∃ v, e = .returned (.tuple #[v, .int .i64 S.list.2]) ∧ w'.ownsRow w.heap.size 9 1 v S.list.1.length (S.list.1.map encStr) ∧ Below w.heap.size w w' := by
  obtain ⟨f, g, pd, am, VB, VL, hd⟩ := h
  exact list_any hd hc
end Go.Proofs.YtjehpijjneghpaaGreat.Re
