/-
  Package strconv at 0.5: the digits are laid out.
-/
import Derived.Test.YtmmmpdfoigkljaaGreatDoorRlG
import Derived.BigRegion
namespace Go.Proofs.YtmmmpdfoigkljaaGreatDoor.Rl
open Go.RowKit
set_option maxRecDepth 100000

/-- From the k-th on the sixteen digits of 5000000000000000 lie in block b. -/
def Dg (q : World) (b k : Nat) : Prop := (∃ cs, q.heap[b]? = some (.cells cs 105 (0, 0))) ∧ ∀ i, i < 16 → q.frozen? ⟨b, i, none⟩ = false ∧ ∃ z : Int, q.cell? ⟨b, i, none⟩ = some (.int .u8 z) ∧ (k ≤ i → z = if i = 0 then 53 else 48)
theorem Dg.cell {q : World} {b k : Nat} (h : Dg q b k) (i : Nat) (hi : i < 16) : ∃ z : Int, q.cell? ⟨b, i, none⟩ = some (.int .u8 z) := by
  obtain ⟨_, z, hz, _⟩ := h.2 i hi; exact ⟨z, hz⟩
theorem Dg.set {q : World} {b k j : Nat} (h : Dg q b k) (z : Int) (hj : j < 16) (hz : z = if j = 0 then 53 else 48) (k' : Nat) (hk : ∀ i, k' ≤ i → i ≠ j → k ≤ i) : Dg (q.setCell ⟨b, j, none⟩ (.int .u8 z)) b k' := by
  obtain ⟨⟨cs, hcs⟩, h⟩ := h
  refine ⟨⟨_, heap_setCell_same q b j cs _ _ hcs⟩, ?_⟩
  intro i hi
  obtain ⟨hf, z0, h0, h1⟩ := h i hi
  refine ⟨by rw [World.frozen?_setCell]; exact hf, ?_⟩
  by_cases he : i = j
  · subst he
    exact ⟨z, World.cell?_setCell_same _ _ _ h0, fun _ => hz⟩
  · refine ⟨z0, ?_, fun hk' => h1 (hk i hk' he)⟩
    rw [World.cell?_setCell_other _ _ _ _ (by intro e; cases e; exact he rfl)]; exact h0
theorem Dg.drew {q : World} {b k : Nat} (h : Dg q b k) : Dg q.drew b k := by
  refine ⟨h.1, ?_⟩
  intro i hi
  obtain ⟨hf, z, h0, h1⟩ := h.2 i hi
  exact ⟨hf, z, by simpa using h0, h1⟩
theorem widen {K : Act → World → Prop} {Q : Exit → Act → World → Prop} {e : Exit} {a : Act} {W : World} (R : World → Prop) (hR : R W) (h : ∀ q, R q → Exit.then K Q e a q) : Exit.then K Q e a W := h W hR
set_option maxHeartbeats 2000000 in
theorem base10_half (w : World) (b base cap : Nat) (hb : base ≤ b) (hD0 : Dg w b 16) :
    Calls Tryz.prog 110 #[.slice (some ⟨b, 0, none⟩) 16 cap, .int .u64 5000000000000000] w
      fun e w' => ∃ v, e = .returned v ∧ Dg w' b 0 ∧ Below base w w' := by
  have hB0 : Hid (Below base w w) := Below.refl _ _
  obtain ⟨z1, h1⟩ := hD0.cell 15 (by omega)
  obtain ⟨z2, h2⟩ := hD0.cell 14 (by omega)
  have f1 := (hD0.2 15 (by omega)).1
  have f2 := (hD0.2 14 (by omega)).1
  replace hD0 : Hid (Dg w b 16) := hD0
  go_enter Tryz.func110, Tryz.ntmps110
  go_wp2_with fail
  refine wp_loop_rounds 3 ?_
  rw [rounds_succ]
  go_wp2_with fail
  go_region
  refine widen (fun q => Dg q b 14 ∧ Below base w q) ⟨(Dg.set (Dg.set hD0.out _ (by omega) ?one 15 (by omega)) _ (by omega) ?two 14 (by omega)).drew, ((hB0.out.setCell (p := ⟨b, 15, none⟩) hb _).setCell (p := ⟨b, 14, none⟩) hb _).drew⟩ ?_
  case one => decide +kernel
  case two => decide +kernel
  clear h1 h2 f1 f2 hD0 hB0
  rintro q1 ⟨hD1, hB1⟩
  obtain ⟨z1, h1⟩ := hD1.cell 13 (by omega)
  obtain ⟨z2, h2⟩ := hD1.cell 12 (by omega)
  have f1 := (hD1.2 13 (by omega)).1
  have f2 := (hD1.2 12 (by omega)).1
  replace hD1 : Hid (Dg q1 b 14) := hD1
  replace hB1 : Hid (Below base w q1) := hB1
  go_wp2_with fail
  go_region
  refine widen (fun q => Dg q b 12 ∧ Below base w q) ⟨(Dg.set (Dg.set hD1.out _ (by omega) ?one 13 (by omega)) _ (by omega) ?two 12 (by omega)).drew, ((hB1.out.setCell (p := ⟨b, 13, none⟩) hb _).setCell (p := ⟨b, 12, none⟩) hb _).drew⟩ ?_
  case one => decide +kernel
  case two => decide +kernel
  clear h1 h2 f1 f2 hD1 hB1
  rintro q2 ⟨hD2, hB2⟩
  obtain ⟨z1, h1⟩ := hD2.cell 11 (by omega)
  obtain ⟨z2, h2⟩ := hD2.cell 10 (by omega)
  have f1 := (hD2.2 11 (by omega)).1
  have f2 := (hD2.2 10 (by omega)).1
  replace hD2 : Hid (Dg q2 b 12) := hD2
  replace hB2 : Hid (Below base w q2) := hB2
  go_wp2_with fail
  go_region
  refine widen (fun q => Dg q b 10 ∧ Below base w q) ⟨(Dg.set (Dg.set hD2.out _ (by omega) ?one 11 (by omega)) _ (by omega) ?two 10 (by omega)).drew, ((hB2.out.setCell (p := ⟨b, 11, none⟩) hb _).setCell (p := ⟨b, 10, none⟩) hb _).drew⟩ ?_
  case one => decide +kernel
  case two => decide +kernel
  clear h1 h2 f1 f2 hD2 hB2
  rintro q3 ⟨hD3, hB3⟩
  obtain ⟨z1, h1⟩ := hD3.cell 9 (by omega)
  obtain ⟨z2, h2⟩ := hD3.cell 8 (by omega)
  have f1 := (hD3.2 9 (by omega)).1
  have f2 := (hD3.2 8 (by omega)).1
  replace hD3 : Hid (Dg q3 b 10) := hD3
  replace hB3 : Hid (Below base w q3) := hB3
  go_wp2_with fail
  go_region
  refine widen (fun q => Dg q b 8 ∧ Below base w q) ⟨(Dg.set (Dg.set hD3.out _ (by omega) ?one 9 (by omega)) _ (by omega) ?two 8 (by omega)).drew, ((hB3.out.setCell (p := ⟨b, 9, none⟩) hb _).setCell (p := ⟨b, 8, none⟩) hb _).drew⟩ ?_
  case one => decide +kernel
  case two => decide +kernel
  clear h1 h2 f1 f2 hD3 hB3
  rintro q4 ⟨hD4, hB4⟩
  obtain ⟨z1, h1⟩ := hD4.cell 7 (by omega)
  obtain ⟨z2, h2⟩ := hD4.cell 6 (by omega)
  have f1 := (hD4.2 7 (by omega)).1
  have f2 := (hD4.2 6 (by omega)).1
  replace hD4 : Hid (Dg q4 b 8) := hD4
  replace hB4 : Hid (Below base w q4) := hB4
  go_wp2_with fail
  rw [rounds_succ]
  go_wp2_with fail
  go_region
  refine widen (fun q => Dg q b 6 ∧ Below base w q) ⟨(Dg.set (Dg.set hD4.out _ (by omega) ?one 7 (by omega)) _ (by omega) ?two 6 (by omega)).drew, ((hB4.out.setCell (p := ⟨b, 7, none⟩) hb _).setCell (p := ⟨b, 6, none⟩) hb _).drew⟩ ?_
  case one => decide +kernel
  case two => decide +kernel
  clear h1 h2 f1 f2 hD4 hB4
  rintro q5 ⟨hD5, hB5⟩
  obtain ⟨z1, h1⟩ := hD5.cell 5 (by omega)
  obtain ⟨z2, h2⟩ := hD5.cell 4 (by omega)
  have f1 := (hD5.2 5 (by omega)).1
  have f2 := (hD5.2 4 (by omega)).1
  replace hD5 : Hid (Dg q5 b 6) := hD5
  replace hB5 : Hid (Below base w q5) := hB5
  go_wp2_with fail
  go_region
  refine widen (fun q => Dg q b 4 ∧ Below base w q) ⟨(Dg.set (Dg.set hD5.out _ (by omega) ?one 5 (by omega)) _ (by omega) ?two 4 (by omega)).drew, ((hB5.out.setCell (p := ⟨b, 5, none⟩) hb _).setCell (p := ⟨b, 4, none⟩) hb _).drew⟩ ?_
  case one => decide +kernel
  case two => decide +kernel
  clear h1 h2 f1 f2 hD5 hB5
  rintro q6 ⟨hD6, hB6⟩
  obtain ⟨z1, h1⟩ := hD6.cell 3 (by omega)
  obtain ⟨z2, h2⟩ := hD6.cell 2 (by omega)
  have f1 := (hD6.2 3 (by omega)).1
  have f2 := (hD6.2 2 (by omega)).1
  replace hD6 : Hid (Dg q6 b 4) := hD6
  replace hB6 : Hid (Below base w q6) := hB6
  go_wp2_with fail
  go_region
  refine widen (fun q => Dg q b 2 ∧ Below base w q) ⟨(Dg.set (Dg.set hD6.out _ (by omega) ?one 3 (by omega)) _ (by omega) ?two 2 (by omega)).drew, ((hB6.out.setCell (p := ⟨b, 3, none⟩) hb _).setCell (p := ⟨b, 2, none⟩) hb _).drew⟩ ?_
  case one => decide +kernel
  case two => decide +kernel
  clear h1 h2 f1 f2 hD6 hB6
  rintro q7 ⟨hD7, hB7⟩
  obtain ⟨z1, h1⟩ := hD7.cell 1 (by omega)
  obtain ⟨z2, h2⟩ := hD7.cell 0 (by omega)
  have f1 := (hD7.2 1 (by omega)).1
  have f2 := (hD7.2 0 (by omega)).1
  replace hD7 : Hid (Dg q7 b 2) := hD7
  replace hB7 : Hid (Below base w q7) := hB7
  go_wp2_with fail
  go_region
  refine widen (fun q => Dg q b 0 ∧ Below base w q) ⟨(Dg.set (Dg.set hD7.out _ (by omega) ?one 1 (by omega)) _ (by omega) ?two 0 (by omega)).drew, ((hB7.out.setCell (p := ⟨b, 1, none⟩) hb _).setCell (p := ⟨b, 0, none⟩) hb _).drew⟩ ?_
  case one => decide +kernel
  case two => decide +kernel
  clear h1 h2 f1 f2 hD7 hB7
  rintro q8 ⟨hD8, hB8⟩
  go_wp2_with fail
  rw [rounds_succ]
  go_wp2
  go_returns
  exact ⟨_, rfl, hD8, hB8⟩
end Go.Proofs.YtmmmpdfoigkljaaGreatDoor.Rl
