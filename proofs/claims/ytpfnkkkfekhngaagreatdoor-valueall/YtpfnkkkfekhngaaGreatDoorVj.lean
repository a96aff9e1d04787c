/-
  Things made of values.
-/
import Derived.Test.YtpfnkkkfekhngaaGreatDoorVh
namespace Go.Proofs.YtpfnkkkfekhngaaGreatDoor.Va
open Go.RowKit Go.Proofs.YtpfnkkkfekhngaaGreatDoor.Rl
set_option maxRecDepth 100000

theorem okV_unz {d : Nat} {k n : Int} {r : Nat} {t : List UInt8} {l : List Val} : okV d (.mk k n r t l) = (unz k n r t l && (decide (1 ≤ k) && decide (k ≤ 6)) && (!decide (k = 2) || (decide (0 ≤ n) && decide (n ≤ 1))) && (!decide (k = 6) || decide (d < 8)) && okL (d + 1) l) := by
  rw [okV]
  unfold plain unz
  ac_rfl
theorem okL_free {l : List Val} {k n : Int} {r : Nat} {t : List UInt8} (h : unz k n r t l = true) (hk : k ≠ 6) : l = [] := by
  unfold unz at h
  simp [hk] at h
  exact h.2
/-- A box of a value. -/
def Box (q : World) (b : Nat) (k n : Int) (r : Nat) (t : List UInt8) (ao : Option Addr) (m c : Nat) : Prop := q.cell? ⟨b, 0, none⟩ = some (.int .i64 k) ∧ q.cell? ⟨b, 1, none⟩ = some (.int .i64 n) ∧ q.cell? ⟨b, 2, none⟩ = some (.float .f64 r) ∧ q.cell? ⟨b, 3, none⟩ = some (.string (bstr t)) ∧ q.cell? ⟨b, 4, none⟩ = some (.slice ao m c)
theorem Box.but {q q' : World} {b mb : Nat} {k n : Int} {r : Nat} {t : List UInt8} {ao : Option Addr} {m c : Nat} (h : Box q b k n r t ao m c) (hb : But mb q q') (hm : b ≠ mb) : Box q' b k n r t ao m c := by
  obtain ⟨h0, h1, h2, h3, h4⟩ := h
  exact ⟨hb.cell h0 hm, hb.cell h1 hm, hb.cell h2 hm, hb.cell h3 hm, hb.cell h4 hm⟩
theorem Box.new (w : World) (k n : Int) (r : Nat) (t : List UInt8) (ao : Option Addr) (m c : Nat) (T : TypeId) : Box (w.alloc (.cells #[.int .i64 k, .int .i64 n, .float .f64 r, .string (bstr t), .slice ao m c] T)) w.heap.size k n r t ao m c :=
  ⟨box_cell w _ T 0 _ rfl, box_cell w _ T 1 _ rfl, box_cell w _ T 2 _ rfl, box_cell w _ T 3 _ rfl, box_cell w _ T 4 _ rfl⟩
set_option maxHeartbeats 4000000 in
theorem thing_any (x : Val) : DoesThing x := by
  induction x using Val.ind with
  | h k n r t l ih =>
    intro w0 w v mb L d hv hm hB hN hL0 hL1 hd
    rw [IsV] at hv
    obtain ⟨ao, cap, rfl, _, h2, h3, h4, h5⟩ := hv
    have hlist := fun (q : World) (K : Int) (hq : Below w0.heap.size w0 q) (hNq : Num q mb 0 K) (k0 : 0 ≤ K) (k1 : K ≤ 65536) => list_any l ih w0 q ao cap mb K d h5 h2 h3 hm hq hNq k0 k1 hd
    obtain ⟨m, hm0⟩ : ∃ m, Hid (l.length = m) := ⟨_, rfl⟩
    obtain ⟨s, hs0⟩ : ∃ s, Hid (t.length = s) := ⟨_, rfl⟩
    have hmb : Hid (mb < w.heap.size) := lt_of_cell hN.1
    have hsz : Hid (szV (.mk k n r t l) = 1 + s + szL l) := by show _ = _; rw [szV, hs0.out]
    have hs : s ≤ 9223372036854775000 := by rw [← hs0.out]; omega
    have kbs : (bstr t).size = s := by rw [← hs0.out]; rfl
    obtain ⟨ok, hok⟩ : ∃ ok, Hid ((okV d (.mk k n r t l) && decide ((szV (.mk k n r t l) : Int) ≤ L)) = ok) := ⟨_, rfl⟩
    rw [hok.out, hsz.out]
    have hok2 : Hid (ok = ((unz k n r t l && (decide (1 ≤ k) && decide (k ≤ 6)) && (!decide (k = 2) || (decide (0 ≤ n) && decide (n ≤ 1))) && (!decide (k = 6) || decide (d < 8)) && okL (d + 1) l) && decide (((1 + s + szL l : Nat) : Int) ≤ L))) := by
      show _ = _
      rw [← hok.out, okV_unz, hsz.out]
    have hbad : Hid (ok = false → ∀ q, But mb w q → Made mb L ok (1 + s + szL l) w (.mk k n r t l) (.returned (.tuple #[.nilIface, .bool false])) q) := fun h q hq => by
      subst h
      exact ⟨hq, _, rfl, fun _ => rfl, fun e => by simp at e⟩
    obtain ⟨U, hU⟩ : ∃ U, Hid (unz k n r t l = U) := ⟨_, rfl⟩
    have kun : Hid (∀ q : World, Calls Tryz.prog 65 #[.agg #[.int .i64 k, .int .i64 n, .float .f64 r, .string (bstr t), .slice ao m cap]] q fun e w' => e = .returned (.bool U) ∧ Below q.heap.size q w') := fun q => by
      have := unz_any q k n r t l ao cap
      rw [hU.out, hm0.out] at this
      exact this
    have hlist' : Hid (∀ (q : World) (K : Int), Below w0.heap.size w0 q → Num q mb 0 K → 0 ≤ K → K ≤ 65536 → Calls Tryz.prog 66 #[.pointer (some ⟨mb, 0, none⟩), .slice ao m cap, .int .i64 ((d : Int) + 1)] q (Made mb K (decide (d < 8) && okL (d + 1) l && decide ((szL l : Int) ≤ K)) (szL l) q (.mk 6 0 0 [] l))) := fun q K a1 a2 a3 a4 => by
      have := hlist q K a1 a2 a3 a4
      rw [hm0.out] at this
      exact this
    clear hlist ih h2 h3 h4 h5
    replace hB : Hid (Below w0.heap.size w0 w) := hB
    replace hN : Hid (Num w mb 0 L) := hN
    rw [hm0.out]
    have hwm : Hid (w.heap.size ≠ mb) := by show _ ≠ _; have := hmb.out; omega
    obtain ⟨wa, hwa⟩ : ∃ wa, Hid (w.alloc (.cells #[.int .i64 k, .int .i64 n, .float .f64 r, .string (bstr t), .slice ao m cap] 35) = wa) := ⟨_, rfl⟩
    have hBx : Hid (Box wa w.heap.size k n r t ao m cap) := by rw [← hwa.out]; exact Box.new w k n r t ao m cap _
    have hBa : Hid (Below w.heap.size w wa) := by rw [← hwa.out]; exact box_below _ _
    have hNa : Hid (Num wa mb 0 L) := hN.out.below hBa.out
    have KS : Hid (∀ q, But mb wa q → But mb wa q ∧ q.cell? ⟨w.heap.size, 0, none⟩ = some (.int .i64 k) ∧ q.cell? ⟨w.heap.size, 1, none⟩ = some (.int .i64 n) ∧ q.cell? ⟨w.heap.size, 2, none⟩ = some (.float .f64 r) ∧ q.cell? ⟨w.heap.size, 3, none⟩ = some (.string (bstr t)) ∧ q.cell? ⟨w.heap.size, 4, none⟩ = some (.slice ao m cap)) := fun q hq => ⟨hq, hBx.out.but hq hwm.out⟩
    have hS0 := KS.out wa.drew (But.refl _ _).drew
    go_enter Tryz.func42, Tryz.ntmps42
    go_wp2_with fail
    rw [hwa.out]
    cases U with
    | false =>
      have hf : ok = false := by rw [hok2.out, hU.out]; rfl
      obtain ⟨x0, x1, x2, x3, x4⟩ := hBx.out
      first
        | (go_region_with (go_at_call 65; refine (kun.out _).mono ?_; rintro e u1 ⟨rfl, B1⟩))
        | fail
      all_goals (go_wp2_with fail; go_returns; exact hbad.out hf _ (But.trans (But.of hBa.out).drew (But.of B1)))
    | true =>
    have hwr : IntKind.i64.wrap (1 + (s : Int)) = 1 + (s : Int) := by rw [IntKind.wrap_i64]; omega
    by_cases hsp : L < 1 + (s : Int)
    · have hf : ok = false := by
        rw [hok2.out, decide_eq_false (p := ((1 + s + szL l : Nat) : Int) ≤ L) (by omega), Bool.and_false]
      have ksp : Hid (∀ q : World, Num q mb 0 L → Calls Tryz.prog 54 #[.pointer (some ⟨mb, 0, none⟩), .int .i64 (IntKind.i64.wrap (1 + (s : Int)))] q fun e w' => e = .returned (.bool false) ∧ w' = q) := fun q hq => by
        rw [hwr]
        exact spend_no q mb 0 L _ hq hsp
      clear hwr
      go_region_held3 (fun q => But mb wa q ∧ q.cell? ⟨w.heap.size, 0, none⟩ = some (.int .i64 k) ∧ q.cell? ⟨w.heap.size, 1, none⟩ = some (.int .i64 n) ∧ q.cell? ⟨w.heap.size, 2, none⟩ = some (.float .f64 r) ∧ q.cell? ⟨w.heap.size, 3, none⟩ = some (.string (bstr t)) ∧ q.cell? ⟨w.heap.size, 4, none⟩ = some (.slice ao m cap))
        (first | exact hS0 | assumption | exact KS.out _ (But.trans (And.left (by assumption)) (But.of (by assumption))))
        (first
          | (go_at_call 65; refine (kun.out _).mono ?_; rintro e u1 ⟨rfl, B1⟩; have N1 : Hid (Num u1 mb 0 L) := hNa.out.drew.below B1)
          | (go_at_call 54; refine (ksp.out _ (by first | exact N1.out | exact N1.out.drew)).mono ?_; rintro e u2 ⟨rfl, E2⟩; have E3 := E2.symm; subst E3))
      have hfb : But mb wa u1 := And.left (a := But mb wa u1) (by assumption)
      go_wp2_with fail
      go_returns
      exact hbad.out hf _ (But.trans (But.of hBa.out) hfb)
    · obtain ⟨K, hK⟩ : ∃ K, Hid (L - (1 + (s : Int)) = K) := ⟨_, rfl⟩
      have hK0 : 0 ≤ K ∧ K ≤ 65536 := by have := hK.out; omega
      have ksp : Hid (∀ q : World, Num q mb 0 L → Calls Tryz.prog 54 #[.pointer (some ⟨mb, 0, none⟩), .int .i64 (IntKind.i64.wrap (1 + (s : Int)))] q fun e w' => e = .returned (.bool true) ∧ But mb q w' ∧ Num w' mb 0 K) := fun q hq => by
        rw [hwr]
        refine (spend_yes q mb 0 L _ hq (by omega) (by omega) (by omega)).mono ?_
        rintro e w' ⟨rfl, rfl⟩
        rw [hK.out]
        exact ⟨rfl, But.set _ _ _ _, hq.set K⟩
      clear hwr
      go_region_held3 (fun q => But mb wa q ∧ q.cell? ⟨w.heap.size, 0, none⟩ = some (.int .i64 k) ∧ q.cell? ⟨w.heap.size, 1, none⟩ = some (.int .i64 n) ∧ q.cell? ⟨w.heap.size, 2, none⟩ = some (.float .f64 r) ∧ q.cell? ⟨w.heap.size, 3, none⟩ = some (.string (bstr t)) ∧ q.cell? ⟨w.heap.size, 4, none⟩ = some (.slice ao m cap))
        (first | exact hS0 | assumption | exact KS.out _ (But.trans (And.left (by assumption)) (But.of (by assumption))) | exact KS.out _ (But.trans (And.left (by assumption)) B2))
        (first
          | (go_at_call 65; refine (kun.out _).mono ?_; rintro e u1 ⟨rfl, B1⟩; have N1 : Hid (Num u1 mb 0 L) := hNa.out.drew.below B1)
          | (go_at_call 54; refine (ksp.out _ (by first | exact N1.out | exact N1.out.drew)).mono ?_; rintro e u2 ⟨rfl, B2, N2⟩))
      have hfb : Hid (But mb wa u2) := And.left (a := But mb wa u2) (by assumption)
      replace N2 : Hid (Num u2 mb 0 K) := N2
      have hbw : Hid (But mb w u2) := But.trans (But.of hBa.out) hfb.out
      have hgood : Hid (ok = true → ∀ q tv, But mb w q → IsT (fun b => w.heap.size ≤ b) q tv (.mk k n r t l) → Num q mb 0 (L - ((1 + s + szL l : Nat) : Int)) → Made mb L ok (1 + s + szL l) w (.mk k n r t l) (.returned (.tuple #[tv, .bool true])) q) := fun h q tv hq ht hn => by
        subst h
        exact ⟨hq, _, rfl, fun e => by simp at e, fun _ => ⟨ht, hn⟩⟩
      have hnum : Hid (l = [] → Num u2 mb 0 (L - ((1 + s + szL l : Nat) : Int))) := fun h => by
        rw [h, szL, show L - ((1 + s + 0 : Nat) : Int) = K by have := hK.out; omega]
        exact N2.out
      obtain ⟨_, y0, y1, y2, y3, y4⟩ := KS.out u2 hfb.out
      clear hS0 ksp kun N1 B1 B2
      by_cases e1 : k = 1
      · subst e1
        have e0 : Hid (l = []) := okL_free hU.out (by omega)
        have hokt : Hid (ok = true) := by show _ = _; rw [hok2.out, hU.out, e0.out, okL, szL, decide_eq_true (p := ((1 + s + 0 : Nat) : Int) ≤ L) (by omega)]; rfl
        go_wp2_with fail
        go_returns
        exact hgood.out hokt.out _ _ hbw.out (by rw [IsT]; exact Or.inl ⟨rfl, rfl⟩) (hnum.out e0.out)
      by_cases e2 : k = 2
      · subst e2
        have e0 : Hid (l = []) := okL_free hU.out (by omega)
        by_cases n0 : n = 0
        · subst n0
          have hokt : Hid (ok = true) := by show _ = _; rw [hok2.out, hU.out, e0.out, okL, szL, decide_eq_true (p := ((1 + s + 0 : Nat) : Int) ≤ L) (by omega)]; rfl
          go_wp2_with fail
          go_returns
          exact hgood.out hokt.out _ _ hbw.out (by rw [IsT]; exact Or.inr (Or.inl ⟨rfl, rfl⟩)) (hnum.out e0.out)
        by_cases n1 : n = 1
        · subst n1
          have hokt : Hid (ok = true) := by show _ = _; rw [hok2.out, hU.out, e0.out, okL, szL, decide_eq_true (p := ((1 + s + 0 : Nat) : Int) ≤ L) (by omega)]; rfl
          go_wp2_with fail
          go_returns
          exact hgood.out hokt.out _ _ hbw.out (by rw [IsT]; exact Or.inr (Or.inl ⟨rfl, rfl⟩)) (hnum.out e0.out)
        have hf : Hid (ok = false) := by
          show _ = _
          rw [hok2.out]
          have : (decide (0 ≤ n) && decide (n ≤ 1)) = false := by simp; omega
          rw [this]; simp
        have m0 : (n != 0) = true := by simpa using n0
        have m1 : (n != 1) = true := by simpa using n1
        go_wp2_with fail
        go_returns
        exact hbad.out hf.out _ hbw.out
      by_cases e3 : k = 3
      · subst e3
        have e0 : Hid (l = []) := okL_free hU.out (by omega)
        have hokt : Hid (ok = true) := by show _ = _; rw [hok2.out, hU.out, e0.out, okL, szL, decide_eq_true (p := ((1 + s + 0 : Nat) : Int) ≤ L) (by omega)]; rfl
        go_wp2_with fail
        go_returns
        exact hgood.out hokt.out _ _ hbw.out (by rw [IsT]; exact Or.inr (Or.inr (Or.inl ⟨rfl, rfl⟩))) (hnum.out e0.out)
      by_cases e4 : k = 4
      · subst e4
        have e0 : Hid (l = []) := okL_free hU.out (by omega)
        have hokt : Hid (ok = true) := by show _ = _; rw [hok2.out, hU.out, e0.out, okL, szL, decide_eq_true (p := ((1 + s + 0 : Nat) : Int) ≤ L) (by omega)]; rfl
        go_wp2_with fail
        go_returns
        exact hgood.out hokt.out _ _ hbw.out (by rw [IsT]; exact Or.inr (Or.inr (Or.inr (Or.inl ⟨rfl, rfl⟩)))) (hnum.out e0.out)
      by_cases e5 : k = 5
      · subst e5
        have e0 : Hid (l = []) := okL_free hU.out (by omega)
        have hokt : Hid (ok = true) := by show _ = _; rw [hok2.out, hU.out, e0.out, okL, szL, decide_eq_true (p := ((1 + s + 0 : Nat) : Int) ≤ L) (by omega)]; rfl
        go_wp2_with fail
        go_returns
        exact hgood.out hokt.out _ _ hbw.out (by rw [IsT]; exact Or.inr (Or.inr (Or.inr (Or.inr (Or.inl ⟨rfl, rfl⟩))))) (hnum.out e0.out)
      by_cases e6 : k = 6
      · subst e6
        have hcall := hlist'.out u2 K (hB.out.trans (hbw.out.below hm hB.out.size)) N2.out hK0.1 hK0.2
        obtain ⟨ok2, hk2⟩ : ∃ ok2, Hid ((decide (d < 8) && okL (d + 1) l && decide ((szL l : Int) ≤ K)) = ok2) := ⟨_, rfl⟩
        rw [hk2.out] at hcall
        have hoo : Hid (ok = ok2) := by
          show _ = _
          rw [hok2.out, hU.out, ← hk2.out]
          have : decide (((1 + s + szL l : Nat) : Int) ≤ L) = decide ((szL l : Int) ≤ K) := by
            have := hK.out
            rw [Bool.eq_iff_iff]; simp; omega
          rw [this]; simp
        replace hcall : Hid (Calls Tryz.prog 66 #[.pointer (some ⟨mb, 0, none⟩), .slice ao m cap, .int .i64 ((d : Int) + 1)] u2 (Made mb K ok2 (szL l) u2 (.mk 6 0 0 [] l))) := hcall
        go_wp2_with fail
        refine hcall.out.mono ?_
        rintro e w3 ⟨hb3, tv, rfl, hno, hyes⟩
        have hb4 : Hid (But mb w w3) := hbw.out.trans hb3
        cases ok2 with
        | false =>
          obtain rfl := hno rfl
          clear hno hyes hb3
          go_wp2_with fail
          go_returns
          exact hbad.out hoo.out _ hb4.out
        | true =>
          obtain ⟨h5, h6⟩ := hyes rfl
          have hsz2 : w.heap.size ≤ u2.heap.size := hbw.out.size
          have h7 : Hid (IsT (fun b => w.heap.size ≤ b) w3 tv (.mk 6 n r t l)) := by
            show IsT ..
            have h8 := IsT.down (S' := fun b => w.heap.size ≤ b) (fun b hb _ => by have hb' : u2.heap.size ≤ b := hb; omega) h5
            rw [IsT] at h8 ⊢
            rcases h8 with ⟨h, _⟩ | ⟨h, _⟩ | ⟨h, _⟩ | ⟨h, _⟩ | ⟨h, _⟩ | h
            · omega
            · omega
            · omega
            · omega
            · omega
            · exact Or.inr (Or.inr (Or.inr (Or.inr (Or.inr h))))
          have h9 : Hid (Num w3 mb 0 (L - ((1 + s + szL l : Nat) : Int))) := by
            show Num ..
            rw [show L - ((1 + s + szL l : Nat) : Int) = K - szL l by have := hK.out; omega]
            exact h6
          clear hno hyes hb3 h5 h6
          go_wp2_with fail
          go_returns
          exact hgood.out hoo.out _ _ hb4.out h7.out h9.out
      have hf : Hid (ok = false) := by
        show _ = _
        rw [hok2.out]
        have : (decide (1 ≤ k) && decide (k ≤ 6)) = false := by simp; omega
        rw [this]; simp
      go_wp2_with fail
      go_returns
      exact hbad.out hf.out _ hbw.out
#print axioms thing_any
end Go.Proofs.YtpfnkkkfekhngaaGreatDoor.Va
