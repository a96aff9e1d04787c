/-
  begun of layer 11.
-/
import Derived.Test.YtdelknejmapeaaaDlL
import Derived.Laws.BytesArg
namespace Go.Proofs.Ytdelknejmapeaaa.Dk
open Go.RowKit Go.Maps Go.Sort Go.Shelf Go.Proofs.Ytdelknejmapeaaa.Nm

theorem up_dsk {w : World} {b : Nat} {S : DS} {O : Nat → Prop} (h : DskE w b S O) : Calls Try.prog 18 #[.pointer (some ⟨b, 0, none⟩)] w fun e w' => e = .returned (.bool S.up) ∧ w' = w := by
  obtain ⟨f, g, pd, am, VB, VL, h⟩ := h
  exact up_any w _ _ h.dk.dp
theorem append_dsk {w : World} {b : Nat} {S : DS} {O : Nat → Prop} (h : DskE w b S O) (s : ByteArray) (hs : s.size ≤ maxLen) (v : Value) (D : List UInt8) (hv : Sl w v D) (ho : SOff O v) (hc : S.c7 < 900000000) :
    Calls Try.prog 6 #[.pointer (some ⟨b, 0, none⟩), .string s, v] w fun e w' => e = .returned (.tuple #[.int .i64 (S.append s D).2.1, .int .i64 (S.append s D).2.2]) ∧ ∃ O', DskE w' b (S.append s D).1 O' ∧ Sgo w w' O O' := by
  obtain ⟨f, g, pd, am, VB, VL, h⟩ := h
  exact append_any h s hs v D hv ho hc
theorem tails_dsk {w : World} {b : Nat} {S : DS} {O : Nat → Prop} (h : DskE w b S O) (hc : S.c7 < 1000000000) (n : Int) (n0 : -9223372036854775808 ≤ n) (n1 : n ≤ 9223372036854775807) :
    Calls Try.prog 23 #[.pointer (some ⟨b, 0, none⟩), .int .i64 n] w fun e w' => ∃ v, e = .returned v ∧ Tl w.heap.size w' v (S.tails n) ∧ Below w.heap.size w w' := by
  obtain ⟨f, g, pd, am, VB, VL, h⟩ := h
  exact tails_any h hc n n0 n1
theorem crash_dsk {w : World} {b : Nat} {S : DS} {O : Nat → Prop} (h : DskE w b S O) (hc : S.c7 < 1000000000) (n : Int) (n0 : -9223372036854775808 ≤ n) (n1 : n ≤ 9223372036854775807) (v : Value) (Z : Nat → Prop) (ks : List Kep) (hk : Kp Z w v ks) (hZ : ∀ k, Z k → ¬ O k ∧ k < w.heap.size) :
    Calls Try.prog 10 #[.pointer (some ⟨b, 0, none⟩), .agg #[.int .i64 n, v]] w fun e w' => e = .returned (.tuple #[]) ∧ ∃ O', DskE w' b (S.crash n ks) O' ∧ Sgo w w' O O' := by
  obtain ⟨f, g, pd, am, VB, VL, h⟩ := h
  exact crashD_any h hc n n0 n1 v Z ks hk hZ
/-- A keep, as begun hands it over. -/
theorem kp_one {w : World} {g : Nat} {N : Int} {vj : Value} {J : List UInt8} {T : TypeId} {z : Nat × Nat} {Z : Nat → Prop} (hh : w.heap[g]? = some (.cells #[.int .i64 N, vj] T z)) (hz : Z g) (hj : Sl w vj J) (hjz : SIn Z vj) (h0 : -9223372036854775808 ≤ N) (h1 : N ≤ 9223372036854775807) : Kp Z w (.slice (some ⟨g, 0, none⟩) 1 1) [(N, J)] := by
  refine ⟨some ⟨g, 0, none⟩, 1, rfl, Nat.le_refl _, by decide, fun i hi => ?_⟩
  obtain rfl : i = 0 := by simp at hi; omega
  refine ⟨g, 0, vj, rfl, hz, ?_, ?_, hj, hjz, h0, h1⟩
  · simp [World.cell?, hh]
  · simp [World.cell?, hh]
theorem str3 {B : Nat} {w : World} {ra : Option Addr} {rc : Nat} (h : Ob B w (.slice ra 3 rc) [97, 120, 121]) : (convert 22 9 (.slice ra 3 rc)).run Try.prog w = .ok (.string ⟨#[97, 120, 121]⟩) w := by
  obtain ⟨ao, ca, e, h2, h3, h4, h5⟩ := h.sl
  simp only [Value.slice.injEq] at e
  obtain ⟨rfl, _, rfl⟩ := e
  obtain ⟨b, off, rfl, _⟩ := h5 0 (by decide)
  refine run_convert_bytes_arg w 22 5 Try.underlying22 Try.underlying5 b off 3 rc [97, 120, 121] rfl (fun i hi => ?_) 9 Try.underlying9
  obtain ⟨b', off', e', hc⟩ := h5 i hi
  simp only [Option.some.injEq, Addr.mk.injEq] at e'
  obtain ⟨rfl, rfl, _⟩ := e'
  rw [hc]
  match i, hi with
  | 0, _ => rfl
  | 1, _ => rfl
  | 2, _ => rfl
set_option maxRecDepth 100000 in
set_option maxHeartbeats 2000000 in
theorem begun_any (w : World) : Calls Try.prog 5 #[] w fun e w' => e = .returned (.bool true) ∧ Below w.heap.size w w' := by
  have hN := new_dsk w 100 (by decide) (by decide)
  have hs : sA.size ≤ 140737488355328 := by decide
  have hs2 : sA.size ≤ maxLen := by decide
  have hC : Hid (∀ q b O, DskE q b (DS.new 100) O → Calls Try.prog 11 #[.pointer (some ⟨b, 0, none⟩), .string ⟨#[97]⟩] q fun e w' => ∃ p, e = .returned (.int .i64 0) ∧ ∃ O', DskE w' b (bg1 p) O' ∧ Sgo q w' O O') := fun q b O h => by
    refine (create_dsk h sA hs (by decide)).mono ?_
    rintro e w' ⟨p, _, _, he, hd⟩
    rw [bg_create] at he hd
    exact ⟨p, he, hd⟩
  have hD : Hid (∀ q b O p, DskE q b (bg1 p) O → Calls Try.prog 16 #[.pointer (some ⟨b, 0, none⟩)] q fun e w' => e = .returned (.int .i64 0) ∧ ∃ O', DskE w' b (bg2 p) O' ∧ Sgo q w' O O') := fun q b O p h => by
    have := syncDir_dsk h (by show (1 : Int) < _; decide)
    rw [bg_sync] at this
    exact this
  have hA : Hid (∀ q b O p v, DskE q b (bg2 p) O → Sl q v [97, 98, 99] → SOff O v → Calls Try.prog 6 #[.pointer (some ⟨b, 0, none⟩), .string ⟨#[97]⟩, v] q fun e w' => e = .returned (.tuple #[.int .i64 3, .int .i64 0]) ∧ ∃ O', DskE w' b (bg3 p) O' ∧ Sgo q w' O O') := fun q b O p v h hv ho => by
    have := append_dsk h sA hs2 v _ hv ho (by show (2 : Int) < _; decide)
    rw [bg_append] at this
    exact this
  have hT : Hid (∀ q b O p, DskE q b (bg3 p) O → Calls Try.prog 23 #[.pointer (some ⟨b, 0, none⟩), .int .i64 0] q fun e w' => ∃ g cap, e = .returned (.slice (some ⟨g, 0, none⟩) 1 cap) ∧ w'.cell? ⟨g, 1, none⟩ = some (.int .i64 3) ∧ q.heap.size ≤ g ∧ Below q.heap.size q w') := fun q b O p h => by
    refine (tails_dsk h (by show (3 : Int) < _; decide) 0 (by decide) (by decide)).mono ?_
    rintro e w' ⟨v, rfl, ht, hB⟩
    rw [bg_tails] at ht
    have h0 := ht
    rcases ht.2 with ⟨_, e⟩ | ⟨g, cap, cur, rfl, hg, hh, r⟩
    · simp at e
    · have q1 := World.ownsRow.cells h0 (g := g) rfl 1 (.int .i64 3) rfl
      rw [addr_add] at q1
      exact ⟨g, cap, rfl, q1, hg, hB⟩
  have hK : Hid (∀ q b O p v Z, DskE q b (bg3 p) O → Kp Z q v [(1, [120, 121, 122])] → (∀ k, Z k → ¬ O k ∧ k < q.heap.size) → Calls Try.prog 10 #[.pointer (some ⟨b, 0, none⟩), .agg #[.int .i64 0, v]] q fun e w' => e = .returned (.tuple #[]) ∧ ∃ O', DskE w' b (bg4 p) O' ∧ Sgo q w' O O') := fun q b O p v Z h hk hZ => by
    have := crash_dsk h (by show (3 : Int) < _; decide) 0 (by decide) (by decide) v Z _ hk hZ
    rw [bg_crash] at this
    exact this
  have hR : Hid (∀ q b O p, DskE q b (bg4 p) O → Calls Try.prog 7 #[.pointer (some ⟨b, 0, none⟩), .string ⟨#[97]⟩, .int .i64 0, .int .i64 3] q fun e w' => ∃ v, e = .returned (.tuple #[v, .int .i64 0]) ∧ Ob q.heap.size w' v [97, 120, 121] ∧ Below q.heap.size q w') := fun q b O p h => by
    have := read_dsk h sA hs2 0 3
    rw [bg_read] at this
    exact this
  have hU : Hid (∀ q b O p, DskE q b (bg4 p) O → Calls Try.prog 18 #[.pointer (some ⟨b, 0, none⟩)] q fun e w' => e = .returned (.bool true) ∧ w' = q) := fun q b O p h => up_dsk h
  have hM : Hid (∀ q, Calls Try.prog 26 #[.int .i64 (-1)] q fun e w' => e = .returned (.pointer none) ∧ w' = q) := fun q => new_no q (-1) (by decide) (by decide) (by decide)
  have kc := fun (w : World) (C : Array Value) (n c : Nat) => Lib.run_convert_bytes_const (P := Try.prog) w 22 5 C n c Try.underlying22 Try.underlying5
  go_enter Try.func5, Try.ntmps5
  go_upto_region 4 with (first
    | (go_at_call 26; refine hN.mono ?_; rintro e w1 ⟨b, O1, rfl, D1, B1, L1⟩; replace D1 := hide D1; replace B1 := hide B1; replace L1 := hide L1)
    | (go_at_call 11; refine (hC.out _ _ _ D1.out).mono ?_; rintro e w2 ⟨p, rfl, O2, D2, G2⟩; replace D2 := hide D2; have B2 := hide (G2.under L1.out (Nat.le_refl _) B1.out); have L2 := hide (G2.low B1.out.size L1.out); clear G2)
    | (go_at_call 16; refine (hD.out _ _ _ _ D2.out).mono ?_; rintro e w3 ⟨rfl, O3, D3, G3⟩; replace D3 := hide D3; have B3 := hide (G3.under L2.out (Nat.le_refl _) B2.out); have L3 := hide (G3.low B2.out.size L2.out); clear G3))
  have B4 := hide (box_below w3 (.cells #[.int .u8 97, .int .u8 98, .int .u8 99] 5 (3, 4)))
  have S4 : Hid (Sl (w3.alloc (.cells #[.int .u8 97, .int .u8 98, .int .u8 99] 5 (3, 4))) (.slice (some ⟨w3.heap.size, 0, none⟩) 3 3) [97, 98, 99]) := sl_lit_mark w3 [97, 98, 99] 5 (3, 4) (by decide) _ rfl
  have D4 := hide (D3.out.below B4.out)
  have F4 : Hid (SOff O3 (.slice (some ⟨w3.heap.size, 0, none⟩) 3 3)) := fun b' off n c e _ k => by
    simp only [Value.slice.injEq, Option.some.injEq, Addr.mk.injEq] at e
    have := D3.out.lt _ k
    omega
  have E4 := hide (B3.out.trans (B4.out.mono B3.out.size))
  go_upto_region 6 with (first
    | (go_at_call 6; refine (hA.out _ _ _ _ _ D4.out S4.out F4.out).mono ?_; rintro e w5 ⟨rfl, O5, D5, G5⟩; replace D5 := hide D5; have B5 := hide (G5.under L3.out (Nat.le_refl _) E4.out); have L5 := hide (G5.low E4.out.size L3.out); clear G5)
    | (go_at_call 23; refine (hT.out _ _ _ _ D5.out).mono ?_; rintro e w6 ⟨tg, tc, rfl, hcell, htg, B6⟩; replace B6 := hide B6; replace htg := hide htg; have D6 := hide (D5.out.below B6.out); have E6 := hide (B5.out.trans (B6.out.mono B5.out.size))))
  have hcell' := hide hcell
  clear hcell
  have htO : Hid (¬ O5 tg) := fun c => by have q1 := D5.out.lt _ c; have q2 := htg.out; omega
  obtain ⟨w7, hw7⟩ : ∃ w7, Hid (w6.alloc (.cells #[.int .u8 120, .int .u8 121, .int .u8 122] 5 (3, 4)) = w7) := ⟨_, rfl⟩
  have B7 : Hid (Below w6.heap.size w6 w7) := by rw [← hw7.out]; exact box_below w6 _
  have S7 : Hid (Sl w7 (.slice (some ⟨w6.heap.size, 0, none⟩) 3 3) [120, 121, 122]) := by rw [← hw7.out]; exact sl_lit_mark w6 [120, 121, 122] 5 (3, 4) (by decide) _ rfl
  have z7 : Hid (w7.heap.size = w6.heap.size + 1) := by show _ = _; rw [← hw7.out]; simp
  have B8 := hide (box_below w7 (.cells #[.int .i64 1, .slice (some ⟨w6.heap.size, 0, none⟩) 3 3] 70))
  have K8 : Hid (Kp (fun k => k = w6.heap.size ∨ k = w7.heap.size) (w7.alloc (.cells #[.int .i64 1, .slice (some ⟨w6.heap.size, 0, none⟩) 3 3] 70)) (.slice (some ⟨w7.heap.size, 0, none⟩) 1 1) [(1, [120, 121, 122])]) := kp_one (heap_alloc_new _ _) (.inr rfl) (Below.sl B8.out S7.out) (fun b' off n c e _ => by simp only [Value.slice.injEq, Option.some.injEq, Addr.mk.injEq] at e; exact .inl e.1.1.symm) (by decide) (by decide)
  have D8 := hide ((D6.out.below B7.out).below B8.out)
  have Z8 : Hid (∀ k, (k = w6.heap.size ∨ k = w7.heap.size) → ¬ O5 k ∧ k < (w7.alloc (.cells #[.int .i64 1, .slice (some ⟨w6.heap.size, 0, none⟩) 3 3] 70)).heap.size) := fun k hk => by
    have q1 := z7.out
    refine ⟨fun c => ?_, ?_⟩
    · have := D6.out.lt k c; omega
    · simp; omega
  have E8 : Hid (Below w.heap.size w (w7.alloc (.cells #[.int .i64 1, .slice (some ⟨w6.heap.size, 0, none⟩) 3 3] 70))) := E6.out.trans ((B7.out.trans (B8.out.mono B7.out.size)).mono E6.out.size)
  have hc8 : Hid ((w7.alloc (.cells #[.int .i64 1, .slice (some ⟨w6.heap.size, 0, none⟩) 3 3] 70)).cell? ⟨tg, 1, none⟩ = some (.int .i64 3)) := by
    have k1 := cell_but hcell'.out (But.of_below B7.out fun _ => False) (fun c => c)
    exact cell_but k1 (But.of_below B8.out fun _ => False) (fun c => c)
  rw [← hw7.out] at K8 D8 Z8 E8 hc8
  rw [show (w6.alloc (.cells #[.int .u8 120, .int .u8 121, .int .u8 122] 5 (3, 4))).heap.size = w6.heap.size + 1 by simp] at K8 Z8
  clear hw7 B7 S7 B8 z7 hcell'
  go_upto_region 8 with (first
    | (go_at_call 10; refine (hK.out _ _ _ _ _ _ D8.out K8.out Z8.out).mono ?_; rintro e w9 ⟨rfl, O9, D9, G9⟩; replace D9 := hide D9; have B9 := hide (G9.under L5.out (Nat.le_refl _) E8.out); have hc9 := hide (cell_but hc8.out G9.but htO.out); clear G9)
    | (go_at_call 7; refine (hR.out _ _ _ _ D9.out).mono ?_; rintro e w10 ⟨rv, rfl, R10, B10⟩; replace R10 := hide R10; replace B10 := hide B10; have D10 := hide (D9.out.below B10.out); have E10 := hide (B9.out.trans (B10.out.mono B9.out.size)); have hc10 := cell_but hc9.out (But.of_below B10.out fun _ => False) (fun c => c)))
  obtain ⟨ra, rc, rfl, rr1, rr2⟩ := R10.out.form
  have hst := str3 R10.out
  go_wp2_with (first
    | (go_at_call 18; refine (hU.out _ _ _ _ D10.out).mono ?_; rintro e w11 ⟨rfl, e1⟩; subst w11)
    | (go_at_call 26; refine (hM.out _).mono ?_; rintro e w11 ⟨rfl, e1⟩; subst w11))
  go_ret
  exact ⟨rfl, E10.out⟩
#print axioms begun_any
end Go.Proofs.Ytdelknejmapeaaa.Dk
