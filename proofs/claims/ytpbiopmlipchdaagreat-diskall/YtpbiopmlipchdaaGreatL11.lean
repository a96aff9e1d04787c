/-
  New; what begun's calls come to, by data.
-/
import Derived.Test.YtpbiopmlipchdaaGreatL10
import Derived.Laws.BytesArg
namespace Go.Proofs.YtpbiopmlipchdaaGreat.Dk
open Go.RowKit Go.Maps Go.Sort Go.Shelf Go.Proofs.YtpbiopmlipchdaaGreat.Nm
def noF : Nat → Fl := fun _ => ⟨[], [], 0⟩
def DS.new (most : Int) : DS := ⟨most, true, [], [], [], 0, 0, 0, 0, 0, 0, 0, 0, 0, noF⟩
theorem new_dsk (w : World) (most : Int) (h0 : 0 ≤ most) (h1 : most ≤ 16777216) :
    Calls Tryz.prog 9 #[.int .i64 most] w fun e w' => ∃ b O, e = .returned (.pointer (some ⟨b, 0, none⟩)) ∧ DskE w' b (DS.new most) O ∧ Below w.heap.size w w' ∧ (∀ k, O k → w.heap.size ≤ k) := by
  refine (new_any w most (by omega) (by omega)).mono ?_
  rintro e w' ⟨hB, ⟨hn, _⟩ | ⟨_, _, rfl, hb, m1, m2⟩⟩
  · exact absurd ⟨h0, h1⟩ hn
  · refine ⟨w.heap.size + 2, fun k => w.heap.size ≤ k ∧ k < w'.heap.size, rfl, ⟨w.heap.size, w.heap.size + 1, .slice none 0 0, none, fun _ => undef, fun _ => undef, ⟨?_, ⟨fun p hp => by simp [DS.ps, DS.new] at hp, fun p hp => by simp [DS.ps, DS.new] at hp, fun p hp => by simp [DS.ps, DS.new] at hp⟩, ?_, fun p hp => by simp [DS.ps, DS.new] at hp, fun k hk => hk.2, ?_⟩⟩, hB, fun k hk => hk.1⟩
    · exact ⟨hb, rfl, rfl, m1, m2, by omega, Pd.nil _, (fun _ e => by cases e), fun _ => rfl, rfl, trivial, (by simp [DS.new]), ⟨Int.le_refl _, Int.le_refl _, Int.le_refl _, Int.le_refl _, Int.le_refl _, Int.le_refl _, Int.le_refl _, Int.le_refl _⟩, ⟨Int.le_refl _, Int.le_refl _, Int.le_refl _, Int.le_refl _, Int.le_refl _, Int.le_refl _, Int.le_refl _⟩⟩
    · have z := heap_lt hb
      intro k hk
      rcases hk with c | c | c | c | c
      · rw [c]; exact ⟨by omega, z⟩
      · simp only [DS.dc, Option.some.injEq] at c; subst c; exact ⟨by omega, by omega⟩
      · simp only [DS.dc, Option.some.injEq] at c; subst c; exact ⟨by omega, by omega⟩
      · simp [DS.dc, Value.ownBlock] at c
      · simp [DS.dc] at c
    · exact ⟨⟨h0, h1⟩, fun p hp => by simp [DS.ps, DS.new] at hp, Int.le_refl _, (fun e he => by simp [DS.new] at he), ⟨Int.le_refl _, Int.le_refl _⟩⟩
theorem new_no (w : World) (most : Int) (g0 : -9223372036854775808 ≤ most) (g1 : most ≤ 9223372036854775807) (h : ¬ (0 ≤ most ∧ most ≤ 16777216)) : Calls Tryz.prog 9 #[.int .i64 most] w fun e w' => e = .returned (.pointer none) ∧ w' = w := by
  refine (new_any w most g0 g1).mono ?_
  rintro e w' ⟨_, ⟨_, rfl, rfl⟩ | ⟨a, b, _⟩⟩
  · exact ⟨rfl, rfl⟩
  · exact absurd ⟨a, b⟩ h
def sA : ByteArray := ⟨#[97]⟩
theorem upd_noF (p : Nat) : upd noF p ⟨[], [], 0⟩ = noF := by
  funext q
  unfold upd
  split <;> rfl
def bg1 (p : Nat) : DS := ⟨100, true, [], [.cr sA p], [], 1, 0, 0, 0, 0, 0, 0, 1, 0, noF⟩
def bg2 (p : Nat) : DS := ⟨100, true, [([97], p)], [], [], 1, 0, 0, 0, 0, 0, 1, 2, 0, noF⟩
def bg3 (p : Nat) : DS := ⟨100, true, [([97], p)], [], [], 1, 1, 0, 0, 0, 0, 1, 3, 3, upd noF p ⟨[97, 98, 99], [], 0⟩⟩
def bg4 (p : Nat) : DS := ⟨100, true, [([97], p)], [], [], 1, 1, 0, 0, 0, 0, 1, 3, 3, upd (upd noF p ⟨[97, 98, 99], [], 0⟩) p ⟨[97, 120, 121], [97, 120, 121], 0⟩⟩
theorem bg_create (p : Nat) : (DS.new 100).create sA p = (bg1 p, 0) := by
  have e : (DS.new 100).create sA p = (⟨100, true, [], [.cr sA p], [], 1, 0, 0, 0, 0, 0, 0, 1, 0, upd noF p ⟨[], [], 0⟩⟩, 0) := by kernel_rfl
  rw [e, upd_noF]
  rfl
theorem bg_sync (p : Nat) : (bg1 p).syncDir = (bg2 p, 0) := by kernel_rfl
theorem bg_append (p : Nat) : (bg2 p).append sA [97, 98, 99] = (bg3 p, 3, 0) := by kernel_rfl
theorem nms_one (n : List UInt8) (p : Nat) : nms [(n, p)] = [n] := by simp [nms]
theorem bg_front (p : Nat) : (bg3 p).front 0 = [([97], p)] := by kernel_rfl
theorem bg_tails (p : Nat) : (bg3 p).tails 0 = [([97], 3)] := by
  unfold DS.tails
  rw [bg_front, nms_one]
  have : tlOf (bg3 p).F [([97], p)] [97] = 3 := by
    have e : tlOf (bg3 p).F [([97], p)] [97] = ((bg3 p).F p).by_.length - ((bg3 p).F p).la.length := by kernel_rfl
    rw [e]
    show (upd noF p ⟨[97, 98, 99], [], 0⟩ p).by_.length - (upd noF p ⟨[97, 98, 99], [], 0⟩ p).la.length = 3
    rw [upd_same]
    rfl
  simp [this]
theorem bg_crash (p : Nat) : (bg3 p).crash 0 [(1, [120, 121, 122])] = bg4 p := by
  unfold DS.crash
  rw [bg_front, nms_one]
  have : crashL [([97], p)] [[97]] [(1, [120, 121, 122])] (bg3 p).F = upd (upd noF p ⟨[97, 98, 99], [], 0⟩) p ⟨[97, 120, 121], [97, 120, 121], 0⟩ := by
    have e : crashL [([97], p)] [[97]] [(1, [120, 121, 122])] (bg3 p).F = upd (upd noF p ⟨[97, 98, 99], [], 0⟩) p (crFl (upd noF p ⟨[97, 98, 99], [], 0⟩ p) (1, [120, 121, 122])) := by kernel_rfl
    rw [e, upd_same]
    rfl
  rw [this]
  rfl
theorem bg_read (p : Nat) : (bg4 p).read sA 0 3 = ([97, 120, 121], 0) := by
  have e : (bg4 p).find sA = (some p, 0) := by kernel_rfl
  unfold DS.read
  rw [e]
  have : (bg4 p).F p = ⟨[97, 120, 121], [97, 120, 121], 0⟩ := upd_same _ _ _
  simp [this]
end Go.Proofs.YtpbiopmlipchdaaGreat.Dk
namespace Go.Proofs.YtpbiopmlipchdaaGreat.Dk
open Go.RowKit Go.Maps Go.Sort Go.Shelf Go.Proofs.YtpbiopmlipchdaaGreat.Nm
theorem up_dsk {w : World} {b : Nat} {S : DS} {O : Nat → Prop} (h : DskE w b S O) : Calls Tryz.prog 43 #[.pointer (some ⟨b, 0, none⟩)] w fun e w' => e = .returned (.bool S.up) ∧ w' = w := by
  obtain ⟨f, g, pd, am, VB, VL, h⟩ := h
  exact up_any w _ _ h.dk.dp
theorem append_dsk {w : World} {b : Nat} {S : DS} {O : Nat → Prop} (h : DskE w b S O) (s : ByteArray) (hs : s.size ≤ maxLen) (v : Value) (D : List UInt8) (hv : Sl w v D) (ho : SOff O v) (hc : S.c7 < 900000000) :
    Calls Tryz.prog 16 #[.pointer (some ⟨b, 0, none⟩), .string s, v] w fun e w' => e = .returned (.tuple #[.int .i64 (S.append s D).2.1, .int .i64 (S.append s D).2.2]) ∧ ∃ O', DskE w' b (S.append s D).1 O' ∧ Sgo w w' O O' := by
  obtain ⟨f, g, pd, am, VB, VL, h⟩ := h
  exact append_any h s hs v D hv ho hc
theorem tails_dsk {w : World} {b : Nat} {S : DS} {O : Nat → Prop} (h : DskE w b S O) (hc : S.c7 < 1000000000) (n : Int) (n0 : -9223372036854775808 ≤ n) (n1 : n ≤ 9223372036854775807) :
    Calls Tryz.prog 27 #[.pointer (some ⟨b, 0, none⟩), .int .i64 n] w fun e w' => ∃ v, e = .returned v ∧ Tl w.heap.size w' v (S.tails n) ∧ Below w.heap.size w w' := by
  obtain ⟨f, g, pd, am, VB, VL, h⟩ := h
  exact tails_any h hc n n0 n1
theorem crash_dsk {w : World} {b : Nat} {S : DS} {O : Nat → Prop} (h : DskE w b S O) (hc : S.c7 < 1000000000) (n : Int) (n0 : -9223372036854775808 ≤ n) (n1 : n ≤ 9223372036854775807) (v : Value) (Z : Nat → Prop) (ks : List Kep) (hk : Kp Z w v ks) (hZ : ∀ k, Z k → ¬ O k ∧ k < w.heap.size) :
    Calls Tryz.prog 18 #[.pointer (some ⟨b, 0, none⟩), .agg #[.int .i64 n, v]] w fun e w' => e = .returned (.tuple #[]) ∧ ∃ O', DskE w' b (S.crash n ks) O' ∧ Sgo w w' O O' := by
  obtain ⟨f, g, pd, am, VB, VL, h⟩ := h
  exact crashD_any h hc n n0 n1 v Z ks hk hZ
theorem kp_one {w : World} {g : Nat} {N : Int} {vj : Value} {J : List UInt8} {T : TypeId} {z : Nat × Nat} {Z : Nat → Prop} (hh : w.heap[g]? = some (.cells #[.int .i64 N, vj] T z)) (hz : Z g) (hj : Sl w vj J) (hjz : SIn Z vj) (h0 : -9223372036854775808 ≤ N) (h1 : N ≤ 9223372036854775807) : Kp Z w (.slice (some ⟨g, 0, none⟩) 1 1) [(N, J)] := by
  refine ⟨some ⟨g, 0, none⟩, 1, rfl, Nat.le_refl _, by decide, fun i hi => ?_⟩
  obtain rfl : i = 0 := by simp at hi; omega
  refine ⟨g, 0, vj, rfl, hz, ?_, ?_, hj, hjz, h0, h1⟩
  · simp [World.cell?, hh]
  · simp [World.cell?, hh]
theorem str3 {B : Nat} {w : World} {ra : Option Addr} {rc : Nat} (h : Ob B w (.slice ra 3 rc) [97, 120, 121]) : (convert 30 9 (.slice ra 3 rc)).run Tryz.prog w = .ok (.string ⟨#[97, 120, 121]⟩) w := by
  obtain ⟨ao, ca, e, h2, h3, h4, h5⟩ := h.sl
  simp only [Value.slice.injEq] at e
  obtain ⟨rfl, _, rfl⟩ := e
  obtain ⟨b, off, rfl, _⟩ := h5 0 (by decide)
  refine run_convert_bytes_arg w 30 5 Tryz.underlying30 Tryz.underlying5 b off 3 rc [97, 120, 121] rfl (fun i hi => ?_) 9 Tryz.underlying9
  obtain ⟨b', off', e', hc⟩ := h5 i hi
  simp only [Option.some.injEq, Addr.mk.injEq] at e'
  obtain ⟨rfl, rfl, _⟩ := e'
  rw [hc]
  match i, hi with
  | 0, _ => rfl
  | 1, _ => rfl
  | 2, _ => rfl
set_option maxRecDepth 100000 in
set_option maxHeartbeats 2000000 in
theorem begun_any (w : World) : Calls Tryz.prog 8 #[] w fun e w' => e = .returned (.bool true) ∧ Below w.heap.size w w' := by
  have hN := new_dsk w 100 (by decide) (by decide)
  have hs : sA.size ≤ 140737488355328 := by decide
  have hs2 : sA.size ≤ maxLen := by decide
  have hC : Hid (∀ q b O, DskE q b (DS.new 100) O → Calls Tryz.prog 14 #[.pointer (some ⟨b, 0, none⟩), .string ⟨#[97]⟩] q fun e w' => ∃ p, e = .returned (.int .i64 0) ∧ ∃ O', DskE w' b (bg1 p) O' ∧ Sgo q w' O O') := fun q b O h => by
    refine (create_dsk h sA hs (by decide)).mono ?_
    rintro e w' ⟨p, _, _, he, hd⟩
    rw [bg_create] at he hd
    exact ⟨p, he, hd⟩
  have hD : Hid (∀ q b O p, DskE q b (bg1 p) O → Calls Tryz.prog 15 #[.pointer (some ⟨b, 0, none⟩)] q fun e w' => e = .returned (.int .i64 0) ∧ ∃ O', DskE w' b (bg2 p) O' ∧ Sgo q w' O O') := fun q b O p h => by
    have := syncDir_dsk h (by show (1 : Int) < _; decide)
    rw [bg_sync] at this
    exact this
  have hA : Hid (∀ q b O p v, DskE q b (bg2 p) O → Sl q v [97, 98, 99] → SOff O v → Calls Tryz.prog 16 #[.pointer (some ⟨b, 0, none⟩), .string ⟨#[97]⟩, v] q fun e w' => e = .returned (.tuple #[.int .i64 3, .int .i64 0]) ∧ ∃ O', DskE w' b (bg3 p) O' ∧ Sgo q w' O O') := fun q b O p v h hv ho => by
    have := append_dsk h sA hs2 v _ hv ho (by show (2 : Int) < _; decide)
    rw [bg_append] at this
    exact this
  have hT : Hid (∀ q b O p, DskE q b (bg3 p) O → Calls Tryz.prog 27 #[.pointer (some ⟨b, 0, none⟩), .int .i64 0] q fun e w' => ∃ g cap, e = .returned (.slice (some ⟨g, 0, none⟩) 1 cap) ∧ w'.cell? ⟨g, 1, none⟩ = some (.int .i64 3) ∧ q.heap.size ≤ g ∧ Below q.heap.size q w') := fun q b O p h => by
    refine (tails_dsk h (by show (3 : Int) < _; decide) 0 (by decide) (by decide)).mono ?_
    rintro e w' ⟨v, rfl, ht, hB⟩
    rw [bg_tails] at ht
    have h0 := ht
    rcases ht.2 with ⟨_, e⟩ | ⟨g, cap, cur, rfl, hg, hh, r⟩
    · simp at e
    · have q1 := World.ownsRow.cells h0 (g := g) rfl 1 (.int .i64 3) rfl
      rw [addr_add] at q1
      exact ⟨g, cap, rfl, q1, hg, hB⟩
  have hK : Hid (∀ q b O p v Z, DskE q b (bg3 p) O → Kp Z q v [(1, [120, 121, 122])] → (∀ k, Z k → ¬ O k ∧ k < q.heap.size) → Calls Tryz.prog 18 #[.pointer (some ⟨b, 0, none⟩), .agg #[.int .i64 0, v]] q fun e w' => e = .returned (.tuple #[]) ∧ ∃ O', DskE w' b (bg4 p) O' ∧ Sgo q w' O O') := fun q b O p v Z h hk hZ => by
    have := crash_dsk h (by show (3 : Int) < _; decide) 0 (by decide) (by decide) v Z _ hk hZ
    rw [bg_crash] at this
    exact this
  have hR : Hid (∀ q b O p, DskE q b (bg4 p) O → Calls Tryz.prog 20 #[.pointer (some ⟨b, 0, none⟩), .string ⟨#[97]⟩, .int .i64 0, .int .i64 3] q fun e w' => ∃ v, e = .returned (.tuple #[v, .int .i64 0]) ∧ Ob q.heap.size w' v [97, 120, 121] ∧ Below q.heap.size q w') := fun q b O p h => by
    have := read_dsk h sA hs2 0 3
    rw [bg_read] at this
    exact this
  have hU : Hid (∀ q b O p, DskE q b (bg4 p) O → Calls Tryz.prog 43 #[.pointer (some ⟨b, 0, none⟩)] q fun e w' => e = .returned (.bool true) ∧ w' = q) := fun q b O p h => up_dsk h
  have hM : Hid (∀ q, Calls Tryz.prog 9 #[.int .i64 (-1)] q fun e w' => e = .returned (.pointer none) ∧ w' = q) := fun q => new_no q (-1) (by decide) (by decide) (by decide)
  have kc := fun (w : World) (C : Array Value) (n c : Nat) => Lib.run_convert_bytes_const (P := Tryz.prog) w 30 5 C n c Tryz.underlying30 Tryz.underlying5
  go_enter Tryz.func8, Tryz.ntmps8
  go_upto_region 4 with (first
    | (go_at_call 9; refine hN.mono ?_; rintro e w1 ⟨b, O1, rfl, D1, B1, L1⟩; replace D1 := hide D1; replace B1 := hide B1; replace L1 := hide L1)
    | (go_at_call 14; refine (hC.out _ _ _ D1.out).mono ?_; rintro e w2 ⟨p, rfl, O2, D2, G2⟩; replace D2 := hide D2; have B2 := hide (G2.under L1.out (Nat.le_refl _) B1.out); have L2 := hide (G2.low B1.out.size L1.out); clear G2)
    | (go_at_call 15; refine (hD.out _ _ _ _ D2.out).mono ?_; rintro e w3 ⟨rfl, O3, D3, G3⟩; replace D3 := hide D3; have B3 := hide (G3.under L2.out (Nat.le_refl _) B2.out); have L3 := hide (G3.low B2.out.size L2.out); clear G3))
  have B4 := hide (box_below w3 (.cells #[.int .u8 97, .int .u8 98, .int .u8 99] 5 (3, 4)))
  have S4 : Hid (Sl (w3.alloc (.cells #[.int .u8 97, .int .u8 98, .int .u8 99] 5 (3, 4))) (.slice (some ⟨w3.heap.size, 0, none⟩) 3 3) [97, 98, 99]) := sl_lit_mark w3 [97, 98, 99] 5 (3, 4) (by decide) _ rfl
  have D4 := hide (D3.out.below B4.out)
  have F4 : Hid (SOff O3 (.slice (some ⟨w3.heap.size, 0, none⟩) 3 3)) := fun b' off n c e _ k => by
    simp only [Value.slice.injEq, Option.some.injEq, Addr.mk.injEq] at e
    have := D3.out.lt _ k
    omega
  have E4 := hide (B3.out.trans (B4.out.mono B3.out.size))
  go_upto_region 6 with (first
    | (go_at_call 16; refine (hA.out _ _ _ _ _ D4.out S4.out F4.out).mono ?_; rintro e w5 ⟨rfl, O5, D5, G5⟩; replace D5 := hide D5; have B5 := hide (G5.under L3.out (Nat.le_refl _) E4.out); have L5 := hide (G5.low E4.out.size L3.out); clear G5)
    | (go_at_call 27; refine (hT.out _ _ _ _ D5.out).mono ?_; rintro e w6 ⟨tg, tc, rfl, hcell, htg, B6⟩; replace B6 := hide B6; replace htg := hide htg; have D6 := hide (D5.out.below B6.out); have E6 := hide (B5.out.trans (B6.out.mono B5.out.size))))
  have hcell' := hide hcell
  clear hcell
  have htO : Hid (¬ O5 tg) := fun c => by have q1 := D5.out.lt _ c; have q2 := htg.out; omega
  obtain ⟨w7, hw7⟩ : ∃ w7, Hid (w6.alloc (.cells #[.int .u8 120, .int .u8 121, .int .u8 122] 5 (3, 4)) = w7) := ⟨_, rfl⟩
  have B7 : Hid (Below w6.heap.size w6 w7) := by rw [← hw7.out]; exact box_below w6 _
  have S7 : Hid (Sl w7 (.slice (some ⟨w6.heap.size, 0, none⟩) 3 3) [120, 121, 122]) := by rw [← hw7.out]; exact sl_lit_mark w6 [120, 121, 122] 5 (3, 4) (by decide) _ rfl
  have z7 : Hid (w7.heap.size = w6.heap.size + 1) := by show _ = _; rw [← hw7.out]; simp
  have B8 := hide (box_below w7 (.cells #[.int .i64 1, .slice (some ⟨w6.heap.size, 0, none⟩) 3 3] 88))
  have K8 : Hid (Kp (fun k => k = w6.heap.size ∨ k = w7.heap.size) (w7.alloc (.cells #[.int .i64 1, .slice (some ⟨w6.heap.size, 0, none⟩) 3 3] 88)) (.slice (some ⟨w7.heap.size, 0, none⟩) 1 1) [(1, [120, 121, 122])]) := kp_one (heap_alloc_new _ _) (.inr rfl) (Below.sl B8.out S7.out) (fun b' off n c e _ => by simp only [Value.slice.injEq, Option.some.injEq, Addr.mk.injEq] at e; exact .inl e.1.1.symm) (by decide) (by decide)
  have D8 := hide ((D6.out.below B7.out).below B8.out)
  have Z8 : Hid (∀ k, (k = w6.heap.size ∨ k = w7.heap.size) → ¬ O5 k ∧ k < (w7.alloc (.cells #[.int .i64 1, .slice (some ⟨w6.heap.size, 0, none⟩) 3 3] 88)).heap.size) := fun k hk => by
    have q1 := z7.out
    refine ⟨fun c => ?_, ?_⟩
    · have := D6.out.lt k c; omega
    · simp; omega
  have E8 : Hid (Below w.heap.size w (w7.alloc (.cells #[.int .i64 1, .slice (some ⟨w6.heap.size, 0, none⟩) 3 3] 88))) := E6.out.trans ((B7.out.trans (B8.out.mono B7.out.size)).mono E6.out.size)
  have hc8 : Hid ((w7.alloc (.cells #[.int .i64 1, .slice (some ⟨w6.heap.size, 0, none⟩) 3 3] 88)).cell? ⟨tg, 1, none⟩ = some (.int .i64 3)) := by
    have k1 := cell_but hcell'.out (But.of_below B7.out fun _ => False) (fun c => c)
    exact cell_but k1 (But.of_below B8.out fun _ => False) (fun c => c)
  rw [← hw7.out] at K8 D8 Z8 E8 hc8
  rw [show (w6.alloc (.cells #[.int .u8 120, .int .u8 121, .int .u8 122] 5 (3, 4))).heap.size = w6.heap.size + 1 by simp] at K8 Z8
  clear hw7 B7 S7 B8 z7 hcell'
  go_upto_region 8 with (first
    | (go_at_call 18; refine (hK.out _ _ _ _ _ _ D8.out K8.out Z8.out).mono ?_; rintro e w9 ⟨rfl, O9, D9, G9⟩; replace D9 := hide D9; have B9 := hide (G9.under L5.out (Nat.le_refl _) E8.out); have hc9 := hide (cell_but hc8.out G9.but htO.out); clear G9)
    | (go_at_call 20; refine (hR.out _ _ _ _ D9.out).mono ?_; rintro e w10 ⟨rv, rfl, R10, B10⟩; replace R10 := hide R10; replace B10 := hide B10; have D10 := hide (D9.out.below B10.out); have E10 := hide (B9.out.trans (B10.out.mono B9.out.size)); have hc10 := cell_but hc9.out (But.of_below B10.out fun _ => False) (fun c => c)))
  obtain ⟨ra, rc, rfl, rr1, rr2⟩ := R10.out.form
  have hst := str3 R10.out
  go_wp2_with (first
    | (go_at_call 43; refine (hU.out _ _ _ _ D10.out).mono ?_; rintro e w11 ⟨rfl, e1⟩; subst w11)
    | (go_at_call 9; refine (hM.out _).mono ?_; rintro e w11 ⟨rfl, e1⟩; subst w11))
  go_ret
  exact ⟨rfl, E10.out⟩
end Go.Proofs.YtpbiopmlipchdaaGreat.Dk
namespace Go.Proofs.YtpbiopmlipchdaaGreat.Dk
open Go.RowKit Go.Maps Go.Sort Go.Shelf Go.Proofs.YtpbiopmlipchdaaGreat.Nm
def spF (f : Fl) : Fl := ⟨f.by_, f.la, f.by_.length - f.la.length⟩
def DS.sync (S : DS) (s : ByteArray) : DS × Int :=
  match S.find s with
  | (none, e) => (S, e)
  | (some p, _) =>
    if S.flt.2.1 = 1 then ({ S.beg 2 with F := upd S.F p (spF (S.F p)) }, 20)
    else if S.flt.2.1 = 3 then ((S.beg 2).str 3, 22)
    else ({ S.beg 2 with F := upd S.F p (syF (S.F p)) }, 0)
set_option maxRecDepth 100000 in
set_option maxHeartbeats 1000000 in
theorem syncF_any {w : World} {b : Nat} {S : DS} {O : Nat → Prop} {f g : Nat} {pd : Value} {am : Option Nat} {VB VL : Nat → Value} (h : Dsk w b S O f g pd am VB VL) (s : ByteArray) (hs : s.size ≤ maxLen) (hc : S.c7 < 900000000) :
    Calls Tryz.prog 17 #[.pointer (some ⟨b, 0, none⟩), .string s] w (Does w b O (S.sync s)) := by
  have hF := dsk_find h s hs
  by_cases h0 : (S.find s).2 = 0
  · obtain ⟨p, e, hg, hr, hp⟩ := find_ok h0
    rw [e] at hF
    simp only [Option.map_some] at hF
    have hR : Hid (S.sync s = if S.flt.2.1 = 1 then ({ S.beg 2 with F := upd S.F p (spF (S.F p)) }, 20) else if S.flt.2.1 = 3 then ((S.beg 2).str 3, 22) else ({ S.beg 2 with F := upd S.F p (syF (S.F p)) }, 0)) := by show _ = _; unfold DS.sync; rw [e]
    have hb : Hid (∀ u, Dsk u b S O f g pd am VB VL → _) := fun u hu => dsk_begin hu 2 (by omega) (by omega)
    have hft := h.ok.flt
    have hsz := hide (h.ok.sz p hp)
    have H := hide h
    obtain ⟨t, ht⟩ : ∃ t, Hid (S.flt = t) := ⟨_, rfl⟩
    rw [ht.out] at hb hft hR
    unfold fv at hb
    obtain ⟨ta, tk, tp⟩ := t
    dsimp only at hb hft hR
    clear h e hr h0 hg
    have hsp : Hid (∀ u, Dsk u b (S.beg 2) O f g pd am VB VL → Calls Tryz.prog 77 #[.pointer (some ⟨p, 0, none⟩)] u fun e w' => e = .returned (.tuple #[]) ∧ ∃ O', Dsk w' b { S.beg 2 with F := upd S.F p (spF (S.F p)) } O' f g pd am (upd VB p (VB p)) (upd VL p (VL p)) ∧ Sgo u w' O O' ∧ But (fun k => k = p) u w') := fun u hu => by
      refine (spoil_any u p (S.F p) (VB p) (VL p) (hu.fs.at_ p hp)).mono ?_
      rintro e w' ⟨rfl, hf, hB⟩
      obtain ⟨O', k1, k2⟩ := hu.one (t := spF (S.F p)) hp hf (hB.mono fun k _ e => .inl e) (fun k hk => .inl hk) hsz.out
      exact ⟨rfl, O', k1, k2, hB⟩
    have hsy : Hid (∀ u, Dsk u b (S.beg 2) O f g pd am VB VL → Calls Tryz.prog 78 #[.pointer (some ⟨p, 0, none⟩)] u fun e w' => e = .returned (.tuple #[]) ∧ ∃ O', DskE w' b { S.beg 2 with F := upd S.F p (syF (S.F p)) } O' ∧ Sgo u w' O O') := fun u hu => by
      refine (sync_any u p (S.F p) (VB p) (VL p) (hu.fs.at_ p hp)).mono ?_
      rintro e w' ⟨rfl, vl', hf, hB, ho⟩
      obtain ⟨O', k1, k2⟩ := hu.one (t := syF (S.F p)) hp hf hB ho hsz.out
      exact ⟨rfl, O', k1.e, k2⟩
    have hpO : Hid (O p) := H.out.of p hp p (.inl rfl)
    by_cases k1 : tk = 1
    · subst k1
      have hR2 : Hid (S.sync s = ({ S.beg 2 with F := upd S.F p (spF (S.F p)) }, 20)) := by show _ = _; rw [hR.out, if_pos rfl]
      rw [hR2.out]
      clear hR hft hsy
      have hst : Hid (∀ u O' VB' VL', Dsk u b { S.beg 2 with F := upd S.F p (spF (S.F p)) } O' f g pd am VB' VL' → Calls Tryz.prog 73 #[.pointer (some ⟨b, 0, none⟩), .agg #[.int .i64 ta, .int .i64 1, .int .i64 tp]] u fun e w' => e = .returned (.int .i64 20) ∧ Dsk w' b { S.beg 2 with F := upd S.F p (spF (S.F p)) } O' f g pd am VB' VL' ∧ Sgo u w' O' O') := fun u O' VB' VL' hu => dsk_strikeR hu (ta, 1, tp) (by show (1 : Int) ≠ 4; decide)
      go_enter Tryz.func17, Tryz.ntmps17
      go_upto_region 5 with (first
        | (go_at_call 75; refine hF.mono ?_; rintro e w1 ⟨rfl, B1⟩; replace B1 := hide B1; have D1 := hide (H.out.below B1.out))
        | (go_at_call 70; refine (hb.out _ D1.out).mono ?_; rintro e w2 ⟨rfl, D2, G2⟩; replace D2 := hide D2; replace G2 := hide G2))
      have B3 := hide (box_below w2 (.cells #[.int .i64 ta, .int .i64 1, .int .i64 tp] 118))
      have N3 := hide (heap_alloc_new w2 (.cells #[.int .i64 ta, .int .i64 1, .int .i64 tp] 118))
      have D3 := hide (D2.out.below B3.out)
      have hne : Hid (¬ O w2.heap.size) := fun c => Nat.lt_irrefl _ (D2.out.lt _ c)
      have T3 := hide ((Sgo.of_below (O := O) B1.out).trans (G2.out.trans (Sgo.of_below B3.out)))
      generalize w2.alloc (.cells #[.int .i64 ta, .int .i64 1, .int .i64 tp] 118) = w3 at *
      obtain ⟨x0, x1, x2⟩ := cells3 N3.out
      go_wp2_with (first
        | (go_at_call 77; refine (hsp.out _ D3.out).mono ?_; rintro e w4 ⟨rfl, O4, D4, G4, U4⟩; replace D4 := hide D4; replace G4 := hide G4; have N4 := hide (U4.at N3.out (fun e => hne.out (by rw [e]; exact hpO.out))); clear U4; obtain ⟨y0, y1, y2⟩ := cells3 N4.out)
        | (go_at_call 73; refine (hst.out _ _ _ _ D4.out).mono ?_; rintro e w5 ⟨rfl, D5, G5⟩; replace D5 := hide D5; replace G5 := hide G5))
      go_ret
      exact ⟨rfl, O4, D5.out.e, T3.out.trans (G4.out.trans G5.out)⟩
    · have k1' : (tk == 1) = false := by simpa using k1
      have k4' : (tk == 4) = false := by simp; omega
      by_cases k3 : tk = 3
      · subst k3
        have hR2 : Hid (S.sync s = ((S.beg 2).str 3, 22)) := by show _ = _; rw [hR.out, if_neg (by decide), if_pos rfl]
        rw [hR2.out]
        clear hR hft hsy hsp
        have hst : Hid (∀ u, Dsk u b (S.beg 2) O f g pd am VB VL → Calls Tryz.prog 73 #[.pointer (some ⟨b, 0, none⟩), .agg #[.int .i64 ta, .int .i64 3, .int .i64 tp]] u fun e w' => e = .returned (.int .i64 22) ∧ Dsk w' b ((S.beg 2).str 3) O f g pd am VB VL ∧ Sgo u w' O O) := fun u hu => dsk_strikeR hu (ta, 3, tp) (by show (3 : Int) ≠ 4; decide)
        go_enter Tryz.func17, Tryz.ntmps17
        go_upto_region 5 with (first
          | (go_at_call 75; refine hF.mono ?_; rintro e w1 ⟨rfl, B1⟩; replace B1 := hide B1; have D1 := hide (H.out.below B1.out))
          | (go_at_call 70; refine (hb.out _ D1.out).mono ?_; rintro e w2 ⟨rfl, D2, G2⟩; replace D2 := hide D2; replace G2 := hide G2))
        have B3 := hide (box_below w2 (.cells #[.int .i64 ta, .int .i64 3, .int .i64 tp] 118))
        have N3 := hide (heap_alloc_new w2 (.cells #[.int .i64 ta, .int .i64 3, .int .i64 tp] 118))
        have D3 := hide (D2.out.below B3.out)
        have T3 := hide ((Sgo.of_below (O := O) B1.out).trans (G2.out.trans (Sgo.of_below B3.out)))
        generalize w2.alloc (.cells #[.int .i64 ta, .int .i64 3, .int .i64 tp] 118) = w3 at *
        obtain ⟨x0, x1, x2⟩ := cells3 N3.out
        go_wp2_with (go_at_call 73; refine (hst.out _ D3.out).mono ?_; rintro e w5 ⟨rfl, D5, G5⟩; replace D5 := hide D5; replace G5 := hide G5)
        go_ret
        exact ⟨rfl, O, D5.out.e, T3.out.trans G5.out⟩
      · have hR2 : Hid (S.sync s = ({ S.beg 2 with F := upd S.F p (syF (S.F p)) }, 0)) := by show _ = _; rw [hR.out, if_neg k1, if_neg k3]
        rw [hR2.out]
        have hst : Hid (∀ u, Dsk u b (S.beg 2) O f g pd am VB VL → Calls Tryz.prog 73 #[.pointer (some ⟨b, 0, none⟩), .agg #[.int .i64 ta, .int .i64 tk, .int .i64 tp]] u fun e w' => e = .returned (.int .i64 0) ∧ Dsk w' b (S.beg 2) O f g pd am VB VL ∧ Sgo u w' O O) := fun u hu => by
          have := dsk_strikeR hu (ta, tk, tp) (by show tk ≠ 4; omega)
          have e1 : strR tk = 0 := by unfold strR strF; by_cases c : tk = 2 <;> simp [c, k1, k3]
          have e2 : (S.beg 2).str tk = S.beg 2 := by unfold DS.str; rw [if_neg k3]
          dsimp only at this
          rw [e1, e2] at this
          exact this
        clear hR hft hsp k1 k3
        go_enter Tryz.func17, Tryz.ntmps17
        go_upto_region 5 with (first
          | (go_at_call 75; refine hF.mono ?_; rintro e w1 ⟨rfl, B1⟩; replace B1 := hide B1; have D1 := hide (H.out.below B1.out))
          | (go_at_call 70; refine (hb.out _ D1.out).mono ?_; rintro e w2 ⟨rfl, D2, G2⟩; replace D2 := hide D2; replace G2 := hide G2))
        have B3 := hide (box_below w2 (.cells #[.int .i64 ta, .int .i64 tk, .int .i64 tp] 118))
        have N3 := hide (heap_alloc_new w2 (.cells #[.int .i64 ta, .int .i64 tk, .int .i64 tp] 118))
        have D3 := hide (D2.out.below B3.out)
        have T3 := hide ((Sgo.of_below (O := O) B1.out).trans (G2.out.trans (Sgo.of_below B3.out)))
        generalize w2.alloc (.cells #[.int .i64 ta, .int .i64 tk, .int .i64 tp] 118) = w3 at *
        obtain ⟨x0, x1, x2⟩ := cells3 N3.out
        go_wp2_with (first
          | (go_at_call 73; refine (hst.out _ D3.out).mono ?_; rintro e w5 ⟨rfl, D5, G5⟩; replace D5 := hide D5; replace G5 := hide G5)
          | (go_at_call 78; refine (hsy.out _ D5.out).mono ?_; rintro e w6 ⟨rfl, O6, D6, G6⟩; replace D6 := hide D6; replace G6 := hide G6))
        go_ret
        exact ⟨rfl, O6, D6.out, T3.out.trans (G5.out.trans G6.out)⟩
  · have hR : Hid (S.sync s = (S, (S.find s).2)) := by
      show _ = _
      have q := find_no h0
      unfold DS.sync
      cases hq : S.find s with
      | mk a c => rw [hq] at q; dsimp only at q; subst q; rfl
    rw [hR.out]
    have q := find_no h0
    rw [q] at hF
    simp only [Option.map_none] at hF
    generalize (S.find s).2 = r at *
    have h0' : (r != 0) = true := by simpa using h0
    have H := hide h
    clear h h0 q hR
    go_enter Tryz.func17, Tryz.ntmps17
    go_wp2_with (go_at_call 75; refine hF.mono ?_; rintro e w1 ⟨rfl, B1⟩; replace B1 := hide B1)
    go_ret
    exact ⟨rfl, O, (H.out.below B1.out).e, Sgo.of_below B1.out⟩
end Go.Proofs.YtpbiopmlipchdaaGreat.Dk
namespace Go.Proofs.YtpbiopmlipchdaaGreat.Dk
open Go.RowKit Go.Maps Go.Sort Go.Shelf Go.Proofs.YtpbiopmlipchdaaGreat.Nm
def mayF (f : Ft) : Bool := decide (1 ≤ f.1) && decide (f.1 ≤ 4294967296) && decide (1 ≤ f.2.1) && decide (f.2.1 ≤ 4) && decide (0 ≤ f.2.2)
def armL (c : Int) : List Ft → Ar → Option Ar
  | [], l => some l
  | f :: r, l => if mayF f = true ∧ aget l (c + f.1) = none then armL c r (aput l (c + f.1) f) else none
theorem armL_snoc (c : Int) (A : List Ft) (f : Ft) (l : Ar) : armL c (A ++ [f]) l = match armL c A l with | none => none | some m => if mayF f = true ∧ aget m (c + f.1) = none then some (aput m (c + f.1) f) else none := by
  induction A generalizing l with
  | nil => rfl
  | cons a r ih =>
    simp only [List.cons_append, armL]
    split
    · exact ih _
    · rfl
theorem armL_none (c : Int) (A B : List Ft) (l : Ar) (h : armL c A l = none) : armL c (A ++ B) l = none := by
  induction A generalizing l with
  | nil => simp [armL] at h
  | cons a r ih =>
    simp only [List.cons_append, armL] at h ⊢
    split
    · rename_i q
      rw [if_pos q] at h
      exact ih _ h
    · rfl
def DS.arm (S : DS) (fs : List Ft) : DS × Int :=
  if 64 < fs.length then (S, 1)
  else match armL S.c7 fs [] with
    | none => (S, 1)
    | some l => ({ S with al := l }, 0)
theorem ains_mem {x e : Int × Ft} {l : Ar} (h : e ∈ ains x l) : e = x ∨ e ∈ l := by
  induction l with
  | nil => simp [ains] at h; exact .inl h
  | cons y r ih =>
    unfold ains at h
    split at h
    · rcases List.mem_cons.1 h with q | q
      · exact .inl q
      · exact .inr q
    · rcases List.mem_cons.1 h with q | q
      · exact .inr (by rw [q]; simp)
      · rcases ih q with z | z
        · exact .inl z
        · exact .inr (by simp [z])
theorem armL_mem {c : Int} : ∀ {fs : List Ft} {l m : Ar}, armL c fs l = some m → ∀ e ∈ m, e ∈ l ∨ (e.2 ∈ fs ∧ mayF e.2 = true) := by
  intro fs
  induction fs with
  | nil => intro l m h e he; simp [armL] at h; subst h; exact .inl he
  | cons f r ih =>
    intro l m h e he
    simp only [armL] at h
    split at h
    · rename_i q
      rcases ih h e he with z | z
      · rcases ains_mem z with y | y
        · rw [y]; exact .inr ⟨by simp, q.1⟩
        · exact .inl (List.mem_filter.1 y).1
      · exact .inr ⟨by simp [z.1], z.2⟩
    · cases h
theorem ains_len (x : Int × Ft) (l : Ar) : (ains x l).length = l.length + 1 := by
  induction l with
  | nil => rfl
  | cons y r ih => unfold ains; split <;> simp [ih]
theorem aput_len (l : Ar) (n : Int) (f : Ft) : (aput l n f).length ≤ l.length + 1 := by
  have : (adel l n).length ≤ l.length := List.length_filter_le _ _
  rw [aput, ains_len]
  omega
theorem armL_len {c : Int} : ∀ {fs : List Ft} {l m : Ar}, armL c fs l = some m → m.length ≤ l.length + fs.length := by
  intro fs
  induction fs with
  | nil => intro l m h; simp [armL] at h; subst h; simp
  | cons f r ih =>
    intro l m h
    simp only [armL] at h
    split at h
    · have h1 := ih h
      have h2 := aput_len l (c + f.1) f
      simp only [List.length_cons]
      omega
    · cases h
def Fts (w : World) (v : Value) (fs : List Ft) : Prop :=
  ∃ ao cap, v = .slice ao fs.length cap ∧ fs.length ≤ cap ∧ cap ≤ maxLen ∧ ∀ i (h : i < fs.length), ∃ b off, ao = some ⟨b, off, none⟩ ∧ w.cell? ⟨b, off + i * 3, none⟩ = some (.int .i64 fs[i].1) ∧ w.cell? ⟨b, off + i * 3 + 1, none⟩ = some (.int .i64 fs[i].2.1) ∧ w.cell? ⟨b, off + i * 3 + 2, none⟩ = some (.int .i64 fs[i].2.2)
theorem Fts.below {w w' : World} {v : Value} {fs : List Ft} (h : Fts w v fs) (hb : Below w.heap.size w w') : Fts w' v fs := by
  obtain ⟨ao, cap, e, h1, h2, h3⟩ := h
  refine ⟨ao, cap, e, h1, h2, fun i hi => ?_⟩
  obtain ⟨b, off, e1, c1, c2, c3⟩ := h3 i hi
  exact ⟨b, off, e1, by rw [hb.cell (lt_of_cell c1)]; exact c1, by rw [hb.cell (lt_of_cell c2)]; exact c2, by rw [hb.cell (lt_of_cell c3)]; exact c3⟩
set_option maxRecDepth 100000 in
theorem mayBefall_any (w : World) (f : Ft) : Calls Tryz.prog 102 #[.agg #[.int .i64 f.1, .int .i64 f.2.1, .int .i64 f.2.2]] w fun e w' => e = .returned (.bool (mayF f)) ∧ Below w.heap.size w w' := by
  obtain ⟨a, k, p⟩ := f
  dsimp only
  have hB := hide (box_below w (.cells #[.int .i64 a, .int .i64 k, .int .i64 p] 118))
  obtain ⟨E, hE⟩ : ∃ E, Hid (mayF (a, k, p) = E) := ⟨_, rfl⟩
  rw [hE.out]
  by_cases c1 : 1 ≤ a
  · by_cases c2 : a ≤ 4294967296
    · by_cases c3 : 1 ≤ k
      · by_cases c4 : k ≤ 4
        · by_cases c5 : 0 ≤ p
          · have q : Hid (E = true) := by show _ = _; rw [← hE.out]; simp [mayF, c1, c2, c3, c4, c5]
            go_enter Tryz.func102, Tryz.ntmps102
            go_wp2_with fail
            go_ret
            exact ⟨by rw [q.out]; rfl, hB.out⟩
          · have q : Hid (E = false) := by show _ = _; rw [← hE.out]; simp [mayF, c5]
            go_enter Tryz.func102, Tryz.ntmps102
            go_wp2_with fail
            go_ret
            exact ⟨by rw [q.out]; rfl, hB.out⟩
        · have q : Hid (E = false) := by show _ = _; rw [← hE.out]; simp [mayF, c4]
          go_enter Tryz.func102, Tryz.ntmps102
          go_wp2_with fail
          go_ret
          exact ⟨by rw [q.out]; rfl, hB.out⟩
      · have q : Hid (E = false) := by show _ = _; rw [← hE.out]; simp [mayF, c3]
        go_enter Tryz.func102, Tryz.ntmps102
        go_wp2_with fail
        go_ret
        exact ⟨by rw [q.out]; rfl, hB.out⟩
    · have q : Hid (E = false) := by show _ = _; rw [← hE.out]; simp [mayF, c2]
      go_enter Tryz.func102, Tryz.ntmps102
      go_wp2_with fail
      go_ret
      exact ⟨by rw [q.out]; rfl, hB.out⟩
  · have q : Hid (E = false) := by show _ = _; rw [← hE.out]; simp [mayF, c1]
    go_enter Tryz.func102, Tryz.ntmps102
    go_wp2_with fail
    go_ret
    exact ⟨by rw [q.out]; rfl, hB.out⟩
end Go.Proofs.YtpbiopmlipchdaaGreat.Dk
