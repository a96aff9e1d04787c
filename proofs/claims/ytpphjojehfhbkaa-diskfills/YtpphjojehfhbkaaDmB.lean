/-
  DiskFills: the walk.
-/
import Derived.Test.YtpphjojehfhbkaaDmA
namespace Go.Proofs.Ytpphjojehfhbkaa.Dk
open Go.RowKit Go.Maps Go.Sort Go.Shelf Go.Proofs.Ytpphjojehfhbkaa.Nm

/-- What holds at the head of each round. -/
structure FI (w wr : World) (db : Nat) (M i a b : Nat) (S : DS) (O : Nat → Prop) (pa pb : Nat) : Prop where
  d : DskE wr db S O
  fil : Fil S M pa pb a b
  ab : a + b ≤ M
  c7 : S.c7 ≤ 2 + 3 * (i : Int)
  bel : Below w.heap.size w wr
  lo : ∀ k, O k → w.heap.size ≤ k
set_option maxRecDepth 100000 in
set_option maxHeartbeats 8000000 in
theorem fills_walk (w : World) (most : Int) (z : Value) (vs : List Value) (ls : List (List UInt8)) (h0 : -9223372036854775808 ≤ most) (h1 : most ≤ 9223372036854775807) (hz : Row w z vs) (hs : Sls w vs ls) (hl : ∀ l ∈ ls, l.length ≤ 140737488351232) :
    Calls Try.prog 5 #[.int .i64 most, z] w fun e w' => e = .returned (.bool true) ∧ Below w.heap.size w w' := by
  obtain ⟨ao, ca, rfl, g2, g3, g4, g5⟩ := hz
  have hm : ca ≤ 9223372036854775807 := by unfold maxLen at g4; omega
  have HS := hide hs
  have HL := hide hl
  have H5 := hide g5
  obtain ⟨n, hn⟩ : ∃ n, Hid (vs.length = n) := ⟨_, rfl⟩
  rw [hn.out] at g3 ⊢
  have hB := begun_any w
  clear g2 g4 g5 hs hl
  by_cases c1 : most < 0
  · go_enter Try.func5, Try.ntmps5
    go_wp2_with (go_at_call 6; refine hB.mono ?_; rintro e w0 ⟨rfl, b0⟩; replace b0 := hide b0)
    go_ret
    exact ⟨rfl, b0.out⟩
  by_cases c2 : most > 5000
  · go_enter Try.func5, Try.ntmps5
    go_wp2_with (go_at_call 6; refine hB.mono ?_; rintro e w0 ⟨rfl, b0⟩; replace b0 := hide b0)
    go_ret
    exact ⟨rfl, b0.out⟩
  by_cases c3 : (n : Int) > 100
  · go_enter Try.func5, Try.ntmps5
    go_wp2_with (go_at_call 6; refine hB.mono ?_; rintro e w0 ⟨rfl, b0⟩; replace b0 := hide b0)
    go_ret
    exact ⟨rfl, b0.out⟩
  obtain ⟨M, hM⟩ : ∃ M : Nat, most = (M : Int) := ⟨most.toNat, by omega⟩
  subst hM
  have hM5 : M ≤ 5000 := by omega
  have hn1 : n ≤ 100 := by omega
  have hs1 : sA.size ≤ 140737488355328 := by decide
  have hs2 : sB.size ≤ 140737488355328 := by decide
  have hs3 : sA.size ≤ maxLen := by decide
  have hs4 : sB.size ≤ maxLen := by decide
  have hN : Hid (∀ q, _) := fun q => new_dsk q (M : Int) (by omega) (by omega)
  have hC1 : Hid (∀ q b O, DskE q b (DS.new (M : Int)) O → Calls Try.prog 8 #[.pointer (some ⟨b, 0, none⟩), .string ⟨#[97]⟩] q fun e w' => ∃ p, e = .returned (.int .i64 0) ∧ ∃ O', DskE w' b ⟨(M : Int), true, [], [.cr sA p], [], 1, 0, 0, 0, 0, 0, 0, 1, 0, noF⟩ O' ∧ Sgo q w' O O') := fun q b O h => by
    refine (create_dsk h sA hs1 (by show (0 : Int) < _; decide)).mono ?_
    rintro e w' ⟨p, _, _, he, hd⟩
    rw [new_create] at he hd
    exact ⟨p, he, hd⟩
  have hC2 : Hid (∀ q b O pa, DskE q b ⟨(M : Int), true, [], [.cr sA pa], [], 1, 0, 0, 0, 0, 0, 0, 1, 0, noF⟩ O → Calls Try.prog 8 #[.pointer (some ⟨b, 0, none⟩), .string ⟨#[98]⟩] q fun e w' => e = .returned (.int .i64 0) ∧ ∃ S O' pb, DskE w' b S O' ∧ Sgo q w' O O' ∧ Fil S M pa pb 0 0 ∧ S.c7 = 2) := fun q b O pa h => by
    refine (create_dsk h sB hs2 (by show (1 : Int) < _; decide)).mono ?_
    rintro e w' ⟨pb, _, hp, he, O', hd, hg⟩
    obtain ⟨k1, k2, k3⟩ := new_create2 M pa pb hp
    rw [k1] at he
    exact ⟨he, _, O', pb, hd, hg, k2, k3⟩
  have hAa : Hid (∀ q b S O pa pb x y v D, DskE q b S O → Fil S M pa pb x y → x + y ≤ M → S.c7 < 900000000 → Sl q v D → SOff O v → Calls Try.prog 10 #[.pointer (some ⟨b, 0, none⟩), .string ⟨#[97]⟩, v] q fun e w' => e = .returned (.tuple #[.int .i64 ((min (M - x - y) D.length : Nat) : Int), .int .i64 (if min (M - x - y) D.length < D.length then 21 else 0)]) ∧ ∃ S' O', DskE w' b S' O' ∧ Sgo q w' O O' ∧ Fil S' M pa pb (x + min (M - x - y) D.length) y ∧ S'.c7 = S.c7 + 1) := fun q b S O pa pb x y v D h hf hxy hc hv ho => by
    refine (append_dsk h sA hs3 v D hv ho hc).mono ?_
    rintro e w' ⟨he, O', hd, hg⟩
    obtain ⟨k1, k2, k3, k4⟩ := hf.app_a hxy D
    rw [k1, k2] at he
    exact ⟨he, _, O', hd, hg, k3, k4⟩
  have hAb : Hid (∀ q b S O pa pb x y v D, DskE q b S O → Fil S M pa pb x y → x + y ≤ M → S.c7 < 900000000 → Sl q v D → SOff O v → Calls Try.prog 10 #[.pointer (some ⟨b, 0, none⟩), .string ⟨#[98]⟩, v] q fun e w' => e = .returned (.tuple #[.int .i64 ((min (M - x - y) D.length : Nat) : Int), .int .i64 (if min (M - x - y) D.length < D.length then 21 else 0)]) ∧ ∃ S' O', DskE w' b S' O' ∧ Sgo q w' O O' ∧ Fil S' M pa pb x (y + min (M - x - y) D.length) ∧ S'.c7 = S.c7 + 1) := fun q b S O pa pb x y v D h hf hxy hc hv ho => by
    refine (append_dsk h sB hs4 v D hv ho hc).mono ?_
    rintro e w' ⟨he, O', hd, hg⟩
    obtain ⟨k1, k2, k3, k4⟩ := hf.app_b hxy D
    rw [k1, k2] at he
    exact ⟨he, _, O', hd, hg, k3, k4⟩
  have hR : Hid (∀ q b S O pa pb x y, DskE q b S O → Fil S M pa pb x y → S.c7 < 900000000 → Calls Try.prog 20 #[.pointer (some ⟨b, 0, none⟩), .string ⟨#[97]⟩] q fun e w' => e = .returned (.int .i64 0) ∧ ∃ S' O', DskE w' b S' O' ∧ Sgo q w' O O' ∧ Fil1 S' M pb y ∧ S'.c7 = S.c7 + 1) := fun q b S O pa pb x y h hf hc => by
    refine (remove_dsk h sA hs1 (by omega)).mono ?_
    rintro e w' ⟨he, O', hd, hg⟩
    obtain ⟨k1, k2, k3⟩ := hf.remove
    rw [k1] at he
    exact ⟨he, _, O', hd, hg, k2, k3⟩
  have hC3 : Hid (∀ q b S O pb y, DskE q b S O → Fil1 S M pb y → S.c7 < 900000000 → Calls Try.prog 8 #[.pointer (some ⟨b, 0, none⟩), .string ⟨#[97]⟩] q fun e w' => e = .returned (.int .i64 0) ∧ ∃ S' O' p, DskE w' b S' O' ∧ Sgo q w' O O' ∧ Fil S' M p pb 0 y ∧ S'.c7 = S.c7 + 1) := fun q b S O pb y h hf hc => by
    refine (create_dsk h sA hs1 (by omega)).mono ?_
    rintro e w' ⟨p, _, hp, he, O', hd, hg⟩
    obtain ⟨k1, k2, k3⟩ := hf.create hp
    rw [k1] at he
    exact ⟨he, _, O', p, hd, hg, k2, k3⟩
  have hS : Hid (∀ q b S O pa pb x y, DskE q b S O → Fil S M pa pb x y → Calls Try.prog 16 #[.pointer (some ⟨b, 0, none⟩), .string ⟨#[97]⟩] q fun e w' => e = .returned (.tuple #[.int .i64 (x : Int), .int .i64 0]) ∧ Below q.heap.size q w') := fun q b S O pa pb x y h hf => by
    have := size_dsk h sA hs3
    rw [hf.size] at this
    exact this
  clear hs1 hs2 hs3 hs4
  go_enter Try.func5, Try.ntmps5
  go_wp2_with (first
    | (go_at_call 6; refine hB.mono ?_; rintro e w0 ⟨rfl, b0⟩; replace b0 := hide b0)
    | (go_at_call 7; refine (hN.out _).mono ?_; rintro e w1 ⟨db, O1, rfl, D1, B1, L1⟩; replace D1 := hide D1; have E1 := hide (b0.out.trans (B1.mono b0.out.size)); have L1' : Hid (∀ k, O1 k → w.heap.size ≤ k) := (fun k hk => Nat.le_trans b0.out.size (L1 k hk)); clear L1 B1)
    | (go_at_call 8; have guard := D1; refine (hC1.out _ _ _ D1.out).mono ?_; rintro e w2 ⟨pa, rfl, O2, D2, G2⟩; replace D2 := hide D2; have E2 := hide (G2.under L1'.out (Nat.le_refl _) E1.out); have L2 := hide (G2.low E1.out.size L1'.out); clear G2 D1 guard)
    | (go_at_call 8; refine (hC2.out _ _ _ _ D2.out).mono ?_; rintro e w3 ⟨rfl, S3, O3, pb, D3, G3, F3, c3'⟩; have I3 : Hid (FI w w3 db M 0 0 0 S3 O3 pa pb) := ⟨D3, F3, Nat.zero_le _, by omega, G3.under L2.out (Nat.le_refl _) E2.out, G3.low E2.out.size L2.out⟩; clear D3 G3 F3 c3'))
  clear hB hN hC1 hC2 b0 E1 L1' D2 E2 L2
  go_loopw [6, 7, 8] (fun v6 v7 v8 wr => ∃ (i a b : Nat) (S : DS) (O : Nat → Prop) (pa pb : Nat), i ≤ n ∧ v8 = .int .i64 (i : Int) ∧ v7 = .int .i64 (a : Int) ∧ v6 = .int .i64 ((M - a - b : Nat) : Int) ∧ Hid (FI w wr db M i a b S O pa pb)) (fun _ _ i _ => n - (intOf i).toNat)
  case atStart => exact ⟨0, 0, 0, S3, O3, pa, pb, Nat.zero_le _, rfl, rfl, rfl, I3.out⟩
  case round =>
    clear I3
    obtain ⟨i, a, b, S, O, pa, pb, hi, rfl, rfl, rfl, hI⟩ := hrel
    by_cases hlt : i < n
    · have i1 : (i : Int) < (n : Int) := by omega
      have hiv : i < vs.length := by rw [hn.out]; exact hlt
      have hil : i < ls.length := by rw [← HS.out.1]; exact hiv
      obtain ⟨bz, oz, rfl, hcz⟩ := H5.out i hiv
      have HSi := hide (HS.out.2 i hiv hil)
      generalize vs[i] = vi at *
      generalize ls[i] = ll at *
      clear hiv hil
      obtain ⟨N, hN⟩ : ∃ N, Hid (ll.length = N) := ⟨_, rfl⟩
      obtain ⟨va, vc, ev, _⟩ := HSi.out
      rw [hN.out] at ev
      subst ev
      have c0 : wr.cell? ⟨bz, oz + i, none⟩ = some (.slice va N vc) := by rw [hI.out.bel.cell (lt_of_cell hcz)]; exact hcz
      have KC : Hid (∀ q : World, Below w.heap.size w q → q.cell? ⟨bz, oz + i, none⟩ = some (.slice va N vc)) := fun q hq => by rw [hq.cell (lt_of_cell hcz)]; exact hcz
      clear hcz
      by_cases c4 : (N : Int) > 16384
      · go_wp2_with fail
        go_ret
        exact ⟨rfl, hI.out.bel⟩
      have hSl : Hid (Sl wr (.slice va N vc) ll) := by have := Below.sl hI.out.bel HSi.out; exact this
      have hso : Hid (SOff O (.slice va N vc)) := soff_of HSi.out hI.out.lo
      obtain ⟨m, hmm⟩ : ∃ m, Hid (min (M - a - b) ll.length = m) := ⟨_, rfl⟩
      have hab := hI.out.ab
      have m1 : Hid (min ((M - a - b : Nat) : Int) (N : Int) = (m : Int)) := by show _ = _; have q1 := hmm.out; have q2 := hN.out; omega
      have m2 : a + b + m ≤ M := by have q1 := hmm.out; omega
      have m3 : m ≤ N := by have q1 := hmm.out; have q2 := hN.out; omega
      have e1 : Hid (((M - a - b : Nat) : Int) - (m : Int) = ((M - a - b - m : Nat) : Int)) := by show _ = _; have q1 := hmm.out; omega
      have c7 := hI.out.c7
      have hc7 : Hid (S.c7 < 900000000) := by show _ < _; omega
      obtain ⟨er, her⟩ : ∃ er : Int, Hid ((if m < ll.length then 21 else 0) = er) := ⟨_, rfl⟩
      have her2 : Hid ((er = 21 ∧ (m : Int) < (N : Int)) ∨ (er = 0 ∧ ¬ (m : Int) < (N : Int))) := by
        show _ ∨ _
        have q1 := her.out
        have q2 := hN.out
        by_cases c : m < ll.length
        · rw [if_pos c] at q1; exact .inl ⟨q1.symm, by omega⟩
        · rw [if_neg c] at q1; exact .inr ⟨q1.symm, by omega⟩
      obtain ⟨L, hL⟩ : ∃ L : Nat, Hid (M - a - b = L) := ⟨_, rfl⟩
      rw [hL.out] at m1 e1 ⊢
      have hL5 : L ≤ 5000 := by have := hL.out; omega
      have m4 : m ≤ L := by have q1 := hmm.out; have q2 := hL.out; omega
      have m1' := m1.out
      have e1' : IntKind.i64.wrap ((L : Int) - (m : Int)) = ((L - m : Nat) : Int) := by rw [IntKind.wrap_i64]; omega
      have hi10 : i ≤ 100 := by omega
      by_cases t3 : i % 3 = 2
      · have t3' : (Int.tmod (i : Int) 3 == 2) = true := by have : Int.tmod (i : Int) 3 = ((i % 3 : Nat) : Int) := rfl; rw [this, t3]; rfl
        rcases her2.out with ⟨eE, c5⟩ | ⟨eE, c5⟩
        · have hErr : Hid ((21 : Int) = er) := eE.symm
          clear eE
          by_cases t10 : i % 10 = 9
          · have t10' : (Int.tmod (i : Int) 10 == 9) = true := by have : Int.tmod (i : Int) 10 = ((i % 10 : Nat) : Int) := rfl; rw [this, t10]; rfl
            have w2 : IntKind.i64.wrap (((L - m : Nat) : Int) + (a : Int)) = ((L - m : Nat) : Int) + (a : Int) := by rw [IntKind.wrap_i64]; omega
            go_wp2_with (first
              | (go_at_call 10; refine (hAb.out _ _ _ _ _ _ _ _ _ _ hI.out.d hI.out.fil hab hc7.out hSl.out hso.out).mono ?_; rw [hmm.out, her.out, ← hErr.out]; rintro e w5 ⟨rfl, S5, O5, D5, G5, F5, c5⟩; have I5 : Hid (FI w w5 db M (i + 1) a (b + m) S5 O5 pa pb) := ⟨D5, F5, by omega, by omega, G5.under hI.out.lo (Nat.le_refl _) hI.out.bel, G5.low hI.out.bel.size hI.out.lo⟩; have c55 : Hid (S5.c7 ≤ 2 + 3 * (i : Int) + 1) := (by show _ ≤ _; omega); have c0' := KC.out w5 I5.out.bel; clear D5 G5 F5 c5)
              | (go_at_call 20; refine (hR.out _ _ _ _ _ _ _ _ I5.out.d I5.out.fil (by have := c55.out; omega)).mono ?_; rintro e w6 ⟨rfl, S6, O6, D6, G6, F6, c6⟩; replace D6 := hide D6; replace F6 := hide F6; have c66 : Hid (S6.c7 ≤ 2 + 3 * (i : Int) + 2) := (by show _ ≤ _; have := c55.out; omega); have E6 := hide (G6.under I5.out.lo (Nat.le_refl _) I5.out.bel); have L6 := hide (G6.low I5.out.bel.size I5.out.lo); clear G6 c6)
              | (go_at_call 8; refine (hC3.out _ _ _ _ _ _ D6.out F6.out (by have := c66.out; omega)).mono ?_; rintro e w7 ⟨rfl, S7, O7, p7, D7, G7, F7, c7'⟩; have I7 : Hid (FI w w7 db M (i + 1) 0 (b + m) S7 O7 p7 pb) := ⟨D7, F7, by omega, by have := c66.out; omega, G7.under L6.out (Nat.le_refl _) E6.out, G7.low E6.out.size L6.out⟩; clear D7 G7 F7 c7'))
            go_roundw
            case rel => exact ⟨i + 1, 0, _, S7, O7, p7, pb, by omega, by go_num, rfl, by congr 1; have := hL.out; omega, I7.out⟩
            case measure => simp [intOf]; omega
          · have t10' : (Int.tmod (i : Int) 10 == 9) = false := by have : Int.tmod (i : Int) 10 = ((i % 10 : Nat) : Int) := rfl; rw [this]; simp; omega
            go_wp2_with (go_at_call 10; refine (hAb.out _ _ _ _ _ _ _ _ _ _ hI.out.d hI.out.fil hab hc7.out hSl.out hso.out).mono ?_; rw [hmm.out, her.out, ← hErr.out]; rintro e w5 ⟨rfl, S5, O5, D5, G5, F5, c5⟩; have I5 : Hid (FI w w5 db M (i + 1) a (b + m) S5 O5 pa pb) := ⟨D5, F5, by omega, by omega, G5.under hI.out.lo (Nat.le_refl _) hI.out.bel, G5.low hI.out.bel.size hI.out.lo⟩; have c55 : Hid (S5.c7 ≤ 2 + 3 * (i : Int) + 1) := (by show _ ≤ _; omega); have c0' := KC.out w5 I5.out.bel; clear D5 G5 F5 c5)
            go_roundw
            case rel => exact ⟨i + 1, _, _, S5, O5, pa, pb, by omega, by go_num, rfl, by congr 1; have := hL.out; omega, I5.out⟩
            case measure => simp [intOf]; omega
        · have hErr : Hid ((0 : Int) = er) := eE.symm
          clear eE
          by_cases t10 : i % 10 = 9
          · have t10' : (Int.tmod (i : Int) 10 == 9) = true := by have : Int.tmod (i : Int) 10 = ((i % 10 : Nat) : Int) := rfl; rw [this, t10]; rfl
            have w2 : IntKind.i64.wrap (((L - m : Nat) : Int) + (a : Int)) = ((L - m : Nat) : Int) + (a : Int) := by rw [IntKind.wrap_i64]; omega
            go_wp2_with (first
              | (go_at_call 10; refine (hAb.out _ _ _ _ _ _ _ _ _ _ hI.out.d hI.out.fil hab hc7.out hSl.out hso.out).mono ?_; rw [hmm.out, her.out, ← hErr.out]; rintro e w5 ⟨rfl, S5, O5, D5, G5, F5, c5⟩; have I5 : Hid (FI w w5 db M (i + 1) a (b + m) S5 O5 pa pb) := ⟨D5, F5, by omega, by omega, G5.under hI.out.lo (Nat.le_refl _) hI.out.bel, G5.low hI.out.bel.size hI.out.lo⟩; have c55 : Hid (S5.c7 ≤ 2 + 3 * (i : Int) + 1) := (by show _ ≤ _; omega); have c0' := KC.out w5 I5.out.bel; clear D5 G5 F5 c5)
              | (go_at_call 20; refine (hR.out _ _ _ _ _ _ _ _ I5.out.d I5.out.fil (by have := c55.out; omega)).mono ?_; rintro e w6 ⟨rfl, S6, O6, D6, G6, F6, c6⟩; replace D6 := hide D6; replace F6 := hide F6; have c66 : Hid (S6.c7 ≤ 2 + 3 * (i : Int) + 2) := (by show _ ≤ _; have := c55.out; omega); have E6 := hide (G6.under I5.out.lo (Nat.le_refl _) I5.out.bel); have L6 := hide (G6.low I5.out.bel.size I5.out.lo); clear G6 c6)
              | (go_at_call 8; refine (hC3.out _ _ _ _ _ _ D6.out F6.out (by have := c66.out; omega)).mono ?_; rintro e w7 ⟨rfl, S7, O7, p7, D7, G7, F7, c7'⟩; have I7 : Hid (FI w w7 db M (i + 1) 0 (b + m) S7 O7 p7 pb) := ⟨D7, F7, by omega, by have := c66.out; omega, G7.under L6.out (Nat.le_refl _) E6.out, G7.low E6.out.size L6.out⟩; clear D7 G7 F7 c7'))
            go_roundw
            case rel => exact ⟨i + 1, 0, _, S7, O7, p7, pb, by omega, by go_num, rfl, by congr 1; have := hL.out; omega, I7.out⟩
            case measure => simp [intOf]; omega
          · have t10' : (Int.tmod (i : Int) 10 == 9) = false := by have : Int.tmod (i : Int) 10 = ((i % 10 : Nat) : Int) := rfl; rw [this]; simp; omega
            go_wp2_with (go_at_call 10; refine (hAb.out _ _ _ _ _ _ _ _ _ _ hI.out.d hI.out.fil hab hc7.out hSl.out hso.out).mono ?_; rw [hmm.out, her.out, ← hErr.out]; rintro e w5 ⟨rfl, S5, O5, D5, G5, F5, c5⟩; have I5 : Hid (FI w w5 db M (i + 1) a (b + m) S5 O5 pa pb) := ⟨D5, F5, by omega, by omega, G5.under hI.out.lo (Nat.le_refl _) hI.out.bel, G5.low hI.out.bel.size hI.out.lo⟩; have c55 : Hid (S5.c7 ≤ 2 + 3 * (i : Int) + 1) := (by show _ ≤ _; omega); have c0' := KC.out w5 I5.out.bel; clear D5 G5 F5 c5)
            go_roundw
            case rel => exact ⟨i + 1, _, _, S5, O5, pa, pb, by omega, by go_num, rfl, by congr 1; have := hL.out; omega, I5.out⟩
            case measure => simp [intOf]; omega
      · have t3' : (Int.tmod (i : Int) 3 == 2) = false := by have : Int.tmod (i : Int) 3 = ((i % 3 : Nat) : Int) := rfl; rw [this]; simp; omega
        have w1 : IntKind.i64.wrap ((a : Int) + (m : Int)) = (a : Int) + (m : Int) := by rw [IntKind.wrap_i64]; omega
        rcases her2.out with ⟨eE, c5⟩ | ⟨eE, c5⟩
        · have hErr : Hid ((21 : Int) = er) := eE.symm
          clear eE
          by_cases t10 : i % 10 = 9
          · have t10' : (Int.tmod (i : Int) 10 == 9) = true := by have : Int.tmod (i : Int) 10 = ((i % 10 : Nat) : Int) := rfl; rw [this, t10]; rfl
            have w2 : IntKind.i64.wrap (((L - m : Nat) : Int) + ((a : Int) + (m : Int))) = ((L - m : Nat) : Int) + ((a : Int) + (m : Int)) := by rw [IntKind.wrap_i64]; omega
            go_wp2_with (first
              | (go_at_call 10; refine (hAa.out _ _ _ _ _ _ _ _ _ _ hI.out.d hI.out.fil hab hc7.out hSl.out hso.out).mono ?_; rw [hmm.out, her.out, ← hErr.out]; rintro e w5 ⟨rfl, S5, O5, D5, G5, F5, c5⟩; have I5 : Hid (FI w w5 db M (i + 1) (a + m) b S5 O5 pa pb) := ⟨D5, F5, by omega, by omega, G5.under hI.out.lo (Nat.le_refl _) hI.out.bel, G5.low hI.out.bel.size hI.out.lo⟩; have c55 : Hid (S5.c7 ≤ 2 + 3 * (i : Int) + 1) := (by show _ ≤ _; omega); have c0' := KC.out w5 I5.out.bel; clear D5 G5 F5 c5)
              | (go_at_call 20; refine (hR.out _ _ _ _ _ _ _ _ I5.out.d I5.out.fil (by have := c55.out; omega)).mono ?_; rintro e w6 ⟨rfl, S6, O6, D6, G6, F6, c6⟩; replace D6 := hide D6; replace F6 := hide F6; have c66 : Hid (S6.c7 ≤ 2 + 3 * (i : Int) + 2) := (by show _ ≤ _; have := c55.out; omega); have E6 := hide (G6.under I5.out.lo (Nat.le_refl _) I5.out.bel); have L6 := hide (G6.low I5.out.bel.size I5.out.lo); clear G6 c6)
              | (go_at_call 8; refine (hC3.out _ _ _ _ _ _ D6.out F6.out (by have := c66.out; omega)).mono ?_; rintro e w7 ⟨rfl, S7, O7, p7, D7, G7, F7, c7'⟩; have I7 : Hid (FI w w7 db M (i + 1) 0 b S7 O7 p7 pb) := ⟨D7, F7, by omega, by have := c66.out; omega, G7.under L6.out (Nat.le_refl _) E6.out, G7.low E6.out.size L6.out⟩; clear D7 G7 F7 c7'))
            go_roundw
            case rel => exact ⟨i + 1, 0, _, S7, O7, p7, pb, by omega, by go_num, rfl, by congr 1; have := hL.out; omega, I7.out⟩
            case measure => simp [intOf]; omega
          · have t10' : (Int.tmod (i : Int) 10 == 9) = false := by have : Int.tmod (i : Int) 10 = ((i % 10 : Nat) : Int) := rfl; rw [this]; simp; omega
            go_wp2_with (go_at_call 10; refine (hAa.out _ _ _ _ _ _ _ _ _ _ hI.out.d hI.out.fil hab hc7.out hSl.out hso.out).mono ?_; rw [hmm.out, her.out, ← hErr.out]; rintro e w5 ⟨rfl, S5, O5, D5, G5, F5, c5⟩; have I5 : Hid (FI w w5 db M (i + 1) (a + m) b S5 O5 pa pb) := ⟨D5, F5, by omega, by omega, G5.under hI.out.lo (Nat.le_refl _) hI.out.bel, G5.low hI.out.bel.size hI.out.lo⟩; have c55 : Hid (S5.c7 ≤ 2 + 3 * (i : Int) + 1) := (by show _ ≤ _; omega); have c0' := KC.out w5 I5.out.bel; clear D5 G5 F5 c5)
            go_roundw
            case rel => exact ⟨i + 1, _, _, S5, O5, pa, pb, by omega, by go_num, rfl, by congr 1; have := hL.out; omega, I5.out⟩
            case measure => simp [intOf]; omega
        · have hErr : Hid ((0 : Int) = er) := eE.symm
          clear eE
          by_cases t10 : i % 10 = 9
          · have t10' : (Int.tmod (i : Int) 10 == 9) = true := by have : Int.tmod (i : Int) 10 = ((i % 10 : Nat) : Int) := rfl; rw [this, t10]; rfl
            have w2 : IntKind.i64.wrap (((L - m : Nat) : Int) + ((a : Int) + (m : Int))) = ((L - m : Nat) : Int) + ((a : Int) + (m : Int)) := by rw [IntKind.wrap_i64]; omega
            go_wp2_with (first
              | (go_at_call 10; refine (hAa.out _ _ _ _ _ _ _ _ _ _ hI.out.d hI.out.fil hab hc7.out hSl.out hso.out).mono ?_; rw [hmm.out, her.out, ← hErr.out]; rintro e w5 ⟨rfl, S5, O5, D5, G5, F5, c5⟩; have I5 : Hid (FI w w5 db M (i + 1) (a + m) b S5 O5 pa pb) := ⟨D5, F5, by omega, by omega, G5.under hI.out.lo (Nat.le_refl _) hI.out.bel, G5.low hI.out.bel.size hI.out.lo⟩; have c55 : Hid (S5.c7 ≤ 2 + 3 * (i : Int) + 1) := (by show _ ≤ _; omega); have c0' := KC.out w5 I5.out.bel; clear D5 G5 F5 c5)
              | (go_at_call 20; refine (hR.out _ _ _ _ _ _ _ _ I5.out.d I5.out.fil (by have := c55.out; omega)).mono ?_; rintro e w6 ⟨rfl, S6, O6, D6, G6, F6, c6⟩; replace D6 := hide D6; replace F6 := hide F6; have c66 : Hid (S6.c7 ≤ 2 + 3 * (i : Int) + 2) := (by show _ ≤ _; have := c55.out; omega); have E6 := hide (G6.under I5.out.lo (Nat.le_refl _) I5.out.bel); have L6 := hide (G6.low I5.out.bel.size I5.out.lo); clear G6 c6)
              | (go_at_call 8; refine (hC3.out _ _ _ _ _ _ D6.out F6.out (by have := c66.out; omega)).mono ?_; rintro e w7 ⟨rfl, S7, O7, p7, D7, G7, F7, c7'⟩; have I7 : Hid (FI w w7 db M (i + 1) 0 b S7 O7 p7 pb) := ⟨D7, F7, by omega, by have := c66.out; omega, G7.under L6.out (Nat.le_refl _) E6.out, G7.low E6.out.size L6.out⟩; clear D7 G7 F7 c7'))
            go_roundw
            case rel => exact ⟨i + 1, 0, _, S7, O7, p7, pb, by omega, by go_num, rfl, by congr 1; have := hL.out; omega, I7.out⟩
            case measure => simp [intOf]; omega
          · have t10' : (Int.tmod (i : Int) 10 == 9) = false := by have : Int.tmod (i : Int) 10 = ((i % 10 : Nat) : Int) := rfl; rw [this]; simp; omega
            go_wp2_with (go_at_call 10; refine (hAa.out _ _ _ _ _ _ _ _ _ _ hI.out.d hI.out.fil hab hc7.out hSl.out hso.out).mono ?_; rw [hmm.out, her.out, ← hErr.out]; rintro e w5 ⟨rfl, S5, O5, D5, G5, F5, c5⟩; have I5 : Hid (FI w w5 db M (i + 1) (a + m) b S5 O5 pa pb) := ⟨D5, F5, by omega, by omega, G5.under hI.out.lo (Nat.le_refl _) hI.out.bel, G5.low hI.out.bel.size hI.out.lo⟩; have c55 : Hid (S5.c7 ≤ 2 + 3 * (i : Int) + 1) := (by show _ ≤ _; omega); have c0' := KC.out w5 I5.out.bel; clear D5 G5 F5 c5)
            go_roundw
            case rel => exact ⟨i + 1, _, _, S5, O5, pa, pb, by omega, by go_num, rfl, by congr 1; have := hL.out; omega, I5.out⟩
            case measure => simp [intOf]; omega
    · obtain rfl : i = n := by omega
      have i1 : ¬ (i : Int) < (i : Int) := by omega
      go_wp2_with (go_at_call 16; refine (hS.out _ _ _ _ _ _ _ _ hI.out.d hI.out.fil).mono ?_; rintro e w9 ⟨rfl, B9⟩; replace B9 := hide B9)
      go_ret
      exact ⟨rfl, hI.out.bel.trans (B9.out.mono hI.out.bel.size)⟩
#print axioms fills_walk
end Go.Proofs.Ytpphjojehfhbkaa.Dk
