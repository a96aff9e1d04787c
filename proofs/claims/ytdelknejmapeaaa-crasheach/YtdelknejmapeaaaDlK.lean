/-
  Crash.
-/
import Derived.Test.YtdelknejmapeaaaDlK0
namespace Go.Proofs.Ytdelknejmapeaaa.Dk
open Go.RowKit Go.Maps Go.Sort Go.Shelf Go.Proofs.Ytdelknejmapeaaa.Nm
open Ix (wp_region_T wpAnyT wpAnyT_take wpAnyT_one wpAnyT_done vac)

set_option maxRecDepth 100000 in
set_option maxHeartbeats 2000000 in
theorem crashD_any {w : World} {b : Nat} {S : DS} {O : Nat → Prop} {f g : Nat} {pd : Value} {am : Option Nat} {VB0 VL0 : Nat → Value} (h : Dsk w b S O f g pd am VB0 VL0) (hc : S.c7 < 1000000000) (n : Int) (n0 : -9223372036854775808 ≤ n) (n1 : n ≤ 9223372036854775807) (v : Value) (Z : Nat → Prop) (ks : List Kep) (hk : Kp Z w v ks) (hZ : ∀ k, Z k → ¬ O k ∧ k < w.heap.size) :
    Calls Try.prog 10 #[.pointer (some ⟨b, 0, none⟩), .agg #[.int .i64 n, v]] w fun e w' => e = .returned (.tuple #[]) ∧ ∃ O', DskE w' b (S.crash n ks) O' ∧ Sgo w w' O O' := by
  have hB0 := hide (box_below w (.cells #[.int .i64 n, v] 26))
  have hN0 := hide (heap_alloc_new w (.cells #[.int .i64 n, v] 26))
  have hK0 := hide (hk.below hB0.out)
  obtain ⟨ak, ck, rfl, q1, q2, _⟩ := hk
  obtain ⟨w1, hw1⟩ : ∃ w1, Hid (w.alloc (.cells #[.int .i64 n, .slice ak ks.length ck] 26) = w1) := ⟨_, rfl⟩
  rw [hw1.out] at hB0 hN0 hK0
  have H := hide h
  have H1 := hide (h.below hB0.out)
  have hM := made_any w1 _ _ H1.out.dk.dp
  rw [show madeD (some (S.dc f g pd am)) = true from rfl] at hM
  have hD := dsk_directory H1.out hc n n0 n1
  have hlen := front_len h.ok hc n
  have hfl : Hid (∀ p s, get (S.front n) s = some p → p ∈ S.ps) := fun p s hp => mem_front hp
  have hfs : Hid (∀ p ∈ (S.front n).map (·.2), p ∈ S.ps) := fun p hp => DS.mem_front hp
  have hl7 : Hid (((S.front n).length : Int) ≤ S.c7) := by
    show _ ≤ _
    have h1 := h.ok.cnt
    have h2 := runs_len S.l2 (S.P.take (wthn n S.P.length))
    rw [List.length_take] at h2
    unfold DS.front
    omega
  have hE : Hid (S.crash n ks = { S with up := true, l2 := S.front n, P := [], al := [], F := crashL (S.front n) (nms (S.front n)) ks S.F }) := rfl
  rw [hE.out]
  clear hE
  generalize S.front n = l at *
  have hmem : Hid (∀ k (hk : k < (nms l).length), ∃ p, get l (nms l)[k] = some p) := fun k hk => nms_get (List.getElem_mem hk)
  have x0 : w1.cell? ⟨w.heap.size, 0, none⟩ = some (.int .i64 n) := by simp [World.cell?, hN0.out]
  have d2 : Hid (∀ q, Below w1.heap.size w1 q → q.heap[b]? = some (.cells (dcells (S.dc f g pd am)) TD (0, 0))) := fun q hq => (hq.block b (heap_lt H1.out.dk.box)).trans H1.out.dk.box
  clear h
  go_enter Try.func10, Try.ntmps10
  go_upto_region 1 with fail
  rw [hw1.out]
  go_upto_region 3 with (first
    | (go_at_call 36; refine hM.mono ?_; rintro e w2 ⟨rfl, e1⟩; subst w2)
    | (go_at_call 37; refine hD.mono ?_; rintro e w2 ⟨rfl, M2, B2⟩; replace M2 := hide M2; replace B2 := hide B2; have b2 := hide (d2.out _ B2.out); have y1 : w2.cell? ⟨b, 2, none⟩ = some (.map (some f)) := (by simp [World.cell?, b2.out, dcells, DS.dc]); have y2 : w2.frozen? ⟨b, 2, none⟩ = false := (by simp [World.frozen?, b2.out])))
  clear y1 y2 x0 hM hD d2
  generalize hm0 : w1.heap.size = m at *
  replace hm0 := hide hm0
  have b3 := hide (heap_setCell_same w2 b 2 _ _ (.map (some m)) b2.out)
  obtain ⟨cs, hcs⟩ : ∃ cs, Hid ((dcells (S.dc f g pd am)).setIfInBounds 2 (.map (some m)) = cs) := ⟨_, rfl⟩
  rw [hcs.out] at b3
  have g3 := hide (But.of_grownBy (X := fun k => k = b) (grown_setCell w2 b 2 (.map (some m))) fun k e => by cases e; rfl)
  have hOb : Hid (O b) := H.out.ow b (.inl rfl)
  have hOl : Hid (∀ k, O k → k < w.heap.size) := H.out.lt
  have z1 := hide hB0.out.size
  have z2 : Hid (m ≤ w2.heap.size) := by have := B2.out.size; rw [hm0.out] at this; exact this
  have W2 : Hid (Below w.heap.size w w2) := hB0.out.trans (by have := B2.out; exact this.mono (by rw [← hm0.out] ; exact hB0.out.size))
  have M3 : Hid (Mp (w2.setCell ⟨b, 2, none⟩ (.map (some m))) m l) := M2.out.but g3.out (fun e => M2.out.ne b2.out e.symm)
  have I3 : Hid (CrI (w2.setCell ⟨b, 2, none⟩ (.map (some m))) (w2.setCell ⟨b, 2, none⟩ (.map (some m))) O b m cs l S.ps S.F VB0 VL0) := by
    have D2 := H.out.below W2.out
    have hsz : w2.heap.size ≤ (w2.setCell ⟨b, 2, none⟩ (.map (some m))).heap.size := g3.out.size
    refine ⟨b3.out, M3.out, ?_, But.of_below (Below.refl _ _) _, fun p hp k hk => .inl (H.out.of p hp k hk), H.out.ok.sz⟩
    have F2 : Fs (w2.setCell ⟨b, 2, none⟩ (.map (some m))) (Own b (S.dc f g pd am)) S.ps S.F VB0 VL0 := D2.fs.but g3.out (fun p hp k hk e => D2.fs.no p hp k hk (.inl e))
    refine ⟨F2.at_, F2.ap, fun p hp k hk c => ?_⟩
    rcases c with e | e
    · exact F2.no p hp k hk (.inl e)
    · have q1 := H.out.fs.lt hp k hk
      have q2 := z1.out
      rw [hm0.out] at q2
      omega
  have W3 : Hid (But O w (w2.setCell ⟨b, 2, none⟩ (.map (some m)))) := (But.of_below W2.out _).trans (g3.out.mono fun k _ e => by rw [e]; exact hOb.out)
  have N3 : Hid ((w2.setCell ⟨b, 2, none⟩ (.map (some m))).heap[w.heap.size]? = some (.cells #[.int .i64 n, .slice ak ks.length ck] 26 (0, 0))) := g3.out.at ((B2.out.block _ (by have := heap_lt hN0.out; rw [hm0.out] at this; exact this)).trans hN0.out) (fun e => by have := hOl.out b hOb.out; omega)
  have K3 : Hid (Kp Z (w2.setCell ⟨b, 2, none⟩ (.map (some m))) (.slice ak ks.length ck) ks) := ((hK0.out.below (by rw [hm0.out]; exact B2.out)).but g3.out (fun k hk e => (hZ k hk).1 (by rw [e]; exact hOb.out)))
  have y2 : (w2.setCell ⟨b, 2, none⟩ (.map (some m))).cell? ⟨b, 2, none⟩ = some (.map (some m)) := by simp [World.cell?, b3.out, ← hcs.out, dcells]
  clear b2 M2 B2 hK0 hN0 hB0 g3 W2
  generalize (w2.setCell ⟨b, 2, none⟩ (.map (some m))) = w3' at *
  go_wp2_with (go_at_call 35; refine (names_any m l w3' M3.out hlen).mono ?_; rintro e w3 ⟨v2, rfl, R2, _, B3⟩; have R3 := row_of_owns R2 (by simp); have hlow : Hid (∀ k, v2.ownBlock = some k → w3'.heap.size ≤ k) := (fun k hk => (World.ownsRow.lt R2 k hk).1); replace B3 := hide B3; obtain ⟨ao, ca, rfl, r2, r3, r4, r5⟩ := R3; rw [List.length_map] at *; replace r5 := hide r5; clear r2 R2)
  obtain ⟨N, hN2⟩ : ∃ N, Hid ((nms l).length = N) := ⟨_, rfl⟩
  rw [hN2.out] at r3 hlow ⊢
  have hN3 : Hid (N ≤ 1000000000) := by show _ ≤ _; rw [← hN2.out, nms_len]; exact hlen
  have i4 : (ca : Int) ≤ 9223372036854775807 := by unfold maxLen at r4; omega
  have i5 : (ck : Int) ≤ 9223372036854775807 := by unfold maxLen at q2; omega
  have I4 : Hid (CrI w3 w3 O b m cs l S.ps (crashL l ((nms l).take 0) ks S.F) VB0 VL0) := by
    have q := I3.out.below B3.out
    exact ⟨q.box, q.mp, q.fs, But.of_below (Below.refl _ _) _, fun p hp k hk => .inl (H.out.of p hp k hk), q.sz⟩
  have N4 : Hid (w3.heap[w.heap.size]? = some (.cells #[.int .i64 n, .slice ak ks.length ck] 26 (0, 0))) := (B3.out.block _ (heap_lt N3.out)).trans N3.out
  have K4 := hide (K3.out.below B3.out)
  have W4 : Hid (But O w w3) := W3.out.trans (But.of_below B3.out _)
  have zz : Hid (w.heap.size ≤ w3'.heap.size) := W3.out.size
  have hZ' : Hid (∀ k, Z k → ¬ O k) := fun k hk => (hZ k hk).1
  have hcs2 : Hid (cs[2]? = some (.map (some m))) := by show _ = _; rw [← hcs.out]; rfl
  have hcz : Hid (cs.size = 15) := by show _ = _; rw [← hcs.out]; rfl
  clear y2 I3 N3 K3 M3 hlen r4 hZ W3 q2
  go_loopw [23] (fun i wr => ∃ k : Nat, i = .int .i64 k ∧ k ≤ N ∧ ∃ (Fk : Nat → Fl) (VB VL : Nat → Value), Hid (crashL l ((nms l).take k) ks S.F = Fk) ∧ Hid (CrI w3 wr O b m cs l S.ps Fk VB VL)) (fun i _ => N - (intOf i).toNat)
  case atStart => exact ⟨0, rfl, Nat.zero_le _, _, _, _, rfl, I4.out⟩
  case round =>
    obtain ⟨k, rfl, hk, Fk, VB, VL, hFk, hI⟩ := hrel
    by_cases hlt : k < N
    · have i1 : (k : Int) < (N : Int) := by omega
      have hkl : k < (nms l).length := by rw [hN2.out]; exact hlt
      obtain ⟨p, hp⟩ := hmem.out k hkl
      obtain ⟨gb, off, rfl, hcl⟩ := r5.out k (by rw [List.length_map]; exact hkl)
      have hgb : ¬ O gb := fun c => by have q1 := hOl.out gb c; have q2 := hlow.out gb rfl; have q3 := zz.out; omega
      have hcell : wr.cell? ⟨gb, off + k, none⟩ = some (.string (bsOf (nms l)[k])) := by
        refine cell_but ?_ hI.out.but hgb
        rw [hcl, List.getElem_map]; rfl
      have hgp := hide hp
      have hps := hide (hfl.out p _ hp)
      have hsn : Hid ((nms l).take (k + 1) = (nms l).take k ++ [(nms l)[k]]) := List.take_succ_eq_append_getElem hkl
      have hlk : Hid (((nms l).take k).length = k) := by show _ = _; rw [List.length_take]; omega
      have hsz := hide (hI.out.mp.nlen (List.getElem_mem hkl))
      have Nr : Hid (wr.heap[w.heap.size]? = some (.cells #[.int .i64 n, .slice ak ks.length ck] 26 (0, 0))) := hI.out.but.at N4.out (fun c => Nat.lt_irrefl _ (hOl.out _ c))
      have Kr := hide (K4.out.but hI.out.but hZ'.out)
      clear hcl hp hgb
      generalize (nms l)[k] = s at *
      clear hkl
      have B5 := hide (box_below wr (.cells #[.int .i64 0, .slice none 0 0] 70))
      have N5 := hide (heap_alloc_new wr (.cells #[.int .i64 0, .slice none 0 0] 70))
      have x1 : (wr.alloc (.cells #[.int .i64 0, .slice none 0 0] 70)).cell? ⟨w.heap.size, 1, none⟩ = some (.slice ak ks.length ck) := by
        have : (wr.alloc (.cells #[.int .i64 0, .slice none 0 0] 70)).heap[w.heap.size]? = _ := (B5.out.block _ (heap_lt Nr.out)).trans Nr.out
        simp [World.cell?, this]
      by_cases hkk0 : k < ks.length
      · have i6 : (k : Int) < (ks.length : Int) := by omega
        obtain ⟨ao', cap', ek, ek1, ek2, ek3⟩ := Kr.out
        simp only [Value.slice.injEq] at ek
        obtain ⟨eka, _, ekc⟩ := ek
        subst eka
        subst ekc
        obtain ⟨kb', ko, vj, rfl, zb, kc1, kc2, ksl, ksi, kn0, kn1⟩ := ek3 k hkk0
        have kc1' := ((B5.out.cell (p := ⟨kb', ko + k * 2, none⟩) (lt_of_cell kc1)).trans kc1)
        have kc2' := ((B5.out.cell (p := ⟨kb', ko + k * 2 + 1, none⟩) (lt_of_cell kc2)).trans kc2)
        have hn0 := hide kn0
        have hn1 := hide kn1
        have hkk : Hid (ks.getD k (0, []) = ((ks[k]).1, (ks[k]).2)) := by show _ = _; rw [List.getD_eq_getElem?_getD, List.getElem?_eq_getElem hkk0]; rfl
        have hvj0 := hide ksl
        obtain ⟨aj, cj, rfl, _⟩ := ksl
        clear ek3 kc1 kc2 ek1 ek2 Kr zb ksi kn0 kn1
        generalize ks[k] = kk at *
        obtain ⟨NJ, J⟩ := kk
        dsimp only at *
        clear hkk0
        go_upto_region 9 with fail
        clear kc1' kc2' hcell B5 N5 x1
        have B6 := hide (box_below wr (.cells #[.int .i64 NJ, .slice aj J.length cj] 70))
        have N6 := hide (heap_alloc_new wr (.cells #[.int .i64 NJ, .slice aj J.length cj] 70))
        generalize wr.alloc (.cells #[.int .i64 NJ, .slice aj J.length cj] 70) = w6 at *
        have g3 : w6.drew.cell? ⟨wr.heap.size, 0, none⟩ = some (.int .i64 NJ) := by show w6.cell? _ = _; simp [World.cell?, N6.out]
        have g4 : w6.drew.cell? ⟨wr.heap.size, 1, none⟩ = some (.slice aj J.length cj) := by show w6.cell? _ = _; simp [World.cell?, N6.out]
        have I6 := hide (hI.out.below B6.out)
        have g2 : w6.drew.cell? ⟨b, 2, none⟩ = some (.map (some m)) := by show w6.cell? _ = _; simp [World.cell?, I6.out.box, hcs2.out]
        have gL : ∀ q, Mp q m l → (Instr.lookup 31 (.map (some m)) (.string (bsOf s)) false).run Try.prog q = .ok (.pointer (some ⟨p, 0, none⟩)) q := fun q hq => hq.look (s := bsOf s) hsz.out hgp.out
        have hvj := hide (Below.sl B6.out hvj0.out)
        generalize wr.heap.size = kb at *
        have KC : Hid (∀ q : World, q = w6.drew → q.cell? ⟨b, 2, none⟩ = some (.map (some m)) ∧ (Instr.lookup 31 (.map (some m)) (.string (bsOf s)) false).run Try.prog q = .ok (.pointer (some ⟨p, 0, none⟩)) q ∧ q.cell? ⟨kb, 0, none⟩ = some (.int .i64 NJ) ∧ q.cell? ⟨kb, 1, none⟩ = some (.slice aj J.length cj)) := fun q hq => by subst hq; exact ⟨g2, gL w6.drew I6.out.mp, g3, g4⟩
        have KP : Hid (w6.drew = w6.drew) := rfl
        refine wp_region_T (fun q => q = w6.drew) 7 (by kernel_rfl) ?_
        have I7 := hide (I6.out.below (Below.refl _ w6).drew)
        have hCr := crash_any w6.drew p (Fk p) (VB p) (VL p) (.slice aj J.length cj) NJ J (I7.out.fs.at_ p hps.out) (Below.sl (Below.refl _ w6).drew hvj.out) hn0.out hn1.out
        generalize w6.drew = w7 at *
        refine wpAnyT_take (i := 0) (oi := { dst := some 38, op := Op.move (Operand.tmp 0), type := 30, pos := "directory.go:98", after := #[], guard := none }) (v := .pointer (some ⟨b, 0, none⟩)) [1, 2, 3, 5, 7] rfl (by kernel_rfl) (by kernel_rfl) (by kernel_rfl) (by kernel_rfl) (fun _ _ _ h => h) (Or.inl ⟨by rfl, ?_⟩) KP.out ?_
        · intro wq hSw
          subst hSw
          obtain ⟨y2, y3, y4, y5⟩ := KC.out _ rfl
          go_simp
        (try simp only [Act.put, List.setIfInBounds_toArray, List.set_cons_zero, List.set_cons_succ])
        refine wpAnyT_take (i := 1) (oi := { dst := some 39, op := Op.nilCheck (Operand.tmp 38), type := 0, pos := "directory.go:98", after := #[{ on := 0, ground := Ground.data }], guard := none }) (v := .pointer (some ⟨b, 0, none⟩)) [2, 3, 5, 7] rfl (by kernel_rfl) (by kernel_rfl) (by kernel_rfl) (by kernel_rfl) (fun _ _ _ h => h) (Or.inl ⟨by rfl, ?_⟩) KP.out ?_
        · intro wq hSw
          subst hSw
          obtain ⟨y2, y3, y4, y5⟩ := KC.out _ rfl
          go_simp
        (try simp only [Act.put, List.setIfInBounds_toArray, List.set_cons_zero, List.set_cons_succ])
        refine wpAnyT_take (i := 2) (oi := { dst := some 40, op := Op.fieldAddr 37 (Operand.tmp 39) 2, type := 0, pos := "directory.go:98", after := #[{ on := 1, ground := Ground.data }], guard := none }) (v := .pointer (some ⟨b, 2, none⟩)) [3, 5, 7] rfl (by kernel_rfl) (by kernel_rfl) (by kernel_rfl) (by kernel_rfl) (fun _ _ _ h => h) (Or.inl ⟨by rfl, ?_⟩) KP.out ?_
        · intro wq hSw
          subst hSw
          obtain ⟨y2, y3, y4, y5⟩ := KC.out _ rfl
          go_simp
        (try simp only [Act.put, List.setIfInBounds_toArray, List.set_cons_zero, List.set_cons_succ])
        refine wpAnyT_take (i := 3) (oi := { dst := some 41, op := Op.load 31 (Operand.tmp 40), type := 31, pos := "directory.go:98", after := #[{ on := 2, ground := Ground.data }], guard := none }) (v := .map (some m)) [5, 7] rfl (by kernel_rfl) (by kernel_rfl) (by kernel_rfl) (by kernel_rfl) (fun _ _ _ h => h) (Or.inl ⟨by rfl, ?_⟩) KP.out ?_
        · intro wq hSw
          subst hSw
          obtain ⟨y2, y3, y4, y5⟩ := KC.out _ rfl
          go_simp
        (try simp only [Act.put, List.setIfInBounds_toArray, List.set_cons_zero, List.set_cons_succ])
        refine wpAnyT_take (i := 4) (oi := { dst := some 42, op := Op.move (Operand.tmp 5), type := 9, pos := "directory.go:98", after := #[], guard := none }) (v := .string (bsOf s)) [5, 7] rfl (by kernel_rfl) (by kernel_rfl) (by kernel_rfl) (by kernel_rfl) (fun _ _ _ h => h) (Or.inl ⟨by rfl, ?_⟩) KP.out ?_
        · intro wq hSw
          subst hSw
          obtain ⟨y2, y3, y4, y5⟩ := KC.out _ rfl
          go_simp
        (try simp only [Act.put, List.setIfInBounds_toArray, List.set_cons_zero, List.set_cons_succ])
        refine wpAnyT_take (i := 5) (oi := { dst := some 43, op := Op.lookup 31 (Operand.tmp 41) (Operand.tmp 42) false, type := 73, pos := "directory.go:98", after := #[{ on := 3, ground := Ground.data }, { on := 4, ground := Ground.data }], guard := none }) (v := .pointer (some ⟨p, 0, none⟩)) [7] rfl (by kernel_rfl) (by kernel_rfl) (by kernel_rfl) (by kernel_rfl) (fun _ _ _ h => h) (Or.inl ⟨by rfl, ?_⟩) KP.out ?_
        · intro wq hSw
          subst hSw
          obtain ⟨y2, y3, y4, y5⟩ := KC.out _ rfl
          go_simp
        (try simp only [Act.put, List.setIfInBounds_toArray, List.set_cons_zero, List.set_cons_succ])
        refine wpAnyT_take (i := 6) (oi := { dst := some 44, op := Op.load 70 (Operand.tmp 6), type := 70, pos := "directory.go:98", after := #[], guard := none }) (v := .agg #[.int .i64 NJ, .slice aj J.length cj]) [7] rfl (by kernel_rfl) (by kernel_rfl) (by kernel_rfl) (by kernel_rfl) (fun _ _ _ h => h) (Or.inl ⟨by rfl, ?_⟩) KP.out ?_
        · intro wq hSw
          subst hSw
          obtain ⟨y2, y3, y4, y5⟩ := KC.out _ rfl
          go_simp
        (try simp only [Act.put, List.setIfInBounds_toArray, List.set_cons_zero, List.set_cons_succ])
        refine wpAnyT_one (i := 7) (o := { dst := some 45, op := Op.call { callee := Callee.value (Operand.func 38), args := #[Operand.tmp 43, Operand.tmp 44], argTypes := #[73, 70] }, type := 0, pos := "directory.go:98", after := #[{ on := 5, ground := Ground.data }, { on := 6, ground := Ground.data }], guard := none }) (by kernel_rfl) rfl (fun K hK => ?_)
        go_simp
        go_at_call 38
        refine hCr.mono ?_
        rintro e w8 ⟨rfl, vb', vl', F8, B8, O8⟩
        have I8 : Hid (CrI w3 w8 O b m cs l S.ps (upd Fk p (crFl (Fk p) (NJ, J))) (upd VB p vb') (upd VL p vl')) := I7.out.step (k := (NJ, J)) hps.out F8 B8 O8
        (try go_simp)
        refine hK.out _ _ (vac (by kernel_rfl)) ?_
        clear hK K F8 B8 O8 hCr KC
        refine wpAnyT_done (by kernel_rfl) ?_ _
        (try simp only [Act.put, List.setIfInBounds_toArray, List.set_cons_zero, List.set_cons_succ])
        go_wp2_with fail
        go_roundw
        case rel =>
          refine ⟨k + 1, by go_num, by omega, _, _, _, ?_, I8.out⟩
          rw [hsn.out, crashL_snoc, hlk.out, hFk.out]
          unfold crash1
          rw [hgp.out, hkk.out]
          exact rfl
        case measure => simp [intOf]; omega
      · have i6 : ¬ (k : Int) < (ks.length : Int) := by omega
        have hn0 : Hid (-9223372036854775808 ≤ (0 : Int)) := by show _ ≤ _; decide
        have hn1 : Hid ((0 : Int) ≤ 9223372036854775807) := by show _ ≤ _; decide
        have hkk : Hid (ks.getD k (0, []) = ((0 : Int), ([] : List UInt8))) := by show _ = _; rw [List.getD_eq_getElem?_getD, List.getElem?_eq_none (by omega)]; rfl
        go_upto_region 9 with fail
        clear hcell x1
        generalize wr.alloc (.cells #[.int .i64 0, .slice none 0 0] 70) = w6 at *
        have g3 : w6.drew.cell? ⟨wr.heap.size, 0, none⟩ = some (.int .i64 0) := by show w6.cell? _ = _; simp [World.cell?, N5.out]
        have g4 : w6.drew.cell? ⟨wr.heap.size, 1, none⟩ = some (.slice none 0 0) := by show w6.cell? _ = _; simp [World.cell?, N5.out]
        have I6 := hide (hI.out.below B5.out)
        have g2 : w6.drew.cell? ⟨b, 2, none⟩ = some (.map (some m)) := by show w6.cell? _ = _; simp [World.cell?, I6.out.box, hcs2.out]
        have gL : ∀ q, Mp q m l → (Instr.lookup 31 (.map (some m)) (.string (bsOf s)) false).run Try.prog q = .ok (.pointer (some ⟨p, 0, none⟩)) q := fun q hq => hq.look (s := bsOf s) hsz.out hgp.out
        have hvj : Hid (Sl w6 (.slice none 0 0) []) := (Ob.nil 0 w6).sl
        generalize wr.heap.size = kb at *
        have KC : Hid (∀ q : World, q = w6.drew → q.cell? ⟨b, 2, none⟩ = some (.map (some m)) ∧ (Instr.lookup 31 (.map (some m)) (.string (bsOf s)) false).run Try.prog q = .ok (.pointer (some ⟨p, 0, none⟩)) q ∧ q.cell? ⟨kb, 0, none⟩ = some (.int .i64 (0 : Int)) ∧ q.cell? ⟨kb, 1, none⟩ = some (.slice none 0 0)) := fun q hq => by subst hq; exact ⟨g2, gL w6.drew I6.out.mp, g3, g4⟩
        have KP : Hid (w6.drew = w6.drew) := rfl
        refine wp_region_T (fun q => q = w6.drew) 7 (by kernel_rfl) ?_
        have I7 := hide (I6.out.below (Below.refl _ w6).drew)
        have hCr := crash_any w6.drew p (Fk p) (VB p) (VL p) (.slice none 0 0) (0 : Int) ([] : List UInt8) (I7.out.fs.at_ p hps.out) (Below.sl (Below.refl _ w6).drew hvj.out) hn0.out hn1.out
        generalize w6.drew = w7 at *
        refine wpAnyT_take (i := 0) (oi := { dst := some 38, op := Op.move (Operand.tmp 0), type := 30, pos := "directory.go:98", after := #[], guard := none }) (v := .pointer (some ⟨b, 0, none⟩)) [1, 2, 3, 5, 7] rfl (by kernel_rfl) (by kernel_rfl) (by kernel_rfl) (by kernel_rfl) (fun _ _ _ h => h) (Or.inl ⟨by rfl, ?_⟩) KP.out ?_
        · intro wq hSw
          subst hSw
          obtain ⟨y2, y3, y4, y5⟩ := KC.out _ rfl
          go_simp
        (try simp only [Act.put, List.setIfInBounds_toArray, List.set_cons_zero, List.set_cons_succ])
        refine wpAnyT_take (i := 1) (oi := { dst := some 39, op := Op.nilCheck (Operand.tmp 38), type := 0, pos := "directory.go:98", after := #[{ on := 0, ground := Ground.data }], guard := none }) (v := .pointer (some ⟨b, 0, none⟩)) [2, 3, 5, 7] rfl (by kernel_rfl) (by kernel_rfl) (by kernel_rfl) (by kernel_rfl) (fun _ _ _ h => h) (Or.inl ⟨by rfl, ?_⟩) KP.out ?_
        · intro wq hSw
          subst hSw
          obtain ⟨y2, y3, y4, y5⟩ := KC.out _ rfl
          go_simp
        (try simp only [Act.put, List.setIfInBounds_toArray, List.set_cons_zero, List.set_cons_succ])
        refine wpAnyT_take (i := 2) (oi := { dst := some 40, op := Op.fieldAddr 37 (Operand.tmp 39) 2, type := 0, pos := "directory.go:98", after := #[{ on := 1, ground := Ground.data }], guard := none }) (v := .pointer (some ⟨b, 2, none⟩)) [3, 5, 7] rfl (by kernel_rfl) (by kernel_rfl) (by kernel_rfl) (by kernel_rfl) (fun _ _ _ h => h) (Or.inl ⟨by rfl, ?_⟩) KP.out ?_
        · intro wq hSw
          subst hSw
          obtain ⟨y2, y3, y4, y5⟩ := KC.out _ rfl
          go_simp
        (try simp only [Act.put, List.setIfInBounds_toArray, List.set_cons_zero, List.set_cons_succ])
        refine wpAnyT_take (i := 3) (oi := { dst := some 41, op := Op.load 31 (Operand.tmp 40), type := 31, pos := "directory.go:98", after := #[{ on := 2, ground := Ground.data }], guard := none }) (v := .map (some m)) [5, 7] rfl (by kernel_rfl) (by kernel_rfl) (by kernel_rfl) (by kernel_rfl) (fun _ _ _ h => h) (Or.inl ⟨by rfl, ?_⟩) KP.out ?_
        · intro wq hSw
          subst hSw
          obtain ⟨y2, y3, y4, y5⟩ := KC.out _ rfl
          go_simp
        (try simp only [Act.put, List.setIfInBounds_toArray, List.set_cons_zero, List.set_cons_succ])
        refine wpAnyT_take (i := 4) (oi := { dst := some 42, op := Op.move (Operand.tmp 5), type := 9, pos := "directory.go:98", after := #[], guard := none }) (v := .string (bsOf s)) [5, 7] rfl (by kernel_rfl) (by kernel_rfl) (by kernel_rfl) (by kernel_rfl) (fun _ _ _ h => h) (Or.inl ⟨by rfl, ?_⟩) KP.out ?_
        · intro wq hSw
          subst hSw
          obtain ⟨y2, y3, y4, y5⟩ := KC.out _ rfl
          go_simp
        (try simp only [Act.put, List.setIfInBounds_toArray, List.set_cons_zero, List.set_cons_succ])
        refine wpAnyT_take (i := 5) (oi := { dst := some 43, op := Op.lookup 31 (Operand.tmp 41) (Operand.tmp 42) false, type := 73, pos := "directory.go:98", after := #[{ on := 3, ground := Ground.data }, { on := 4, ground := Ground.data }], guard := none }) (v := .pointer (some ⟨p, 0, none⟩)) [7] rfl (by kernel_rfl) (by kernel_rfl) (by kernel_rfl) (by kernel_rfl) (fun _ _ _ h => h) (Or.inl ⟨by rfl, ?_⟩) KP.out ?_
        · intro wq hSw
          subst hSw
          obtain ⟨y2, y3, y4, y5⟩ := KC.out _ rfl
          go_simp
        (try simp only [Act.put, List.setIfInBounds_toArray, List.set_cons_zero, List.set_cons_succ])
        refine wpAnyT_take (i := 6) (oi := { dst := some 44, op := Op.load 70 (Operand.tmp 6), type := 70, pos := "directory.go:98", after := #[], guard := none }) (v := .agg #[.int .i64 (0 : Int), .slice none 0 0]) [7] rfl (by kernel_rfl) (by kernel_rfl) (by kernel_rfl) (by kernel_rfl) (fun _ _ _ h => h) (Or.inl ⟨by rfl, ?_⟩) KP.out ?_
        · intro wq hSw
          subst hSw
          obtain ⟨y2, y3, y4, y5⟩ := KC.out _ rfl
          go_simp
        (try simp only [Act.put, List.setIfInBounds_toArray, List.set_cons_zero, List.set_cons_succ])
        refine wpAnyT_one (i := 7) (o := { dst := some 45, op := Op.call { callee := Callee.value (Operand.func 38), args := #[Operand.tmp 43, Operand.tmp 44], argTypes := #[73, 70] }, type := 0, pos := "directory.go:98", after := #[{ on := 5, ground := Ground.data }, { on := 6, ground := Ground.data }], guard := none }) (by kernel_rfl) rfl (fun K hK => ?_)
        go_simp
        go_at_call 38
        refine hCr.mono ?_
        rintro e w8 ⟨rfl, vb', vl', F8, B8, O8⟩
        have I8 : Hid (CrI w3 w8 O b m cs l S.ps (upd Fk p (crFl (Fk p) ((0 : Int), ([] : List UInt8)))) (upd VB p vb') (upd VL p vl')) := I7.out.step (k := ((0 : Int), ([] : List UInt8))) hps.out F8 B8 O8
        (try go_simp)
        refine hK.out _ _ (vac (by kernel_rfl)) ?_
        clear hK K F8 B8 O8 hCr KC
        refine wpAnyT_done (by kernel_rfl) ?_ _
        (try simp only [Act.put, List.setIfInBounds_toArray, List.set_cons_zero, List.set_cons_succ])
        go_wp2_with fail
        go_roundw
        case rel =>
          refine ⟨k + 1, by go_num, by omega, _, _, _, ?_, I8.out⟩
          rw [hsn.out, crashL_snoc, hlk.out, hFk.out]
          unfold crash1
          rw [hgp.out, hkk.out]
          exact rfl
        case measure => simp [intOf]; omega
    · obtain rfl : k = N := by omega
      rw [List.take_of_length_le (by rw [hN2.out]; omega)] at hFk
      have hS := settle_any wr b m cs l hI.out.box hcz.out hcs2.out hI.out.mp
      go_wp2_with (go_at_call 39; refine hS.mono ?_; rintro e w9 ⟨rfl, m', hm', M9, b9, B9⟩; replace M9 := hide M9; replace B9 := hide B9; replace b9 := hide b9; replace hm' := hide hm'; have t1 : w9.cell? ⟨b, 5, none⟩ = some (cs.getD 5 undef) := (by have := hcz.out; simp [World.cell?, b9.out, this]); have t2 : w9.frozen? ⟨b, 5, none⟩ = false := (by simp [World.frozen?, b9.out]); have b10 := hide (heap_setCell_same w9 b 5 _ _ (.map none) b9.out); have t3 : (w9.setCell ⟨b, 5, none⟩ (.map none)).cell? ⟨b, 1, none⟩ = some (cs.getD 1 undef) := (by have := hcz.out; simp [World.cell?, b10.out, this]); have t4 : (w9.setCell ⟨b, 5, none⟩ (.map none)).frozen? ⟨b, 1, none⟩ = false := (by simp [World.frozen?, b10.out]))
      go_end0
      have b11 := heap_setCell_same _ b 1 _ _ (.bool true) b10.out
      have gg := (But.of_grownBy (X := fun k => k = b) (grown_setCell w9 b 5 (.map none)) fun k e => by cases e; rfl).trans (But.of_grownBy (X := fun k => k = b) (grown_setCell (w9.setCell ⟨b, 5, none⟩ (.map none)) b 1 (.bool true)) fun k e => by cases e; rfl)
      have hne : m ≠ b := fun e => hI.out.mp.ne hI.out.box e.symm
      have hne' : m' ≠ b := fun e => by have q1 := heap_lt hI.out.box; have q2 := hm'.out; omega
      have Mm : Mp w9 m l := hI.out.mp.but B9.out hne
      refine ⟨rfl, hI.out.done (T := { S with up := true, l2 := l, P := [], al := [], F := crashL l (nms l) ks S.F }) H.out.dk H.out.ok hOl.out hOb.out (.inr W4.out) W4.out.size (by have := z1.out; rw [hm0.out] at this; exact this) (B9.out.trans gg) hm'.out ?_ (Mm.but gg hne) (M9.out.but gg hne') rfl rfl rfl rfl ⟨rfl, rfl, rfl, rfl, rfl, rfl, rfl, rfl, rfl⟩ hFk.out hl7.out hfs.out⟩
      unfold Bx
      rw [b11, ← hcs.out]
      rfl
#print axioms crashD_any
end Go.Proofs.Ytdelknejmapeaaa.Dk
