/-
  The document's disk: List, Tails.
-/
import Derived.Test.YtjehpijjneghpaaGreatM27
import Derived.Test.YtjehpijjneghpaaGreatM15
namespace Go.Proofs.YtjehpijjneghpaaGreat.Re
open Go.RowKit Go.Maps Go.Sort Go.Shelf Go.Proofs.YtjehpijjneghpaaGreat.Nm Go.Proofs.YtjehpijjneghpaaGreat.Dk
open Ix (wp_region_T wpAnyT wpAnyT_take wpAnyT_one wpAnyT_done vac)
set_option linter.unusedVariables false
def RB.list (R : RB) : List (List UInt8) × Int := if R.down then ([], 22) else (R.dir.map (·.1), 0)
theorem below_new {w q q' : World} {g : Nat} (hb : Below w.heap.size w q) (h : But (fun k => k = g) q q') (hg : w.heap.size ≤ g) : Below w.heap.size w q' :=
  ⟨h.os.trans hb.os, h.tape.trans hb.tape, h.output.trans hb.output, Nat.le_trans hb.size h.size, fun k hk => (h.block k (Nat.lt_of_lt_of_le hk hb.size) (by omega)).trans (hb.block k hk)⟩
theorem three_store {q : World} {g : Nat} {a b c : Value} {T : TypeId} (x y z : Value) (h : q.heap[g]? = some (.cells #[a, b, c] T (0, 0))) :
    (q.cell? ⟨g, 0, none⟩ = some a ∧ q.frozen? ⟨g, 0, none⟩ = false) ∧ ((q.setCell ⟨g, 0, none⟩ x).cell? ⟨g, 1, none⟩ = some b ∧ (q.setCell ⟨g, 0, none⟩ x).frozen? ⟨g, 1, none⟩ = false) ∧
    (((q.setCell ⟨g, 0, none⟩ x).setCell ⟨g, 1, none⟩ y).cell? ⟨g, 2, none⟩ = some c ∧ ((q.setCell ⟨g, 0, none⟩ x).setCell ⟨g, 1, none⟩ y).frozen? ⟨g, 2, none⟩ = false) ∧
    (((q.setCell ⟨g, 0, none⟩ x).setCell ⟨g, 1, none⟩ y).setCell ⟨g, 2, none⟩ z).heap[g]? = some (.cells #[x, y, z] T (0, 0)) ∧ But (fun k => k = g) q (((q.setCell ⟨g, 0, none⟩ x).setCell ⟨g, 1, none⟩ y).setCell ⟨g, 2, none⟩ z) := by
  have h1 := heap_setCell_same q g 0 _ _ x h
  have h2 := heap_setCell_same _ g 1 _ _ y h1
  have h3 := heap_setCell_same _ g 2 _ _ z h2
  have b1 := But.of_grownBy (X := fun k => k = g) (grown_setCell q g 0 x) fun k e => by cases e; rfl
  have b2 := But.of_grownBy (X := fun k => k = g) (grown_setCell (q.setCell ⟨g, 0, none⟩ x) g 1 y) fun k e => by cases e; rfl
  have b3 := But.of_grownBy (X := fun k => k = g) (grown_setCell ((q.setCell ⟨g, 0, none⟩ x).setCell ⟨g, 1, none⟩ y) g 2 z) fun k e => by cases e; rfl
  refine ⟨⟨by simp [World.cell?, h], by simp [World.frozen?, h]⟩, ⟨by simp [World.cell?, h1], by simp [World.frozen?, h1]⟩, ⟨by simp [World.cell?, h2], by simp [World.frozen?, h2]⟩, ?_, (b1.trans b2).trans b3⟩
  rw [h3]
  rfl
def RB.front (R : RB) (n : Int) : Dr := runR R.old (R.pe.take n.toNat)
theorem dir_rm {w : World} {b : Nat} {R : RB} {V : RV} (h : RM w b R V) (hl : ((R.old.length + R.pe.length : Nat) : Int) ≤ 1000000000) (hf : ∀ c ∈ R.pe, -9223372036854775808 ≤ c.fi ∧ c.fi ≤ 9223372036854775807) (n : Int) :
    Calls Tryz.prog 89 #[.pointer (some ⟨b, 0, none⟩), .int .i64 n] w fun e w' => ∃ v', e = .returned v' ∧ En w.heap.size w' v' (R.front n) ∧ Below w.heap.size w w' :=
  dir_ref w b V.vO V.vP R.old R.pe n ((h.cell 3).trans rfl) ((h.cell 4).trans rfl) h.oo.er h.pp.pr hl hf
theorem front_len (R : RB) (n : Int) : (R.front n).length ≤ R.old.length + R.pe.length := by
  have := runR_len R.old (R.pe.take n.toNat)
  rw [List.length_take] at this
  unfold RB.front
  omega
def RB.tlOf (R : RB) (p : Nat) : Nat := match R.F[p]? with | some f => f.1.length - f.2.1.length | none => 0
def RB.tails (R : RB) (n : Int) : Tls := (R.front n).map fun e => (e.1, R.tlOf e.2)
theorem owns_lowerT {w : World} {B C : Nat} {v : Value} {L : Tls} (h : Tl B w v L) (hb : C ≤ B) : Tl C w v L := ⟨h.1, h.2.imp id fun ⟨g, cap, cur, e, hg, r⟩ => ⟨g, cap, cur, e, Nat.le_trans hb hg, r⟩⟩
theorem rtails_def (R : RB) (n : Int) : R.tails n = (R.front n).map fun e => (e.1, R.tlOf e.2) := rfl
set_option maxRecDepth 100000 in
set_option maxHeartbeats 1000000 in
theorem tails_rm {w : World} {b : Nat} {R : RB} {V : RV} (h : RM w b R V) (hl : ((R.old.length + R.pe.length : Nat) : Int) ≤ 1000000000) (hf : ∀ c ∈ R.pe, -9223372036854775808 ≤ c.fi ∧ c.fi ≤ 9223372036854775807) (n : Int) (hgL : ∀ e ∈ R.front n, e.2 < R.F.length) (hla : ∀ f ∈ R.F, f.2.1.length ≤ f.1.length ∧ (f.1.length : Int) ≤ 100000000) :
    Calls Tryz.prog 63 #[.pointer (some ⟨b, 0, none⟩), .int .i64 n] w fun e w' => ∃ v, e = .returned v ∧ Tl w.heap.size w' v (R.tails n) ∧ Below w.heap.size w w' := by
  have hD := dir_rm h hl hf n
  have hLn := front_len R n
  rw [rtails_def R n]
  obtain ⟨L, hL⟩ : ∃ L, Hid (R.front n = L) := ⟨_, rfl⟩
  rw [hL.out] at hD hgL hLn ⊢
  have HM := hide h
  replace hgL := hide hgL
  replace hla := hide hla
  obtain ⟨i0, hi, hz0, hz1, hz2⟩ := info_parts infoTl
  replace hi := hide hi
  obtain ⟨N, hN⟩ : ∃ N, Hid (L.length = N) := ⟨_, rfl⟩
  have hN3 : Hid ((N : Int) ≤ 1000000000) := by show _ ≤ _; rw [← hN.out]; omega
  clear h hf hl hLn
  go_enter Tryz.func63, Tryz.ntmps63
  go_wp2_with (go_at_call 89; refine hD.mono ?_; rintro e w1 ⟨v1, rfl, E1, b1⟩; obtain ⟨da, dc, rfl, dl1, dl2, q3⟩ := E1.tr; replace b1 := hide b1)
  rw [hN.out] at dl1 ⊢
  have M1 := hide (HM.out.below b1.out)
  replace q3 := hide q3
  clear E1 hD
  go_loopw [5, 7] (fun v5 i wr => ∃ k : Nat, i = .int .i64 k ∧ k ≤ N ∧ Hid (Tl w1.heap.size wr v5 ((L.take k).map fun e => (e.1, R.tlOf e.2))) ∧ Hid (Below w1.heap.size w1 wr)) (fun _ i _ => N - (intOf i).toNat)
  case atStart => exact ⟨0, rfl, Nat.zero_le _, Tl.nil _ _, Below.refl _ _⟩
  case round =>
    obtain ⟨k, rfl, hk, hO, hB⟩ := hrel
    by_cases hlt : k < N
    · have i1 : (k : Int) < (N : Int) := by omega
      have hkl : k < L.length := by rw [hN.out]; exact hlt
      obtain ⟨gb, off, rfl, y0, y1⟩ := q3.out k hkl
      rw [← hB.out.cell (p := ⟨gb, off + k * 2, none⟩) (lt_of_cell y0)] at y0
      rw [← hB.out.cell (p := ⟨gb, off + k * 2 + 1, none⟩) (lt_of_cell y1)] at y1
      have hp := hgL.out L[k] (List.getElem_mem hkl)
      have MR := hide (M1.out.below hB.out)
      obtain ⟨g, cap, evf, fl1, fl2, hl, z0, z1, z2⟩ := MR.out.at hp
      have c1 : wr.cell? ⟨b, 1, none⟩ = some V.vF := (MR.out.cell 1).trans rfl
      rw [evf] at c1
      obtain ⟨ta, tc, et, tl1, tl2⟩ := (MR.out.nn _ hp).1.form
      obtain ⟨la, lc, eL, ll1, ll2⟩ := (MR.out.nn _ hp).2.form
      have hlap := hla.out _ (List.getElem_mem hp)
      have hto : R.tlOf L[k].2 = R.F[L[k].2].1.length - R.F[L[k].2].2.1.length := by unfold RB.tlOf; rw [List.getElem?_eq_getElem hp]
      have hsn : Hid ((L.take (k + 1)).map (fun e => (e.1, R.tlOf e.2)) = (L.take k).map (fun e => (e.1, R.tlOf e.2)) ++ [(L[k].1, R.F[L[k].2].1.length - R.F[L[k].2].2.1.length)]) := by show _ = _; rw [List.take_succ_eq_append_getElem hkl, List.map_append, ← hto]; rfl
      have hll : Hid (((L.take k).map (fun e => (e.1, R.tlOf e.2))).length = k) := by show _ = _; rw [List.length_map, List.length_take]; omega
      rw [et] at z0
      rw [eL] at z1
      have ip : (L[k].2 : Int) < (R.F.length : Int) := by omega
      have en : Hid (((R.F[L[k].2].1.length - R.F[L[k].2].2.1.length : Nat) : Int) = (R.F[L[k].2].1.length : Int) - (R.F[L[k].2].2.1.length : Int)) := by show _ = _; have := hlap.1; omega
      have hwr : IntKind.i64.wrap ((R.F[L[k].2].1.length : Int) - (R.F[L[k].2].2.1.length : Int)) = (R.F[L[k].2].1.length : Int) - (R.F[L[k].2].2.1.length : Int) := by rw [IntKind.wrap_i64]; omega
      generalize R.F[L[k].2].1.length = bl at *
      generalize R.F[L[k].2].2.1.length = ll at *
      generalize R.F[L[k].2].2.2 = sp at *
      clear et eL hto hlap
      generalize hpp : L[k].2 = p at *
      generalize hss : L[k].1 = s at *
      generalize (L.take k).map (fun e => (e.1, R.tlOf e.2)) = D at *
      have hes : Hid (encStr s = .string (bsOf s)) := rfl
      generalize bsOf s = t at *
      generalize hFl : R.F.length = fl at *
      clear hpp hss MR hp
      replace hsn := hide hsn
      have KC : Hid (∀ q : World, Below wr.heap.size wr q → q.cell? ⟨b, 1, none⟩ = some (.slice (some ⟨g, 0, none⟩) fl cap) ∧ q.cell? ⟨gb, off + k * 2 + 1, none⟩ = some (.int .i64 (p : Int)) ∧ q.cell? ⟨g, p * 3, none⟩ = some (.slice ta bl tc) ∧ q.cell? ⟨g, p * 3 + 1, none⟩ = some (.slice la ll lc) ∧ q.cell? ⟨g, p * 3 + 2, none⟩ = some (.int .i64 sp) ∧ q.cell? ⟨gb, off + k * 2, none⟩ = some (.string t)) := fun q hq => ⟨by rw [hq.cell (lt_of_cell c1)]; exact c1, by rw [hq.cell (lt_of_cell y1)]; exact y1, by rw [hq.cell (lt_of_cell z0)]; exact z0, by rw [hq.cell (lt_of_cell z1)]; exact z1, by rw [hq.cell (lt_of_cell z2)]; exact z2, by rw [hq.cell (lt_of_cell y0)]; exact y0⟩
      clear c1 y0 y1 z0 z1 z2
      go_upto_region 6 with fail
      have KP : Hid (Below wr.heap.size wr wr.drew) := (Below.refl _ _).drew
      refine wp_region_T (fun q => Below wr.heap.size wr q) 12 (by kernel_rfl) ?_
      generalize wr.drew = q at *
      refine Ix.tk 0 ⟨some 18, .move (.tmp 0), 26, "ref.go:403", #[], none⟩ (.pointer (some ⟨b, 0, none⟩)) [1,2,3,9,10,12] ?_ KP.out ?_
      · intro wq hSw
        obtain ⟨x1, x2, x3, x4, x5, x6⟩ := KC.out wq hSw
        go_simp
      (try simp only [zzp, zza, zzb, zzc])
      refine Ix.tk 1 ⟨some 19, .nilCheck (.tmp 18), 0, "ref.go:403", #[⟨0,.data⟩], none⟩ (.pointer (some ⟨b, 0, none⟩)) [2,3,9,10,12] ?_ KP.out ?_
      · intro wq hSw
        obtain ⟨x1, x2, x3, x4, x5, x6⟩ := KC.out wq hSw
        go_simp
      (try simp only [zzp, zza, zzb, zzc])
      refine Ix.tk 2 ⟨some 20, .fieldAddr 103 (.tmp 19) 1, 0, "ref.go:403", #[⟨1,.data⟩], none⟩ (.pointer (some ⟨b, 1, none⟩)) [3,9,10,12] ?_ KP.out ?_
      · intro wq hSw
        obtain ⟨x1, x2, x3, x4, x5, x6⟩ := KC.out wq hSw
        go_simp
      (try simp only [zzp, zza, zzb, zzc])
      refine Ix.tk 3 ⟨some 21, .load 99 (.tmp 20), 99, "ref.go:403", #[⟨2,.data⟩], none⟩ (.slice (some ⟨g, 0, none⟩) fl cap) [9,10,12] ?_ KP.out ?_
      · intro wq hSw
        obtain ⟨x1, x2, x3, x4, x5, x6⟩ := KC.out wq hSw
        go_simp
      (try simp only [zzp, zza, zzb, zzc])
      refine Ix.tk 4 ⟨some 22, .move (.tmp 6), 100, "ref.go:403", #[], none⟩ (.slice (some ⟨gb, off, none⟩) N dc) [6,7,8,9,10,12] ?_ KP.out ?_
      · intro wq hSw
        obtain ⟨x1, x2, x3, x4, x5, x6⟩ := KC.out wq hSw
        go_simp
      (try simp only [zzp, zza, zzb, zzc])
      refine Ix.tk 5 ⟨some 23, .move (.tmp 7), 3, "ref.go:403", #[], none⟩ (.int .i64 (k : Int)) [6,7,8,9,10,12] ?_ KP.out ?_
      · intro wq hSw
        obtain ⟨x1, x2, x3, x4, x5, x6⟩ := KC.out wq hSw
        go_simp
      (try simp only [zzp, zza, zzb, zzc])
      refine Ix.tk 6 ⟨some 24, .indexAddr 100 (.tmp 22) (.tmp 23), 0, "ref.go:403", #[⟨4,.data⟩,⟨5,.data⟩], none⟩ (.pointer (some ⟨gb, off + k * 2, none⟩)) [7,8,9,10,12] ?_ KP.out ?_
      · intro wq hSw
        obtain ⟨x1, x2, x3, x4, x5, x6⟩ := KC.out wq hSw
        go_simp
      (try simp only [zzp, zza, zzb, zzc])
      refine Ix.tk 7 ⟨some 25, .fieldAddr 142 (.tmp 24) 1, 0, "ref.go:403", #[⟨6,.data⟩], none⟩ (.pointer (some ⟨gb, off + k * 2 + 1, none⟩)) [8,9,10,12] ?_ KP.out ?_
      · intro wq hSw
        obtain ⟨x1, x2, x3, x4, x5, x6⟩ := KC.out wq hSw
        go_simp
      (try simp only [zzp, zza, zzb, zzc])
      refine Ix.tk 8 ⟨some 26, .load 3 (.tmp 25), 3, "ref.go:403", #[⟨7,.data⟩], none⟩ (.int .i64 (p : Int)) [9,10,12] ?_ KP.out ?_
      · intro wq hSw
        obtain ⟨x1, x2, x3, x4, x5, x6⟩ := KC.out wq hSw
        go_simp
      (try simp only [zzp, zza, zzb, zzc])
      refine Ix.tk 9 ⟨some 27, .indexAddr 99 (.tmp 21) (.tmp 26), 0, "ref.go:403", #[⟨3,.data⟩,⟨8,.data⟩], none⟩ (.pointer (some ⟨g, p * 3, none⟩)) [10,12] ?_ KP.out ?_
      · intro wq hSw
        obtain ⟨x1, x2, x3, x4, x5, x6⟩ := KC.out wq hSw
        go_simp
      (try simp only [zzp, zza, zzb, zzc])
      refine Ix.tk 10 ⟨some 28, .load 138 (.tmp 27), 138, "ref.go:403", #[⟨9,.data⟩], none⟩ (.agg #[.slice ta bl tc, .slice la ll lc, .int .i64 sp]) [12] ?_ KP.out ?_
      · intro wq hSw
        obtain ⟨x1, x2, x3, x4, x5, x6⟩ := KC.out wq hSw
        go_simp
      (try simp only [zzp, zza, zzb, zzc])
      refine wpAnyT_one (i := 11) (o := ⟨some 8, .alloc 138, 0, "ref.go:403", #[], none⟩) (by kernel_rfl) rfl (fun K hK => ?_)
      go_simp
      have B1 : Hid (Below wr.heap.size wr (q.alloc (.cells #[.slice none 0 0, .slice none 0 0, .int .i64 0] 138))) := KP.out.trans ((box_below q _).mono KP.out.size)
      refine hK.out _ _ (fun _ => B1.out) ?_
      clear hK K
      (try simp only [zzp, zza, zzb, zzc])
      have N1 := heap_alloc_new q (.cells #[.slice none 0 0, .slice none 0 0, .int .i64 0] 138)
      have qz : Hid (wr.heap.size ≤ q.heap.size) := KP.out.size
      generalize hnb : q.heap.size = nb at *
      generalize (q.alloc (.cells #[.slice none 0 0, .slice none 0 0, .int .i64 0] 138)) = w2 at *
      obtain ⟨⟨d1, d2⟩, ⟨d3, d4⟩, ⟨d5, d6⟩, N3, U3⟩ := three_store (.slice ta bl tc) (.slice la ll lc) (.int .i64 sp) N1
      have B3 : Hid (Below wr.heap.size wr (((w2.setCell ⟨nb, 0, none⟩ (.slice ta bl tc)).setCell ⟨nb, 1, none⟩ (.slice la ll lc)).setCell ⟨nb, 2, none⟩ (.int .i64 sp))) := below_new B1.out U3 qz.out
      replace N3 := hide N3
      refine wpAnyT_one (i := 12) (o := ⟨none, .store 138 (.tmp 8) (.tmp 28), 0, "ref.go:403", #[⟨11, .data⟩, ⟨10, .data⟩, ⟨0, .phase⟩, ⟨1, .phase⟩, ⟨2, .phase⟩, ⟨3, .phase⟩, ⟨4, .phase⟩, ⟨5, .phase⟩, ⟨6, .phase⟩, ⟨7, .phase⟩, ⟨8, .phase⟩, ⟨9, .phase⟩, ⟨10, .phase⟩, ⟨11, .phase⟩], none⟩) (by kernel_rfl) rfl (fun K hK => ?_)
      go_simp
      refine hK.out _ _ (vac (by kernel_rfl)) ?_
      clear hK K d1 d2 d3 d4 d5 d6 U3
      (try simp only [zzq])
      refine wpAnyT_done (by kernel_rfl) ?_ _
      generalize (((w2.setCell ⟨nb, 0, none⟩ (.slice ta bl tc)).setCell ⟨nb, 1, none⟩ (.slice la ll lc)).setCell ⟨nb, 2, none⟩ (.int .i64 sp)) = w3 at *
      go_upto_region 7 with fail
      have KD : Hid (∀ q : World, Below w3.heap.size w3 q → q.cell? ⟨gb, off + k * 2, none⟩ = some (.string t) ∧ q.cell? ⟨nb, 0, none⟩ = some (.slice ta bl tc) ∧ q.cell? ⟨nb, 1, none⟩ = some (.slice la ll lc)) := fun q hq => by
        have x := (KC.out w3 B3.out).2.2.2.2.2
        obtain ⟨v0, v1, _⟩ := cells3 N3.out
        exact ⟨by rw [hq.cell (lt_of_cell x)]; exact x, by rw [hq.cell (lt_of_cell v0)]; exact v0, by rw [hq.cell (lt_of_cell v1)]; exact v1⟩
      clear KC KP B1 N1 N3
      have KP : Hid (Below w3.heap.size w3 w3.drew) := (Below.refl _ _).drew
      refine wp_region_T (fun q => Below w3.heap.size w3 q) 15 (by kernel_rfl) ?_
      generalize w3.drew = q3w at *
      refine Ix.tk 0 ⟨some 29, .move (.tmp 5), 65, "ref.go:404", #[], none⟩ (u5) [15] ?_ KP.out ?_
      · intro wq hSw
        obtain ⟨x1, x2, x3⟩ := KD.out wq hSw
        go_simp
      (try simp only [zzp, zza, zzb, zzc])
      refine Ix.tk 1 ⟨some 30, .move (.tmp 6), 100, "ref.go:404", #[], none⟩ (.slice (some ⟨gb, off, none⟩) N dc) [3,4,5,13,14,15] ?_ KP.out ?_
      · intro wq hSw
        obtain ⟨x1, x2, x3⟩ := KD.out wq hSw
        go_simp
      (try simp only [zzp, zza, zzb, zzc])
      refine Ix.tk 2 ⟨some 31, .move (.tmp 7), 3, "ref.go:404", #[], none⟩ (.int .i64 (k : Int)) [3,4,5,13,14,15] ?_ KP.out ?_
      · intro wq hSw
        obtain ⟨x1, x2, x3⟩ := KD.out wq hSw
        go_simp
      (try simp only [zzp, zza, zzb, zzc])
      refine Ix.tk 3 ⟨some 32, .indexAddr 100 (.tmp 30) (.tmp 31), 0, "ref.go:404", #[⟨1,.data⟩,⟨2,.data⟩], none⟩ (.pointer (some ⟨gb, off + k * 2, none⟩)) [4,5,13,14,15] ?_ KP.out ?_
      · intro wq hSw
        obtain ⟨x1, x2, x3⟩ := KD.out wq hSw
        go_simp
      (try simp only [zzp, zza, zzb, zzc])
      refine Ix.tk 4 ⟨some 33, .fieldAddr 142 (.tmp 32) 0, 0, "ref.go:404", #[⟨3,.data⟩], none⟩ (.pointer (some ⟨gb, off + k * 2, none⟩)) [5,13,14,15] ?_ KP.out ?_
      · intro wq hSw
        obtain ⟨x1, x2, x3⟩ := KD.out wq hSw
        go_simp
      (try simp only [zzp, zza, zzb, zzc])
      refine Ix.tk 5 ⟨some 34, .load 9 (.tmp 33), 9, "ref.go:404", #[⟨4,.data⟩], none⟩ (.string t) [13,14,15] ?_ KP.out ?_
      · intro wq hSw
        obtain ⟨x1, x2, x3⟩ := KD.out wq hSw
        go_simp
      (try simp only [zzp, zza, zzb, zzc])
      refine Ix.tk 6 ⟨some 35, .fieldAddr 138 (.tmp 8) 0, 0, "ref.go:404", #[], none⟩ (.pointer (some ⟨nb, 0, none⟩)) [7,8,12,13,14,15] ?_ KP.out ?_
      · intro wq hSw
        obtain ⟨x1, x2, x3⟩ := KD.out wq hSw
        go_simp
      (try simp only [zzp, zza, zzb, zzc])
      refine Ix.tk 7 ⟨some 36, .load 30 (.tmp 35), 30, "ref.go:404", #[⟨6,.data⟩], none⟩ (.slice ta bl tc) [8,12,13,14,15] ?_ KP.out ?_
      · intro wq hSw
        obtain ⟨x1, x2, x3⟩ := KD.out wq hSw
        go_simp
      (try simp only [zzp, zza, zzb, zzc])
      refine Ix.tk 8 ⟨some 37, .call { callee := .builtin .len, args := #[.tmp 36], argTypes := #[30] }, 3, "ref.go:404", #[⟨7,.data⟩], none⟩ (.int .i64 (bl : Int)) [12,13,14,15] ?_ KP.out ?_
      · intro wq hSw
        obtain ⟨x1, x2, x3⟩ := KD.out wq hSw
        go_simp
      (try simp only [zzp, zza, zzb, zzc])
      refine Ix.tk 9 ⟨some 38, .fieldAddr 138 (.tmp 8) 1, 0, "ref.go:404", #[], none⟩ (.pointer (some ⟨nb, 1, none⟩)) [10,11,12,13,14,15] ?_ KP.out ?_
      · intro wq hSw
        obtain ⟨x1, x2, x3⟩ := KD.out wq hSw
        go_simp
      (try simp only [zzp, zza, zzb, zzc])
      refine Ix.tk 10 ⟨some 39, .load 30 (.tmp 38), 30, "ref.go:404", #[⟨9,.data⟩], none⟩ (.slice la ll lc) [11,12,13,14,15] ?_ KP.out ?_
      · intro wq hSw
        obtain ⟨x1, x2, x3⟩ := KD.out wq hSw
        go_simp
      (try simp only [zzp, zza, zzb, zzc])
      refine Ix.tk 11 ⟨some 40, .call { callee := .builtin .len, args := #[.tmp 39], argTypes := #[30] }, 3, "ref.go:404", #[⟨10,.data⟩], none⟩ (.int .i64 (ll : Int)) [12,13,14,15] ?_ KP.out ?_
      · intro wq hSw
        obtain ⟨x1, x2, x3⟩ := KD.out wq hSw
        go_simp
      (try simp only [zzp, zza, zzb, zzc])
      refine Ix.tk 12 ⟨some 41, .binOp .sub 3 (.tmp 37) (.tmp 40) 3, 3, "ref.go:404", #[⟨8,.data⟩,⟨11,.data⟩], none⟩ (.int .i64 ((bl : Int) - (ll : Int))) [13,14,15] ?_ KP.out ?_
      · intro wq hSw
        obtain ⟨x1, x2, x3⟩ := KD.out wq hSw
        go_simp
      (try simp only [zzp, zza, zzb, zzc])
      refine Ix.tk 13 ⟨some 42, .build 68 #[(0, .tmp 34), (1, .tmp 41)], 68, "ref.go:404", #[⟨5,.data⟩,⟨12,.data⟩], none⟩ (.agg #[.string t, .int .i64 ((bl : Int) - (ll : Int))]) [14,15] ?_ KP.out ?_
      · intro wq hSw
        obtain ⟨x1, x2, x3⟩ := KD.out wq hSw
        go_simp
      (try simp only [zzp, zza, zzb, zzc])
      have B4 : Hid (Below w3.heap.size w3 (q3w.alloc (.cells #[.string t, .int .i64 ((bl : Int) - (ll : Int))] 68))) := KP.out.trans ((box_below q3w _).mono KP.out.size)
      have N4 := hide (heap_alloc_new q3w (.cells #[.string t, .int .i64 ((bl : Int) - (ll : Int))] 68))
      refine wpAnyT_one (i := 14) (o := ⟨some 43, .buildSlice 65 1 #[(0, .tmp 42)], 65, "ref.go:404", #[⟨13, .data⟩], none⟩) (by kernel_rfl) rfl (fun K hK => ?_)
      go_simp
      refine hK.out _ _ (fun _ => B4.out) ?_
      clear hK K
      (try simp only [zzp, zza, zzb, zzc])
      have W4 : Hid (Below w1.heap.size w1 (q3w.alloc (.cells #[.string t, .int .i64 ((bl : Int) - (ll : Int))] 68))) := hB.out.trans ((B3.out.trans (B4.out.mono B3.out.size)).mono hB.out.size)
      have O4 : Hid (Tl w1.heap.size (q3w.alloc (.cells #[.string t, .int .i64 ((bl : Int) - (ll : Int))] 68)) u5 D) := owns_belowN hO.out (B3.out.trans (B4.out.mono B3.out.size))
      have hz4 := hide W4.out.size
      generalize hne : q3w.heap.size = ne at *
      generalize (q3w.alloc (.cells #[.string t, .int .i64 ((bl : Int) - (ll : Int))] 68)) = w4 at *
      refine wpAnyT_one (i := 15) (o := ⟨some 44, .call { callee := .builtin .append, args := #[.tmp 29, .tmp 43], argTypes := #[65, 65] }, 65, "ref.go:404", #[⟨0, .data⟩, ⟨14, .data⟩], none⟩) (by kernel_rfl) rfl (fun K hK => ?_)
      refine step_append_lies _ rfl (.tmp 29) (.tmp 43) 65 rfl w1.heap.size 68 i0 (.agg #[.string ⟨#[]⟩, .int .i64 0]) 2 24 Tryz.underlying65 hi.out hz0 hz1 hz2 rfl (by decide) u5 D.length (tcells D) (by simp [Act.eval]) O4.out ⟨ne, 0, none⟩ 1 1 [.string t, .int .i64 ((bl : Int) - (ll : Int))] (by simp [Act.eval]) rfl (two_new N4.out) (by simp [Value.oneCell']) (by decide) (by have := hll.out; have := hN3.out; unfold maxLen; omega) (by have := hll.out; have := hN3.out; omega) hz4.out w4.heap.size rfl ?_
      intro g2 cap2 w5 ho5 hg5 hat hlt5
      have W5 : Hid (Below w1.heap.size w1 w5) := Below.grown W4.out hg5 hz4.out (fun j hj => (World.ownsRow.lt O4.out j hj).1)
      replace ho5 := hide ho5
      refine hK.out _ _ (vac (by kernel_rfl)) ?_
      clear hK K
      (try simp only [zzp, zza, zzb, zzc])
      refine wpAnyT_one (i := 16) (o := ⟨some 5, .assign (.tmp 44), 65, "ref.go:404", #[⟨15, .data⟩, ⟨15, .chain⟩, ⟨0, .phase⟩, ⟨1, .phase⟩, ⟨2, .phase⟩, ⟨3, .phase⟩, ⟨4, .phase⟩, ⟨5, .phase⟩, ⟨6, .phase⟩, ⟨7, .phase⟩, ⟨8, .phase⟩, ⟨9, .phase⟩, ⟨10, .phase⟩, ⟨11, .phase⟩, ⟨12, .phase⟩, ⟨13, .phase⟩, ⟨14, .phase⟩, ⟨15, .phase⟩], none⟩) (by kernel_rfl) rfl (fun K hK => ?_)
      go_simp
      refine hK.out _ _ (vac (by kernel_rfl)) ?_
      clear hK K
      (try simp only [zzp, zza, zzb, zzc])
      refine wpAnyT_done (by kernel_rfl) ?_ _
      go_wp2_with fail
      go_roundw
      case rel =>
        refine ⟨k + 1, by go_num, by omega, ?_, W5⟩
        show Tl _ _ _ _
        unfold Tl
        rw [hsn.out.out, List.length_append, tcells_snoc, hes.out, en.out]
        exact ho5.out
      case measure => simp [intOf]; omega
    · have i1 : ¬ ((k : Int) < (N : Int)) := by omega
      obtain rfl : k = N := by omega
      rw [List.take_of_length_le (by rw [hN.out]; omega)] at hO
      go_wp2_with fail
      go_ret
      exact ⟨_, rfl, owns_lowerT hO.out b1.out.size, b1.out.trans (hB.out.mono b1.out.size)⟩
end Go.Proofs.YtjehpijjneghpaaGreat.Re
