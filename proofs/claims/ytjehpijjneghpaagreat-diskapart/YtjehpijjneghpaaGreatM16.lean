/-
  Cut.
-/
import Derived.Test.YtjehpijjneghpaaGreatM15
namespace Go.Proofs.YtjehpijjneghpaaGreat.Dk
open Go.RowKit Go.Maps Go.Sort Go.Shelf Go.Proofs.YtjehpijjneghpaaGreat.Nm
def DS.cut (S : DS) (s : ByteArray) (n : Int) : DS × Int :=
  match S.find s with
  | (none, e) => (S, e)
  | (some p, _) =>
    if n < 0 ∨ ((S.F p).by_.length : Int) < n then (S, 8)
    else if strR S.flt.2.1 ≠ 0 then ((S.beg 3).str S.flt.2.1, strR S.flt.2.1)
    else ({ S.beg 3 with F := upd S.F p (cuF (S.F p) n.toNat) }, 0)
theorem strR_zero {k : Int} (h : strR k = 0) : k ≠ 3 := fun e => by subst e; revert h; decide
set_option maxRecDepth 100000 in
set_option maxHeartbeats 1000000 in
theorem cutD_any {w : World} {b : Nat} {S : DS} {O : Nat → Prop} {f g : Nat} {pd : Value} {am : Option Nat} {VB VL : Nat → Value} (h : Dsk w b S O f g pd am VB VL) (s : ByteArray) (hs : s.size ≤ maxLen) (n : Int) (n0 : -9223372036854775808 ≤ n) (n1 : n ≤ 9223372036854775807) (hc : S.c7 < 900000000) :
    Calls Tryz.prog 49 #[.pointer (some ⟨b, 0, none⟩), .string s, .int .i64 n] w (Does w b O (S.cut s n)) := by
  have hF := dsk_find h s hs
  by_cases h0 : (S.find s).2 = 0
  · obtain ⟨p, e, hg, hr, hp⟩ := find_ok h0
    rw [e] at hF
    simp only [Option.map_some] at hF
    have hR : Hid (S.cut s n = if n < 0 ∨ ((S.F p).by_.length : Int) < n then (S, 8) else if strR S.flt.2.1 ≠ 0 then ((S.beg 3).str S.flt.2.1, strR S.flt.2.1) else ({ S.beg 3 with F := upd S.F p (cuF (S.F p) n.toNat) }, 0)) := by show _ = _; unfold DS.cut; rw [e]
    have hsz := hide (h.ok.sz p hp)
    have H := hide h
    have hlen : Hid (∀ u, Dsk u b S O f g pd am VB VL → ∃ ao ca, u.cell? ⟨p, 0, none⟩ = some (.slice ao (S.F p).by_.length ca)) := fun u hu => by
      have hf := hu.fs.at_ p hp
      obtain ⟨ao, ca, e, _, _⟩ := hf.b.form
      have := (cells3 hf.box).1
      rw [e] at this
      exact ⟨ao, ca, this⟩
    by_cases q1 : n < 0
    · have hR2 : Hid (S.cut s n = (S, 8)) := by show _ = _; rw [hR.out, if_pos (.inl q1)]
      rw [hR2.out]
      clear h e hr h0 hg hR hR2
      go_enter Tryz.func49, Tryz.ntmps49
      go_wp2_with (go_at_call 75; refine hF.mono ?_; rintro e w1 ⟨rfl, B1⟩; replace B1 := hide B1)
      go_ret
      exact ⟨rfl, O, (H.out.below B1.out).e, Sgo.of_below B1.out⟩
    · have q1' : 0 ≤ n := by omega
      by_cases q2 : ((S.F p).by_.length : Int) < n
      · have hR2 : Hid (S.cut s n = (S, 8)) := by show _ = _; rw [hR.out, if_pos (.inr q2)]
        rw [hR2.out]
        clear h e hr h0 hg hR hR2
        go_enter Tryz.func49, Tryz.ntmps49
        go_wp2_with (go_at_call 75; refine hF.mono ?_; rintro e w1 ⟨rfl, B1⟩; replace B1 := hide B1; obtain ⟨ao, ca, x0⟩ := hlen.out _ (H.out.below B1.out))
        go_ret
        exact ⟨rfl, O, (H.out.below B1.out).e, Sgo.of_below B1.out⟩
      · have q2' : n ≤ ((S.F p).by_.length : Int) := by omega
        obtain ⟨k, rfl⟩ : ∃ k : Nat, n = k := ⟨n.toNat, by omega⟩
        have hb : Hid (∀ u, Dsk u b S O f g pd am VB VL → _) := fun u hu => dsk_begin hu 3 (by omega) (by omega)
        have hft := h.ok.flt
        obtain ⟨t, ht⟩ : ∃ t, Hid (S.flt = t) := ⟨_, rfl⟩
        rw [ht.out] at hb hft hR
        have hst : Hid (∀ u, Dsk u b (S.beg 3) O f g pd am VB VL → _) := fun u hu => dsk_strikeR hu t (by omega)
        unfold fv at hb hst
        obtain ⟨ta, tk, tp⟩ := t
        dsimp only at hb hft hR hst
        have hcu : Hid (∀ u, Dsk u b (S.beg 3) O f g pd am VB VL → Calls Tryz.prog 101 #[.pointer (some ⟨p, 0, none⟩), .int .i64 (k : Int)] u fun e w' => e = .returned (.tuple #[]) ∧ ∃ O', DskE w' b { S.beg 3 with F := upd S.F p (cuF (S.F p) k) } O' ∧ Sgo u w' O O') := fun u hu => by
          refine (cut_any u p k (S.F p) (VB p) (VL p) (hu.fs.at_ p hp) (by omega)).mono ?_
          rintro e w' ⟨rfl, vb', vl', hf, hB, ob, ol⟩
          obtain ⟨O', k1, k2⟩ := hu.one (t := cuF (S.F p) k) hp hf (hB.mono fun k _ e => .inl e) (fun j hj => .inl (by unfold FOwn at hj ⊢; rw [ob, ol] at hj; exact hj)) (by have := hsz.out; show (List.take _ _).length ≤ _; rw [List.length_take]; omega)
          exact ⟨rfl, O', k1.e, k2⟩
        obtain ⟨r, hr0⟩ : ∃ r, strR tk = r := ⟨_, rfl⟩
        by_cases k1 : r = 0
        · have hR2 : Hid (S.cut s k = ({ S.beg 3 with F := upd S.F p (cuF (S.F p) k) }, 0)) := by show _ = _; rw [hR.out, if_neg (by omega), if_neg (by rw [hr0]; simpa using k1)]; rfl
          rw [hR2.out]
          have e2 : (S.beg 3).str tk = S.beg 3 := by unfold DS.str; rw [if_neg (strR_zero (by rw [hr0]; exact k1))]
          rw [hr0, k1, e2] at hst
          clear h e hr h0 hg hR hR2 hft hr0 k1 e2
          go_enter Tryz.func49, Tryz.ntmps49
          go_wp2_with (first
            | (go_at_call 75; refine hF.mono ?_; rintro e w1 ⟨rfl, B1⟩; replace B1 := hide B1; have D1 := hide (H.out.below B1.out); obtain ⟨ao, ca, x0⟩ := hlen.out _ D1.out)
            | (go_at_call 70; refine (hb.out _ D1.out).mono ?_; rintro e w2 ⟨rfl, D2, G2⟩; replace D2 := hide D2; replace G2 := hide G2)
            | (go_at_call 73; refine (hst.out _ D2.out).mono ?_; rintro e w3 ⟨rfl, D3, G3⟩; replace D3 := hide D3; replace G3 := hide G3)
            | (go_at_call 101; refine (hcu.out _ D3.out).mono ?_; rintro e w4 ⟨rfl, O4, D4, G4⟩; replace D4 := hide D4; replace G4 := hide G4))
          go_ret
          exact ⟨rfl, O4, D4.out, (Sgo.of_below (O := O) B1.out).trans (G2.out.trans (G3.out.trans G4.out))⟩
        · have hR2 : Hid (S.cut s k = ((S.beg 3).str tk, r)) := by show _ = _; rw [hR.out, if_neg (by omega), if_pos (by rw [hr0]; exact k1), hr0]
          rw [hR2.out]
          rw [hr0] at hst
          have h0' : (r != 0) = true := by simpa using k1
          clear h e hr h0 hg hR hR2 hft hr0 k1 hcu
          go_enter Tryz.func49, Tryz.ntmps49
          go_wp2_with (first
            | (go_at_call 75; refine hF.mono ?_; rintro e w1 ⟨rfl, B1⟩; replace B1 := hide B1; have D1 := hide (H.out.below B1.out); obtain ⟨ao, ca, x0⟩ := hlen.out _ D1.out)
            | (go_at_call 70; refine (hb.out _ D1.out).mono ?_; rintro e w2 ⟨rfl, D2, G2⟩; replace D2 := hide D2; replace G2 := hide G2)
            | (go_at_call 73; refine (hst.out _ D2.out).mono ?_; rintro e w3 ⟨rfl, D3, G3⟩; replace D3 := hide D3; replace G3 := hide G3))
          go_ret
          exact ⟨rfl, O, D3.out.e, (Sgo.of_below (O := O) B1.out).trans (G2.out.trans G3.out)⟩
  · have hR : Hid (S.cut s n = (S, (S.find s).2)) := by
      show _ = _
      have q := find_no h0
      unfold DS.cut
      cases hq : S.find s with
      | mk a c => rw [hq] at q; dsimp only at q; subst q; rfl
    rw [hR.out]
    have q := find_no h0
    rw [q] at hF
    simp only [Option.map_none] at hF
    generalize (S.find s).2 = r at *
    have h0' : (r != 0) = true := by simpa using h0
    have H := hide h
    clear h h0 q hR
    go_enter Tryz.func49, Tryz.ntmps49
    go_wp2_with (go_at_call 75; refine hF.mono ?_; rintro e w1 ⟨rfl, B1⟩; replace B1 := hide B1)
    go_ret
    exact ⟨rfl, O, (H.out.below B1.out).e, Sgo.of_below B1.out⟩
end Go.Proofs.YtjehpijjneghpaaGreat.Dk
namespace Go.Proofs.YtjehpijjneghpaaGreat.Dk
open Go.RowKit Go.Maps Go.Sort Go.Shelf Go.Proofs.YtjehpijjneghpaaGreat.Nm
open Ix (wp_region_T wpAnyT wpAnyT_take wpAnyT_one wpAnyT_done vac)
structure FNew (B : Nat) (w : World) (p : Nat) (f : Fl) (vb vl : Value) : Prop where
  at_ : FlAt w p f vb vl
  lo : ∀ k, FOwn p vb vl k → B ≤ k
set_option maxRecDepth 100000 in
theorem copyF_any (w : World) (p : Nat) (f : Fl) (vb vl : Value) (h : FlAt w p f vb vl) :
    Calls Tryz.prog 94 #[.pointer (some ⟨p, 0, none⟩)] w fun e w' => ∃ p' vb' vl', e = .returned (.pointer (some ⟨p', 0, none⟩)) ∧ FNew w.heap.size w' p' f vb' vl' ∧ Below w.heap.size w w' := by
  obtain ⟨ab, cb, rfl, z1, z2⟩ := h.b.form
  obtain ⟨al, cl, rfl, z3, z4⟩ := h.l.form
  have H := hide h
  have hz := hide h.sz
  have hz2 := hide h.le
  have KC : Hid (∀ q : World, Below w.heap.size w q → q.cell? ⟨p, 0, none⟩ = some (.slice ab f.by_.length cb) ∧ q.cell? ⟨p, 1, none⟩ = some (.slice al f.la.length cl) ∧ q.cell? ⟨p, 2, none⟩ = some (.int .i64 (f.sp : Int))) := fun q hq => cells3 (H.out.below hq).box
  have hC1 : Hid (∀ q, Below w.heap.size w q → _) := fun q hq => clone_bytes q _ _ (H.out.below hq).b.sl (by have := hz.out; omega)
  have hC2 : Hid (∀ q, Below w.heap.size w q → _) := fun q hq => clone_bytes q _ _ (H.out.below hq).l.sl (by have := hz.out; have := hz2.out; omega)
  clear h z1 z2 z3 z4
  go_enter Tryz.func94, Tryz.ntmps94
  go_upto_region 1 with fail
  have KP : Hid (Below w.heap.size w w.drew) := (Below.refl _ _).drew
  refine wp_region_T (fun q => Below w.heap.size w q) 16 (by kernel_rfl) ?_
  generalize w.drew = q at *
  refine Ix.tk 0 ⟨some 3, .move (.tmp 0), 114, "file.go:17", #[], none⟩ (.pointer (some ⟨p, 0, none⟩)) [1,2,3,4,14,15,16] ?_ KP.out ?_
  · intro wq hSw
    obtain ⟨y1, y2, y3⟩ := KC.out wq hSw
    go_simp
  (try simp only [zzp, zza, zzb, zzc])
  refine Ix.tk 1 ⟨some 4, .nilCheck (.tmp 3), 0, "file.go:17", #[⟨0,.data⟩], none⟩ (.pointer (some ⟨p, 0, none⟩)) [2,3,4,14,15,16] ?_ KP.out ?_
  · intro wq hSw
    obtain ⟨y1, y2, y3⟩ := KC.out wq hSw
    go_simp
  (try simp only [zzp, zza, zzb, zzc])
  refine Ix.tk 2 ⟨some 5, .fieldAddr 124 (.tmp 4) 0, 0, "file.go:17", #[⟨1,.data⟩], none⟩ (.pointer (some ⟨p, 0, none⟩)) [3,4,14,15,16] ?_ KP.out ?_
  · intro wq hSw
    obtain ⟨y1, y2, y3⟩ := KC.out wq hSw
    go_simp
  (try simp only [zzp, zza, zzb, zzc])
  refine Ix.tk 3 ⟨some 6, .load 30 (.tmp 5), 30, "file.go:17", #[⟨2,.data⟩], none⟩ (.slice ab f.by_.length cb) [4,14,15,16] ?_ KP.out ?_
  · intro wq hSw
    obtain ⟨y1, y2, y3⟩ := KC.out wq hSw
    go_simp
  (try simp only [zzp, zza, zzb, zzc])
  refine Ix.tk 5 ⟨some 8, .move (.tmp 0), 114, "file.go:17", #[], none⟩ (.pointer (some ⟨p, 0, none⟩)) [6,7,8,9,14,15,16] ?_ KP.out ?_
  · intro wq hSw
    obtain ⟨y1, y2, y3⟩ := KC.out wq hSw
    go_simp
  (try simp only [zzp, zza, zzb, zzc])
  refine Ix.tk 6 ⟨some 9, .nilCheck (.tmp 8), 0, "file.go:17", #[⟨5,.data⟩], none⟩ (.pointer (some ⟨p, 0, none⟩)) [7,8,9,14,15,16] ?_ KP.out ?_
  · intro wq hSw
    obtain ⟨y1, y2, y3⟩ := KC.out wq hSw
    go_simp
  (try simp only [zzp, zza, zzb, zzc])
  refine Ix.tk 7 ⟨some 10, .fieldAddr 124 (.tmp 9) 1, 0, "file.go:17", #[⟨6,.data⟩], none⟩ (.pointer (some ⟨p, 1, none⟩)) [8,9,14,15,16] ?_ KP.out ?_
  · intro wq hSw
    obtain ⟨y1, y2, y3⟩ := KC.out wq hSw
    go_simp
  (try simp only [zzp, zza, zzb, zzc])
  refine Ix.tk 8 ⟨some 11, .load 30 (.tmp 10), 30, "file.go:17", #[⟨7,.data⟩], none⟩ (.slice al f.la.length cl) [9,14,15,16] ?_ KP.out ?_
  · intro wq hSw
    obtain ⟨y1, y2, y3⟩ := KC.out wq hSw
    go_simp
  (try simp only [zzp, zza, zzb, zzc])
  refine Ix.tk 10 ⟨some 13, .move (.tmp 0), 114, "file.go:17", #[], none⟩ (.pointer (some ⟨p, 0, none⟩)) [11,12,13,14,15,16] ?_ KP.out ?_
  · intro wq hSw
    obtain ⟨y1, y2, y3⟩ := KC.out wq hSw
    go_simp
  (try simp only [zzp, zza, zzb, zzc])
  refine Ix.tk 11 ⟨some 14, .nilCheck (.tmp 13), 0, "file.go:17", #[⟨10,.data⟩], none⟩ (.pointer (some ⟨p, 0, none⟩)) [12,13,14,15,16] ?_ KP.out ?_
  · intro wq hSw
    obtain ⟨y1, y2, y3⟩ := KC.out wq hSw
    go_simp
  (try simp only [zzp, zza, zzb, zzc])
  refine Ix.tk 12 ⟨some 15, .fieldAddr 124 (.tmp 14) 2, 0, "file.go:17", #[⟨11,.data⟩], none⟩ (.pointer (some ⟨p, 2, none⟩)) [13,14,15,16] ?_ KP.out ?_
  · intro wq hSw
    obtain ⟨y1, y2, y3⟩ := KC.out wq hSw
    go_simp
  (try simp only [zzp, zza, zzb, zzc])
  refine Ix.tk 13 ⟨some 16, .load 3 (.tmp 15), 3, "file.go:17", #[⟨12,.data⟩], none⟩ (.int .i64 (f.sp : Int)) [14,15,16] ?_ KP.out ?_
  · intro wq hSw
    obtain ⟨y1, y2, y3⟩ := KC.out wq hSw
    go_simp
  (try simp only [zzp, zza, zzb, zzc])
  refine wpAnyT_one (i := 4) (o := ⟨some 7, .call { callee := .value (.func 83), args := #[.tmp 6], argTypes := #[30] }, 30, "file.go:17", #[⟨3, .data⟩], none⟩) (by kernel_rfl) rfl (fun K hK => ?_)
  go_simp
  go_at_call 83
  refine (hC1.out q KP.out).mono ?_
  rintro e w1 ⟨v1, rfl, O1, B1⟩
  obtain ⟨a1, c1, rfl, _, _⟩ := O1.form
  replace O1 := hide O1
  have U1 := hide B1
  replace B1 : Hid (Below w.heap.size w w1) := KP.out.trans (B1.mono KP.out.size)
  (try go_simp)
  refine hK.out _ _ (fun _ => B1.out) ?_
  clear hK K
  (try simp only [zzp, zza, zzb, zzc])
  refine wpAnyT_one (i := 9) (o := ⟨some 12, .call { callee := .value (.func 83), args := #[.tmp 11], argTypes := #[30] }, 30, "file.go:17", #[⟨8, .data⟩, ⟨4, .chain⟩], none⟩) (by kernel_rfl) rfl (fun K hK => ?_)
  go_simp
  go_at_call 83
  refine (hC2.out w1 B1.out).mono ?_
  rintro e w2 ⟨v2, rfl, O2, B2⟩
  obtain ⟨a2, c2, rfl, _, _⟩ := O2.form
  replace O2 := hide O2
  have U2 := hide B2
  replace B2 : Hid (Below w.heap.size w w2) := B1.out.trans (B2.mono B1.out.size)
  (try go_simp)
  refine hK.out _ _ (fun _ => B2.out) ?_
  clear hK K
  (try simp only [zzp, zza, zzb, zzc])
  refine Ix.tk 14 ⟨some 17, .build 124 #[(0, .tmp 7), (1, .tmp 12), (2, .tmp 16)], 124, "file.go:17", #[⟨4,.data⟩,⟨9,.data⟩,⟨13,.data⟩], none⟩ (.agg #[.slice a1 f.by_.length c1, .slice a2 f.la.length c2, .int .i64 (f.sp : Int)]) [15,16] ?_ B2.out ?_
  · intro wq hSw
    obtain ⟨y1, y2, y3⟩ := KC.out wq hSw
    go_simp
  (try simp only [zzp, zza, zzb, zzc])
  refine wpAnyT_one (i := 15) (o := ⟨some 18, .box 124 (.tmp 17), 114, "file.go:17", #[⟨14, .data⟩], none⟩) (by kernel_rfl) rfl (fun K hK => ?_)
  go_simp
  have B3 : Hid (Below w.heap.size w (w2.alloc (.cells #[.slice a1 f.by_.length c1, .slice a2 f.la.length c2, .int .i64 (f.sp : Int)] 124))) := B2.out.trans ((box_below w2 _).mono B2.out.size)
  refine hK.out _ _ (fun _ => B3.out) ?_
  clear hK K
  (try simp only [zzp, zza, zzb, zzc])
  have N3 := hide (heap_alloc_new w2 (.cells #[.slice a1 f.by_.length c1, .slice a2 f.la.length c2, .int .i64 (f.sp : Int)] 124))
  have D3 := hide (box_below w2 (.cells #[.slice a1 f.by_.length c1, .slice a2 f.la.length c2, .int .i64 (f.sp : Int)] 124))
  have zw : Hid (w.heap.size ≤ w2.heap.size ∧ w.heap.size ≤ q.heap.size ∧ w.heap.size ≤ w1.heap.size) := ⟨B2.out.size, KP.out.size, B1.out.size⟩
  generalize hz2 : w2.heap.size = z2 at *
  generalize (w2.alloc (.cells #[.slice a1 f.by_.length c1, .slice a2 f.la.length c2, .int .i64 (f.sp : Int)] 124)) = w3 at *
  refine wpAnyT_one (i := 16) (o := ⟨some 2, .assign (.tmp 18), 114, "file.go:17", #[⟨15, .data⟩, ⟨9, .chain⟩, ⟨0, .phase⟩, ⟨1, .phase⟩, ⟨2, .phase⟩, ⟨3, .phase⟩, ⟨4, .phase⟩, ⟨5, .phase⟩, ⟨6, .phase⟩, ⟨7, .phase⟩, ⟨8, .phase⟩, ⟨9, .phase⟩, ⟨10, .phase⟩, ⟨11, .phase⟩, ⟨12, .phase⟩, ⟨13, .phase⟩, ⟨14, .phase⟩, ⟨15, .phase⟩], none⟩) (by kernel_rfl) rfl (fun K hK => ?_)
  go_simp
  refine hK.out _ _ (vac (by kernel_rfl)) ?_
  clear hK K
  (try simp only [zzp, zza, zzb, zzc])
  refine wpAnyT_done (by kernel_rfl) ?_ _
  go_wp2_with fail
  go_ret
  have D3' : Below w2.heap.size w2 w3 := by rw [hz2]; exact D3.out
  have o1 : Ob q.heap.size w3 (.slice a1 f.by_.length c1) f.by_ := (O1.out.below U2.out).below D3'
  have o2 : Ob w1.heap.size w3 (.slice a2 f.la.length c2) f.la := O2.out.below D3'
  refine ⟨z2, _, _, rfl, ⟨⟨N3.out, o1.low (Nat.zero_le _), o2.low (Nat.zero_le _), ?_, H.out.le, H.out.sp, H.out.sz⟩, ?_⟩, B3.out⟩
  · intro k hk c
    have q1 := (O1.out.lt k hk).2
    have q2 := (o2.lt k c).1
    omega
  · have hzw := zw.out
    rintro k (e | e | e)
    · omega
    · have := (o1.lt k e).1; omega
    · have := (o2.lt k e).1; omega
set_option maxRecDepth 100000 in
theorem cpC_any (w : World) (n : ByteArray) (p : Nat) (f : Fl) (vb vl : Value) (h : FlAt w p f vb vl) :
    Calls Tryz.prog 161 #[.agg #[.string n, .pointer (some ⟨p, 0, none⟩)]] w fun e w' => ∃ p' vb' vl', e = .returned (.iface 126 (.agg #[.string n, .pointer (some ⟨p', 0, none⟩)])) ∧ FNew w.heap.size w' p' f vb' vl' ∧ Below w.heap.size w w' := by
  have H := hide h
  have hB := hide ((Below.refl _ w).alloc (Nat.le_refl _) (.cells #[.string n, .pointer (some ⟨p, 0, none⟩)] 126))
  have hN := hide (heap_alloc_new w (.cells #[.string n, .pointer (some ⟨p, 0, none⟩)] 126))
  have S1 : Hid ((w.alloc (.cells #[.string n, .pointer (some ⟨p, 0, none⟩)] 126)).heap.size = w.heap.size + 1) := by show _ = _; simp
  clear h
  go_enter Tryz.func161, Tryz.ntmps161
  go_upto_region 1 with fail
  generalize (w.alloc (.cells #[.string n, .pointer (some ⟨p, 0, none⟩)] 126)) = w1 at *
  have KC : Hid (∀ q : World, Below w1.heap.size w1 q → q.cell? ⟨w.heap.size, 0, none⟩ = some (.string n) ∧ q.cell? ⟨w.heap.size, 1, none⟩ = some (.pointer (some ⟨p, 0, none⟩))) := fun q hq => by
    have e : q.heap[w.heap.size]? = some (.cells #[.string n, .pointer (some ⟨p, 0, none⟩)] 126 (0, 0)) := (hq.block _ (heap_lt hN.out)).trans hN.out
    exact ⟨by simp [World.cell?, e], by simp [World.cell?, e]⟩
  have KP : Hid (Below w1.heap.size w1 w1.drew) := (Below.refl _ _).drew
  refine wp_region_T (fun q => Below w1.heap.size w1 q) 7 (by kernel_rfl) ?_
  generalize w1.drew = q at *
  refine Ix.tk 0 ⟨some 3, .fieldAddr 126 (.tmp 1) 0, 0, "directory.go:24", #[], none⟩ (.pointer (some ⟨w.heap.size, 0, none⟩)) [1,5,6,7] ?_ KP.out ?_
  · intro wq hSw
    obtain ⟨y1, y2⟩ := KC.out wq hSw
    go_simp
  (try simp only [zzp, zza, zzb, zzc])
  refine Ix.tk 1 ⟨some 4, .load 9 (.tmp 3), 9, "directory.go:24", #[⟨0,.data⟩], none⟩ (.string n) [5,6,7] ?_ KP.out ?_
  · intro wq hSw
    obtain ⟨y1, y2⟩ := KC.out wq hSw
    go_simp
  (try simp only [zzp, zza, zzb, zzc])
  refine Ix.tk 2 ⟨some 5, .fieldAddr 126 (.tmp 1) 1, 0, "directory.go:24", #[], none⟩ (.pointer (some ⟨w.heap.size, 1, none⟩)) [3,4,5,6,7] ?_ KP.out ?_
  · intro wq hSw
    obtain ⟨y1, y2⟩ := KC.out wq hSw
    go_simp
  (try simp only [zzp, zza, zzb, zzc])
  refine Ix.tk 3 ⟨some 6, .load 114 (.tmp 5), 114, "directory.go:24", #[⟨2,.data⟩], none⟩ (.pointer (some ⟨p, 0, none⟩)) [4,5,6,7] ?_ KP.out ?_
  · intro wq hSw
    obtain ⟨y1, y2⟩ := KC.out wq hSw
    go_simp
  (try simp only [zzp, zza, zzb, zzc])
  have hC := copyF_any q p f vb vl (H.out.below (hB.out.trans (KP.out.mono hB.out.size)))
  refine wpAnyT_one (i := 4) (o := ⟨some 7, .call { callee := .value (.func 94), args := #[.tmp 6], argTypes := #[114] }, 114, "directory.go:24", #[⟨3, .data⟩], none⟩) (by kernel_rfl) rfl (fun K hK => ?_)
  go_simp
  go_at_call 94
  refine hC.mono ?_
  rintro e w2 ⟨p', vb', vl', rfl, F2, B2⟩
  have F2' : Hid (FNew w.heap.size w2 p' f vb' vl') := ⟨F2.at_, fun k hk => by have := F2.lo k hk; have := KP.out.size; have := hB.out.size; omega⟩
  replace B2 : Hid (Below w1.heap.size w1 w2) := KP.out.trans (B2.mono KP.out.size)
  clear F2 hC
  (try go_simp)
  refine hK.out _ _ (fun _ => B2.out) ?_
  clear hK K
  (try simp only [zzp, zza, zzb, zzc])
  refine Ix.tk 5 ⟨some 8, .build 126 #[(0, .tmp 4), (1, .tmp 7)], 126, "directory.go:24", #[⟨1,.data⟩,⟨4,.data⟩], none⟩ (.agg #[.string n, .pointer (some ⟨p', 0, none⟩)]) [6,7] ?_ B2.out ?_
  · intro wq hSw
    obtain ⟨y1, y2⟩ := KC.out wq hSw
    go_simp
  (try simp only [zzp, zza, zzb, zzc])
  refine Ix.tk 6 ⟨some 9, .makeInterface 126 (.tmp 8), 148, "directory.go:24", #[⟨5,.data⟩], none⟩ (.iface 126 (.agg #[.string n, .pointer (some ⟨p', 0, none⟩)])) [7] ?_ B2.out ?_
  · intro wq hSw
    obtain ⟨y1, y2⟩ := KC.out wq hSw
    go_simp
  (try simp only [zzp, zza, zzb, zzc])
  refine wpAnyT_one (i := 7) (o := ⟨some 2, .assign (.tmp 9), 148, "directory.go:24", #[⟨6, .data⟩, ⟨4, .chain⟩, ⟨0, .phase⟩, ⟨1, .phase⟩, ⟨2, .phase⟩, ⟨3, .phase⟩, ⟨4, .phase⟩, ⟨5, .phase⟩, ⟨6, .phase⟩], none⟩) (by kernel_rfl) rfl (fun K hK => ?_)
  go_simp
  refine hK.out _ _ (vac (by kernel_rfl)) ?_
  clear hK K
  (try simp only [zzp, zza, zzb, zzc])
  refine wpAnyT_done (by kernel_rfl) ?_ _
  go_wp2_with fail
  go_ret
  exact ⟨p', vb', vl', rfl, F2'.out, hB.out.trans (B2.out.mono hB.out.size)⟩
theorem cpN_any (w : World) (f t : ByteArray) :
    Calls Tryz.prog 163 #[.agg #[.string f, .string t]] w fun e w' => e = .returned (.iface 158 (.agg #[.string f, .string t])) ∧ Below w.heap.size w w' := by
  have hB := hide ((Below.refl _ w).alloc (Nat.le_refl _) (.cells #[.string f, .string t] 158))
  go_enter Tryz.func163, Tryz.ntmps163
  go_wp2_with fail
  go_ret
  exact ⟨rfl, hB.out⟩
theorem cpX_any (w : World) (n : ByteArray) :
    Calls Tryz.prog 165 #[.agg #[.string n]] w fun e w' => e = .returned (.iface 160 (.agg #[.string n])) ∧ Below w.heap.size w w' := by
  have hB := hide ((Below.refl _ w).alloc (Nat.le_refl _) (.cells #[.string n] 160))
  go_enter Tryz.func165, Tryz.ntmps165
  go_wp2_with fail
  go_ret
  exact ⟨rfl, hB.out⟩
def Ch.cf : Ch → Nat
  | .cr _ _ => 161
  | .rn _ _ => 163
  | .rm _ => 165
def Ch.like (B : Nat) (w : World) (F : Nat → Fl) (c c' : Ch) : Prop := match c with
  | .cr n p => ∃ p' vb' vl', c' = .cr n p' ∧ FNew B w p' (F p) vb' vl'
  | c => c' = c
theorem cp_any (w : World) (c : Ch) (F : Nat → Fl) (VB VL : Nat → Value) (h : ∀ p, c.ptr = some p → FlAt w p (F p) (VB p) (VL p)) :
    Calls Tryz.prog c.cf #[c.val] w fun e w' => ∃ c', e = .returned (.iface c'.ty c'.val) ∧ Ch.like w.heap.size w' F c c' ∧ Below w.heap.size w w' := by
  cases c with
  | cr n p =>
    refine (cpC_any w n p (F p) (VB p) (VL p) (h p rfl)).mono ?_
    rintro e w' ⟨p', vb', vl', rfl, hf, hb⟩
    exact ⟨.cr n p', rfl, ⟨p', vb', vl', rfl, hf⟩, hb⟩
  | rn f t =>
    refine (cpN_any w f t).mono ?_
    rintro e w' ⟨rfl, hb⟩
    exact ⟨.rn f t, rfl, rfl, hb⟩
  | rm n =>
    refine (cpX_any w n).mono ?_
    rintro e w' ⟨rfl, hb⟩
    exact ⟨.rm n, rfl, rfl, hb⟩
def ptrs (P : List Ch) : List Nat := P.filterMap Ch.ptr
structure Uqs (l : Dr) (P : List Ch) : Prop where
  inj : ∀ e ∈ l, ∀ e' ∈ l, e.2 = e'.2 → e.1 = e'.1
  ap : ∀ e ∈ l, e.2 ∉ ptrs P
  nd : (ptrs P).Nodup
theorem mem_ddel {l : Dr} {n : List UInt8} {e : List UInt8 × Nat} (h : e ∈ ddel l n) : e ∈ l ∧ e.1 ≠ n := by
  have := List.mem_filter.1 h
  exact ⟨this.1, by simpa using this.2⟩
theorem mem_dput {l : Dr} {n : List UInt8} {p : Nat} {e : List UInt8 × Nat} (h : e ∈ dput l n p) : e = (n, p) ∨ (e ∈ l ∧ e.1 ≠ n) := (dins_mem h).imp id mem_ddel
theorem mem_run {l : Dr} {c : Ch} {e : List UInt8 × Nat} (h : e ∈ c.run l) : (∃ n p, c = .cr n p ∧ e = (n.data.toList, p)) ∨ (∃ f t p, c = .rn f t ∧ (f.data.toList, p) ∈ l ∧ e = (t.data.toList, p)) ∨ (e ∈ l ∧ (∀ f t, c = .rn f t → (get l f.data.toList).isSome → e.1 ≠ f.data.toList)) := by
  cases c with
  | cr n p => rcases mem_dput h with rfl | ⟨h1, _⟩
              · exact .inl ⟨n, p, rfl, rfl⟩
              · exact .inr (.inr ⟨h1, fun f t c => by cases c⟩)
  | rm n => exact .inr (.inr ⟨(mem_ddel h).1, fun f t c => by cases c⟩)
  | rn f t =>
    simp only [Ch.run] at h
    cases hg : get l f.data.toList with
    | none => rw [hg] at h; exact .inr (.inr ⟨h, fun f' t' c hs => by cases c; rw [hg] at hs; cases hs⟩)
    | some p =>
      rw [hg] at h
      obtain ⟨h1, h2⟩ := mem_ddel h
      rcases mem_dput h1 with rfl | ⟨h3, _⟩
      · exact .inr (.inl ⟨f, t, p, rfl, get_mem hg, rfl⟩)
      · exact .inr (.inr ⟨h3, fun f' t' c _ => by cases c; exact h2⟩)
theorem ptrs_cons (c : Ch) (P : List Ch) : ptrs (c :: P) = c.ptr.toList ++ ptrs P := by
  unfold ptrs
  rw [List.filterMap_cons]
  cases c.ptr <;> rfl
theorem get_isSome {l : Dr} {n : List UInt8} {p : Nat} (h : (n, p) ∈ l) : (get l n).isSome = true := by
  unfold get
  rw [Option.isSome_map, List.find?_isSome]
  exact ⟨_, h, by simp⟩
theorem Uqs.step {l : Dr} {c : Ch} {P : List Ch} (h : Uqs l (c :: P)) : Uqs (c.run l) P := by
  have hn := h.nd
  rw [ptrs_cons] at hn
  have hap := h.ap
  simp only [ptrs_cons, List.mem_append, not_or] at hap
  have nd2 : (ptrs P).Nodup := (List.nodup_append.1 hn).2.1
  have hc : ∀ n p, c = .cr n p → p ∉ ptrs P := fun n p e hp => by
    subst e
    exact (List.nodup_append.1 hn).2.2 p (by simp [Ch.ptr]) p hp rfl
  refine ⟨?_, ?_, nd2⟩
  · intro e he e' he' hq
    rcases mem_run he with ⟨n, p, rfl, rfl⟩ | ⟨f, t, p, rfl, hm, rfl⟩ | ⟨h1, h2⟩
    · rcases mem_run he' with ⟨n', p', e, rfl⟩ | ⟨f, t, p', e, _, rfl⟩ | ⟨h1', _⟩
      · cases e; rfl
      · cases e
      · exact ((hap e' h1').1 (by rw [← hq]; simp [Ch.ptr])).elim
    · rcases mem_run he' with ⟨n', p', e, rfl⟩ | ⟨f', t', p', e, hm', rfl⟩ | ⟨h1', h2'⟩
      · cases e
      · cases e; rfl
      · have := h.inj _ hm _ h1' hq
        exact (h2' f t rfl (get_isSome hm) this.symm).elim
    · rcases mem_run he' with ⟨n', p', e, rfl⟩ | ⟨f', t', p', e, hm', rfl⟩ | ⟨h1', h2'⟩
      · subst e
        exact ((hap _ h1).1 (by rw [hq]; simp [Ch.ptr])).elim
      · subst e
        have := h.inj _ h1 _ hm' hq
        exact (h2 f' t' rfl (get_isSome hm') this).elim
      · exact h.inj _ h1 _ h1' hq
  · intro e he
    rcases mem_run he with ⟨n, p, rfl, rfl⟩ | ⟨f, t, p, rfl, hm, rfl⟩ | ⟨h1, _⟩
    · exact hc n p rfl
    · exact (hap _ hm).2
    · exact (hap _ h1).2
theorem Uqs.runs {P : List Ch} : ∀ {l : Dr} (k : Nat), Uqs l P → Uqs (Dk.runs l (P.take k)) (P.drop k) := by
  induction P with
  | nil => intro l k h; simpa [Dk.runs] using h
  | cons c r ih =>
    intro l k h
    cases k with
    | zero => simpa [Dk.runs] using h
    | succ k => exact ih k h.step
theorem Uqs.all {l : Dr} {P : List Ch} (h : Uqs l P) : Uqs (Dk.runs l P) [] := by
  have := h.runs P.length
  rw [List.take_length, List.drop_length] at this
  exact this
theorem Uqs.only {l : Dr} {P : List Ch} (h : Uqs l P) : Uqs l [] := ⟨h.inj, fun _ _ => by simp [ptrs], by simp [ptrs]⟩
theorem Uqs.snoc {l : Dr} {P : List Ch} {c : Ch} (h : Uqs l P) (hc : ∀ p, c.ptr = some p → p ∉ l.map (·.2) ++ ptrs P) : Uqs l (P ++ [c]) := by
  have e : ptrs (P ++ [c]) = ptrs P ++ c.ptr.toList := by
    unfold ptrs
    rw [List.filterMap_append]
    cases hp : c.ptr <;> simp [hp]
  refine ⟨h.inj, fun x hx c' => ?_, ?_⟩
  · rw [e] at c'
    rcases List.mem_append.1 c' with q | q
    · exact h.ap x hx q
    · simp at q
      exact hc _ q (List.mem_append.2 (.inl (List.mem_map.2 ⟨x, hx, rfl⟩)))
  · rw [e, List.nodup_append]
    refine ⟨h.nd, by cases c.ptr <;> simp, fun a ha b hb e => ?_⟩
    simp at hb
    subst e
    exact hc _ hb (List.mem_append.2 (.inr ha))
def DS.uq (S : DS) : Prop := Uqs S.l2 S.P
theorem Uqs.of {S T : DS} (h : S.uq) (e1 : T.l2 = S.l2) (e2 : T.P = S.P) : T.uq := by unfold DS.uq; rw [e1, e2]; exact h
theorem uq_create {S : DS} (h : S.uq) (s : ByteArray) (p : Nat) (hp : p ∉ S.ps) : (S.create s p).1.uq := by
  obtain ⟨e1, e3, e4, _⟩ := hit_rest S 0
  unfold DS.create
  split
  · exact h
  split
  · exact h
  split
  · exact h
  split
  · exact Uqs.of h e3 e4
  · show Uqs (S.hit 0).l2 (S.P ++ [.cr s p])
    rw [e3]
    exact Uqs.snoc h (fun q e => by cases e; exact hp)
theorem uq_remove {S : DS} (h : S.uq) (s : ByteArray) : (S.remove s).1.uq := by
  obtain ⟨e1, e3, e4, _⟩ := hit_rest S 5
  unfold DS.remove
  split
  · exact h
  split
  · exact Uqs.of h e3 e4
  · show Uqs (S.hit 5).l2 (S.P ++ [.rm s])
    rw [e3]
    exact Uqs.snoc h (fun q e => by cases e)
theorem uq_rename {S : DS} (h : S.uq) (s t : ByteArray) : (S.rename s t).1.uq := by
  obtain ⟨e1, e3, e4, _⟩ := hit_rest S 4
  unfold DS.rename
  split
  · exact h
  split
  · exact h
  split
  · exact Uqs.of h e3 e4
  split
  · exact Uqs.of h e3 e4
  · show Uqs (S.hit 4).l2 (S.P ++ [.rn s t])
    rw [e3]
    exact Uqs.snoc h (fun q e => by cases e)
theorem uq_syncDir {S : DS} (h : S.uq) : S.syncDir.1.uq := by
  obtain ⟨e1, e3, e4, _⟩ := hit_rest S 6
  unfold DS.syncDir
  split
  · exact h
  split
  · exact Uqs.of h e3 e4
  · exact Uqs.all h
theorem uq_crash {S : DS} (h : S.uq) (d : Int) (ks : List Kep) : (S.crash d ks).uq := (Uqs.runs (wthn d S.P.length) h).only
theorem uq_append {S : DS} (h : S.uq) (s : ByteArray) (b : List UInt8) : (S.append s b).1.uq := by
  obtain ⟨e1, e3, e4, _⟩ := hit_rest S 1
  unfold DS.append
  split
  · exact h
  · exact Uqs.of h e3 e4
theorem uq_sync {S : DS} (h : S.uq) (s : ByteArray) : (S.sync s).1.uq := by
  obtain ⟨b1, b2, b3, b4, _⟩ := beg_rest S 2
  obtain ⟨e1, e3, e4, _⟩ := str_rest (S.beg 2) 3
  unfold DS.sync
  split
  · exact h
  split
  · exact Uqs.of h b3 b4
  split
  · exact Uqs.of h (e3.trans b3) (e4.trans b4)
  · exact Uqs.of h b3 b4
theorem uq_cut {S : DS} (h : S.uq) (s : ByteArray) (n : Int) : (S.cut s n).1.uq := by
  obtain ⟨b1, b2, b3, b4, _⟩ := beg_rest S 3
  obtain ⟨e1, e3, e4, _⟩ := hit_rest S 3
  unfold DS.cut
  split
  · exact h
  split
  · exact h
  split
  · exact Uqs.of h e3 e4
  · exact Uqs.of h b3 b4
theorem wpAnyT_pair {P : Program} {ops : Array Oper} {Q : Exit → Act → World → Prop} {md : Region.Mode} {S : World → Prop} {d : Nat} {i j : Nat} {oi oj : Oper} {fuel : Nat} {listed : Array Bool} {a : Act} {w : World} (G : Value → Value → World → Prop) (hij : i ≠ j) (hr : Region.ready md ops listed = [i, j]) (hoi : ops[i]? = some oi) (hoj : ops[j]? = some oj)
    (hri : Region.ready md ops (listed.setIfInBounds i true) = [j]) (hrj : Region.ready md ops (listed.setIfInBounds j true) = [i])
    (hcomm : ∀ vi vj, (a.put oj.dst vj).put oi.dst vi = (a.put oi.dst vi).put oj.dst vj)
    (hI : ∀ K' : Act → World → Prop, Shut (∀ vi w1, S w1 → (∀ K2 : Act → World → Prop, Shut (∀ vj w2, G vi vj w2 → K2 ((a.put oi.dst vi).put oj.dst vj) w2) → if Region.wanted oj (yielded ops (a.put oi.dst vi).tmps) = true then Oper.wp P oj (a.put oi.dst vi) w1 K2 Q else K2 ((a.put oi.dst vi).put oj.dst undef) w1) → K' (a.put oi.dst vi) w1) → if Region.wanted oi (yielded ops a.tmps) = true then Oper.wp P oi a w K' Q else K' (a.put oi.dst undef) w)
    (hJ : ∀ K' : Act → World → Prop, Shut (∀ vj w1, S w1 → (∀ K2 : Act → World → Prop, Shut (∀ vi w2, G vi vj w2 → K2 ((a.put oj.dst vj).put oi.dst vi) w2) → if Region.wanted oi (yielded ops (a.put oj.dst vj).tmps) = true then Oper.wp P oi (a.put oj.dst vj) w1 K2 Q else K2 ((a.put oj.dst vj).put oi.dst undef) w1) → K' (a.put oj.dst vj) w1) → if Region.wanted oj (yielded ops a.tmps) = true then Oper.wp P oj a w K' Q else K' (a.put oj.dst undef) w)
    (hG : ∀ vi vj w2, G vi vj w2 → S w2)
    (h : ∀ vi vj w2, G vi vj w2 → wpAnyT P md ops Q S d fuel ((listed.setIfInBounds i true).setIfInBounds j true) ((a.put oi.dst vi).put oj.dst vj) w2) :
    wpAnyT P md ops Q S d (fuel + 1 + 1) listed a w := by
  refine ⟨fun h0 => (by rw [h0] at hr; cases hr), fun k hk => ?_⟩
  rw [hr] at hk
  simp only [List.mem_cons, List.not_mem_nil, or_false] at hk
  rcases hk with rfl | rfl
  · refine wpOp_step hoi (fun K' hK => hI K' (fun vi w1 hS hrest => hK _ w1 ⟨fun _ => hS, ?_⟩))
    refine wpAnyT_one hri hoj (fun K2 hK2 => hrest K2 (fun vj w2 hg => hK2 _ w2 (fun _ => hG vi vj w2 hg) (h vi vj w2 hg)))
  · refine wpOp_step hoj (fun K' hK => hJ K' (fun vj w1 hS hrest => hK _ w1 ⟨fun _ => hS, ?_⟩))
    refine wpAnyT_one hrj hoi (fun K2 hK2 => hrest K2 (fun vi w2 hg => hK2 _ w2 (fun _ => hG vi vj w2 hg) ?_))
    rw [hcomm, Array.setIfInBounds_comm _ _ (Ne.symm hij)]
    exact h vi vj w2 hg
end Go.Proofs.YtjehpijjneghpaaGreat.Dk
