/-
  Plays: Copy.
-/
import Derived.Test.YtjehpijjneghpaaGreatM35
import Derived.Test.YtjehpijjneghpaaGreatM36
import Derived.Test.YtjehpijjneghpaaGreatM34
import Derived.Lib.SmallJoins
namespace Go.Proofs.YtjehpijjneghpaaGreat.Re
open Go.RowKit Go.Maps Go.Sort Go.Shelf Go.Proofs.YtjehpijjneghpaaGreat.Nm Go.Proofs.YtjehpijjneghpaaGreat.Dk
open Ix (wp_region_T wpAnyT wpAnyT_take wpAnyT_one wpAnyT_done vac)
set_option linter.unusedVariables false
variable {W0 w : World} {pb b : Nat} {S : DS} {R : RB} {Q : Nat → Prop}
theorem create_c7 (S : DS) (s : ByteArray) (p : Nat) : (S.create s p).1.c7 ≤ S.c7 + 1 := by
  unfold DS.create
  split
  · simp only; omega
  · split
    · simp only; omega
    · split
      · simp only; omega
      · split
        · simp only [str_c7, beg_c7]; omega
        · simp only [str_c7, beg_c7]; omega
theorem append_c7 (S : DS) (s : ByteArray) (D : List UInt8) : (S.append s D).1.c7 ≤ S.c7 + 1 := by
  unfold DS.append
  split
  · simp only; omega
  · simp only [str_c7, beg_c7]; omega
def sElder : ByteArray := ⟨#[101, 108, 100, 101, 114]⟩
theorem PX.other {w' : World} {rb b' : Nat} {O O' : Nat → Prop} {V : RV} {S' : DS} (h : PX w pb b rb S R O V) (hd : DskE w' b' S' O') (hb : Below w.heap.size w w') (lo : ∀ k, O' k → w.heap.size ≤ k) : ∀ k, O' k → ¬ own pb O rb V k := fun k hk c => by
  have := h.lt k c
  have := lo k hk
  omega
set_option maxRecDepth 100000 in
set_option maxHeartbeats 2000000 in
theorem pl_copy (o : Dop) (hk : o.kind = 11) (h : PlI W0 w pb b S R o Q) : Calls Tryz.prog 11 #[.pointer (some ⟨pb, 0, none⟩), opV o] w (PlP w pb b S R o Q) := by
  obtain ⟨rb, O, V, hx, hQ⟩ := h.pw
  have hI := hide h
  have HX := hide hx
  have hlt := hide hx.lt
  have hpR : Hid (R.play o = R) := by show _ = _; unfold RB.play; simp [hk]
  have hpS : Hid (∀ S', (∃ σ, Dk.Alike σ S S') → DS.play S o S') := fun S' hs => by unfold DS.play; simp [hk, hs]
  have hnm : Hid (o.nm.size ≤ maxLen) := by show _ ≤ _; have := h.ok.nm; unfold maxLen; omega
  have hCp : Hid (∀ q, PX q pb b rb S R O V → Calls Tryz.prog 41 #[.pointer (some ⟨b, 0, none⟩)] q fun e w' => ∃ b' σ S' O', e = .returned (.pointer (some ⟨b', 0, none⟩)) ∧ Dk.Alike σ S S' ∧ DskE w' b' S' O' ∧ (∀ k, O' k → q.heap.size ≤ k) ∧ Below q.heap.size q w') := fun q hq => copy_dsk hq.d hI.out.uq (by have := hI.out.cs; omega)
  have hCr : Hid (∀ q, PX q pb b rb S R O V → Calls Tryz.prog 14 #[.pointer (some ⟨b, 0, none⟩), .string ⟨#[101, 108, 100, 101, 114]⟩] q fun e w' => ∃ er S1 O1, e = .returned (.int .i64 er) ∧ S1.c7 ≤ S.c7 + 1 ∧ PX w' pb b rb S1 R O1 V ∧ Sgo q w' (own pb O rb V) (own pb O1 rb V)) := fun q hq => by
    refine (create_dsk hq.d sElder (by decide) (by have := hI.out.cs; omega)).mono ?_
    rintro e w' ⟨p, _, hp, rfl, O', hd, hg⟩
    obtain ⟨px, gx⟩ := hq.stepA hd hg
    refine ⟨_, _, _, rfl, ?_, px, gx⟩
    exact create_c7 S sElder p
  have hAp : Hid (∀ q S1 O1 v, S1.c7 ≤ S.c7 + 1 → Sl q v [101, 108, 100, 101, 114] → SOff O1 v → PX q pb b rb S1 R O1 V → Calls Tryz.prog 16 #[.pointer (some ⟨b, 0, none⟩), .string o.nm, v] q fun e w' => ∃ u S2 O2, e = .returned u ∧ S2.c7 ≤ S1.c7 + 1 ∧ PX w' pb b rb S2 R O2 V ∧ Sgo q w' (own pb O1 rb V) (own pb O2 rb V)) := fun q S1 O1 v hc hv ho hq => by
    refine (append_dsk hq.d o.nm hnm.out v _ hv ho (by have := hI.out.cs; omega)).mono ?_
    rintro e w' ⟨rfl, O', hd, hg⟩
    obtain ⟨px, gx⟩ := hq.stepA hd hg
    exact ⟨_, _, _, rfl, append_c7 S1 o.nm _, px, gx⟩
  have hKr : Hid (∀ q S2 O2, S2.c7 ≤ S.c7 + 2 → PX q pb b rb S2 R O2 V → Calls Tryz.prog 18 #[.pointer (some ⟨b, 0, none⟩), .agg #[.int .i64 0, .slice none 0 0]] q fun e w' => ∃ S3 O3, e = .returned (.tuple #[]) ∧ PX w' pb b rb S3 R O3 V ∧ Sgo q w' (own pb O2 rb V) (own pb O3 rb V)) := fun q S2 O2 hc hq => by
    refine (crash_dsk hq.d (by have := hI.out.cs; omega) 0 (by decide) (by decide) (.slice none 0 0) (fun _ => False) [] ⟨none, 0, rfl, Nat.le_refl _, Nat.zero_le _, fun i hi => by simp at hi⟩ (fun k c => c.elim)).mono ?_
    rintro e w' ⟨rfl, O', hd, hg⟩
    obtain ⟨px, gx⟩ := hq.stepA hd hg
    exact ⟨_, _, rfl, px, gx⟩
  obtain ⟨ok, os, on, ot, ov, oD, oo, onn, of, ofs, od, ovk, oks⟩ := o
  dsimp only at *
  subst hk
  have BF := hide (box_below w (.cells #[.int .i64 11, .bool os, .string on, .string ot, ov, .int .i64 oo, .int .i64 onn, of, .int .i64 od, ovk] 36))
  have NF := heap_alloc_new w (.cells #[.int .i64 11, .bool os, .string on, .string ot, ov, .int .i64 oo, .int .i64 onn, of, .int .i64 od, ovk] 36)
  clear hx h
  unfold opV
  go_enter Tryz.func11, Tryz.ntmps11
  obtain ⟨wf, hwf⟩ : ∃ wf, Hid (w.alloc (.cells #[.int .i64 11, .bool os, .string on, .string ot, ov, .int .i64 oo, .int .i64 onn, of, .int .i64 od, ovk] 36) = wf) := ⟨_, rfl⟩
  have c0 : (w.alloc (.cells #[.int .i64 11, .bool os, .string on, .string ot, ov, .int .i64 oo, .int .i64 onn, of, .int .i64 od, ovk] 36)).cell? ⟨w.heap.size, 0, none⟩ = some (.int .i64 11) := (ten_cells NF).1
  have c4 : (w.alloc (.cells #[.int .i64 11, .bool os, .string on, .string ot, ov, .int .i64 oo, .int .i64 onn, of, .int .i64 od, ovk] 36)).cell? ⟨w.heap.size, 4, none⟩ = some (ov) := (ten_cells NF).2.2.2.2.1
  have c7 : (w.alloc (.cells #[.int .i64 11, .bool os, .string on, .string ot, ov, .int .i64 oo, .int .i64 onn, of, .int .i64 od, ovk] 36)).cell? ⟨w.heap.size, 7, none⟩ = some (of) := (ten_cells NF).2.2.2.2.2.2.2.1
  have MX0 := HX.out.below BF.out
  rw [hwf.out] at BF NF c0 c4 c7 MX0
  have hwf2 := hwf.out
  clear c4 c7
  obtain ⟨x1, x2⟩ := two_cells MX0.box
  go_upto_region 41 with (go_at_call 41; refine (hCp.out _ MX0).mono ?_; rintro e w1 ⟨b', σ, S', O', rfl, L1, D1, lo1, B1⟩; replace L1 := hide L1; replace D1 := hide D1; replace lo1 := hide lo1; replace B1 := hide B1)
  clear x1 x2 c0 hwf2
  have MX := hide MX0
  clear MX0
  have P1 := hide (MX.out.below B1.out)
  have hob : Hid (¬ own pb O rb V w.heap.size) := fun c => Nat.lt_irrefl _ (hlt.out _ c)
  have K1 : Hid (Bxs pb w.heap.size b rb ⟨11, os, on, ot, ov, oD, oo, onn, of, ofs, od, ovk, oks⟩ w1) := ⟨P1.out.box, (B1.out.block _ (heap_lt NF)).trans NF⟩
  obtain ⟨x1, x2⟩ := two_cells P1.out.box
  go_upto_region 44 with (go_at_call 14; refine (hCr.out _ P1.out).mono ?_; rintro e w2 ⟨er, S1, O1, rfl, hc1, P2, G2⟩; replace P2 := hide P2; replace G2 := hide G2; replace hc1 := hide hc1)
  clear x1 x2
  have K2 : Hid (Bxs pb w.heap.size b rb ⟨11, os, on, ot, ov, oD, oo, onn, of, ofs, od, ovk, oks⟩ w2) := ⟨P2.out.box, G2.out.but.at K1.out.o hob.out⟩
  have nO1 : Hid (∀ k, O' k → ¬ own pb O rb V k) := MX.out.other D1.out B1.out lo1.out
  have D2 := hide (D1.out.but G2.out.but nO1.out)
  have KP : Hid (Bxs pb w.heap.size b rb ⟨11, os, on, ot, ov, oD, oo, onn, of, ofs, od, ovk, oks⟩ w2.drew) := K2.out.go (But.of_below (Below.refl _ _).drew fun _ => False) (fun c => c) (fun c => c)
  have PQ : Hid (PX w2.drew pb b rb S1 R O1 V) := P2.out.below (Below.refl _ _).drew
  have GQ : Hid (Below w2.heap.size w2 w2.drew) := (Below.refl _ _).drew
  refine wp_region_T (fun q => Bxs pb w.heap.size b rb ⟨11, os, on, ot, ov, oD, oo, onn, of, ofs, od, ovk, oks⟩ q) 8 (by kernel_rfl) ?_
  generalize w2.drew = q at *
  refine Ix.tk 0 ⟨some 316, .move (.tmp 0), 37, "law.go:154", #[], none⟩ (.pointer (some ⟨pb, 0, none⟩)) [1,2,3,8] ?_ KP.out ?_
  · intro wq hSw; go_simp
  (try simp only [zzp, zza, zzb, zzc])
  refine Ix.tk 1 ⟨some 317, .nilCheck (.tmp 316), 0, "law.go:154", #[⟨0,.data⟩], none⟩ (.pointer (some ⟨pb, 0, none⟩)) [2,3,8] ?_ KP.out ?_
  · intro wq hSw; go_simp
  (try simp only [zzp, zza, zzb, zzc])
  refine Ix.tk 2 ⟨some 318, .fieldAddr 29 (.tmp 317) 0, 0, "law.go:154", #[⟨1,.data⟩], none⟩ (.pointer (some ⟨pb, 0, none⟩)) [3,8] ?_ KP.out ?_
  · intro wq hSw; go_simp
  (try simp only [zzp, zza, zzb, zzc])
  refine Ix.tk 3 ⟨some 319, .load 24 (.tmp 318), 24, "law.go:154", #[⟨2,.data⟩], none⟩ (.pointer (some ⟨b, 0, none⟩)) [8] ?_ KP.out ?_
  · intro wq hSw
    obtain ⟨x1, x2⟩ := two_cells hSw.p
    obtain ⟨y0, y1, y2, y3, y4, y5, y6, y7, y8, y9⟩ := ten_cells hSw.o
    go_simp
  (try simp only [zzp, zza, zzb, zzc])
  refine Ix.tk 4 ⟨some 320, .fieldAddr 36 (.tmp 3) 2, 0, "law.go:154", #[], none⟩ (.pointer (some ⟨w.heap.size, 2, none⟩)) [5,8] ?_ KP.out ?_
  · intro wq hSw; go_simp
  (try simp only [zzp, zza, zzb, zzc])
  refine Ix.tk 5 ⟨some 321, .load 9 (.tmp 320), 9, "law.go:154", #[⟨4,.data⟩], none⟩ (.string on) [8] ?_ KP.out ?_
  · intro wq hSw
    obtain ⟨x1, x2⟩ := two_cells hSw.p
    obtain ⟨y0, y1, y2, y3, y4, y5, y6, y7, y8, y9⟩ := ten_cells hSw.o
    go_simp
  (try simp only [zzp, zza, zzb, zzc])
  have kc := Lib.run_convert_bytes_const (P := Tryz.prog) q 30 5 #[.int .u8 101, .int .u8 108, .int .u8 100, .int .u8 101, .int .u8 114] 5 5 Tryz.underlying30 Tryz.underlying5
  have B3 := hide (box_below q (.cells #[.int .u8 101, .int .u8 108, .int .u8 100, .int .u8 101, .int .u8 114] 5))
  have B4 := hide (box_below q (.cells #[.int .u8 101, .int .u8 108, .int .u8 100, .int .u8 101, .int .u8 114] 5 (5, 6)))
  have KB : Hid (∀ u, Below q.heap.size q u → Bxs pb w.heap.size b rb ⟨11, os, on, ot, ov, oD, oo, onn, of, ofs, od, ovk, oks⟩ u) := fun u hu => KP.out.go (But.of_below hu fun _ => False) (fun c => c) (fun c => c)
  have S4 : Hid (Sl (q.alloc (.cells #[.int .u8 101, .int .u8 108, .int .u8 100, .int .u8 101, .int .u8 114] 5 (5, 6))) (.slice (some ⟨q.heap.size, 0, none⟩) 5 5) [101, 108, 100, 101, 114]) := sl_lit_mark q [101, 108, 100, 101, 114] 5 (5, 6) (by decide) _ rfl
  refine wpAnyT_one (i := 6) (o := ⟨some 322, .buildSlice 30 5 #[(0, .const (Value.int IntKind.u8 101)), (1, .const (Value.int IntKind.u8 108)), (2, .const (Value.int IntKind.u8 100)), (3, .const (Value.int IntKind.u8 101)), (4, .const (Value.int IntKind.u8 114))], 30, "law.go:154", #[], none⟩) (by kernel_rfl) rfl (fun K hK => ?_)
  go_simp
  refine hK.out _ _ (fun _ => KB.out _ B3.out) ?_
  clear hK K
  (try simp only [zzp, zza, zzb, zzc])
  refine wpAnyT_one (i := 7) (o := ⟨some 323, .convert 30 30 (.tmp 322), 30, "law.go:154", #[⟨6, .data⟩], none⟩) (by kernel_rfl) rfl (fun K hK => ?_)
  go_simp
  refine hK.out _ _ (fun _ => KB.out _ B4.out) ?_
  clear hK K
  (try simp only [zzp, zza, zzb, zzc])
  have P4 := hide (PQ.out.below B4.out)
  have F4 : Hid (SOff O1 (.slice (some ⟨q.heap.size, 0, none⟩) 5 5)) := fun g off n c e _ k => by
    simp only [Value.slice.injEq, Option.some.injEq, Addr.mk.injEq] at e
    have := PQ.out.d.lt _ k
    omega
  have hApp := hAp.out _ _ _ _ hc1.out S4.out F4.out P4.out
  generalize hq4 : (q.alloc (.cells #[.int .u8 101, .int .u8 108, .int .u8 100, .int .u8 101, .int .u8 114] 5 (5, 6))) = w4 at *
  generalize hqs : q.heap.size = qs at *
  refine wpAnyT_one (i := 8) (o := ⟨some 324, .call { callee := .value (.func 16), args := #[.tmp 319, .tmp 321, .tmp 323], argTypes := #[24, 9, 30] }, 44, "law.go:154", #[⟨3, .data⟩, ⟨5, .data⟩, ⟨7, .data⟩], none⟩) (by kernel_rfl) rfl (fun K hK => ?_)
  go_simp
  go_at_call 16
  refine hApp.mono ?_
  rintro e w5 ⟨u5, S2, O2, rfl, hc2, P5, G5⟩
  replace P5 := hide P5
  replace G5 := hide G5
  replace hc2 := hide hc2
  (try go_simp)
  refine hK.out _ _ (vac (by kernel_rfl)) ?_
  clear hK K hApp
  (try simp only [zzp, zza, zzb, zzc])
  refine wpAnyT_done (by kernel_rfl) ?_ _
  have hKk := hKr.out w5 S2 O2 (by have := hc1.out; have := hc2.out; omega) P5.out
  obtain ⟨x1, x2⟩ := two_cells P5.out.box
  go_upto_region 46 with (go_at_call 18; refine hKk.mono ?_; rintro e w6 ⟨S3, O3, rfl, P6, G6⟩; replace P6 := hide P6; replace G6 := hide G6)
  clear x1 x2
  obtain ⟨x1, x2⟩ := two_cells P6.out.box
  have fz : w6.frozen? ⟨pb, 0, none⟩ = false := by simp [World.frozen?, P6.out.box]
  have h7 := heap_setCell_same w6 pb 0 _ _ (.pointer (some ⟨b', 0, none⟩)) P6.out.box
  have g7 := But.of_grownBy (X := fun k => k = pb) (grown_setCell w6 pb 0 (.pointer (some ⟨b', 0, none⟩))) fun k e => by cases e; rfl
  have Bq4 : Below w2.heap.size w2 w4 := by rw [← hq4]; exact GQ.out.trans ((box_below q _).mono GQ.out.size)
  -- the copy lies apart from all that was done to the elder one
  have nO2 : ∀ k, O' k → ¬ own pb O1 rb V k := fun k hk c => (G2.out.own k c).elim (nO1.out k hk) (fun c => by have := D1.out.lt k hk; omega)
  have nO5 : ∀ k, O' k → ¬ own pb O2 rb V k := fun k hk c => (G5.out.own k c).elim (nO2 k hk) (fun c => by have q1 := D2.out.lt k hk; have q2 := Bq4.size; omega)
  have D4 := D2.out.below Bq4
  have D5 := D4.but G5.out.but nO2
  have D6 := D5.but G6.out.but nO5
  have nO6 : ∀ k, O' k → ¬ own pb O3 rb V k := fun k hk c => (G6.out.own k c).elim (nO5 k hk) (fun c => by have := D5.lt k hk; omega)
  have D7 := D6.but g7 (fun k hk e => nO6 k hk (.inl e))
  have R7 := P6.out.r.but g7 (fun x k hk e => P6.out.nr x (by rw [hk, e]))
  have PX7 : PX (w6.setCell ⟨pb, 0, none⟩ (.pointer (some ⟨b', 0, none⟩))) pb b' rb S' R O' V := ⟨h7, D7, R7, fun k hk x c => nO6 k hk (.inr (.inr ⟨x, c⟩)), fun c => nO6 pb c (.inl rfl), P6.out.nr⟩
  have GA : Sgo w w6 (own pb O rb V) (own pb O3 rb V) := (Sgo.of_below (BF.out.trans (B1.out.mono BF.out.size))).trans (G2.out.trans ((Sgo.of_below Bq4).trans (G5.out.trans G6.out)))
  have GB : Hid (Sgo w (w6.setCell ⟨pb, 0, none⟩ (.pointer (some ⟨b', 0, none⟩))) (own pb O rb V) (own pb O' rb V)) := by
    refine ⟨but_trans_new GA.but g7 (fun k e => .inl (.inl e)), fun k hk => ?_⟩
    rcases hk with e | c | c
    · exact .inl (.inl e)
    · right
      have q1 := lo1.out k c
      have q2 := BF.out.size
      omega
    · exact .inl (.inr (.inr c))
  have PW7 := hide PX7.toPW
  clear PX7 R7 D7 D6 D5 D4 nO6 nO5 nO2 g7 h7 GA kc
  go_wp2_with fail
  go_ret
  refine ⟨⟨true, S', _, b', rfl, by rw [hpR.out]; exact PW7.out, ?_, hpS.out S' ⟨σ, L1.out⟩, fun _ => rfl, fun c => absurd rfl c⟩⟩
  first | exact GB.out | (rw [hQ]; exact GB.out)
end Go.Proofs.YtjehpijjneghpaaGreat.Re
