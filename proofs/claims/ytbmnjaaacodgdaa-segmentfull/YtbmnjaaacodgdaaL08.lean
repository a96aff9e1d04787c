/-
  Create.
-/
import Derived.Test.YtbmnjaaacodgdaaL07
import Derived.Test.YtbmnjaaacodgdaaL06
import Derived.Deep.CutRange
import Derived.Test.YtbmnjaaacodgdaaL05
set_option maxRecDepth 100000
set_option maxHeartbeats 40000000
set_option linter.unusedVariables false
namespace Go.Proofs.Ytbmnjaaacodgdaa.Sg
open Go.RowKit Go.Maps Go.Sort Go.Shelf Go.Proofs.Ytbmnjaaacodgdaa.Nm Go.Proofs.Ytbmnjaaacodgdaa.Dk
theorem begC (S : DS) (j : Nat) : (S.beg j).c7 = S.c7 + 1 := (beg_rest S j).2.2.2.2.2.1
theorem strC (S : DS) (j : Int) : (S.str j).c7 = S.c7 := (str_rest S j).2.2.2.2.1
theorem createC (S : DS) (s : ByteArray) (p : Nat) : (S.create s p).1.c7 ≤ S.c7 + 1 := by
 unfold DS.create
 split
 ·simp only; omega
 ·split
  ·simp only; omega
  ·split
   ·simp only; omega
   ·split
    ·simp only [strC, begC]; omega
    ·simp only [strC, begC]; omega
theorem appendC (S : DS) (s : ByteArray) (b : List UInt8) : (S.append s b).1.c7 ≤ S.c7 + 1 := by
 unfold DS.append
 split
 ·simp only; omega
 ·simp only [strC, begC]; omega
def creF (S : DS) (file : ByteArray) (nm bs : Int) (seed : Crc.R) (p : Nat) : DS × Int :=
 if (whF nm bs seed).2.2 ≠ 0 then (S, (whF nm bs seed).2.2)
 else if (S.create file p).2 ≠ 0 then S.create file p
 else if ((S.create file p).1.append file (whF nm bs seed).1).2.2 ≠ 0 then (((S.create file p).1.append file (whF nm bs seed).1).1, ((S.create file p).1.append file (whF nm bs seed).1).2.2)
 else (((S.create file p).1.append file (whF nm bs seed).1).1).sync file
def newSG (b : Nat) (file : ByteArray) (nm bs : Int) (seed sum : Crc.R) : SG := ⟨b, file, nm, bs, (seed.toNat : Int), bs, 32, (sum.toNat : Int), 0, ⟨1024, [], (0, 0)⟩, []⟩
theorem newSG_ok (b : Nat) (file : ByteArray) (nm bs : Int) (seed sum : Crc.R) (h1 : 1 ≤ bs) (h2 : bs ≤ 9223372036854775807) : SOk (newSG b file nm bs seed sum) :=
 ⟨Ix.Ok.new (by omega) (by omega), h1, h2, by show (32 : Int) ≤ 32; omega, by show (32 : Int) ≤ _; omega, by show (0 : Nat) ≤ _; omega, by have := sum.isLt; constructor <;> (unfold newSG; simp only; omega), fun p hp => by unfold newSG at hp; simp at hp⟩
theorem ps_own {w : World} {b : Nat} {S : DS} {O : Nat → Prop} (h : DskE w b S O) {p : Nat} (hp : p ∈ S.ps) : O p := by
 obtain ⟨f, g, pd, am, VB, VL, h⟩ := h
 exact h.of p hp p (.inl rfl)
theorem ob_sl_off {B N : Nat} {w : World} {v : Value} {l : List UInt8} {O : Nat → Prop} (h : Ob B w v l) (hN : w.heap.size ≤ N) (hO : ∀ k, O k → k < B ∨ N ≤ k) : SOff O v := by
 intro b off n c e hn ho
 rcases h.2 with ⟨rfl, _⟩ | ⟨g, cap, cur, rfl, hg, hh, r⟩
 ·simp at e
 ·simp at e
  obtain ⟨⟨rfl, _⟩, _⟩ := e
  have := heap_lt hh
  rcases hO _ ho with q | q <;> omega
theorem createS_any {w : World} {b : Nat} {S : DS} {O : Nat → Prop} (h : DskE w b S O) (file : ByteArray) (nm bs : Int) (seed : Crc.R) (hf : file.size ≤ 140737488355328) (hm : file.size ≤ maxLen) (hc : S.c7 < 800000000) (n0 : -9223372036854775808 ≤ nm) (n1 : nm ≤ 9223372036854775807) (b0 : -9223372036854775808 ≤ bs) (b1 : bs ≤ 9223372036854775807) :
    Calls Try.prog 7 #[.pointer (some ⟨b, 0, none⟩), .string file, .agg #[.int .i64 nm, .int .i64 bs, .int .u32 (seed.toNat : Int)]] w fun e w' => ∃ p O', w.heap.size ≤ p ∧ p ∉ S.ps ∧ Sgo w w' O O' ∧
     (((creF S file nm bs seed p).2 ≠ 0 ∧ e = .returned (.tuple #[.pointer none, .int .i64 (creF S file nm bs seed p).2]) ∧ DskE w' b (creF S file nm bs seed p).1 O') ∨
      ((creF S file nm bs seed p).2 = 0 ∧ ∃ sb xb mb v, e = .returned (.tuple #[.pointer (some ⟨sb, 0, none⟩), .int .i64 0]) ∧ SW w' sb (newSG b file nm bs seed (whF nm bs seed).2.1) (creF S file nm bs seed p).1 O' xb mb v ∧ (∀ k, SOwn sb xb mb v k → w.heap.size ≤ k))) := by
 have B1 := box_below w (.cells #[.int .i64 nm, .int .i64 bs, .int .u32 (seed.toNat : Int)] 32)
 have N1 := heap_alloc_new w (.cells #[.int .i64 nm, .int .i64 bs, .int .u32 (seed.toNat : Int)] 32)
 have H1 := h.below B1
 have hO := h.lt
 obtain ⟨w1, hw1⟩ : ∃ w1, Hid (w.alloc (.cells #[.int .i64 nm, .int .i64 bs, .int .u32 (seed.toNat : Int)] 32) = w1) := ⟨_, rfl⟩
 rw [hw1.out] at B1 N1 H1
 obtain ⟨x0, x1, x2⟩ := tri N1
 have hWH := hide (writeHead_any w1 nm bs seed n0 n1 b0 b1)
 have ST : Hid (DskE w1 b S O ∧ Below w.heap.size w w1 ∧ w1.heap[w.heap.size]? = some (.cells #[.int .i64 nm, .int .i64 bs, .int .u32 (seed.toNat : Int)] 32 (0, 0)) ∧ (∀ k, O k → k < w.heap.size)) := hide ⟨H1, B1, N1, hO⟩
 have hCr : Hid (∀ p, creF S file nm bs seed p = if (whF nm bs seed).2.2 ≠ 0 then (S, (whF nm bs seed).2.2)
  else if (S.create file p).2 ≠ 0 then S.create file p
  else if ((S.create file p).1.append file (whF nm bs seed).1).2.2 ≠ 0 then (((S.create file p).1.append file (whF nm bs seed).1).1, ((S.create file p).1.append file (whF nm bs seed).1).2.2)
  else (((S.create file p).1.append file (whF nm bs seed).1).1).sync file) := hide fun p => rfl
 obtain ⟨WH, hWf⟩ : ∃ WH, Hid (whF nm bs seed = WH) := ⟨_, rfl⟩
 rw [hWf.out] at hWH hCr ⊢
 obtain ⟨hb, hsm, he⟩ := WH
 simp only at hWH hCr ⊢
 obtain ⟨CF, hCF⟩ : ∃ CF : Nat → DS × Int, Hid (∀ p, creF S file nm bs seed p = CF p) := ⟨_, hide fun p => rfl⟩
 simp only [hCF.out] at hCr ⊢
 clear h H1 B1 N1 hO
 have nps : Hid (w.heap.size ∉ S.ps) := hide fun c => by
  have := ST.out.2.2.2 _ (ps_own ST.out.1 c)
  omega
 go_enter Try.func7, Try.ntmps7
 go_upto_region 1 with fail
 rw [hw1.out]
 go_wp2_with fail
 go_at_call 31
 refine hWH.out.mono ?_
 rintro e w2 ⟨vh, rfl, oh, b2⟩
 obtain ⟨t1, t2, t3, t4⟩ := ST.out
 have hsz1 : w.heap.size < w1.heap.size := heap_lt t3
 have D2 := t1.below b2
 have B2 := keepF t2 b2
 have N2 := (But.of_below b2 fun _ => False).at t3 (fun c => c)
 obtain ⟨ha, hn, hcp, hvh⟩ : ∃ a n c, vh = .slice a n c := by
  rcases oh.2 with ⟨rfl, _⟩ | ⟨_, _, _, rfl, _⟩
  ·exact ⟨_, _, _, rfl⟩
  ·exact ⟨_, _, _, rfl⟩
 subst hvh
 have oh2 : Hid (Ob w1.heap.size w2 (.slice ha hn hcp) hb) := hide oh
 replace D2 := hide D2
 replace B2 := hide B2
 replace N2 := hide N2
 have HO := hide t4
 have hsz := hide (And.intro hsz1 b2.size)
 clear oh b2 t1 t2 t3 t4 hsz1 ST hWH x0 x1 x2
 by_cases h0 : he = 0
 rotate_left
 ·have k0 : (he != 0) = true := by simp [h0]
  have hR : Hid (∀ p, CF p = (S, he)) := hide fun p => by rw [hCr.out p, if_pos h0]
  replace h0 := hide h0
  clear hCr
  go_wp2_with fail
  go_ret2
  refine ⟨w.heap.size, O, Nat.le_refl _, nps.out, Sgo.of_below B2.out, .inl ?_⟩
  rw [hR.out]
  exact ⟨h0.out, rfl, D2.out⟩
 subst h0
 have hR : Hid (∀ p, CF p = if (S.create file p).2 ≠ 0 then S.create file p
  else if ((S.create file p).1.append file hb).2.2 ≠ 0 then (((S.create file p).1.append file hb).1, ((S.create file p).1.append file hb).2.2)
  else (((S.create file p).1.append file hb).1).sync file) := hide fun p => by rw [hCr.out p, if_neg (show ¬ (0 : Int) ≠ 0 by omega)]
 clear hCr
 go_wp2_with fail
 go_at_call 16
 refine (create_dsk D2.out file hf (by omega)).mono ?_
 rintro e w3 ⟨p, hp1, hp2, rfl, O3, D3, G3⟩
 have hc3 := createC S file p
 have hR2 : Hid (CF p = if (S.create file p).2 ≠ 0 then S.create file p
  else if ((S.create file p).1.append file hb).2.2 ≠ 0 then (((S.create file p).1.append file hb).1, ((S.create file p).1.append file hb).2.2)
  else (((S.create file p).1.append file hb).1).sync file) := hide (hR.out p)
 have GW3 : Hid (Sgo w w3 O O3) := hide ((Sgo.of_below B2.out).trans G3)
 have PP : Hid (w.heap.size ≤ p ∧ p ∉ S.ps) := hide ⟨Nat.le_trans B2.out.size hp1, hp2⟩
 obtain ⟨C, hC⟩ : ∃ C, Hid (S.create file p = C) := ⟨_, rfl⟩
 rw [hC.out] at D3 hc3 hR2 ⊢
 obtain ⟨S3, e3⟩ := C
 simp only at D3 hc3 hR2 ⊢
 have N3 := G3.but.at N2.out (fun c => by have := HO.out _ c; omega)
 have off3 : SOff O3 (.slice ha hn hcp) := ob_sl_off oh2.out (Nat.le_refl _) (fun k hk => by
  rcases G3.own k hk with q | q
  ·have := HO.out _ q; have := hsz.out; omega
  ·exact .inr q)
 have off2 : SOff O (.slice ha hn hcp) := ob_sl_off oh2.out (Nat.le_refl _) (fun k hk => by have := HO.out _ hk; have := hsz.out; omega)
 have sl3 := sl_but (Sl.of_owns oh2.out) G3.but off2
 have OX3 : Hid (∀ k, O3 k → k < w.heap.size ∨ w2.heap.size ≤ k) := hide fun k hk => (G3.own k hk).imp (HO.out k) id
 have W23 : Hid (w2.heap.size ≤ w3.heap.size) := hide G3.but.size
 replace D3 := hide D3
 replace N3 := hide N3
 replace off3 := hide off3
 replace sl3 := hide sl3
 clear G3 off2 hp1 hp2 D2 B2 N2 hR hC
 by_cases h3 : e3 = 0
 rotate_left
 ·have k0 : (e3 != 0) = true := by simp [h3]
  have hR3 : Hid (CF p = (S3, e3)) := hide (by rw [hR2.out, if_pos h3])
  replace h3 := hide h3
  clear hR2
  go_wp2_with fail
  go_ret2
  refine ⟨p, O3, PP.out.1, PP.out.2, GW3.out, .inl ?_⟩
  rw [hR3.out]
  exact ⟨h3.out, rfl, D3.out⟩
 subst h3
 have hR3 : Hid (CF p = if (S3.append file hb).2.2 ≠ 0 then ((S3.append file hb).1, (S3.append file hb).2.2) else ((S3.append file hb).1).sync file) := hide (by rw [hR2.out, if_neg (show ¬ (0 : Int) ≠ 0 by omega)])
 clear hR2
 go_wp2_with fail
 go_at_call 11
 refine (append_dsk D3.out file hm _ hb sl3.out off3.out (by omega)).mono ?_
 rintro e w4 ⟨rfl, O4, D4, G4⟩
 have hc4 := appendC S3 file hb
 have GW4 : Hid (Sgo w w4 O O4) := hide (GW3.out.trans G4)
 obtain ⟨C, hC⟩ : ∃ C, Hid (S3.append file hb = C) := ⟨_, rfl⟩
 rw [hC.out] at D4 hc4 hR3 ⊢
 obtain ⟨S4, n4, e4⟩ := C
 simp only at D4 hc4 hR3 ⊢
 have N4 : Hid (w4.heap[w.heap.size]? = _) := hide (G4.but.at N3.out (fun c => by
  have := hsz.out
  rcases OX3.out _ c with q | q <;> omega))
 have OX4 : Hid (∀ k, O4 k → k < w.heap.size ∨ w2.heap.size ≤ k) := hide fun k hk => by
  have := W23.out
  rcases G4.own k hk with q | q
  ·exact OX3.out k q
  ·exact .inr (by omega)
 replace D4 := hide D4
 clear G4 D3 N3 GW3 hC off3 sl3
 by_cases h4 : e4 = 0
 rotate_left
 ·have k0 : (e4 != 0) = true := by simp [h4]
  have hR4 : Hid (CF p = (S4, e4)) := hide (by rw [hR3.out, if_pos h4])
  replace h4 := hide h4
  clear hR3
  go_wp2_with fail
  go_ret2
  refine ⟨p, O4, PP.out.1, PP.out.2, GW4.out, .inl ?_⟩
  rw [hR4.out]
  exact ⟨h4.out, rfl, D4.out⟩
 subst h4
 have hR4 : Hid (CF p = S4.sync file) := hide (by rw [hR3.out, if_neg (show ¬ (0 : Int) ≠ 0 by omega)])
 clear hR3
 go_wp2_with fail
 go_at_call 17
 refine (sync_dskE D4.out file hm (by omega)).mono ?_
 rintro e w5 ⟨rfl, O5, D5, G5⟩
 have GW5 : Hid (Sgo w w5 O O5) := hide (GW4.out.trans G5)
 have N5 : w5.heap[w.heap.size]? = some (.cells #[.int .i64 nm, .int .i64 bs, .int .u32 (seed.toNat : Int)] 32 (0, 0)) := G5.but.at N4.out (fun c => by
  have := hsz.out
  rcases OX4.out _ c with q | q <;> omega)
 obtain ⟨C, hC⟩ : ∃ C, Hid (S4.sync file = C) := ⟨_, rfl⟩
 rw [hC.out] at D5 hR4 ⊢
 obtain ⟨S5, e5⟩ := C
 simp only at D5 ⊢
 obtain ⟨x0, x1, x2⟩ := tri N5
 replace D5 := hide D5
 clear G5 D4 N4 GW4 hC N5
 by_cases h5 : e5 = 0
 rotate_left
 ·have k0 : (e5 != 0) = true := by simp [h5]
  replace h5 := hide h5
  go_wp2_with fail
  go_ret2
  refine ⟨p, O5, PP.out.1, PP.out.2, GW5.out, .inl ?_⟩
  rw [hR4.out]
  exact ⟨h5.out, rfl, D5.out⟩
 subst h5
 go_wp2_with fail
 go_at_call 32
 refine (headed_any w5 b file nm bs (seed.toNat : Int) (hsm.toNat : Int) (by omega)).mono ?_
 rintro e w6 ⟨sb, xb, mb, v6, rfl, S6, b6, l1, l2, l3, l4⟩
 have low : ∀ k, SOwn sb xb mb v6 k → w5.heap.size ≤ k := fun k hk => by
  rcases hk with rfl | rfl | rfl | hk
  ·exact l1
  ·exact l2
  ·exact l3
  ·exact l4 k hk
 have FIN : Hid (SW w6 sb (newSG b file nm bs seed hsm) S5 O5 xb mb v6 ∧ (∀ k, SOwn sb xb mb v6 k → w.heap.size ≤ k) ∧ Sgo w w6 O O5) := hide ⟨⟨S6, D5.out.below b6, fun k hk c => by have := D5.out.lt k c; have := low k hk; omega⟩, fun k hk => Nat.le_trans GW5.out.but.size (low k hk), GW5.out.trans (Sgo.of_below b6)⟩
 clear S6 b6 l1 l2 l3 l4 low
 go_wp2_with fail
 go_ret2
 refine ⟨p, O5, PP.out.1, PP.out.2, FIN.out.2.2, .inr ?_⟩
 rw [hR4.out]
 exact ⟨rfl, sb, xb, mb, v6, rfl, FIN.out.1, FIN.out.2.1⟩
open Ix (wp_region_T wpAnyT wpAnyT_take wpAnyT_one wpAnyT_done vac)
def fbF (s : SG) (S : DS) (off : Int) : List UInt8 × Int :=
 if (S.read s.file off (min 16 (s.size - off))).2 ≠ 0 then ([], (S.read s.file off (min 16 (s.size - off))).2)
 else if szF (stv (S.read s.file off (min 16 (s.size - off))).1 4 (0, 0) : Int) = 0 ∨ s.size - off < szF (stv (S.read s.file off (min 16 (s.size - off))).1 4 (0, 0) : Int) then ([], 45)
 else S.read s.file off (szF (stv (S.read s.file off (min 16 (s.size - off))).1 4 (0, 0) : Int))
theorem stv_lt (l : List UInt8) (s : Nat × Int) : stv l 4 s < 4294967296 := by
 unfold stv
 split
 ·have := num_lt ((l.drop s.1).take 4)
  have h2 : ((l.drop s.1).take 4).length ≤ 4 := by simp; omega
  have h3 : 256 ^ ((l.drop s.1).take 4).length ≤ 256 ^ 4 := Nat.pow_le_pow_right (by omega) h2
  omega
 ·omega
theorem read_len (S : DS) (s : ByteArray) (o n : Int) : (S.read s o n).1.length ≤ n.toNat := by
 unfold DS.read
 split
 ·split
  ·simp only [List.length_take]; omega
  ·simp
 ·simp
theorem frameBytes_any {w : World} {sb : Nat} {s : SG} {S : DS} {O : Nat → Prop} {xb mb : Nat} {v : Value} (h : SW w sb s S O xb mb v) (ok : SOk s) (off : Int) (h0 : 0 ≤ off) (h1 : off ≤ 4294967296) (hf : s.file.size ≤ maxLen) :
    Calls Try.prog 80 #[.pointer (some ⟨sb, 0, none⟩), .int .i64 off] w fun e w' => ∃ vo, e = .returned (.tuple #[vo, .int .i64 (fbF s S off).2]) ∧ Ob w.heap.size w' vo (fbF s S off).1 ∧ Below w.heap.size w w' := by
 have H := hide h
 have hz1 := ok.z1
 have hz2 := ok.z2
 obtain ⟨y0, y1, y2, y3, y4, y5, y6, y7, y8, y9, y10⟩ := h.sg.cells
 have kw : IntKind.i64.wrap (s.size - off) = s.size - off := by simp [IntKind.wrap, IntKind.bits, IntKind.signed]; omega
 obtain ⟨FB, hFB⟩ : ∃ FB, Hid (fbF s S off = FB) := ⟨_, rfl⟩
 rw [hFB.out]
 have hd : Hid (FB = if (S.read s.file off (min 16 (s.size - off))).2 ≠ 0 then ([], (S.read s.file off (min 16 (s.size - off))).2)
  else if szF (stv (S.read s.file off (min 16 (s.size - off))).1 4 (0, 0) : Int) = 0 ∨ s.size - off < szF (stv (S.read s.file off (min 16 (s.size - off))).1 4 (0, 0) : Int) then ([], 45)
  else S.read s.file off (szF (stv (S.read s.file off (min 16 (s.size - off))).1 4 (0, 0) : Int))) := hide (by rw [← hFB.out]; rfl)
 obtain ⟨left, hleft⟩ : ∃ left, Hid (s.size - off = left) := ⟨_, rfl⟩
 rw [hleft.out] at kw hd
 obtain ⟨M, hM⟩ : ∃ M, Hid (min 16 left = M) := ⟨_, rfl⟩
 have hRd := hide (fun u (hu : Below w.heap.size w u) n => read_dsk (H.out.below hu).dk s.file hf off n)
 rw [hM.out] at hd
 clear h hFB
 rw [← hleft.out] at kw
 go_enter Try.func80, Try.ntmps80
 go_upto_region 2 with fail
 rw [hleft.out]
 clear kw y0 y1 y2 y3 y4 y5 y6 y7 y8 y9 y10
 obtain ⟨RR, hRR⟩ : ∃ RR, Hid (S.read s.file off M = RR) := ⟨_, rfl⟩
 rw [hRR.out] at hd
 obtain ⟨fr, fe⟩ := RR
 simp only at hd
 go_cut [7, 8] from 16 to 30 (fun y7 y8 wx => y8 = .int .i64 fe ∧ Hid (Below w.heap.size w wx ∧ Ob w.heap.size wx y7 fr))
 case first =>
  refine wp_region_T (fun q => Below w.heap.size w q) 16 (by kernel_rfl) ?_
  have KP : Hid (Below w.heap.size w w.drew) := hide (Below.refl _ _).drew
  generalize w.drew = q at *
  refine Ix.tk 0 ⟨some 17, .move (.tmp 0), _, _, _, _⟩ (.pointer (some ⟨sb, 0, none⟩)) [16] ?_ KP.out ?_
  ·intro wq hSw
   obtain ⟨y0, y1, y2, y3, y4, y5, y6, y7, y8, y9, y10⟩ := (H.out.below hSw).sg.cells
   go_simp
  (try simp only [zzp, zzb, zzc])
  refine Ix.tk 1 ⟨some 18, .nilCheck (.tmp 17), _, _, _, _⟩ (.pointer (some ⟨sb, 0, none⟩)) [16] ?_ KP.out ?_
  ·intro wq hSw
   obtain ⟨y0, y1, y2, y3, y4, y5, y6, y7, y8, y9, y10⟩ := (H.out.below hSw).sg.cells
   go_simp
  (try simp only [zzp, zzb, zzc])
  refine Ix.tk 2 ⟨some 19, .fieldAddr 93 (.tmp 18) 0, _, _, _, _⟩ (.pointer (some ⟨sb, 0, none⟩)) [16] ?_ KP.out ?_
  ·intro wq hSw
   obtain ⟨y0, y1, y2, y3, y4, y5, y6, y7, y8, y9, y10⟩ := (H.out.below hSw).sg.cells
   go_simp
  (try simp only [zzp, zzb, zzc])
  refine Ix.tk 3 ⟨some 20, .load 24 (.tmp 19), _, _, _, _⟩ (.pointer (some ⟨s.b, 0, none⟩)) [16] ?_ KP.out ?_
  ·intro wq hSw
   obtain ⟨y0, y1, y2, y3, y4, y5, y6, y7, y8, y9, y10⟩ := (H.out.below hSw).sg.cells
   go_simp
  (try simp only [zzp, zzb, zzc])
  refine Ix.tk 4 ⟨some 21, .move (.tmp 0), _, _, _, _⟩ (.pointer (some ⟨sb, 0, none⟩)) [16] ?_ KP.out ?_
  ·intro wq hSw
   obtain ⟨y0, y1, y2, y3, y4, y5, y6, y7, y8, y9, y10⟩ := (H.out.below hSw).sg.cells
   go_simp
  (try simp only [zzp, zzb, zzc])
  refine Ix.tk 5 ⟨some 22, .nilCheck (.tmp 21), _, _, _, _⟩ (.pointer (some ⟨sb, 0, none⟩)) [16] ?_ KP.out ?_
  ·intro wq hSw
   obtain ⟨y0, y1, y2, y3, y4, y5, y6, y7, y8, y9, y10⟩ := (H.out.below hSw).sg.cells
   go_simp
  (try simp only [zzp, zzb, zzc])
  refine Ix.tk 6 ⟨some 23, .fieldAddr 93 (.tmp 22) 1, _, _, _, _⟩ (.pointer (some ⟨sb, 1, none⟩)) [16] ?_ KP.out ?_
  ·intro wq hSw
   obtain ⟨y0, y1, y2, y3, y4, y5, y6, y7, y8, y9, y10⟩ := (H.out.below hSw).sg.cells
   go_simp
  (try simp only [zzp, zzb, zzc])
  refine Ix.tk 7 ⟨some 24, .load 9 (.tmp 23), _, _, _, _⟩ (.string s.file) [16] ?_ KP.out ?_
  ·intro wq hSw
   obtain ⟨y0, y1, y2, y3, y4, y5, y6, y7, y8, y9, y10⟩ := (H.out.below hSw).sg.cells
   go_simp
  (try simp only [zzp, zzb, zzc])
  refine Ix.tk 8 ⟨some 25, .move (.tmp 1), _, _, _, _⟩ (.int .i64 off) [16] ?_ KP.out ?_
  ·intro wq hSw
   obtain ⟨y0, y1, y2, y3, y4, y5, y6, y7, y8, y9, y10⟩ := (H.out.below hSw).sg.cells
   go_simp
  (try simp only [zzp, zzb, zzc])
  refine Ix.tk 9 ⟨some 26, .move (.tmp 6), _, _, _, _⟩ (.int .i64 left) [16] ?_ KP.out ?_
  ·intro wq hSw
   obtain ⟨y0, y1, y2, y3, y4, y5, y6, y7, y8, y9, y10⟩ := (H.out.below hSw).sg.cells
   go_simp
  (try simp only [zzp, zzb, zzc])
  refine wpAnyT_one (i := 10) (o := ⟨some 27, .call { callee := .builtin .min, args := #[.const (Value.int IntKind.i64 16), .tmp 26], argTypes := #[3, 3] }, _, _, _, _⟩) (by kernel_rfl) rfl (fun K hK => ?_)
  go_simp
  rw [hM.out]
  refine hK.out _ _ (fun _ => KP.out) ?_
  clear hK K
  (try simp only [zzp, zzb, zzc])
  refine wpAnyT_one (i := 11) (o := ⟨some 28, .call { callee := .value (.func 12), args := #[.tmp 20, .tmp 24, .tmp 25, .tmp 27], argTypes := #[24, 9, 3, 3] }, _, _, _, _⟩) (by kernel_rfl) rfl (fun K hK => ?_)
  go_simp
  go_at_call 12
  refine (hRd.out q KP.out M).mono ?_
  rw [hRR.out]
  rintro e w1 ⟨vf, rfl, of, b1⟩
  have K1 := hide (keepF KP.out b1)
  have F1 : Hid (Ob w.heap.size w1 vf fr) := hide (owns_lower of KP.out.size)
  clear of b1
  (try go_simp)
  refine hK.out _ _ (fun _ => K1.out) ?_
  clear hK K
  (try simp only [zzp, zzb, zzc])
  refine Ix.tk 12 ⟨some 16, .move (.tmp 28), _, _, _, _⟩ (.tuple #[vf, .int .i64 fe]) [16] ?_ K1.out ?_
  ·intro wq hSw; go_simp
  (try simp only [zzp, zzb, zzc])
  refine Ix.tk 13 ⟨some 29, .extract (.tmp 16) 0, _, _, _, _⟩ (vf) [16] ?_ K1.out ?_
  ·intro wq hSw; go_simp
  (try simp only [zzp, zzb, zzc])
  refine Ix.tk 14 ⟨some 30, .extract (.tmp 16) 1, _, _, _, _⟩ (.int .i64 fe) [16] ?_ K1.out ?_
  ·intro wq hSw; go_simp
  (try simp only [zzp, zzb, zzc])
  refine wpAnyT_one (i := 15) (o := ⟨some 7, .assign (.tmp 29), _, _, _, _⟩) (by kernel_rfl) rfl (fun K hK => ?_)
  go_simp
  refine hK.out _ _ (fun _ => K1.out) ?_
  clear hK K
  (try simp only [zzp, zzb, zzc])
  refine wpAnyT_one (i := 16) (o := ⟨some 8, .assign (.tmp 30), _, _, _, _⟩) (by kernel_rfl) rfl (fun K hK => ?_)
  go_simp
  refine hK.out _ _ (vac (by kernel_rfl)) ?_
  clear hK K
  (try simp only [zzp, zzb, zzc])
  refine wpAnyT_done (by kernel_rfl) ?_ _
  go_wp2_with fail
  go_meet
  case rel => exact ⟨rfl, K1.out, F1.out⟩
 case rest =>
  obtain ⟨rfl, hcu⟩ := hcut
  obtain ⟨b1, o1⟩ := hcu.out
  clear hcu
  generalize hwc : wc = w1 at *
  clear hwc
  by_cases he : fe = 0
  rotate_left
  ·have ke : (fe != 0) = true := by simp [he]
   have hE : Hid (FB = ([], fe)) := hide (by rw [hd.out, if_pos he])
   have B1 := hide b1
   replace he := hide he
   clear b1 o1 hd hRd
   go_wp2_with fail
   go_ret2
   rw [hE.out]
   exact ⟨_, rfl, World.ownsRow_nil _ _ _ _, B1.out⟩
  subst he
  obtain ⟨fa, fn, fc, hv⟩ : ∃ a n c, u7 = .slice a n c := by
   rcases o1.2 with ⟨rfl, _⟩ | ⟨_, _, _, rfl, _⟩
   ·exact ⟨_, _, _, rfl⟩
   ·exact ⟨_, _, _, rfl⟩
  subst hv
  have hsl := Sl.of_owns o1
  obtain ⟨z, hz⟩ : ∃ z, Hid (szF (stv fr 4 (0, 0) : Int) = z) := ⟨_, rfl⟩
  have hd2 : Hid (FB = if z = 0 ∨ left < z then ([], 45) else S.read s.file off z) := hide (by rw [hd.out, if_neg (show ¬ (0 : Int) ≠ 0 by omega), hz.out])
  have hst := stv_lt fr (0, 0)
  have kc : IntKind.i64.wrap ((stv fr 4 (0, 0) : Nat) : Int) = ((stv fr 4 (0, 0) : Nat) : Int) := by simp [IntKind.wrap, IntKind.bits, IntKind.signed]; omega
  have hSz := hide (fun u => size_any u ((stv fr 4 (0, 0) : Nat) : Int))
  rw [hz.out] at hSz
  have B1 := hide b1
  have hfl : Hid (fr.length ≤ 140737488355328) := hide (by have := read_len S s.file off M; rw [hRR.out] at this; simp only at this; have := hM.out; omega)
  have hNR := hide (newReader_any w1 _ fr hsl hfl.out)
  have hF32 := hide (fun u rb (hr : RdrAt u rb fr 0 0) => fixed32_tot u rb fr (0, 0) hr)
  generalize stv fr 4 (0, 0) = nz at *
  clear b1 o1 hsl hd hst
  go_wp2_with fail
  go_at_call 100
  refine hNR.out.mono ?_
  rintro e w2 ⟨rb, rfl, rd2, b2, l2⟩
  go_wp2_with fail
  go_at_call 101
  refine (hF32.out w2 rb rd2).mono ?_
  rintro e w3 ⟨rfl, _, g3⟩
  have B3 : Hid (Below w.heap.size w w3) := hide (Below.grown (keepF B1.out b2) g3 (keepF B1.out b2).size (fun k hk => by cases hk; exact Nat.le_trans B1.out.size l2))
  clear rd2 b2 l2 g3 hNR hF32 B1
  go_upto_region 6 with (first | (go_at_call 99; refine (hSz.out _).mono ?_; rintro e w4 ⟨rfl, hw⟩; rw [hw]; clear hw w4) | fail)
  by_cases hz0 : z = 0
  ·subst hz0
   have hE : Hid (FB = ([], 45)) := hide (by rw [hd2.out, if_pos (.inl rfl)])
   clear hd2 hz
   go_wp2_with fail
   go_ret2
   rw [hE.out]
   exact ⟨_, rfl, World.ownsRow_nil _ _ _ _, B3.out⟩
  have kz : (z == 0) = false := by simp [hz0]
  by_cases hzl : left < z
  ·have hE : Hid (FB = ([], 45)) := hide (by rw [hd2.out, if_pos (.inr hzl)])
   replace hz0 := hide hz0
   clear hd2 hz
   go_wp2_with fail
   go_ret2
   rw [hE.out]
   exact ⟨_, rfl, World.ownsRow_nil _ _ _ _, B3.out⟩
  have hE : Hid (FB = S.read s.file off z) := hide (by rw [hd2.out, if_neg (by omega)])
  replace hz0 := hide hz0
  clear hd2 hz
  obtain ⟨RZ, hRZ⟩ : ∃ RZ, Hid (S.read s.file off z = RZ) := ⟨_, rfl⟩
  rw [hRZ.out] at hE
  obtain ⟨gr, ge⟩ := RZ
  go_upto_region 8 with fail
  refine wp_region_T (fun q => Below w.heap.size w q) 14 (by kernel_rfl) ?_
  have KP : Hid (Below w.heap.size w w3.drew) := hide (keepF B3.out (Below.refl _ _).drew)
  generalize w3.drew = q at *
  refine Ix.tk 0 ⟨some 46, .move (.tmp 0), _, _, _, _⟩ (.pointer (some ⟨sb, 0, none⟩)) [14] ?_ KP.out ?_
  ·intro wq hSw
   obtain ⟨y0, y1, y2, y3, y4, y5, y6, y7, y8, y9, y10⟩ := (H.out.below hSw).sg.cells
   go_simp
  (try simp only [zzp, zzb, zzc])
  refine Ix.tk 1 ⟨some 47, .nilCheck (.tmp 46), _, _, _, _⟩ (.pointer (some ⟨sb, 0, none⟩)) [14] ?_ KP.out ?_
  ·intro wq hSw
   obtain ⟨y0, y1, y2, y3, y4, y5, y6, y7, y8, y9, y10⟩ := (H.out.below hSw).sg.cells
   go_simp
  (try simp only [zzp, zzb, zzc])
  refine Ix.tk 2 ⟨some 48, .fieldAddr 93 (.tmp 47) 0, _, _, _, _⟩ (.pointer (some ⟨sb, 0, none⟩)) [14] ?_ KP.out ?_
  ·intro wq hSw
   obtain ⟨y0, y1, y2, y3, y4, y5, y6, y7, y8, y9, y10⟩ := (H.out.below hSw).sg.cells
   go_simp
  (try simp only [zzp, zzb, zzc])
  refine Ix.tk 3 ⟨some 49, .load 24 (.tmp 48), _, _, _, _⟩ (.pointer (some ⟨s.b, 0, none⟩)) [14] ?_ KP.out ?_
  ·intro wq hSw
   obtain ⟨y0, y1, y2, y3, y4, y5, y6, y7, y8, y9, y10⟩ := (H.out.below hSw).sg.cells
   go_simp
  (try simp only [zzp, zzb, zzc])
  refine Ix.tk 4 ⟨some 50, .move (.tmp 0), _, _, _, _⟩ (.pointer (some ⟨sb, 0, none⟩)) [14] ?_ KP.out ?_
  ·intro wq hSw
   obtain ⟨y0, y1, y2, y3, y4, y5, y6, y7, y8, y9, y10⟩ := (H.out.below hSw).sg.cells
   go_simp
  (try simp only [zzp, zzb, zzc])
  refine Ix.tk 5 ⟨some 51, .nilCheck (.tmp 50), _, _, _, _⟩ (.pointer (some ⟨sb, 0, none⟩)) [14] ?_ KP.out ?_
  ·intro wq hSw
   obtain ⟨y0, y1, y2, y3, y4, y5, y6, y7, y8, y9, y10⟩ := (H.out.below hSw).sg.cells
   go_simp
  (try simp only [zzp, zzb, zzc])
  refine Ix.tk 6 ⟨some 52, .fieldAddr 93 (.tmp 51) 1, _, _, _, _⟩ (.pointer (some ⟨sb, 1, none⟩)) [14] ?_ KP.out ?_
  ·intro wq hSw
   obtain ⟨y0, y1, y2, y3, y4, y5, y6, y7, y8, y9, y10⟩ := (H.out.below hSw).sg.cells
   go_simp
  (try simp only [zzp, zzb, zzc])
  refine Ix.tk 7 ⟨some 53, .load 9 (.tmp 52), _, _, _, _⟩ (.string s.file) [14] ?_ KP.out ?_
  ·intro wq hSw
   obtain ⟨y0, y1, y2, y3, y4, y5, y6, y7, y8, y9, y10⟩ := (H.out.below hSw).sg.cells
   go_simp
  (try simp only [zzp, zzb, zzc])
  refine Ix.tk 8 ⟨some 54, .move (.tmp 1), _, _, _, _⟩ (.int .i64 off) [14] ?_ KP.out ?_
  ·intro wq hSw
   obtain ⟨y0, y1, y2, y3, y4, y5, y6, y7, y8, y9, y10⟩ := (H.out.below hSw).sg.cells
   go_simp
  (try simp only [zzp, zzb, zzc])
  refine Ix.tk 9 ⟨some 55, .move (.tmp 9), _, _, _, _⟩ (.int .i64 z) [14] ?_ KP.out ?_
  ·intro wq hSw
   obtain ⟨y0, y1, y2, y3, y4, y5, y6, y7, y8, y9, y10⟩ := (H.out.below hSw).sg.cells
   go_simp
  (try simp only [zzp, zzb, zzc])
  refine wpAnyT_one (i := 10) (o := ⟨some 56, .call { callee := .value (.func 12), args := #[.tmp 49, .tmp 53, .tmp 54, .tmp 55], argTypes := #[24, 9, 3, 3] }, _, _, _, _⟩) (by kernel_rfl) rfl (fun K hK => ?_)
  go_simp
  go_at_call 12
  refine (hRd.out q KP.out z).mono ?_
  rw [hRZ.out]
  rintro e w5 ⟨vf, rfl, of, b1⟩
  have K1 := hide (keepF KP.out b1)
  have F1 : Hid (Ob w.heap.size w5 vf gr) := hide (owns_lower of KP.out.size)
  clear of b1
  (try go_simp)
  refine hK.out _ _ (fun _ => K1.out) ?_
  clear hK K
  (try simp only [zzp, zzb, zzc])
  refine Ix.tk 11 ⟨some 57, .extract (.tmp 56) 0, _, _, _, _⟩ (vf) [14] ?_ K1.out ?_
  ·intro wq hSw; go_simp
  (try simp only [zzp, zzb, zzc])
  refine Ix.tk 12 ⟨some 58, .extract (.tmp 56) 1, _, _, _, _⟩ (.int .i64 ge) [14] ?_ K1.out ?_
  ·intro wq hSw; go_simp
  (try simp only [zzp, zzb, zzc])
  refine wpAnyT_one (i := 13) (o := ⟨some 4, .assign (.tmp 57), _, _, _, _⟩) (by kernel_rfl) rfl (fun K hK => ?_)
  go_simp
  refine hK.out _ _ (fun _ => K1.out) ?_
  clear hK K
  (try simp only [zzp, zzb, zzc])
  refine wpAnyT_one (i := 14) (o := ⟨some 5, .assign (.tmp 58), _, _, _, _⟩) (by kernel_rfl) rfl (fun K hK => ?_)
  go_simp
  refine hK.out _ _ (vac (by kernel_rfl)) ?_
  clear hK K
  (try simp only [zzp, zzb, zzc])
  refine wpAnyT_done (by kernel_rfl) ?_ _
  go_wp2_with fail
  go_ret2
  rw [hE.out]
  exact ⟨_, rfl, F1.out, K1.out⟩
def rfF (s : SG) (S : DS) (lsn off : Int) (seed : Crc.R) : (Int × List UInt8) × Int × Crc.R × Int :=
 if (fbF s S off).2 ≠ 0 then ((0, []), 0, 0#32, (fbF s S off).2)
 else if (rdF seed (fbF s S off).1).2.2.2.2 ≠ 0 ∨ (rdF seed (fbF s S off).1).1 ≠ lsn then ((0, []), 0, 0#32, 45)
 else (((rdF seed (fbF s S off).1).1, (rdF seed (fbF s S off).1).2.1), (rdF seed (fbF s S off).1).2.2.1, (rdF seed (fbF s S off).1).2.2.2.1, 0)
theorem put2_heap {w : World} {g : Nat} {z0 z1 : Value} {T : TypeId} (h : w.heap[g]? = some (.cells #[z0, z1] T (0, 0))) (a0 a1 : Value) : ((w.setCell ⟨g, 0, none⟩ a0).setCell ⟨g, 1, none⟩ a1).heap[g]? = some (.cells #[a0, a1] T (0, 0)) := by
 have e0 : (w.setCell ⟨g, 0, none⟩ a0).heap[g]? = some (.cells #[a0, z1] T (0, 0)) := by rw [heap_setCell_same _ g 0 _ _ _ h]; rfl
 rw [heap_setCell_same _ g 1 _ _ _ e0]; rfl
theorem put2_below {B : Nat} {u w : World} (h : Below B u w) {g : Nat} (hg : B ≤ g) (a0 a1 : Value) : Below B u ((w.setCell ⟨g, 0, none⟩ a0).setCell ⟨g, 1, none⟩ a1) := (h.setCell hg a0).setCell hg a1
theorem ob_form {B : Nat} {w : World} {v : Value} {l : List UInt8} (h : Ob B w v l) : ∃ a n c, v = .slice a n c := by
 rcases h.2 with ⟨rfl, _⟩ | ⟨_, _, _, rfl, _⟩
 ·exact ⟨_, _, _, rfl⟩
 ·exact ⟨_, _, _, rfl⟩
theorem readFrame_any {w : World} {sb : Nat} {s : SG} {S : DS} {O : Nat → Prop} {xb mb : Nat} {v : Value} (h : SW w sb s S O xb mb v) (ok : SOk s) (lsn off : Int) (seed : Crc.R) (h0 : 0 ≤ off) (h1 : off ≤ 4294967296) (hf : s.file.size ≤ maxLen) :
    Calls Try.prog 61 #[.pointer (some ⟨sb, 0, none⟩), .agg #[.int .i64 lsn, .int .i64 off], .int .u32 (seed.toNat : Int)] w fun e w' => ∃ vd, e = .returned (.tuple #[.agg #[.int .i64 (rfF s S lsn off seed).1.1, vd], .int .i64 (rfF s S lsn off seed).2.1, .int .u32 ((rfF s S lsn off seed).2.2.1.toNat : Int), .int .i64 (rfF s S lsn off seed).2.2.2]) ∧ Ob w.heap.size w' vd (rfF s S lsn off seed).1.2 ∧ Below w.heap.size w w' := by
 have B1 := box_below w (.cells #[.int .i64 lsn, .int .i64 off] 136)
 have N1 := heap_alloc_new w (.cells #[.int .i64 lsn, .int .i64 off] 136)
 obtain ⟨w1, hw1⟩ : ∃ w1, Hid (w.alloc (.cells #[.int .i64 lsn, .int .i64 off] 136) = w1) := ⟨_, rfl⟩
 rw [hw1.out] at B1 N1
 have hz1 : w1.heap.size = w.heap.size + 1 := by rw [← hw1.out]; simp
 have B2 := box_below w1 (.cells #[.int .i64 0, .slice none 0 0] 78)
 have N2 := heap_alloc_new w1 (.cells #[.int .i64 0, .slice none 0 0] 78)
 obtain ⟨w2, hw2⟩ : ∃ w2, Hid (w1.alloc (.cells #[.int .i64 0, .slice none 0 0] 78) = w2) := ⟨_, rfl⟩
 rw [hw2.out] at B2 N2
 rw [hz1] at N2
 have N12 := (But.of_below B2 fun _ => False).at N1 (fun c => c)
 have B12 := keepF B1 B2
 have hFb := hide (frameBytes_any (h.below B12) ok off h0 h1 hf)
 have x0 : w2.cell? ⟨w.heap.size, 0, none⟩ = some (.int .i64 lsn) := by rw [cell_of N12]; rfl
 have x1 : w2.cell? ⟨w.heap.size, 1, none⟩ = some (.int .i64 off) := by rw [cell_of N12]; rfl
 have ST : Hid (Below w.heap.size w w2 ∧ w2.heap[w.heap.size]? = some (.cells #[.int .i64 lsn, .int .i64 off] 136 (0, 0)) ∧ w2.heap[w.heap.size + 1]? = some (.cells #[.int .i64 0, .slice none 0 0] 78 (0, 0)) ∧ w.heap.size + 2 = w2.heap.size) := hide ⟨B12, N12, N2, by rw [← hw2.out]; simp; omega⟩
 obtain ⟨RF, hRF⟩ : ∃ RF, Hid (rfF s S lsn off seed = RF) := ⟨_, rfl⟩
 rw [hRF.out]
 have hd : Hid (RF = if (fbF s S off).2 ≠ 0 then ((0, []), 0, 0#32, (fbF s S off).2)
  else if (rdF seed (fbF s S off).1).2.2.2.2 ≠ 0 ∨ (rdF seed (fbF s S off).1).1 ≠ lsn then ((0, []), 0, 0#32, 45)
  else (((rdF seed (fbF s S off).1).1, (rdF seed (fbF s S off).1).2.1), (rdF seed (fbF s S off).1).2.2.1, (rdF seed (fbF s S off).1).2.2.2.1, 0)) := hide (by rw [← hRF.out]; rfl)
 obtain ⟨FB, hFB⟩ : ∃ FB, Hid (fbF s S off = FB) := ⟨_, rfl⟩
 rw [hFB.out] at hd hFb
 obtain ⟨fb, fe⟩ := FB
 simp only at hd hFb
 clear B1 B2 N1 N2 N12 B12 hz1 h hRF
 go_enter Try.func61, Try.ntmps61
 go_upto_region 1 with fail
 rw [hw1.out, hw2.out]
 clear hw1 hw2
 generalize hpa : w.heap.size = pA at *
 replace hpa := hide hpa
 go_wp2_with fail
 go_at_call 80
 refine hFb.out.mono ?_
 rintro e w3 ⟨vo, rfl, o3, b3⟩
 obtain ⟨t1, t2, t3, t4⟩ := ST.out
 have M2 := (But.of_below b3 fun _ => False).at t2 (fun c => c)
 have M3 := (But.of_below b3 fun _ => False).at t3 (fun c => c)
 have B3 : Below pA w w3 := t1.trans (b3.mono (by omega))
 obtain ⟨oa, on, oc, hvo⟩ := ob_form o3
 subst hvo
 have hsl := Sl.of_owns o3
 have z0 : w3.frozen? ⟨pA + 1, 0, none⟩ = false := by simp [World.frozen?, M3]
 have z1 : w3.frozen? ⟨pA + 1, 1, none⟩ = false := by simp [World.frozen?, M3]
 have q0 : w3.cell? ⟨pA + 1, 0, none⟩ = some (.int .i64 0) := by rw [cell_of M3]; rfl
 have q1 : w3.cell? ⟨pA + 1, 1, none⟩ = some (.slice none 0 0) := by rw [cell_of M3]; rfl
 have hpp : pA ≤ pA + 1 := by omega
 by_cases he : fe = 0
 rotate_left
 ·have ke : (fe != 0) = true := by simp [he]
  have hE : Hid (RF = ((0, []), 0, 0#32, fe)) := hide (by rw [hd.out, if_pos he])
  have FH := put2_heap M3 (.int .i64 0) (.slice none 0 0)
  have c0 := (cell_of FH (j := 0)).trans (show (#[Value.int .i64 0, .slice none 0 0] : Array Value)[0]? = some (.int .i64 0) from rfl)
  have c1 := (cell_of FH (j := 1)).trans (show (#[Value.int .i64 0, .slice none 0 0] : Array Value)[1]? = some (.slice none 0 0) from rfl)
  have FB2 := hide (put2_below B3 hpp (.int .i64 0) (.slice none 0 0))
  replace he := hide he
  clear hd hFb o3 b3 M2 M3 t1 t2 t3 hsl FH ST
  go_wp2_with fail
  try simp only [Exit.inBlock, Exit.then]
  refine bodyPost_ret (v := .tuple #[.agg #[.int .i64 0, .slice none 0 0], .int .i64 0, .int .u32 0, .int .i64 fe]) (by simp [results, Try.results61, go_sem, c0, c1]; try rfl) rfl ?_
  rw [hE.out]
  exact ⟨_, rfl, World.ownsRow_nil _ _ _ _, by rw [hpa.out]; exact FB2.out⟩
 ·subst he
  have hd2 : Hid (RF = if (rdF seed fb).2.2.2.2 ≠ 0 ∨ (rdF seed fb).1 ≠ lsn then ((0, []), 0, 0#32, 45)
   else (((rdF seed fb).1, (rdF seed fb).2.1), (rdF seed fb).2.2.1, (rdF seed fb).2.2.2.1, 0)) := hide (by rw [hd.out, if_neg (show ¬ (0 : Int) ≠ 0 by omega)])
  have hRd := hide (read_any w3 seed _ fb hsl)
  obtain ⟨RD, hRD⟩ : ∃ RD, Hid (rdF seed fb = RD) := ⟨_, rfl⟩
  rw [hRD.out] at hd2 hRd
  obtain ⟨r1, rdd, rz, rs, re⟩ := RD
  simp only at hd2 hRd
  have ST3 : Hid (Below pA w w3 ∧ w3.heap[pA]? = some (.cells #[.int .i64 lsn, .int .i64 off] 136 (0, 0)) ∧ w3.heap[pA + 1]? = some (.cells #[.int .i64 0, .slice none 0 0] 78 (0, 0)) ∧ pA + 2 ≤ w3.heap.size) := hide ⟨B3, M2, M3, by have := b3.size; omega⟩
  clear hd hFb o3 b3 M2 M3 t1 t2 t3 t4 hsl ST B3 z0 z1 q0 q1 x0 x1
  go_wp2_with fail
  go_at_call 81
  refine hRd.out.mono ?_
  rintro e w4 ⟨vd, rfl, o4, b4⟩
  obtain ⟨da, dn, dc, hvd⟩ := ob_form o4
  subst hvd
  obtain ⟨u1, u2, u3, u4⟩ := ST3.out
  have B5 := box_below w4 (.cells #[.int .i64 r1, .slice da dn dc] 78)
  have N5 := heap_alloc_new w4 (.cells #[.int .i64 r1, .slice da dn dc] 78)
  obtain ⟨w5, hw5⟩ : ∃ w5, Hid (w4.alloc (.cells #[.int .i64 r1, .slice da dn dc] 78) = w5) := ⟨_, rfl⟩
  obtain ⟨pC, hpC⟩ : ∃ pC, Hid (w4.heap.size = pC) := ⟨_, rfl⟩
  rw [hw5.out] at B5 N5
  rw [hpC.out] at N5
  have b35 : Below w3.heap.size w3 w5 := keepF b4 B5
  have M2 := (But.of_below b35 fun _ => False).at u2 (fun c => c)
  have M3 := (But.of_below b35 fun _ => False).at u3 (fun c => c)
  have B35 : Below pA w w5 := u1.trans (b35.mono (by omega))
  have o5 : Ob pA w5 (.slice da dn dc) rdd := owns_lower (ob_but o4 (But.of_below B5 fun _ => False) (fun _ _ c => c)) (by omega)
  have z0 : w5.frozen? ⟨pA + 1, 0, none⟩ = false := by simp [World.frozen?, M3]
  have z1 : w5.frozen? ⟨pA + 1, 1, none⟩ = false := by simp [World.frozen?, M3]
  have q0 : w5.cell? ⟨pA + 1, 0, none⟩ = some (.int .i64 0) := by rw [cell_of M3]; rfl
  have q1 : w5.cell? ⟨pA + 1, 1, none⟩ = some (.slice none 0 0) := by rw [cell_of M3]; rfl
  have x0 : w5.cell? ⟨pA, 0, none⟩ = some (.int .i64 lsn) := by rw [cell_of M2]; rfl
  have v0 : w5.cell? ⟨pC, 0, none⟩ = some (.int .i64 r1) := by rw [cell_of N5]; rfl
  have v1 : w5.cell? ⟨pC, 1, none⟩ = some (.slice da dn dc) := by rw [cell_of N5]; rfl
  have sf : True := trivial
  have ST5 : Hid (Below pA w w5 ∧ w5.heap[pA + 1]? = some (.cells #[.int .i64 0, .slice none 0 0] 78 (0, 0)) ∧ Ob pA w5 (.slice da dn dc) rdd) := hide ⟨B35, M3, o5⟩
  clear u1 u2 u3 u4 B5 N5 b35 M2 M3 B35 o4 o5 b4 ST3 hRd
  go_upto_region 5 with fail
  rw [hw5.out, hpC.out]
  by_cases hre : re = 0
  rotate_left
  ·have ke : (re != 0) = true := by simp [hre]
   have hE : Hid (RF = ((0, []), 0, 0#32, 45)) := hide (by rw [hd2.out, if_pos (.inl hre)])
   have FH := put2_heap ST5.out.2.1 (.int .i64 0) (.slice none 0 0)
   have c0 := (cell_of FH (j := 0)).trans (show (#[Value.int .i64 0, .slice none 0 0] : Array Value)[0]? = some (.int .i64 0) from rfl)
   have c1 := (cell_of FH (j := 1)).trans (show (#[Value.int .i64 0, .slice none 0 0] : Array Value)[1]? = some (.slice none 0 0) from rfl)
   have FB2 := hide (put2_below ST5.out.1 hpp (.int .i64 0) (.slice none 0 0))
   replace hre := hide hre
   clear hd2 FH ST5
   go_wp2_with fail
   try simp only [Exit.inBlock, Exit.then]
   refine bodyPost_ret (v := .tuple #[.agg #[.int .i64 0, .slice none 0 0], .int .i64 0, .int .u32 0, .int .i64 45]) (by simp [results, Try.results61, go_sem, c0, c1]; try rfl) rfl ?_
   rw [hE.out]
   exact ⟨_, rfl, World.ownsRow_nil _ _ _ _, by rw [hpa.out]; exact FB2.out⟩
  subst hre
  by_cases hln : r1 = lsn
  rotate_left
  ·have ke : (r1 != lsn) = true := by simp [hln]
   have hE : Hid (RF = ((0, []), 0, 0#32, 45)) := hide (by rw [hd2.out, if_pos (.inr hln)])
   have FH := put2_heap ST5.out.2.1 (.int .i64 0) (.slice none 0 0)
   have c0 := (cell_of FH (j := 0)).trans (show (#[Value.int .i64 0, .slice none 0 0] : Array Value)[0]? = some (.int .i64 0) from rfl)
   have c1 := (cell_of FH (j := 1)).trans (show (#[Value.int .i64 0, .slice none 0 0] : Array Value)[1]? = some (.slice none 0 0) from rfl)
   have FB2 := hide (put2_below ST5.out.1 hpp (.int .i64 0) (.slice none 0 0))
   replace hln := hide hln
   clear hd2 FH ST5
   go_wp2_with fail
   try simp only [Exit.inBlock, Exit.then]
   refine bodyPost_ret (v := .tuple #[.agg #[.int .i64 0, .slice none 0 0], .int .i64 0, .int .u32 0, .int .i64 45]) (by simp [results, Try.results61, go_sem, c0, c1]; try rfl) rfl ?_
   rw [hE.out]
   exact ⟨_, rfl, World.ownsRow_nil _ _ _ _, by rw [hpa.out]; exact FB2.out⟩
  subst hln
  have hE : Hid (RF = ((r1, rdd), rz, rs, 0)) := hide (by rw [hd2.out, if_neg (by simp)])
  have FH := put2_heap ST5.out.2.1 (.int .i64 r1) (.slice da dn dc)
  have c0 := (cell_of FH (j := 0)).trans (show (#[Value.int .i64 r1, .slice da dn dc] : Array Value)[0]? = some (.int .i64 r1) from rfl)
  have c1 := (cell_of FH (j := 1)).trans (show (#[Value.int .i64 r1, .slice da dn dc] : Array Value)[1]? = some (.slice da dn dc) from rfl)
  have FB2 := hide (put2_below ST5.out.1 hpp (.int .i64 r1) (.slice da dn dc))
  have hno : (Value.slice da dn dc).ownBlock ≠ some (pA + 1) := fun c => by
   rcases ST5.out.2.2.2 with ⟨e, _⟩ | ⟨g, cap, cur, e, hg, hh, r⟩
   ·rw [e] at c; simp [Value.ownBlock] at c
   ·rw [e] at c
    simp [Value.ownBlock] at c
    subst c
    have h9 := ST5.out.2.1
    rw [hh] at h9
    simp at h9
  have FO : Hid (Ob pA ((w5.setCell ⟨pA + 1, 0, none⟩ (.int .i64 r1)).setCell ⟨pA + 1, 1, none⟩ (.slice da dn dc)) (.slice da dn dc) rdd) := hide (ob_but ST5.out.2.2 (X := fun k => k = pA + 1) ((but_sb _ (pA + 1) 0 _ (fun k => k = pA + 1) rfl).trans (but_sb _ (pA + 1) 1 _ (fun k => k = pA + 1) rfl)) (fun k hk c => hno (by rw [← c]; exact hk)))
  clear hd2 FH ST5
  go_wp2_with fail
  try simp only [Exit.inBlock, Exit.then]
  refine bodyPost_ret (v := .tuple #[.agg #[.int .i64 r1, .slice da dn dc], .int .i64 rz, .int .u32 (rs.toNat : Int), .int .i64 0]) (by simp [results, Try.results61, go_sem, c0, c1]; try rfl) rfl ?_
  rw [hE.out]
  exact ⟨_, rfl, by rw [hpa.out]; exact FO.out, by rw [hpa.out]; exact FB2.out⟩
def rlF (s : SG) (S : DS) : Nat → Int → Int → Crc.R → (Int × List UInt8) × Int
 | 0, n, off, seed => ((rfF s S n off seed).1, (rfF s S n off seed).2.2.2)
 | k + 1, n, off, seed => if (rfF s S n off seed).2.2.2 ≠ 0 then ((rfF s S n off seed).1, (rfF s S n off seed).2.2.2) else rlF s S k (n + 1) (off + (rfF s S n off seed).2.1) (rfF s S n off seed).2.2.1
def seedAt (s : SG) (n : Int) : Crc.R := BitVec.ofNat 32 ((sget s.sd n).getD 0).toNat
def rdS (s : SG) (S : DS) (lsn : Int) : (Int × List UInt8) × Int :=
 if lsn < s.base ∨ s.next ≤ lsn then ((0, []), 6)
 else rlF s S (lsn - (Ix.findF s.x.l lsn).1.1).toNat (Ix.findF s.x.l lsn).1.1 (Ix.findF s.x.l lsn).1.2 (seedAt s (Ix.findF s.x.l lsn).1.1)
theorem rd_size {seed : Crc.R} {l : List UInt8} (h : (rdF seed l).2.2.2.2 = 0) : 0 ≤ (rdF seed l).2.2.1 ∧ (rdF seed l).2.2.1 ≤ (l.length : Int) := by
 unfold rdF at h ⊢
 split
 ·rename_i h0
  simp only
  unfold rdE at h0
  split at h0
  ·omega
  ·split at h0
   ·omega
   ·split at h0
    ·omega
    ·split at h0
     ·omega
     ·omega
 ·rename_i h0
  rw [if_neg h0] at h
  exact absurd h h0
theorem fb_len {s : SG} {S : DS} {off : Int} (h : (fbF s S off).2 = 0) (hz : 0 ≤ s.size - off) : ((fbF s S off).1.length : Int) ≤ s.size - off := by
 unfold fbF at h ⊢
 split
 ·simp; omega
 ·split
  ·simp; omega
  ·rename_i h1 h2
   have := read_len S s.file off (szF (stv (S.read s.file off (min 16 (s.size - off))).1 4 (0, 0) : Int))
   have h3 : 0 ≤ szF (stv (S.read s.file off (min 16 (s.size - off))).1 4 (0, 0) : Int) := by unfold szF; split <;> omega
   omega
theorem fb_neg {s : SG} {S : DS} {off : Int} (h : (fbF s S off).2 = 0) : 0 ≤ s.size - off := by
 unfold fbF at h
 split at h
 ·rename_i h1; exact absurd h h1
 ·split at h
  ·simp at h
  ·rename_i h1 h2
   have h3 : 0 ≤ szF (stv (S.read s.file off (min 16 (s.size - off))).1 4 (0, 0) : Int) := by unfold szF; split <;> omega
   omega
theorem rf_size {s : SG} {S : DS} {n off : Int} {seed : Crc.R} (h : (rfF s S n off seed).2.2.2 = 0) : 0 ≤ (rfF s S n off seed).2.1 ∧ off + (rfF s S n off seed).2.1 ≤ s.size := by
 unfold rfF at h ⊢
 by_cases h1 : (fbF s S off).2 ≠ 0
 ·rw [if_pos h1] at h; exact absurd h h1
 ·rw [if_neg h1] at h ⊢
  by_cases h2 : (rdF seed (fbF s S off).1).2.2.2.2 ≠ 0 ∨ (rdF seed (fbF s S off).1).1 ≠ n
  ·rw [if_pos h2] at h; simp at h
  ·rw [if_neg h2]
   simp only
   have hf : (fbF s S off).2 = 0 := by omega
   have h3 := fb_len hf (fb_neg hf)
   have h4 := rd_size (seed := seed) (l := (fbF s S off).1) (by omega)
   omega
theorem find_rng {x : Ix.X} (h : Ix.Ok x) (n : Int) (hn : 0 ≤ n) : 0 ≤ (Ix.findF x.l n).1.1 ∧ (Ix.findF x.l n).1.1 ≤ n ∧ 0 ≤ (Ix.findF x.l n).1.2 ∧ (Ix.findF x.l n).1.2 ≤ 2147483647 := by
 unfold Ix.findF
 cases hg : (x.l.filter fun e => decide (e.1 ≤ n)).getLast? with
 | none => simp only; omega
 | some e =>
  have hm := List.mem_of_getLast? hg
  obtain ⟨h1, h2⟩ := List.mem_filter.1 hm
  have h3 := h.srt.rng e h1
  have h4 : e.1 ≤ n := of_decide_eq_true h2
  simp only
  omega
theorem seed_at {s : SG} (ok : SOk s) (n : Int) : (sget s.sd n).getD 0 = ((seedAt s n).toNat : Int) := by
 have hb : 0 ≤ (sget s.sd n).getD 0 ∧ (sget s.sd n).getD 0 < 4294967296 := by
  unfold sget
  cases hf : s.sd.find? fun p => p.1 == n with
  | none => simp
  | some p => exact ok.d p (List.mem_of_find?_eq_some hf)
 unfold seedAt
 rw [BitVec.toNat_ofNat, Nat.mod_eq_of_lt (by omega)]
 omega
def nAt (w : World) (p : Nat) : Int := match w.cell? ⟨p, 0, none⟩ with | some (.int _ n) => n | _ => 0
theorem readS_any {w : World} {sb : Nat} {s : SG} {S : DS} {O : Nat → Prop} {xb mb : Nat} {v : Value} (h : SW w sb s S O xb mb v) (ok : SOk s) (lsn : Int) (h0 : -9223372036854775808 ≤ lsn) (h1 : lsn ≤ 9223372036854775807) (hbs : 1 ≤ s.base) (hf : s.file.size ≤ maxLen) :
    Calls Try.prog 30 #[.pointer (some ⟨sb, 0, none⟩), .int .i64 lsn] w fun e w' => ∃ vd, e = .returned (.tuple #[.agg #[.int .i64 (rdS s S lsn).1.1, vd], .int .i64 (rdS s S lsn).2]) ∧ Ob w.heap.size w' vd (rdS s S lsn).1.2 ∧ Below w.heap.size w w' := by
 have B1 := box_below w (.cells #[.int .i64 0, .slice none 0 0] 78)
 have N1 := heap_alloc_new w (.cells #[.int .i64 0, .slice none 0 0] 78)
 obtain ⟨w1, hw1⟩ : ∃ w1, Hid (w.alloc (.cells #[.int .i64 0, .slice none 0 0] 78) = w1) := ⟨_, rfl⟩
 rw [hw1.out] at B1 N1
 have H1 := h.below B1
 obtain ⟨y0, y1, y2, y3, y4, y5, y6, y7, y8, y9, y10⟩ := H1.sg.cells
 have hM := hide (made_yes w1 sb s.b y0)
 have z0 : w1.frozen? ⟨w.heap.size, 0, none⟩ = false := by simp [World.frozen?, N1]
 have z1 : w1.frozen? ⟨w.heap.size, 1, none⟩ = false := by simp [World.frozen?, N1]
 have q0 : w1.cell? ⟨w.heap.size, 0, none⟩ = some (.int .i64 0) := by rw [cell_of N1]; rfl
 have q1 : w1.cell? ⟨w.heap.size, 1, none⟩ = some (.slice none 0 0) := by rw [cell_of N1]; rfl
 have ST : Hid (SW w1 sb s S O xb mb v ∧ Below w.heap.size w w1 ∧ w1.heap[w.heap.size]? = some (.cells #[.int .i64 0, .slice none 0 0] 78 (0, 0))) := hide ⟨H1, B1, N1⟩
 obtain ⟨RS, hRS⟩ : ∃ RS, Hid (rdS s S lsn = RS) := ⟨_, rfl⟩
 rw [hRS.out]
 have hFn := hide (Ix.find_any w1 xb s.x v lsn H1.sg.ix ok.x h0 h1)
 have hO0 : Hid (∀ k, O k → k < w.heap.size) := hide h.dk.lt
 have hS0 : Hid (∀ k, SOwn sb xb mb v k → k < w.heap.size) := hide h.sg.lt
 clear B1 N1 H1 h
 generalize hpa : w.heap.size = pA at *
 replace hpa := hide hpa
 by_cases hin : lsn < s.base ∨ s.next ≤ lsn
 ·have hE : Hid (RS = ((0, []), 6)) := hide (by rw [← hRS.out]; unfold rdS; rw [if_pos hin])
  have FH := put2_heap ST.out.2.2 (.int .i64 0) (.slice none 0 0)
  have c0 := (cell_of FH (j := 0)).trans (show (#[Value.int .i64 0, .slice none 0 0] : Array Value)[0]? = some (.int .i64 0) from rfl)
  have c1 := (cell_of FH (j := 1)).trans (show (#[Value.int .i64 0, .slice none 0 0] : Array Value)[1]? = some (.slice none 0 0) from rfl)
  have FB2 := hide (put2_below ST.out.2.1 (Nat.le_refl pA) (.int .i64 0) (.slice none 0 0))
  have hcase : (lsn < s.base) ∨ (¬ lsn < s.base ∧ s.next ≤ lsn) := by omega
  clear FH ST hFn hRS hin
  rcases hcase with hq | ⟨hq, hq2⟩
  all_goals
   go_enter Try.func30, Try.ntmps30
   go_upto_region 1 with fail
   rw [hw1.out, hpa.out]
   go_wp2_with (first | (go_at_call 38; refine hM.out.mono ?_; rintro e w2 ⟨rfl, e1⟩; rw [e1]; clear e1 w2) | fail)
   try simp only [Exit.inBlock, Exit.then]
   refine bodyPost_ret (v := .tuple #[.agg #[.int .i64 0, .slice none 0 0], .int .i64 6]) (by simp [results, Try.results30, go_sem, c0, c1]; try rfl) rfl ?_
   rw [hE.out]
   exact ⟨_, rfl, World.ownsRow_nil _ _ _ _, FB2.out⟩
 have hq : ¬ lsn < s.base := by omega
 have hq2 : ¬ s.next ≤ lsn := by omega
 have hrng := find_rng ok.x lsn (by omega)
 have hsd := seed_at ok (Ix.findF s.x.l lsn).1.1
 have hE : Hid (RS = rlF s S (lsn - (Ix.findF s.x.l lsn).1.1).toNat (Ix.findF s.x.l lsn).1.1 (Ix.findF s.x.l lsn).1.2 (seedAt s (Ix.findF s.x.l lsn).1.1)) := hide (by rw [← hRS.out]; unfold rdS; rw [if_neg hin])
 obtain ⟨FE, hFE⟩ : ∃ FE, Hid (Ix.findF s.x.l lsn = FE) := ⟨_, rfl⟩
 rw [hFE.out] at hrng hsd hE hFn
 obtain ⟨⟨f1, f2⟩, f3⟩ := FE
 unfold Ix.entv at hFn
 simp only at hrng hsd hE hFn
 clear hRS hin
 go_enter Try.func30, Try.ntmps30
 go_upto_region 1 with fail
 rw [hw1.out, hpa.out]
 go_upto_region 5 with (first | (go_at_call 38; refine hM.out.mono ?_; rintro e w2 ⟨rfl, e1⟩; rw [e1]; clear e1 w2) | fail)
 go_wp2_with fail
 go_at_call 60
 refine hFn.out.mono ?_
 rintro e w2 ⟨rfl, b2⟩
 obtain ⟨t1, t2, t3⟩ := ST.out
 have hs1 : pA < w1.heap.size := heap_lt t3
 have B3 := box_below w2 (.cells #[.int .i64 f1, .int .i64 f2] 136)
 have N3 := heap_alloc_new w2 (.cells #[.int .i64 f1, .int .i64 f2] 136)
 obtain ⟨w3, hw3⟩ : ∃ w3, Hid (w2.alloc (.cells #[.int .i64 f1, .int .i64 f2] 136) = w3) := ⟨_, rfl⟩
 obtain ⟨pE, hpE⟩ : ∃ pE, Hid (w2.heap.size = pE) := ⟨_, rfl⟩
 rw [hw3.out] at B3 N3
 rw [hpE.out] at N3
 have b13 : Below w1.heap.size w1 w3 := keepF b2 B3
 have T3 : Hid (SW w3 sb s S O xb mb v ∧ Below pA w w3 ∧ w3.heap[pA]? = some (.cells #[.int .i64 0, .slice none 0 0] 78 (0, 0)) ∧ w3.heap[pE]? = some (.cells #[.int .i64 f1, .int .i64 f2] 136 (0, 0)) ∧ pA < pE ∧ (∀ k, O k → k < pA) ∧ (∀ k, SOwn sb xb mb v k → k < pA)) := hide ⟨t1.below b13, t2.trans (b13.mono (by omega)), (But.of_below b13 fun _ => False).at t3 (fun c => c), N3, by have := b2.size; have := hpE.out; omega, hO0.out, hS0.out⟩
 clear t1 t2 t3 b2 B3 N3 b13 hs1 ST hFn hM y0 y1 y2 y3 y4 y5 y6 y7 y8 y9 y10 z0 z1 q0 q1
 go_upto_region 6 with fail
 rw [hw3.out, hpE.out]
 clear hw1 hw3
 go_cut [8] from 44 to 50 (fun y8 wx => y8 = .int .u32 ((seedAt s f1).toNat : Int) ∧ Hid (Below w3.heap.size w3 wx))
 case first =>
  refine wp_region_T (fun q => Below w3.heap.size w3 q) 7 (by kernel_rfl) ?_
  have KP : Hid (Below w3.heap.size w3 w3.drew) := hide (Below.refl _ _).drew
  generalize w3.drew = q at *
  refine Ix.tk 0 ⟨some 44, .move (.tmp 0), _, _, _, _⟩ (.pointer (some ⟨sb, 0, none⟩)) [7] ?_ KP.out ?_
  ·intro wq hSw
   obtain ⟨y0, y1, y2, y3, y4, y5, y6, y7, y8, y9, y10⟩ := (T3.out.1.below hSw).sg.cells
   have e0 : wq.cell? ⟨pE, 0, none⟩ = some (.int .i64 f1) := by rw [cell_of ((But.of_below hSw fun _ => False).at T3.out.2.2.2.1 (fun c => c))]; rfl
   go_simp
  (try simp only [zzp, zzb, zzc])
  refine Ix.tk 1 ⟨some 45, .nilCheck (.tmp 44), _, _, _, _⟩ (.pointer (some ⟨sb, 0, none⟩)) [7] ?_ KP.out ?_
  ·intro wq hSw
   obtain ⟨y0, y1, y2, y3, y4, y5, y6, y7, y8, y9, y10⟩ := (T3.out.1.below hSw).sg.cells
   have e0 : wq.cell? ⟨pE, 0, none⟩ = some (.int .i64 f1) := by rw [cell_of ((But.of_below hSw fun _ => False).at T3.out.2.2.2.1 (fun c => c))]; rfl
   go_simp
  (try simp only [zzp, zzb, zzc])
  refine Ix.tk 2 ⟨some 46, .fieldAddr 93 (.tmp 45) 8, _, _, _, _⟩ (.pointer (some ⟨sb, 10, none⟩)) [7] ?_ KP.out ?_
  ·intro wq hSw
   obtain ⟨y0, y1, y2, y3, y4, y5, y6, y7, y8, y9, y10⟩ := (T3.out.1.below hSw).sg.cells
   have e0 : wq.cell? ⟨pE, 0, none⟩ = some (.int .i64 f1) := by rw [cell_of ((But.of_below hSw fun _ => False).at T3.out.2.2.2.1 (fun c => c))]; rfl
   go_simp
  (try simp only [zzp, zzb, zzc])
  refine Ix.tk 3 ⟨some 47, .load 91 (.tmp 46), _, _, _, _⟩ (.map (some mb)) [7] ?_ KP.out ?_
  ·intro wq hSw
   obtain ⟨y0, y1, y2, y3, y4, y5, y6, y7, y8, y9, y10⟩ := (T3.out.1.below hSw).sg.cells
   have e0 : wq.cell? ⟨pE, 0, none⟩ = some (.int .i64 f1) := by rw [cell_of ((But.of_below hSw fun _ => False).at T3.out.2.2.2.1 (fun c => c))]; rfl
   go_simp
  (try simp only [zzp, zzb, zzc])
  refine Ix.tk 4 ⟨some 48, .fieldAddr 136 (.tmp 6) 0, _, _, _, _⟩ (.pointer (some ⟨pE, 0, none⟩)) [7] ?_ KP.out ?_
  ·intro wq hSw
   obtain ⟨y0, y1, y2, y3, y4, y5, y6, y7, y8, y9, y10⟩ := (T3.out.1.below hSw).sg.cells
   have e0 : wq.cell? ⟨pE, 0, none⟩ = some (.int .i64 f1) := by rw [cell_of ((But.of_below hSw fun _ => False).at T3.out.2.2.2.1 (fun c => c))]; rfl
   go_simp
  (try simp only [zzp, zzb, zzc])
  refine Ix.tk 5 ⟨some 49, .load 2 (.tmp 48), _, _, _, _⟩ (.int .i64 f1) [7] ?_ KP.out ?_
  ·intro wq hSw
   obtain ⟨y0, y1, y2, y3, y4, y5, y6, y7, y8, y9, y10⟩ := (T3.out.1.below hSw).sg.cells
   have e0 : wq.cell? ⟨pE, 0, none⟩ = some (.int .i64 f1) := by rw [cell_of ((But.of_below hSw fun _ => False).at T3.out.2.2.2.1 (fun c => c))]; rfl
   go_simp
  (try simp only [zzp, zzb, zzc])
  have hlk : ∀ wq, Below w3.heap.size w3 wq → (Instr.lookup 91 (.map (some mb)) (.int .i64 f1) false).run Try.prog wq = .ok (.int .u32 ((seedAt s f1).toNat : Int)) wq := fun wq hq => by
   have := (T3.out.1.below hq).sg.sm.look (n := f1) (by omega) (by omega)
   rw [hsd] at this
   exact this
  refine Ix.tk 6 ⟨some 50, .lookup 91 (.tmp 47) (.tmp 49) false, _, _, _, _⟩ (.int .u32 ((seedAt s f1).toNat : Int)) [7] ?_ KP.out ?_
  ·intro wq hSw
   have hl9 := hlk wq hSw
   go_simp
  (try simp only [zzp, zzb, zzc])
  refine wpAnyT_one (i := 7) (o := ⟨some 8, .assign (.tmp 50), _, _, _, _⟩) (by kernel_rfl) rfl (fun K hK => ?_)
  go_simp
  refine hK.out _ _ (vac (by kernel_rfl)) ?_
  clear hK K
  (try simp only [zzp, zzb, zzc])
  refine wpAnyT_done (by kernel_rfl) ?_ _
  go_wp2_with fail
  go_meet
  case rel => exact ⟨rfl, KP.out⟩
 case rest =>
  obtain ⟨rfl, hcu⟩ := hcut
  have b4 := hcu.out
  clear hcu
  generalize hwc : wc = w4 at *
  clear hwc
  obtain ⟨t1, t2, t3, t4, t5, t6, t7⟩ := T3.out
  have T4 : Hid (SW w4 sb s S O xb mb v ∧ Below pA w w4 ∧ w4.heap[pA]? = some (.cells #[.int .i64 0, .slice none 0 0] 78 (0, 0)) ∧ w4.heap[pE]? = some (.cells #[.int .i64 f1, .int .i64 f2] 136 (0, 0)) ∧ pA < pE ∧ (∀ k, O k → k < pA) ∧ (∀ k, SOwn sb xb mb v k → k < pA)) := hide ⟨t1.below b4, t2.trans (b4.mono (by have := heap_lt t3; omega)), (But.of_below b4 fun _ => False).at t3 (fun c => c), (But.of_below b4 fun _ => False).at t4 (fun c => c), t5, t6, t7⟩
  have z2 := ok.z2
  have OK := hide ok
  clear t1 t2 t3 t4 t5 t6 t7 b4 T3 ok hsd
  generalize seedAt s f1 = sd0 at *
  go_wp2_with fail
  go_loopw [8] (fun v8 wr => ∃ n off : Int, ∃ sd : Crc.R, v8 = .int .u32 (sd.toNat : Int) ∧ 0 ≤ n ∧ n ≤ lsn ∧ 0 ≤ off ∧ off ≤ 2147483647 ∧ Hid (RS = rlF s S (lsn - n).toNat n off sd) ∧ Hid (SW wr sb s S O xb mb v ∧ Below pA w wr ∧ wr.heap[pA]? = some (.cells #[.int .i64 0, .slice none 0 0] 78 (0, 0)) ∧ wr.heap[pE]? = some (.cells #[.int .i64 n, .int .i64 off] 136 (0, 0)))) (fun _ wr => (lsn - nAt wr pE).toNat)
  case atStart => exact ⟨f1, f2, sd0, rfl, hrng.1, hrng.2.1, hrng.2.2.1, hrng.2.2.2, hE.out, T4.out.1, T4.out.2.1, T4.out.2.2.1, T4.out.2.2.2.1⟩
  case round =>
   obtain ⟨n, off, sd, rfl, n0, n1, f0, f9, hRR, QQ⟩ := hrel
   obtain ⟨q1, q2, q3, q4⟩ := QQ.out
   have hrf := hide (readFrame_any q1 OK.out n off sd f0 (by omega) hf)
   have hsz := hide (rf_size (s := s) (S := S) (n := n) (off := off) (seed := sd))
   have e0 : wr.cell? ⟨pE, 0, none⟩ = some (.int .i64 n) := by rw [cell_of q4]; rfl
   have e1 : wr.cell? ⟨pE, 1, none⟩ = some (.int .i64 off) := by rw [cell_of q4]; rfl
   have hn9 : Hid (nAt wr pE = n) := hide (by unfold nAt; rw [e0])
   have hst : Hid (RS = if (rfF s S n off sd).2.2.2 ≠ 0 ∨ n = lsn then ((rfF s S n off sd).1, (rfF s S n off sd).2.2.2) else rlF s S (lsn - (n + 1)).toNat (n + 1) (off + (rfF s S n off sd).2.1) (rfF s S n off sd).2.2.1) := hide (by
    rw [hRR.out]
    by_cases hnl : n = lsn
    ·rw [if_pos (.inr hnl), show (lsn - n).toNat = 0 by omega]; rfl
    ·obtain ⟨k, hk⟩ : ∃ k, (lsn - n).toNat = k + 1 := ⟨(lsn - n).toNat - 1, by omega⟩
     rw [hk, show (lsn - (n + 1)).toNat = k by omega]
     show (if _ then _ else _) = _
     by_cases hee : (rfF s S n off sd).2.2.2 ≠ 0
     ·rw [if_pos hee, if_pos (.inl hee)]
     ·rw [if_neg hee, if_neg (by rintro (c | c); exact hee c; exact hnl c)])
   obtain ⟨RF, hRF⟩ : ∃ RF, Hid (rfF s S n off sd = RF) := ⟨_, rfl⟩
   rw [hRF.out] at hrf hsz hst
   obtain ⟨⟨rl, rd⟩, rz, rs, re⟩ := RF
   simp only at hrf hsz hst
   have KQ : Hid (Below pA w wr ∧ wr.heap[pA]? = some (.cells #[.int .i64 0, .slice none 0 0] 78 (0, 0)) ∧ wr.heap[pE]? = some (.cells #[.int .i64 n, .int .i64 off] 136 (0, 0)) ∧ SW wr sb s S O xb mb v) := hide ⟨q2, q3, q4, q1⟩
   clear q1 q2 q3 q4 QQ hRR
   go_wp2_with fail
   go_at_call 61
   refine hrf.out.mono ?_
   rintro e w5 ⟨vd, rfl, o5, b5⟩
   obtain ⟨da, dn, dc, hvd⟩ := ob_form o5
   subst hvd
   obtain ⟨q2, q3, q4, q1⟩ := KQ.out
   have B6 := box_below w5 (.cells #[.int .i64 rl, .slice da dn dc] 78)
   have N6 := heap_alloc_new w5 (.cells #[.int .i64 rl, .slice da dn dc] 78)
   obtain ⟨w6, hw6⟩ : ∃ w6, Hid (w5.alloc (.cells #[.int .i64 rl, .slice da dn dc] 78) = w6) := ⟨_, rfl⟩
   obtain ⟨pC, hpC⟩ : ∃ pC, Hid (w5.heap.size = pC) := ⟨_, rfl⟩
   rw [hw6.out] at B6 N6
   rw [hpC.out] at N6
   have b56 : Below wr.heap.size wr w6 := keepF b5 B6
   have M3 := (But.of_below b56 fun _ => False).at q3 (fun c => c)
   have M4 := (But.of_below b56 fun _ => False).at q4 (fun c => c)
   have hAw : pA < wr.heap.size := heap_lt q3
   have Bw6 : Below pA w w6 := q2.trans (b56.mono (by omega))
   have o6 : Ob pA w6 (.slice da dn dc) rd := owns_lower (ob_but o5 (But.of_below B6 fun _ => False) (fun _ _ c => c)) (by omega)
   have T6 := q1.below b56
   have v0 : w6.cell? ⟨pC, 0, none⟩ = some (.int .i64 rl) := by rw [cell_of N6]; rfl
   have v1 : w6.cell? ⟨pC, 1, none⟩ = some (.slice da dn dc) := by rw [cell_of N6]; rfl
   have k0 : w6.cell? ⟨pE, 0, none⟩ = some (.int .i64 n) := by rw [cell_of M4]; rfl
   have k1 : w6.cell? ⟨pE, 1, none⟩ = some (.int .i64 off) := by rw [cell_of M4]; rfl
   have z0 : w6.frozen? ⟨pA, 0, none⟩ = false := by simp [World.frozen?, M3]
   have z1 : w6.frozen? ⟨pA, 1, none⟩ = false := by simp [World.frozen?, M3]
   have z3 : w6.frozen? ⟨pE, 0, none⟩ = false := by simp [World.frozen?, M4]
   have z4 : w6.frozen? ⟨pE, 1, none⟩ = false := by simp [World.frozen?, M4]
   have a0 : w6.cell? ⟨pA, 0, none⟩ = some (.int .i64 0) := by rw [cell_of M3]; rfl
   have a1 : w6.cell? ⟨pA, 1, none⟩ = some (.slice none 0 0) := by rw [cell_of M3]; rfl
   have ST6 : Hid (SW w6 sb s S O xb mb v ∧ Below pA w w6 ∧ w6.heap[pA]? = some (.cells #[.int .i64 0, .slice none 0 0] 78 (0, 0)) ∧ w6.heap[pE]? = some (.cells #[.int .i64 n, .int .i64 off] 136 (0, 0)) ∧ Ob pA w6 (.slice da dn dc) rd) := hide ⟨T6, Bw6, M3, M4, o6⟩
   clear q1 q2 q3 q4 B6 N6 b56 M3 M4 hAw Bw6 o6 o5 b5 T6 KQ hrf e0 e1
   go_upto_region 8 with fail
   rw [hw6.out, hpC.out]
   by_cases hend : re ≠ 0 ∨ n = lsn
   ·have hE9 : Hid (RS = ((rl, rd), re)) := hide (by rw [hst.out, if_pos hend])
    have FH := put2_heap ST6.out.2.2.1 (.int .i64 rl) (.slice da dn dc)
    have c0 := (cell_of FH (j := 0)).trans (show (#[Value.int .i64 rl, .slice da dn dc] : Array Value)[0]? = some (.int .i64 rl) from rfl)
    have c1 := (cell_of FH (j := 1)).trans (show (#[Value.int .i64 rl, .slice da dn dc] : Array Value)[1]? = some (.slice da dn dc) from rfl)
    have FB2 := hide (put2_below ST6.out.2.1 (Nat.le_refl pA) (.int .i64 rl) (.slice da dn dc))
    have hno : (Value.slice da dn dc).ownBlock ≠ some pA := fun c => by
     rcases ST6.out.2.2.2.2.2 with ⟨e, _⟩ | ⟨g, cap, cur, e, hg, hh, r⟩
     ·rw [e] at c; simp [Value.ownBlock] at c
     ·rw [e] at c
      simp [Value.ownBlock] at c
      subst c
      have h9 := ST6.out.2.2.1
      rw [hh] at h9
      simp at h9
    have FO : Hid (Ob pA ((w6.setCell ⟨pA, 0, none⟩ (.int .i64 rl)).setCell ⟨pA, 1, none⟩ (.slice da dn dc)) (.slice da dn dc) rd) := hide (ob_but ST6.out.2.2.2.2 (X := fun k => k = pA) ((but_sb _ pA 0 _ (fun k => k = pA) rfl).trans (but_sb _ pA 1 _ (fun k => k = pA) rfl)) (fun k hk c => hno (by rw [← c]; exact hk)))
    have hway : ((re != 0) = true) ∨ (re = 0 ∧ (n == lsn) = true) := by
     by_cases hre : re = 0
     ·rcases hend with c | c
      ·exact absurd hre c
      ·exact .inr ⟨hre, by simp [c]⟩
     ·exact .inl (by simp [hre])
    clear hst hsz FH ST6 hend
    rcases hway with hw | ⟨hr, hw⟩
    ·go_wp2_with fail
     try simp only [Exit.inBlock, Exit.then]
     refine bodyPost_ret (v := .tuple #[.agg #[.int .i64 rl, .slice da dn dc], .int .i64 re]) (by simp [results, Try.results30, go_sem, c0, c1]; try rfl) rfl ?_
     rw [hE9.out]
     exact ⟨_, rfl, FO.out, FB2.out⟩
    ·subst hr
     go_wp2_with fail
     try simp only [Exit.inBlock, Exit.then]
     refine bodyPost_ret (v := .tuple #[.agg #[.int .i64 rl, .slice da dn dc], .int .i64 0]) (by simp [results, Try.results30, go_sem, c0, c1]; try rfl) rfl ?_
     rw [hE9.out]
     exact ⟨_, rfl, FO.out, FB2.out⟩
   ·have hre : re = 0 := by omega
    have hnl : n ≠ lsn := fun c => hend (.inr c)
    subst hre
    have hk : (n == lsn) = false := by simp [hnl]
    have hE9 : Hid (RS = rlF s S (lsn - (n + 1)).toNat (n + 1) (off + rz) rs) := hide (by rw [hst.out, if_neg hend])
    obtain ⟨y1, y2⟩ := hsz.out rfl
    have kw1 : IntKind.i64.wrap (n + 1) = n + 1 := by simp [IntKind.wrap, IntKind.bits, IntKind.signed]; omega
    have kw2 : IntKind.i64.wrap (off + rz) = off + rz := by simp [IntKind.wrap, IntKind.bits, IntKind.signed]; omega
    have hpe : Hid (pA < pE ∧ (∀ k, O k → k < pA) ∧ (∀ k, SOwn sb xb mb v k → k < pA)) := hide T4.out.2.2.2.2
    have BE : But (fun k => k = pE) w6 ((w6.setCell ⟨pE, 0, none⟩ (.int .i64 (n + 1))).setCell ⟨pE, 1, none⟩ (.int .i64 (off + rz))) := (but_sb _ pE 0 _ (fun k => k = pE) rfl).trans (but_sb _ pE 1 _ (fun k => k = pE) rfl)
    have FIN : Hid (SW ((w6.setCell ⟨pE, 0, none⟩ (.int .i64 (n + 1))).setCell ⟨pE, 1, none⟩ (.int .i64 (off + rz))) sb s S O xb mb v ∧ Below pA w ((w6.setCell ⟨pE, 0, none⟩ (.int .i64 (n + 1))).setCell ⟨pE, 1, none⟩ (.int .i64 (off + rz))) ∧ ((w6.setCell ⟨pE, 0, none⟩ (.int .i64 (n + 1))).setCell ⟨pE, 1, none⟩ (.int .i64 (off + rz))).heap[pA]? = some (.cells #[.int .i64 0, .slice none 0 0] 78 (0, 0)) ∧ ((w6.setCell ⟨pE, 0, none⟩ (.int .i64 (n + 1))).setCell ⟨pE, 1, none⟩ (.int .i64 (off + rz))).heap[pE]? = some (.cells #[.int .i64 (n + 1), .int .i64 (off + rz)] 136 (0, 0))) := hide (by
     obtain ⟨u1, u2, u3, u4, u5⟩ := ST6.out
     obtain ⟨p1, p2, p3⟩ := hpe.out
     refine ⟨⟨u1.sg.but BE (fun k hk c => ?_), u1.dk.but BE (fun k hk c => ?_), u1.ap⟩, put2_below u2 (Nat.le_of_lt p1) _ _, BE.at u3 (fun c => ?_), put2_heap u4 _ _⟩
     ·have := p3 k hk; omega
     ·have := p2 k hk; omega
     ·omega)
    have hn8 : Hid (nAt ((w6.setCell ⟨pE, 0, none⟩ (.int .i64 (n + 1))).setCell ⟨pE, 1, none⟩ (.int .i64 (off + rz))) pE = n + 1) := hide (by
     unfold nAt
     rw [cell_of FIN.out.2.2.2]
     rfl)
    replace hend := hide hend
    replace hnl := hide hnl
    clear hst hsz ST6 BE
    go_wp2_with fail
    go_roundw
    case rel => exact ⟨n + 1, off + rz, rs, rfl, by omega, by have := hnl.out; omega, by omega, by omega, hE9.out, FIN.out⟩
    case measure => (show (lsn - nAt _ pE).toNat < (lsn - nAt wr pE).toNat); rw [hn8.out, hn9.out]; have := hnl.out; omega
end Go.Proofs.Ytbmnjaaacodgdaa.Sg
namespace Go.Proofs.Ytbmnjaaacodgdaa
open Go.RowKit
theorem cut2 (a b r : List UInt8) (n m : Nat) (ha : a.length = n) (hb : b.length = m) : ((a ++ (b ++ r)).drop n).take m = b := by
 rw [List.drop_left' ha, List.take_left' hb]
theorem rd_back (seed : Crc.R) (lsn : Nat) (d r : List UInt8) (h1 : 1 ≤ lsn) (h2 : lsn ≤ 9223372036854775806) (hd : d.length ≤ 4096) :
    rdF seed (frm seed lsn d ++ r) = ((lsn : Int), d, 16 + (d.length : Int), fsum seed lsn d, 0) := by
 have e0 : frm seed lsn d ++ r = fx 4 d.length ++ (fx 8 lsn ++ (fmark (fsum seed lsn d) ++ (d ++ r))) := by simp [frm, ffs]
 have n1 : fN (frm seed lsn d ++ r) = d.length := by
  rw [fN, e0, List.take_left' (fx_len 4 _)]
  exact fx_num 4 _ (by simp; omega)
 have n2 : fL (frm seed lsn d ++ r) = lsn := by
  rw [fL, e0, cut2 _ _ _ 4 8 (fx_len _ _) (fx_len _ _)]
  exact fx_num 8 _ (by simp; omega)
 have e1 : frm seed lsn d ++ r = (fx 4 d.length ++ fx 8 lsn) ++ (fmark (fsum seed lsn d) ++ (d ++ r)) := by simp [frm, ffs]
 have n3 : fM (frm seed lsn d ++ r) = (Crc.maskOf (fsum seed lsn d)).toNat := by
  rw [fM, e1, cut2 _ _ _ 12 4 (by simp [fx_len]) (fmark_len _), fmark]
  exact fx_num 4 _ (by have := Crc.lt32 (Crc.maskOf (fsum seed lsn d)); simpa using this)
 have e2 : frm seed lsn d ++ r = (fx 4 d.length ++ (fx 8 lsn ++ fmark (fsum seed lsn d))) ++ (d ++ r) := by simp [frm, ffs]
 have n4 : fD (frm seed lsn d ++ r) = d := by
  rw [fD, n1, e2, cut2 _ _ _ 16 d.length (by simp [fx_len, fmark_len]) rfl]
 have n5 : (frm seed lsn d ++ r).length = 16 + d.length + r.length := by rw [List.length_append, frm_len]
 have e : rdE seed (frm seed lsn d ++ r) = 0 := by
  rw [rdE, n1, n2, n3, n4, n5, if_neg (by omega), if_neg (by omega), if_neg (by omega), if_neg (by omega), if_neg (by simp)]
 rw [rdF, if_pos e, n1, n2, n4]
theorem wrF_ok {seed : Crc.R} {lsn : Int} {d : List UInt8} (h1 : 1 ≤ lsn) (h2 : lsn ≤ 9223372036854775806) (hd : d.length ≤ 4096) : wrF seed lsn d = (frm seed lsn.toNat d, fsum seed lsn.toNat d, 0) := by
 rw [wrF, if_neg (by simp [inB, h1, h2]), if_neg (by omega)]
theorem whF_ok {nm bs : Int} {seed : Crc.R} (h1 : 1 ≤ nm) (h2 : 1 ≤ bs) : whF nm bs seed = (hed nm.toNat bs.toNat seed, hsum nm.toNat bs.toNat seed, 0) := by
 rw [whF, if_neg (by omega)]
end Go.Proofs.Ytbmnjaaacodgdaa
namespace Go.Proofs.Ytbmnjaaacodgdaa.Sg
open Go.RowKit Go.Maps Go.Sort Go.Shelf Go.Proofs.Ytbmnjaaacodgdaa.Nm Go.Proofs.Ytbmnjaaacodgdaa.Dk
def Has (S : DS) (file : ByteArray) (B : List UInt8) : Prop := ∃ p, S.find file = (some p, 0) ∧ (S.F p).by_ = B
theorem Has.read {S : DS} {file : ByteArray} {B : List UInt8} (h : Has S file B) (o n : Nat) (hn : o + n ≤ B.length) : S.read file (o : Int) (n : Int) = ((B.drop o).take n, 0) := by
 obtain ⟨p, e, hB⟩ := h
 unfold DS.read
 rw [e]
 dsimp only
 rw [hB, if_pos (by omega)]
 simp
theorem frm_front (seed : Crc.R) (lsn : Nat) (d r : List UInt8) : (frm seed lsn d ++ r).take 4 = fx 4 d.length := by
 have : frm seed lsn d ++ r = fx 4 d.length ++ (fx 8 lsn ++ (fmark (fsum seed lsn d) ++ (d ++ r))) := by simp [frm, ffs]
 rw [this, List.take_left' (fx_len 4 _)]
theorem rf_at {s : SG} {S : DS} {pre post d : List UInt8} {lsn : Nat} {seed : Crc.R} (h : Has S s.file (pre ++ (frm seed lsn d ++ post))) (hs : s.size = ((pre ++ (frm seed lsn d ++ post)).length : Int)) (h1 : 1 ≤ lsn) (h2 : lsn ≤ 9223372036854775806) (hd : d.length ≤ 4096) :
    rfF s S (lsn : Int) (pre.length : Int) seed = (((lsn : Int), d), 16 + (d.length : Int), fsum seed lsn d, 0) := by
 have hl := frm_len seed lsn d
 have hB : (pre ++ (frm seed lsn d ++ post)).length = pre.length + (16 + d.length + post.length) := by simp [hl]
 have hm : min 16 (s.size - (pre.length : Int)) = ((16 : Nat) : Int) := by rw [hs, hB]; omega
 have hdr : (pre ++ (frm seed lsn d ++ post)).drop pre.length = frm seed lsn d ++ post := by simp
 have r1 := h.read pre.length 16 (by rw [hB]; omega)
 rw [hdr] at r1
 have hst : stv ((frm seed lsn d ++ post).take 16) 4 (0, 0) = d.length := by
  unfold stv
  rw [if_pos ⟨rfl, by simp [hl]; omega⟩]
  simp only [List.drop_zero, List.take_take]
  rw [show min 4 16 = 4 by rfl, frm_front, fx_num 4 _ (Nat.lt_of_le_of_lt hd (by decide))]
 have hsz : szF ((d.length : Nat) : Int) = ((16 + d.length : Nat) : Int) := by unfold szF; rw [if_pos (by omega)]; omega
 have r2 := h.read pre.length (16 + d.length) (by rw [hB]; omega)
 rw [hdr, List.take_left' hl] at r2
 have hfb : fbF s S (pre.length : Int) = (frm seed lsn d, 0) := by
  unfold fbF
  rw [hm, r1]
  simp only
  rw [if_neg (by simp), hst, hsz, if_neg (by rw [hs, hB]; omega), r2]
 have hrd := rd_back seed lsn d [] h1 h2 hd
 rw [List.append_nil] at hrd
 unfold rfF
 rw [hfb]
 simp only
 rw [if_neg (by simp), hrd]
 simp only
 rw [if_neg (by simp)]
theorem wk_step {seed : Crc.R} {n : Int} {ls : List (List UInt8)} {i : Nat} (hi : i < ls.length) (h1 : 1 ≤ n) (h2 : n + (ls.length : Int) ≤ 9223372036854775807) (hd : ∀ d ∈ ls, d.length ≤ 4096) :
    wk seed n ls (i + 1) = ((wk seed n ls i).1 ++ frm (wk seed n ls i).2.2 (n + (i : Int)).toNat (ls.getD i []), (wk seed n ls i).2.1 ++ [((16 + (ls.getD i []).length : Int), ((fsum (wk seed n ls i).2.2 (n + (i : Int)).toNat (ls.getD i [])).toNat : Int))], fsum (wk seed n ls i).2.2 (n + (i : Int)).toNat (ls.getD i [])) := by
 have hm : ls.getD i [] ∈ ls := by simp [List.getD, hi]
 rw [wk, wrF_ok (by omega) (by omega) (hd _ hm)]
 simp only [frm_len]
 congr 3
theorem wk_prefix (seed : Crc.R) (n : Int) (ls ls' : List (List UInt8)) : ∀ i, i ≤ ls.length → wk seed n (ls ++ ls') i = wk seed n ls i
 | 0, _ => rfl
 | i + 1, hi => by
  have e : (ls ++ ls').getD i [] = ls.getD i [] := by simp [List.getD, List.getElem?_append_left (show i < ls.length by omega)]
  rw [wk, wk, wk_prefix seed n ls ls' i (by omega), e]
theorem wk_split {seed : Crc.R} {n : Int} {ls : List (List UInt8)} (h1 : 1 ≤ n) (h2 : n + (ls.length : Int) ≤ 9223372036854775807) (hd : ∀ d ∈ ls, d.length ≤ 4096) (i : Nat) : ∀ j, i + j ≤ ls.length → ∃ post, (wk seed n ls (i + j)).1 = (wk seed n ls i).1 ++ post
 | 0, _ => ⟨[], by simp⟩
 | j + 1, hj => by
  obtain ⟨post, hp⟩ := wk_split h1 h2 hd i j (by omega)
  have := wk_step (seed := seed) (i := i + j) (show i + j < ls.length by omega) h1 h2 hd
  refine ⟨post ++ frm (wk seed n ls (i + j)).2.2 (n + ((i + j : Nat) : Int)).toNat (ls.getD (i + j) []), ?_⟩
  rw [← Nat.add_assoc, this, hp]
  simp
theorem wk_at {seed : Crc.R} {n : Int} {ls : List (List UInt8)} (h1 : 1 ≤ n) (h2 : n + (ls.length : Int) ≤ 9223372036854775807) (hd : ∀ d ∈ ls, d.length ≤ 4096) {i : Nat} (hi : i < ls.length) : ∃ post, (wk seed n ls ls.length).1 = (wk seed n ls i).1 ++ (frm (wk seed n ls i).2.2 (n + (i : Int)).toNat (ls.getD i []) ++ post) := by
 obtain ⟨post, hp⟩ := wk_split (seed := seed) h1 h2 hd (i + 1) (ls.length - (i + 1)) (by omega)
 rw [show i + 1 + (ls.length - (i + 1)) = ls.length by omega] at hp
 refine ⟨post, ?_⟩
 rw [hp, wk_step hi h1 h2 hd]
 simp
theorem rl_at {s : SG} {S : DS} {hd : List UInt8} {sd0 : Crc.R} {ls : List (List UInt8)} (h : Has S s.file (hd ++ (wk sd0 s.base ls ls.length).1)) (hs : s.size = ((hd ++ (wk sd0 s.base ls ls.length).1).length : Int)) (h1 : 1 ≤ s.base) (h2 : s.base + (ls.length : Int) ≤ 9223372036854775807) (hdl : ∀ d ∈ ls, d.length ≤ 4096) : ∀ k i, i + k < ls.length →
    rlF s S k (s.base + (i : Int)) ((hd.length : Int) + ((wk sd0 s.base ls i).1.length : Int)) (wk sd0 s.base ls i).2.2 = ((s.base + ((i + k : Nat) : Int), ls.getD (i + k) []), 0) := by
 have step : ∀ i, i < ls.length → rfF s S (s.base + (i : Int)) ((hd.length : Int) + ((wk sd0 s.base ls i).1.length : Int)) (wk sd0 s.base ls i).2.2 = ((s.base + (i : Int), ls.getD i []), 16 + ((ls.getD i []).length : Int), fsum (wk sd0 s.base ls i).2.2 (s.base + (i : Int)).toNat (ls.getD i []), 0) := fun i hi => by
  obtain ⟨post, hp⟩ := wk_at (seed := sd0) h1 h2 hdl hi
  have hm : ls.getD i [] ∈ ls := by simp [List.getD, hi]
  rw [hp, ← List.append_assoc] at h hs
  have := rf_at (pre := hd ++ (wk sd0 s.base ls i).1) (lsn := (s.base + (i : Int)).toNat) h hs (by omega) (by omega) (hdl _ hm)
  rw [List.length_append, show (((s.base + (i : Int)).toNat : Nat) : Int) = s.base + (i : Int) by omega] at this
  rw [show ((hd.length : Int) + ((wk sd0 s.base ls i).1.length : Int)) = ((hd.length + (wk sd0 s.base ls i).1.length : Nat) : Int) by omega]
  exact this
 intro k
 induction k with
 | zero =>
  intro i hi
  rw [rlF, step i (by omega)]
  simp
 | succ k ih =>
  intro i hi
  rw [rlF, step i (by omega)]
  simp only
  rw [if_neg (by simp)]
  have hw := wk_step (seed := sd0) (i := i) (show i < ls.length by omega) h1 h2 hdl
  have := ih (i + 1) (by omega)
  rw [hw] at this
  simp only [List.length_append, frm_len] at this
  rw [show s.base + (i : Int) + 1 = s.base + ((i + 1 : Nat) : Int) by omega, show ((hd.length : Int) + ((wk sd0 s.base ls i).1.length : Int) + (16 + ((ls.getD i []).length : Int))) = ((hd.length : Int) + (((wk sd0 s.base ls i).1.length + (16 + (ls.getD i []).length) : Nat) : Int)) by omega, this]
  rw [show i + 1 + k = i + (k + 1) by omega]
end Go.Proofs.Ytbmnjaaacodgdaa.Sg
