/-
  DiskSpoils: the walk.
-/
import Derived.Test.YtpphjojehfhbkaaDmC
import Derived.Test.YtpphjojehfhbkaaDmC0
import Derived.Test.YtpphjojehfhbkaaEq
namespace Go.Proofs.Ytpphjojehfhbkaa.Dk
open Go.RowKit Go.Maps Go.Sort Go.Shelf Go.Proofs.Ytpphjojehfhbkaa.Nm

theorem eqD (w : World) (x y : Value) (l m : List UInt8) (hx : Sl w x l) (hy : Sl w y m) : Calls Try.prog 14 #[x, y] w fun e w' => e = .returned (.bool (decide (l = m))) ∧ Below w.heap.size w w' := by
  obtain ⟨ao, ca, rfl, h2, h3, h4, h5⟩ := hx
  obtain ⟨bo, cb, rfl, g2, g3, g4, g5⟩ := hy
  refine (eq_any w ao bo l m ca cb (by omega) (by omega) h5 g5).mono ?_
  rintro e w' ⟨rfl, q⟩
  exact ⟨rfl, Qt.below q _⟩
theorem Ob.sgo {B : Nat} {q w' : World} {v : Value} {l : List UInt8} {O O' : Nat → Prop} (h : Ob B q v l) (hn : ∀ k, v.ownBlock = some k → ¬ O k) (g : Sgo q w' O O') : Ob B w' v l ∧ (∀ k, v.ownBlock = some k → ¬ O' k) := by
  refine ⟨h.but g.but hn, fun k hk c => ?_⟩
  rcases g.own k c with z | z
  · exact hn k hk z
  · have := (h.lt k hk).2; omega
def sF : ByteArray := ⟨#[102]⟩
theorem may_f : may sF.data.toList = true := by decide
def nw1 (M : Int) (s : ByteArray) (p : Nat) : DS := ⟨M, true, [], [.cr s p], [], 1, 0, 0, 0, 0, 0, 0, 1, 0, noF⟩
def nw2 (M : Int) (s : ByteArray) (p : Nat) : DS := ⟨M, true, [(s.data.toList, p)], [], [], 1, 0, 0, 0, 0, 0, 1, 2, 0, noF⟩
theorem nw_create (M : Int) (p : Nat) : (DS.new M).create sF p = (nw1 M sF p, 0) := by
  have e : (DS.new M).create sF p = (⟨M, true, [], [.cr sF p], [], 1, 0, 0, 0, 0, 0, 0, 1, 0, upd noF p ⟨[], [], 0⟩⟩, 0) := by kernel_rfl
  rw [e, upd_noF]
  rfl
theorem nw_sync (M : Int) (p : Nat) : (nw1 M sF p).syncDir = (nw2 M sF p, 0) := by kernel_rfl
theorem nw_one (M : Nat) (p : Nat) : One (nw2 (M : Int) sF p) sF M p ⟨[], [], 0⟩ 2 [] := ⟨rfl, rfl, rfl, rfl, rfl, rfl, rfl, Nat.le_refl _⟩
/-- A disk of one file, in memory that was not there at w. -/
structure OI (w q : World) (b : Nat) (S : DS) (O : Nat → Prop) (p : Nat) (t : Fl) (c : Int) (l : Ar) : Prop where
  d : DskE q b S O
  o : One S sF 1048576 p t c l
  bel : Below w.heap.size w q
  lo : ∀ k, O k → w.heap.size ≤ k
theorem OI.below {w q q' : World} {b : Nat} {S : DS} {O : Nat → Prop} {p : Nat} {t : Fl} {c : Int} {l : Ar} (h : OI w q b S O p t c l) (hb : Below q.heap.size q q') : OI w q' b S O p t c l :=
  ⟨h.d.below hb, h.o, h.bel.trans (hb.mono h.bel.size), h.lo⟩
theorem OI.step {w q q' : World} {b : Nat} {S S' : DS} {O O' : Nat → Prop} {p : Nat} {t t' : Fl} {c c' : Int} {l l' : Ar} (h : OI w q b S O p t c l) (hd : DskE q' b S' O') (ho : One S' sF 1048576 p t' c' l') (hg : Sgo q q' O O') : OI w q' b S' O' p t' c' l' :=
  ⟨hd, ho, hg.under h.lo (Nat.le_refl _) h.bel, hg.low h.bel.size h.lo⟩
theorem fts_one {w : World} {g : Nat} {a k p : Int} {T : TypeId} {z : Nat × Nat} (h : w.heap[g]? = some (.cells #[.int .i64 a, .int .i64 k, .int .i64 p] T z)) : Fts w (.slice (some ⟨g, 0, none⟩) 1 1) [(a, k, p)] := by
  refine ⟨some ⟨g, 0, none⟩, 1, rfl, Nat.le_refl _, by decide, fun i hi => ?_⟩
  obtain rfl : i = 0 := by simp at hi; omega
  exact ⟨g, 0, rfl, by simp [World.cell?, h], by simp [World.cell?, h], by simp [World.cell?, h]⟩
theorem syF_ap (t : Fl) (D : List UInt8) (h : t.la = t.by_) (h0 : t.sp = 0) : syF (apF t D) = ⟨t.by_ ++ D, t.by_ ++ D, 0⟩ := by
  obtain ⟨x, y, z⟩ := t
  dsimp only at h h0
  subst h h0
  exact syF_plain y D
set_option maxRecDepth 100000 in
set_option maxHeartbeats 8000000 in
theorem spoils_walk (w : World) (va vb vc : Value) (A B C : List UInt8) (ha : Sl w va A) (hb : Sl w vb B) (hc : Sl w vc C) :
    Calls Try.prog 3 #[va, vb, vc] w fun e w' => e = .returned (.bool true) ∧ Below w.heap.size w w' := by
  have hB := begun_any w
  have SA := hide ha
  have SB := hide hb
  have SC := hide hc
  obtain ⟨aa, ca, rfl, _, a3, a4, _⟩ := ha
  obtain ⟨ab, cb, rfl, _, b3, b4, _⟩ := hb
  obtain ⟨ac, cc, rfl, _, c3, c4, _⟩ := hc
  have a4' : ca ≤ 9223372036854775807 := by unfold maxLen at a4; omega
  have b4' : cb ≤ 9223372036854775807 := by unfold maxLen at b4; omega
  have c4' : cc ≤ 9223372036854775807 := by unfold maxLen at c4; omega
  clear a4 b4 c4
  by_cases k1 : (A.length : Int) > 5000
  · go_enter Try.func3, Try.ntmps3
    go_wp2_with (go_at_call 6; refine hB.mono ?_; rintro e w0 ⟨rfl, b0⟩; replace b0 := hide b0)
    go_ret
    exact ⟨rfl, b0.out⟩
  by_cases k2 : (B.length : Int) > 5000
  · go_enter Try.func3, Try.ntmps3
    go_wp2_with (go_at_call 6; refine hB.mono ?_; rintro e w0 ⟨rfl, b0⟩; replace b0 := hide b0)
    go_ret
    exact ⟨rfl, b0.out⟩
  by_cases k3 : (C.length : Int) > 5000
  · go_enter Try.func3, Try.ntmps3
    go_wp2_with (go_at_call 6; refine hB.mono ?_; rintro e w0 ⟨rfl, b0⟩; replace b0 := hide b0)
    go_ret
    exact ⟨rfl, b0.out⟩
  have hs1 : sF.size ≤ 140737488355328 := by decide
  have hs3 : sF.size ≤ maxLen := by decide
  have hN : Hid (∀ q, _) := fun q => new_dsk q 1048576 (by decide) (by decide)
  have hC1 : Hid (∀ q b O, DskE q b (DS.new 1048576) O → Calls Try.prog 8 #[.pointer (some ⟨b, 0, none⟩), .string ⟨#[102]⟩] q fun e w' => ∃ p, e = .returned (.int .i64 0) ∧ ∃ O', DskE w' b (nw1 1048576 sF p) O' ∧ Sgo q w' O O') := fun q b O h => by
    refine (create_dsk h sF hs1 (by show (0 : Int) < _; decide)).mono ?_
    rintro e w' ⟨p, _, _, he, hd⟩
    rw [nw_create] at he hd
    exact ⟨p, he, hd⟩
  have hD1 : Hid (∀ q b O p, DskE q b (nw1 1048576 sF p) O → Below w.heap.size w q → (∀ k, O k → w.heap.size ≤ k) → Calls Try.prog 9 #[.pointer (some ⟨b, 0, none⟩)] q fun e w' => e = .returned (.int .i64 0) ∧ ∃ S O', OI w w' b S O' p ⟨[], [], 0⟩ 2 []) := fun q b O p h hbe hlo => by
    have := syncDir_dsk h (by show (1 : Int) < _; decide)
    rw [nw_sync] at this
    refine this.mono ?_
    rintro e w' ⟨rfl, O', hd, hg⟩
    exact ⟨rfl, _, O', hd, nw_one 1048576 p, hg.under hlo (Nat.le_refl _) hbe, hg.low hbe.size hlo⟩
  have hAp : Hid (∀ q b S O p t c v D, OI w q b S O p t c [] → c < 100 → Sl w v D → t.by_.length + D.length ≤ 1048576 → Calls Try.prog 10 #[.pointer (some ⟨b, 0, none⟩), .string ⟨#[102]⟩, v] q fun e w' => e = .returned (.tuple #[.int .i64 (D.length : Int), .int .i64 0]) ∧ ∃ S' O', OI w w' b S' O' p (apF t D) (c + 1) []) := fun q b S O p t c v D h hc hv hl => by
    refine (append_dsk h.d sF hs3 v D (Below.sl h.bel hv) (soff_of hv h.lo) (by rw [h.o.c7]; omega)).mono ?_
    rintro e w' ⟨he, O', hd, hg⟩
    obtain ⟨q1, q2, q3⟩ := h.o.append may_f D hl
    rw [q1, q2] at he
    exact ⟨he, _, O', h.step hd q3 hg⟩
  have hSy : Hid (∀ q b S O p t c, OI w q b S O p t c [] → c < 100 → (syF t).la.length ≤ t.by_.length → Calls Try.prog 11 #[.pointer (some ⟨b, 0, none⟩), .string ⟨#[102]⟩] q fun e w' => e = .returned (.int .i64 0) ∧ ∃ S' O', OI w w' b S' O' p (syF t) (c + 1) [] ∧ Sgo q w' O O') := fun q b S O p t c h hc hl => by
    obtain ⟨f, g, pd, am, VB, VL, hh⟩ := h.d
    refine (syncF_any hh sF hs3 (by rw [h.o.c7]; omega)).mono ?_
    rintro e w' ⟨he, O', hd, hg⟩
    obtain ⟨q1, q2⟩ := h.o.sync may_f hl
    rw [q1] at he
    exact ⟨he, _, O', h.step hd q2 hg, hg⟩
  have hSf : Hid (∀ q b S O p t c, OI w q b S O p t c [(c + 1, (1, 1, 0))] → c < 100 → Calls Try.prog 11 #[.pointer (some ⟨b, 0, none⟩), .string ⟨#[102]⟩] q fun e w' => e = .returned (.int .i64 20) ∧ ∃ S' O', OI w w' b S' O' p (spF t) (c + 1) []) := fun q b S O p t c h hc => by
    obtain ⟨f, g, pd, am, VB, VL, hh⟩ := h.d
    refine (syncF_any hh sF hs3 (by rw [h.o.c7]; omega)).mono ?_
    rintro e w' ⟨he, O', hd, hg⟩
    obtain ⟨q1, q2⟩ := h.o.fail may_f
    rw [q1] at he
    exact ⟨he, _, O', h.step hd q2 hg⟩
  have hAr : Hid (∀ q b S O p t c v, OI w q b S O p t c [] → c < 100 → Fts q v [(1, 1, 0)] → Calls Try.prog 12 #[.pointer (some ⟨b, 0, none⟩), v] q fun e w' => e = .returned (.int .i64 0) ∧ ∃ S' O', OI w w' b S' O' p t c [(c + 1, (1, 1, 0))]) := fun q b S O p t c v h hc hv => by
    obtain ⟨f, g, pd, am, VB, VL, hh⟩ := h.d
    refine (arm_any hh (by rw [h.o.c7]; omega) v _ hv (by simp)).mono ?_
    rintro e w' ⟨he, O', hd, hg⟩
    obtain ⟨q1, q2⟩ := h.o.arm
    rw [q1] at he
    exact ⟨he, _, O', h.step hd q2 hg⟩
  have hRd : Hid (∀ q b S O p t c l n, OI w q b S O p t c l → (n : Int) = (t.by_.length : Int) → Calls Try.prog 13 #[.pointer (some ⟨b, 0, none⟩), .string ⟨#[102]⟩, .int .i64 0, .int .i64 n] q fun e w' => ∃ v, e = .returned (.tuple #[v, .int .i64 0]) ∧ Ob q.heap.size w' v t.by_ ∧ Below q.heap.size q w') := fun q b S O p t c l n h hn => by
    have := read_dsk h.d sF hs3 0 n
    rw [hn, h.o.read may_f] at this
    rw [hn]
    exact this
  have hCr : Hid (∀ q b S O p t c l, OI w q b S O p t c l → c < 100 → Calls Try.prog 15 #[.pointer (some ⟨b, 0, none⟩), .agg #[.int .i64 0, .slice none 0 0]] q fun e w' => e = .returned (.tuple #[]) ∧ ∃ S' O', OI w w' b S' O' p (crFl t (0, [])) c []) := fun q b S O p t c l h hc => by
    refine (crash_dsk h.d (by rw [h.o.c7]; omega) 0 (by decide) (by decide) (.slice none 0 0) (fun _ => False) [] ⟨none, 0, rfl, Nat.le_refl _, Nat.zero_le _, fun i hi => by simp at hi⟩ (fun k hk => hk.elim)).mono ?_
    rintro e w' ⟨rfl, O', hd, hg⟩
    exact ⟨rfl, _, O', h.step hd h.o.crash hg⟩
  clear hs1 hs3
  have lA : A.length ≤ 5000 := by omega
  have lB : B.length ≤ 5000 := by omega
  have lC : C.length ≤ 5000 := by omega
  replace lA := hide lA
  replace lB := hide lB
  replace lC := hide lC
  have e4 : Hid (syF (apF ⟨[], [], 0⟩ A) = ⟨A, A, 0⟩) := by show _ = _; rw [syF_ap _ _ rfl rfl]; rfl
  go_enter Try.func3, Try.ntmps3
  go_upto_region 11 with (first
    | (go_at_call 6; refine hB.mono ?_; rintro e w0 ⟨rfl, b0⟩; replace b0 := hide b0)
    | (go_at_call 7; refine (hN.out _).mono ?_; rintro e w1 ⟨db, O1, rfl, D1, B1, L1⟩; replace D1 := hide D1; have E1 := hide (b0.out.trans (B1.mono b0.out.size)); have L1' : Hid (∀ k, O1 k → w.heap.size ≤ k) := (fun k hk => Nat.le_trans b0.out.size (L1 k hk)); clear L1 B1)
    | (go_at_call 8; refine (hC1.out _ _ _ D1.out).mono ?_; rintro e w2 ⟨p, rfl, O2, D2, G2⟩; replace D2 := hide D2; have E2 := hide (G2.under L1'.out (Nat.le_refl _) E1.out); have L2 := hide (G2.low E1.out.size L1'.out); clear G2)
    | (go_at_call 9; refine (hD1.out _ _ _ _ D2.out E2.out L2.out).mono ?_; rintro e w3 ⟨rfl, S3, O3, I3⟩; replace I3 := hide I3)
    | (go_at_call 10; refine (hAp.out _ _ _ _ _ _ _ _ _ I3.out (by omega) SA.out (by have := lA.out; simp; omega)).mono ?_; rintro e w4 ⟨rfl, S4, O4, I4⟩; replace I4 := hide I4)
    | (go_at_call 11; refine (hSy.out _ _ _ _ _ _ _ I4.out (by omega) (by rw [e4.out]; simp [apF])).mono ?_; rw [e4.out]; rintro e w5 ⟨rfl, S5, O5, I5, _⟩; replace I5 := hide I5))
  clear hB hN hC1 hD1 b0 D1 E1 L1' D2 E2 L2 I3 I4
  have e5 : Hid (apF ⟨A, A, 0⟩ B = ⟨A ++ B, A, 0⟩) := rfl
  have e7 : Hid (spF ⟨A ++ B, A, 0⟩ = ⟨A ++ B, A, B.length⟩) := by show _ = _; simp [spF]
  have e8 : Hid (apF ⟨A ++ B, A, B.length⟩ C = ⟨A ++ B ++ C, A, B.length⟩) := rfl
  have e9 : Hid (syF ⟨A ++ B ++ C, A, B.length⟩ = ⟨A ++ B ++ C, A ++ List.replicate B.length 0 ++ C, 0⟩) := syF_spoilt A B C
  have eC : Hid (crFl ⟨A ++ B ++ C, A ++ List.replicate B.length 0 ++ C, 0⟩ (0, []) = ⟨A ++ List.replicate B.length 0 ++ C, A ++ List.replicate B.length 0 ++ C, 0⟩) := crF_whole _ _ (by simp)
  go_upto_region 14 with (first
    | (go_at_call 10; refine (hAp.out _ _ _ _ _ _ _ _ _ I5.out (by omega) SB.out (by have := lA.out; have := lB.out; simp; omega)).mono ?_; rw [e5.out]; rintro e w6 ⟨rfl, S6, O6, I6⟩; replace I6 := hide (I6.below (box_below w6 (.cells #[.int .i64 1, .int .i64 1, .int .i64 0] 33))); have F6 := hide (fts_one (heap_alloc_new w6 (.cells #[.int .i64 1, .int .i64 1, .int .i64 0] 33))))
    | (go_at_call 12; refine (hAr.out _ _ _ _ _ _ _ _ I6.out (by omega) F6.out).mono ?_; rintro e w7 ⟨rfl, S7, O7, I7⟩; replace I7 := hide I7)
    | (go_at_call 11; refine (hSf.out _ _ _ _ _ _ _ I7.out (by omega)).mono ?_; rw [e7.out]; rintro e w8 ⟨rfl, S8, O8, I8⟩; replace I8 := hide I8))
  clear I5 I6 F6 I7 hSf hAr
  go_upto_region 15 with (go_at_call 10; refine (hAp.out _ _ _ _ _ _ _ _ _ I8.out (by omega) SC.out (by have := lA.out; have := lB.out; have := lC.out; simp; omega)).mono ?_; rw [e8.out]; rintro e w9 ⟨rfl, S9, O9, I9⟩; replace I9 := hide I9)
  clear I8 hAp
  have GB : Hid (∀ (q q' : World) (v : Value), q.grownBy q' v.ownBlock → (∀ k, v.ownBlock = some k → w9.heap.size ≤ k) → Below w9.heap.size w9 q → Below w9.heap.size w9 q') := fun q q' v g hk hq => hq.grown g hq.size hk
  have LL : Hid (∀ (q : World) (v : Value) (l : List UInt8), Ob w9.heap.size q v l → ∀ k, v.ownBlock = some k → w9.heap.size ≤ k) := fun q v l h k hk => (h.lt k hk).1
  have LQ : Hid (∀ q : World, Below w9.heap.size w9 q → Below w.heap.size w q) := fun q hq => I9.out.bel.trans (hq.mono I9.out.bel.size)
  obtain ⟨v10, w10, r10, Q10, G10, _⟩ := run_app (Ob.nil w9.heap.size w9) (Below.sl I9.out.bel SA.out) (by have := lA.out; simp; omega) (Nat.le_refl _) 22
  have X10 := GB.out _ _ _ G10 (fun k hk => by simp [Value.ownBlock] at hk) (Below.refl _ _)
  rw [List.nil_append] at Q10
  obtain ⟨v11, w11, r11, Q11, G11, _⟩ := run_app Q10 (Below.sl (LQ.out _ X10) SB.out) (by have := lA.out; have := lB.out; omega) X10.size 22
  have X11 := GB.out _ _ _ G11 (LL.out _ _ _ Q10) X10
  obtain ⟨v12, w12, r12, Q12, G12, _⟩ := run_app Q11 (Below.sl (LQ.out _ X11) SC.out) (by have := lA.out; have := lB.out; have := lC.out; simp; omega) X11.size 22
  have X12 := GB.out _ _ _ G12 (LL.out _ _ _ Q11) X11
  replace Q12 := hide Q12
  replace X12 := hide X12
  clear Q10 Q11 G10 G11 G12 X10 X11
  go_upto_region 16 with (first
    | (at_builtin; refine Lib.wpList_append_run _ rfl (.const (.slice none 0 0)) (.tmp 55) 22 22 rfl _ _ rfl rfl _ _ r10 ?_)
    | (at_builtin; refine Lib.wpList_append_run _ rfl (.tmp 56) (.tmp 57) 22 22 rfl _ _ rfl rfl _ _ r11 ?_)
    | (at_builtin; refine Lib.wpList_append_run _ rfl (.tmp 58) (.tmp 59) 22 22 rfl _ _ rfl rfl _ _ r12 ?_))
  clear r10 r11 r12 GB LL
  have I12 := hide (I9.out.below X12.out)
  have N12 : Hid (∀ k, v12.ownBlock = some k → ¬ O9 k) := fun k hk c => by have q1 := (Q12.out.lt k hk).1; have q2 := I9.out.d.lt k c; omega
  obtain ⟨o12, c12, ev12, _, _⟩ := Q12.out.form
  subst ev12
  have hlen : Hid ((((A ++ B ++ C).length : Nat) : Int) = (((⟨A ++ B ++ C, A, B.length⟩ : Fl).by_.length : Nat) : Int)) := rfl
  obtain ⟨T, hT⟩ : ∃ T, Hid (A ++ B ++ C = T) := ⟨_, rfl⟩
  have lT : T.length ≤ 15000 := by have := lA.out; have := lB.out; have := lC.out; rw [← hT.out]; simp; omega
  rw [hT.out] at Q12 I12 N12 e9 eC ⊢
  go_upto_region 17 with (go_at_call 13; refine (hRd.out _ _ _ _ _ _ _ _ _ I12.out rfl).mono ?_; rintro e w13 ⟨v13, rfl, Q13, B13⟩; replace Q13 := hide Q13; replace B13 := hide B13; have I13 := hide (I12.out.below B13.out); have T13 := hide (Q12.out.below B13.out))
  have hEq := eqD w13 v13 _ _ _ Q13.out.sl T13.out.sl
  rw [show decide (T = T) = true by simp] at hEq
  go_upto_region 19 with (first
    | (go_at_call 14; refine hEq.mono ?_; rintro e w14 ⟨rfl, B14⟩; replace B14 := hide B14; have I14 := hide (I13.out.below B14.out); have T14 := hide (T13.out.below B14.out))
    | (go_at_call 11; refine (hSy.out _ _ _ _ _ _ _ I14.out (by omega) (by rw [e9.out, ← hT.out]; simp)).mono ?_; rw [e9.out]; rintro e w15 ⟨rfl, S15, O15, I15, G15⟩; replace I15 := hide I15; have T15 := hide (T14.out.sgo N12.out G15); clear G15))
  clear hEq I12 I13 I14 T13 T14 Q13 hSy
  go_upto_region 20 with (go_at_call 13; refine (hRd.out _ _ _ _ _ _ _ _ _ I15.out rfl).mono ?_; rintro e w16 ⟨v16, rfl, Q16, B16⟩; replace Q16 := hide Q16; replace B16 := hide B16; have I16 := hide (I15.out.below B16.out); have T16 := hide (T15.out.1.below B16.out))
  have hEq := eqD w16 v16 _ _ _ Q16.out.sl T16.out.sl
  rw [show decide (T = T) = true by simp] at hEq
  go_upto_region 23 with (first
    | (go_at_call 14; refine hEq.mono ?_; rintro e w17 ⟨rfl, B17⟩; replace B17 := hide B17; have I17 := hide (I16.out.below B17.out))
    | (go_at_call 15; refine (hCr.out _ _ _ _ _ _ _ _ I17.out (by omega)).mono ?_; rw [eC.out]; rintro e w18 ⟨rfl, S18, O18, I18⟩; replace I18 := hide I18))
  clear hEq I15 I16 I17 T15 T16 Q16 hCr LQ Q12 N12 I9 X12
  have GB : Hid (∀ (q q' : World) (v : Value), q.grownBy q' v.ownBlock → (∀ k, v.ownBlock = some k → w18.heap.size ≤ k) → Below w18.heap.size w18 q → Below w18.heap.size w18 q') := fun q q' v g hk hq => hq.grown g hq.size hk
  have LL : Hid (∀ (q : World) (v : Value) (l : List UInt8), Ob w18.heap.size q v l → ∀ k, v.ownBlock = some k → w18.heap.size ≤ k) := fun q v l h k hk => (h.lt k hk).1
  have LQ : Hid (∀ q : World, Below w18.heap.size w18 q → Below w.heap.size w q) := fun q hq => I18.out.bel.trans (hq.mono I18.out.bel.size)
  obtain ⟨v20, w20, r20, Q20, G20, _⟩ := run_app (Ob.nil w18.heap.size w18) (Below.sl I18.out.bel SA.out) (by have := lA.out; simp; omega) (Nat.le_refl _) 22
  have X20 := GB.out _ _ _ G20 (fun k hk => by simp [Value.ownBlock] at hk) (Below.refl _ _)
  rw [List.nil_append] at Q20
  obtain ⟨v21, w21, r21, Q21, G21⟩ := run_zeros Q20 B.length (by have := lA.out; have := lB.out; omega) X20.size 22
  have X21 := GB.out _ _ _ G21 (LL.out _ _ _ Q20) X20
  obtain ⟨v22, w22, r22, Q22, G22, _⟩ := run_app Q21 (Below.sl (LQ.out _ X21) SC.out) (by have := lA.out; have := lB.out; have := lC.out; simp; omega) X21.size 22
  have X22 := GB.out _ _ _ G22 (LL.out _ _ _ Q21) X21
  replace Q22 := hide Q22
  replace X22 := hide X22
  clear Q20 Q21 G20 G21 G22 X20 X21
  go_upto_region 24 with (first
    | (at_builtin; refine Lib.wpList_append_run _ rfl (.const (.slice none 0 0)) (.tmp 91) 22 22 rfl _ _ rfl rfl _ _ r20 ?_)
    | (at_builtin; refine Lib.wpList_append_run _ rfl (.tmp 92) (.tmp 94) 22 3 rfl _ _ rfl rfl _ _ r21 ?_)
    | (at_builtin; refine Lib.wpList_append_run _ rfl (.tmp 95) (.tmp 96) 22 22 rfl _ _ rfl rfl _ _ r22 ?_))
  clear r20 r21 r22 GB LL
  have I22 := hide (I18.out.below X22.out)
  obtain ⟨o22, c22, ev22, _, _⟩ := Q22.out.form
  subst ev22
  obtain ⟨U, hU⟩ : ∃ U : List UInt8, Hid (A ++ List.replicate B.length (0 : UInt8) ++ C = U) := ⟨_, rfl⟩
  have lU : U.length ≤ 15000 := by have := lA.out; have := lB.out; have := lC.out; rw [← hU.out]; simp; omega
  rw [hU.out] at Q22 I22 ⊢
  go_upto_region 25 with (go_at_call 13; refine (hRd.out _ _ _ _ _ _ _ _ _ I22.out rfl).mono ?_; rintro e w23 ⟨v23, rfl, Q23, B23⟩; replace Q23 := hide Q23; replace B23 := hide B23; have I23 := hide (I22.out.below B23.out); have T23 := hide (Q22.out.below B23.out))
  have hEq := eqD w23 v23 _ _ _ Q23.out.sl T23.out.sl
  rw [show decide (U = U) = true by simp] at hEq
  go_wp2_with (go_at_call 14; refine hEq.mono ?_; rintro e w24 ⟨rfl, B24⟩; replace B24 := hide B24)
  go_ret
  exact ⟨rfl, I23.out.bel.trans (B24.out.mono I23.out.bel.size)⟩
#print axioms spoils_walk
end Go.Proofs.Ytpphjojehfhbkaa.Dk
