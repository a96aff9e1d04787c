/-
  room: how many more bytes fit.
-/
import Derived.Test.YtjehpijjneghpaaGreatM09
namespace Go.Proofs.YtjehpijjneghpaaGreat.Dk
open Go.RowKit Go.Maps Go.Proofs.YtjehpijjneghpaaGreat.Nm
def DS.room (S : DS) : Int := max (S.most - (sumL S.F S.dir : Int)) 0
theorem DS.ok.sum {S : DS} (h : S.ok) (hc : S.c7 < 1000000000) : (sumL S.F S.dir : Int) ≤ 16777216000000000 := by
  have h1 := sumL_le S.F S.dir fun e he => h.sz e.2 (runs_mem (List.mem_map.2 ⟨e, he, rfl⟩))
  obtain ⟨d1, _, _⟩ := dir_len h hc
  have : S.dir.length * 16777216 ≤ 1000000000 * 16777216 := Nat.mul_le_mul_right _ (by omega)
  omega
set_option maxRecDepth 100000 in
theorem room_any {w : World} {b : Nat} {S : DS} {O : Nat → Prop} {f g : Nat} {pd : Value} {am : Option Nat} {VB VL : Nat → Value} (h : Dsk w b S O f g pd am VB VL) (hc : S.c7 < 1000000000) :
    Calls Tryz.prog 76 #[.pointer (some ⟨b, 0, none⟩)] w fun e w' => e = .returned (.int .i64 S.room) ∧ Below w.heap.size w w' := by
  have c0 : w.cell? ⟨b, 0, none⟩ = some (.int .i64 S.most) := h.dk.box.cells.1
  have c2 : w.cell? ⟨b, 2, none⟩ = some (.map (some f)) := h.dk.box.cells.2.2.1
  have hown : w.ownsMap Tryz.prog TS ptrR f S.dir.length (dirD S.dir) := h.dk.mf
  have hsum := h.ok.sum hc
  have hmost := h.ok.most
  have hkeys := hide h.dk.mf.keys
  have hfl := hide h.dk.mf.lt
  have hF : Hid (∀ q p k, Below w.heap.size w q → get S.dir k = some p → ∃ ao ca, q.cell? ⟨p, 0, none⟩ = some (.slice ao (S.F p).by_.length ca)) := fun q p k hq hp => by
    have hf := (h.fs.at_ p (DS.mem_dir hp)).below hq
    obtain ⟨ao, ca, e, _⟩ := hf.b.form
    exact ⟨ao, ca, by rw [← e]; exact (cells3 hf.box).1⟩
  have hroom : Hid (max (S.most - (sumL S.F S.dir : Int)) 0 = S.room) := rfl
  have hss := hide (leftS_start S.F S.dir)
  have hse : Hid (∀ left : Lit → Bool, (∀ kl, left kl = false) → leftS S.F S.dir left = 0) := fun left hl => leftS_end S.F S.dir hl
  have hst : Hid (∀ (left : Lit → Bool) k p, get S.dir k = some p → left (.string k) = true → leftS S.F S.dir left = leftS S.F S.dir (fun z => left z && !z.sameKey (.string k)) + (S.F p).by_.length) := fun left k p hg hl => leftS_step S.F hkeys.out hg hl
  have hsl : Hid (∀ left : Lit → Bool, leftS S.F S.dir left ≤ sumL S.F S.dir) := fun left => leftS_le S.F S.dir left
  have hhas : Hid (∀ k, Maps.has (dirD S.dir) (.string k) = true → (get S.dir k).isSome = true) := fun k hk => by rw [← dirD_has]; exact hk
  have hrg : Hid (∀ (x : ByteArray) (c : Option Nat) (y : DataW Unit × List MemPlace), (∀ zd, (dirD S.dir).atKey (.string x.data.toList) zd = y.1) → ptrR (.pointer (c.map fun b => ⟨b, 0, none⟩)) = some y → (get S.dir x.data.toList).isSome = true → ∃ p, c = some p ∧ get S.dir x.data.toList = some p) := fun x c y h1 h2 h3 => round_get h1 h2 h3
  generalize S.dir = l at *
  generalize hSM : S.most = M at *
  obtain ⟨N, hN⟩ : ∃ N : Nat, sumL S.F l = N := ⟨_, rfl⟩
  rw [hN] at hss hsl hsum hroom
  generalize S.room = R at *
  generalize S.F = F at *
  clear h hN hkeys hSM
  go_enter Tryz.func76, Tryz.ntmps76
  go_wp2_with (first
    | (at_range; refine wpList_range_own _ rfl _ TM rfl TS TF keyS undM ptrR f l.length (dirD l) rfl hown ?_; intro w0 hrg0 hg0 hs0)
    | go_in)
  go_frame
  go_loopw [3] (fun v wr => ∃ (left : Lit → Bool) (cnt : Nat), wr.ranges Tryz.prog TS ptrR f w.heap.size l.length (dirD l) left cnt ∧ v = .int .i64 (M - (N : Int) + (leftS F l left : Int)) ∧ Hid (∀ k, left (.string k) = true → (get l k).isSome = true) ∧ Hid (Below w.heap.size w wr))
    (fun _ wr => wr.rangeLeft f w.heap.size)
  case atStart =>
    refine ⟨_, _, hrg0, ?_, hhas.out, (Below.refl _ w).grown hg0 (Nat.le_refl _) (fun j hj => by cases hj)⟩
    rw [hss.out]
    congr 1
    omega
  case round =>
    obtain ⟨left, cnt, hrgs, rfl, hlk, hnx⟩ := hrel
    go_wp2_with (first
      | (at_next; refine wpList_next_ranges _ rfl _ rfl TS keyS ptrR Value.string (fun c : Option Nat => .pointer (c.map fun b => ⟨b, 0, none⟩)) (fun key kl hk => keyOf_str_inv hk) (fun v y hv => ptrR_shape hv) f w.heap.size l.length _ _ _ rfl hrgs ?_ ?_)
      | go_in)
    · intro hc0 hl0
      have e0 := hse.out left hl0
      rw [e0]
      generalize hX : M - (N : Int) + ((0 : Nat) : Int) = X
      have hX2 : Hid (max X 0 = R) := by show _ = _; rw [← hroom.out, ← hX]; simp
      clear hX
      go_wp2_with fail
      go_ret
      exact ⟨by rw [← hX2.out]; rfl, hnx.out⟩
    · intro x c kl ya yb w1 cnt1 hkey hlx hv hat hrg1 hlt hg1 hs1 hen
      obtain ⟨rfl, hxs⟩ := keyOf_str_lit hkey
      obtain ⟨p, rfl, hp⟩ := hrg.out x c (ya, yb) hat hv (hlk.out _ hlx)
      have hst1 := hst.out left _ p hp hlx
      have hB1 := hide (hnx.out.grown hg1 hnx.out.size (fun j hj => by cases hj; exact Nat.le_refl _))
      obtain ⟨ao, ca, hcell⟩ := hF.out w1 p _ hB1.out hp
      have hsl1 := hsl.out left
      have hlk2 : Hid (∀ k, (fun z : Lit => left z && !z.sameKey (.string x.data.toList)) (.string k) = true → (get l k).isSome = true) := fun k hk => hlk.out k (by simp only [Bool.and_eq_true] at hk; exact hk.1)
      obtain ⟨L1, hL1⟩ : ∃ L1 : Nat, Hid (leftS F l (fun z => left z && !z.sameKey (.string x.data.toList)) = L1) := ⟨_, rfl⟩
      rw [hL1.out] at hst1
      obtain ⟨len, hlen⟩ : ∃ len : Nat, (F p).by_.length = len := ⟨_, rfl⟩
      rw [hlen] at hst1 hcell
      rw [hst1]
      obtain ⟨X, hX⟩ : ∃ X : Int, Hid (M - (N : Int) + ((L1 + len : Nat) : Int) = X) := ⟨_, rfl⟩
      have hw : IntKind.i64.wrap (X - (len : Int)) = X - (len : Int) := by have := hX.out; rw [IntKind.wrap_i64]; omega
      rw [hX.out]
      replace hst1 := hide hst1
      replace hsl1 := hide hsl1
      replace hlt := hide hlt
      replace hp := hide hp
      replace hkey := hide hkey
      replace hv := hide hv
      replace hat := hide hat
      replace hrg1 := hide hrg1
      replace hrgs := hide hrgs
      clear hg1 hs1 hlen hlx
      simp only [Option.map_some] at hen
      go_wp2_with fail
      go_roundw
      case rel =>
        refine ⟨_, cnt1, hrg1.out, ?_, hlk2.out, hB1.out⟩
        rw [hL1.out]
        have := hX.out
        congr 1
        omega
      case measure => rw [hrg1.out.left_eq, hrgs.out.left_eq]; exact hlt.out
def SOff (O : Nat → Prop) (v : Value) : Prop := ∀ b off n c, v = .slice (some ⟨b, off, none⟩) n c → 0 < n → ¬ O b
theorem sl_but {X : Nat → Prop} {w w' : World} {v : Value} {l : List UInt8} (h : Sl w v l) (hb : But X w w') (hx : SOff X v) : Sl w' v l := by
  obtain ⟨ao, cap, rfl, h2, h3, h4, h5⟩ := h
  refine ⟨ao, cap, rfl, h2, h3, h4, fun i hi => ?_⟩
  obtain ⟨b, off, e, hc⟩ := h5 i hi
  subst e
  refine ⟨b, off, rfl, ?_⟩
  rw [← hc]
  have := hb.block b (lt_of_cell hc) (hx b off _ _ rfl (by omega))
  unfold World.cell?
  dsimp only
  rw [this]
theorem SOff.mono {O O' : Nat → Prop} {v : Value} (h : SOff O v) (hs : ∀ k, O' k → O k) : SOff O' v := fun b off n c e z k => h b off n c e z (hs _ k)
def DS.apN (S : DS) (len : Nat) : Nat := (if S.flt.2.1 ≠ 0 then min (min (len : Int) S.room) S.flt.2.2 else min (len : Int) S.room).toNat
theorem apN_le {S : DS} (h : S.ok) (len : Nat) : S.apN len ≤ len ∧ (S.apN len : Int) ≤ S.room := by
  have := h.flt
  have h0 : 0 ≤ S.room := by unfold DS.room; omega
  unfold DS.apN
  split <;> omega
theorem apN_min {S : DS} (_ : S.ok) (len : Nat) (h0 : S.flt.2.1 = 0) : min (len : Int) S.room = (S.apN len : Int) := by
  have h0' : 0 ≤ S.room := by unfold DS.room; omega
  unfold DS.apN
  rw [if_neg (by simpa using h0)]
  omega
theorem apN_part {S : DS} (h : S.ok) (len : Nat) (h0 : S.flt.2.1 ≠ 0) : min (min (len : Int) S.room) S.flt.2.2 = (S.apN len : Int) := by
  have := h.flt
  have h0' : 0 ≤ S.room := by unfold DS.room; omega
  unfold DS.apN
  rw [if_pos h0]
  omega
theorem apN_size {S : DS} (h : S.ok) {s : List UInt8} {p : Nat} (hp : get S.dir s = some p) (len : Nat) : (S.F p).by_.length + S.apN len ≤ 16777216 := by
  have h1 := (apN_le h len).2
  have h2 := h.sz p (DS.mem_dir hp)
  have h3 := sumL_one S.F hp
  have h4 := h.most
  unfold DS.room at h1
  omega
def apF (f : Fl) (b : List UInt8) : Fl := ⟨f.by_ ++ b, f.la, f.sp⟩
def DS.append (S : DS) (s : ByteArray) (b : List UInt8) : DS × Int × Int :=
  match S.find s with
  | (none, e) => (S, 0, e)
  | (some p, _) =>
    ({ (S.beg 1).str S.flt.2.1 with F := upd S.F p (apF (S.F p) (b.take (S.apN b.length))), c8 := S.c8 + (S.apN b.length : Int) }, (S.apN b.length : Int),
      if strF S.flt.2.1 ≠ 0 then strF S.flt.2.1 else if S.apN b.length < b.length then 21 else 0)
theorem Dk.c8 {w : World} {b : Nat} {x : Dc} {f g : Nat} {l l2 : Dr} {P : List Ch} {al : Ar} (h : Dk w b x f g l l2 P al) (n : Int) : Dk (w.setCell ⟨b, 14, none⟩ (.int .i64 n)) b { x with c8 := n } f g l l2 P al := by
  obtain ⟨n1, n2, n3, n4⟩ := h.noB
  have hB := But.of_grownBy (X := fun k => k = b) (grown_setCell w b 14 (.int .i64 n)) fun k e => by cases e; rfl
  refine ⟨?_, h.fm, h.lm, h.mf.but hB n1, h.mg.but hB n2, h.fg, h.pd.but hB n4, fun m e => ⟨(h.am m e).1.but hB (n3 m e), (h.am m e).2⟩, h.an, h.run, h.can, h.ok, h.c0, h.c1⟩
  have := heap_setCell_same w b 14 _ _ (.int .i64 n) h.box
  exact this
theorem Dsk.c8 {w : World} {b : Nat} {S : DS} {O : Nat → Prop} {f g : Nat} {pd : Value} {am : Option Nat} {VB VL : Nat → Value} (h : Dsk w b S O f g pd am VB VL) (n : Int) (hn : 0 ≤ n ∧ n ≤ 16777216 * S.c7) :
    Dsk (w.setCell ⟨b, 14, none⟩ (.int .i64 n)) b { S with c8 := n } O f g pd am VB VL ∧ Sgo w (w.setCell ⟨b, 14, none⟩ (.int .i64 n)) O O := by
  have hB := But.of_grownBy (X := fun k => k = b) (grown_setCell w b 14 (.int .i64 n)) fun k e => by cases e; rfl
  exact h.turn (T := { S with c8 := n }) rfl rfl rfl ⟨h.ok.most, h.ok.sz, h.ok.cnt, h.ok.calm, hn⟩ (h.dk.c8 n) ⟨hB.mono fun k _ e => .inl e, fun k hk => .inl hk⟩
theorem beg_room (S : DS) (j : Nat) : (S.beg j).room = S.room := by
  obtain ⟨e1, e2, e3, e4, e5, e6, e7, e8⟩ := beg_rest S j
  unfold DS.room
  rw [beg_dir, e1, e8]
theorem FlAt.app {w w5 : World} {p : Nat} {f : Fl} {vb vl v5 : Value} {m : List UInt8} (h : FlAt w p f vb vl) (O5 : Ob 0 w5 v5 (f.by_ ++ m)) (G5 : w.grownBy w5 vb.ownBlock) (A5 : v5.ownBlock = vb.ownBlock ∨ v5.ownBlock = some w.heap.size) (hz : f.by_.length + m.length ≤ 1099511627776) :
    w5.heap[p]? = some (.cells #[vb, vl, .int .i64 (f.sp : Int)] TFl (0, 0)) ∧ FlAt (w5.setCell ⟨p, 0, none⟩ v5) p (apF f m) v5 vl ∧ But (FOwn p vb vl) w (w5.setCell ⟨p, 0, none⟩ v5) ∧ (∀ k, FOwn p v5 vl k → FOwn p vb vl k ∨ w.heap.size ≤ k) := by
  have G5b := But.of_grownBy (X := fun k => vb.ownBlock = some k) G5 fun k e => e
  have K5 : w5.heap[p]? = some (.cells #[vb, vl, .int .i64 (f.sp : Int)] TFl (0, 0)) := G5b.at h.box (h.b.no h.box (by decide))
  have g7 := But.of_grownBy (X := fun k => k = p) (grown_setCell w5 p 0 v5) fun k e => by cases e; rfl
  have Ol : Ob 0 w5 vl f.la := h.l.but G5b (fun k hk c => h.ne k c hk)
  refine ⟨K5, ⟨?_, ?_, ?_, ?_, ?_, ?_, ?_⟩, ?_, ?_⟩
  · rw [heap_setCell_same _ _ _ _ _ _ K5]; simp [apF]
  · exact O5.but g7 (fun k hk e => O5.no K5 (by decide) (by rw [← e]; exact hk))
  · exact Ol.but g7 (fun k hk e => Ol.no K5 (by decide) (by rw [← e]; exact hk))
  · intro k hk c
    rcases A5 with e | e
    · rw [e] at hk
      exact h.ne k hk c
    · rw [e] at hk
      have := (h.l.lt k c).2
      simp at hk
      omega
  · have := h.le; simp [apF]; omega
  · have := h.sp; have := h.le; simp [apF]; omega
  · simp [apF]; exact hz
  · exact (G5b.mono fun k _ e => .inr (.inl e)).trans (g7.mono fun k _ e => .inl e)
  · rintro k (q | q | q)
    · exact .inl (.inl q)
    · rcases A5 with e | e
      · rw [e] at q; exact .inl (.inr (.inl q))
      · rw [e] at q; simp at q; exact .inr (by omega)
    · exact .inl (.inr (.inr q))
end Go.Proofs.YtjehpijjneghpaaGreat.Dk
namespace Go.Proofs.YtjehpijjneghpaaGreat.Dk
open Go.RowKit Go.Maps Go.Proofs.YtjehpijjneghpaaGreat.Nm
open Ix (wp_region_T wpAnyT wpAnyT_take wpAnyT_one wpAnyT_done vac)
set_option maxRecDepth 100000 in
set_option maxHeartbeats 1000000 in
theorem append_any {w : World} {b : Nat} {S : DS} {O : Nat → Prop} {f g : Nat} {pd : Value} {am : Option Nat} {VB VL : Nat → Value} (h : Dsk w b S O f g pd am VB VL) (s : ByteArray) (hs : s.size ≤ maxLen) (v : Value) (D : List UInt8) (hv : Sl w v D) (ho : SOff O v) (hc : S.c7 < 900000000) :
    Calls Tryz.prog 16 #[.pointer (some ⟨b, 0, none⟩), .string s, v] w fun e w' => e = .returned (.tuple #[.int .i64 (S.append s D).2.1, .int .i64 (S.append s D).2.2]) ∧ ∃ O', DskE w' b (S.append s D).1 O' ∧ Sgo w w' O O' := by
  have hF := dsk_find h s hs
  by_cases h0 : (S.find s).2 = 0
  · obtain ⟨p, e, hg, hr, hp⟩ := find_ok h0
    rw [e] at hF
    simp only [Option.map_some] at hF
    have hR : Hid (S.append s D = ({ (S.beg 1).str S.flt.2.1 with F := upd S.F p (apF (S.F p) (D.take (S.apN D.length))), c8 := S.c8 + (S.apN D.length : Int) }, (S.apN D.length : Int), if strF S.flt.2.1 ≠ 0 then strF S.flt.2.1 else if S.apN D.length < D.length then 21 else 0)) := by show _ = _; unfold DS.append; rw [e]
    have hb : Hid (∀ u, Dsk u b S O f g pd am VB VL → _) := fun u hu => dsk_begin hu 1 (by omega) (by omega)
    have hm : Hid (∀ u, Dsk u b (S.beg 1) O f g pd am VB VL → Calls Tryz.prog 76 #[.pointer (some ⟨b, 0, none⟩)] u fun e w' => e = .returned (.int .i64 S.room) ∧ Below u.heap.size u w') := fun u hu => by have := room_any hu (by have := (beg_rest S 1).2.2.2.2.2.1; omega); rw [beg_room] at this; exact this
    obtain ⟨hn1, hn2⟩ := apN_le h.ok D.length
    have hsz := apN_size h.ok hg D.length
    have hmin := apN_min h.ok D.length
    have hpart := apN_part h.ok D.length
    have hft := h.ok.flt
    have H := hide h
    have V := hide hv
    obtain ⟨av, cv, rfl, _, q3, q4, _⟩ := hv
    have q4' : cv ≤ 9223372036854775807 := by unfold maxLen at q4; omega
    have hpb : (S.beg 1).ps = S.ps := beg_ps S 1
    obtain ⟨t, ht⟩ : ∃ t, Hid (S.flt = t) := ⟨_, rfl⟩
    obtain ⟨n, hn⟩ : ∃ n, Hid (S.apN D.length = n) := ⟨_, rfl⟩
    obtain ⟨R, hRm⟩ : ∃ R, Hid (S.room = R) := ⟨_, rfl⟩
    rw [ht.out] at hb hft hmin hpart hR
    rw [hn.out] at hn1 hn2 hsz hmin hpart hR
    rw [hRm.out] at hm hmin hpart hn2
    unfold fv at hb
    obtain ⟨ta, tk, tp⟩ := t
    dsimp only at hb hft hmin hpart hR
    replace hmin := hide hmin
    replace hpart := hide hpart
    replace hft := hide hft
    replace hn2 := hide hn2
    clear h e hr h0 hg hpb
    go_enter Tryz.func16, Tryz.ntmps16
    go_upto_region 5 with (first
      | (go_at_call 75; refine hF.mono ?_; rintro e w1 ⟨rfl, B1⟩; replace B1 := hide B1; have D1 := hide (H.out.below B1.out))
      | (go_at_call 70; refine (hb.out _ D1.out).mono ?_; rintro e w2 ⟨rfl, D2, G2⟩; replace D2 := hide D2; replace G2 := hide G2))
    have B3 := hide ((Below.refl _ w2).alloc (Nat.le_refl _) (.cells #[.int .i64 ta, .int .i64 tk, .int .i64 tp] 118))
    have N3 := hide (heap_alloc_new w2 (.cells #[.int .i64 ta, .int .i64 tk, .int .i64 tp] 118))
    have D3 := hide (D2.out.below B3.out)
    generalize w2.alloc (.cells #[.int .i64 ta, .int .i64 tk, .int .i64 tp] 118) = w3 at *
    have V2 := hide (sl_but (Below.sl B1.out V.out) G2.out.but ho)
    have T3 := hide ((Sgo.of_below (O := O) B1.out).trans (G2.out.trans (Sgo.of_below B3.out)))
    have hlo : Hid (¬ O w2.heap.size ∧ b ≠ w2.heap.size) := ⟨fun c => Nat.lt_irrefl _ (D2.out.lt _ c), fun e => by have := D2.out.lt b (D2.out.ow b (.inl rfl)); omega⟩
    have i1 : (n : Int) ≤ (cv : Int) := by omega
    have i2 : (0 : Int) ≤ (n : Int) := by omega
    have hb8 := H.out.ok.by8
    have hww : IntKind.i64.wrap (S.c8 + (n : Int)) = S.c8 + (n : Int) := by rw [IntKind.wrap_i64]; omega
    have hb8' : Hid (0 ≤ S.c8 + (n : Int) ∧ S.c8 + (n : Int) ≤ 16777216 * (S.c7 + 1)) := by show _ ∧ _; omega
    have hsz' := hide hsz
    clear hF hb D1 V B1 G2 D2 hb8 hc hsz
    by_cases k0 : tk = 0
    · subst k0
      have hmn := hmin.out rfl
      have i0 : ((0 : Int) != 0) = false := rfl
      go_upto_region 8 with (go_at_call 76; refine (hm.out _ D3.out).mono ?_; rintro e w4 ⟨rfl, B4⟩; replace B4 := hide B4; have N4 : Hid (w4.heap[w2.heap.size]? = some (.cells #[.int .i64 ta, .int .i64 0, .int .i64 tp] 118 (0, 0))) := (B4.out.block _ (heap_lt N3.out)).trans N3.out; obtain ⟨x0, x1, x2⟩ := cells3 N4.out; have D4 := hide (D3.out.below B4.out))
      clear x0 x1 x2
      replace hmn := hide hmn
      have H4 : Hid (FlAt w4 p (S.F p) (VB p) (VL p)) := D4.out.fs.at_ p hp
      obtain ⟨ab, cb, eb, _, _⟩ := H4.out.b.form
      have V4 : Hid (Sl w4 (.slice av n cv) (D.take n)) := sl_take (Below.sl B4.out (Below.sl B3.out V2.out)) hn1
      have KC : Hid (∀ q : World, q.heap[p]? = some (.cells #[VB p, VL p, .int .i64 ((S.F p).sp : Int)] TFl (0, 0)) → q.cell? ⟨p, 0, none⟩ = some (.slice ab (S.F p).by_.length cb)) := fun q hq => by rw [← eb]; exact (cells3 hq).1
      have KP : Hid (w4.drew.heap[p]? = some (.cells #[VB p, VL p, .int .i64 ((S.F p).sp : Int)] TFl (0, 0))) := H4.out.box
      have B5 : Hid (Below w4.heap.size w4 w4.drew) := (Below.refl _ _).drew
      replace eb := hide eb
      refine wp_region_T (fun q => q.heap[p]? = some (.cells #[VB p, VL p, .int .i64 ((S.F p).sp : Int)] TFl (0, 0))) 11 (by kernel_rfl) ?_
      generalize w4.drew = q at *
      refine Ix.tk 0 ⟨some 40, .move (.tmp 8), 114, "operation.go:64", #[], none⟩ (.pointer (some ⟨p, 0, none⟩)) [11] ?_ KP.out ?_
      · intro wq hSw
        have y2 := KC.out wq hSw
        go_simp
      (try simp only [zzp, zza, zzb, zzc])
      refine Ix.tk 1 ⟨some 41, .move (.tmp 8), 114, "operation.go:64", #[], none⟩ (.pointer (some ⟨p, 0, none⟩)) [11] ?_ KP.out ?_
      · intro wq hSw
        have y2 := KC.out wq hSw
        go_simp
      (try simp only [zzp, zza, zzb, zzc])
      refine Ix.tk 2 ⟨some 42, .nilCheck (.tmp 41), 0, "operation.go:64", #[⟨1,.data⟩], none⟩ (.pointer (some ⟨p, 0, none⟩)) [11] ?_ KP.out ?_
      · intro wq hSw
        have y2 := KC.out wq hSw
        go_simp
      (try simp only [zzp, zza, zzb, zzc])
      refine Ix.tk 3 ⟨some 43, .fieldAddr 124 (.tmp 42) 0, 0, "operation.go:64", #[⟨2,.data⟩], none⟩ (.pointer (some ⟨p, 0, none⟩)) [11] ?_ KP.out ?_
      · intro wq hSw
        have y2 := KC.out wq hSw
        go_simp
      (try simp only [zzp, zza, zzb, zzc])
      refine Ix.tk 4 ⟨some 44, .load 30 (.tmp 43), 30, "operation.go:64", #[⟨3,.data⟩], none⟩ (.slice ab (S.F p).by_.length cb) [11] ?_ KP.out ?_
      · intro wq hSw
        have y2 := KC.out wq hSw
        go_simp
      (try simp only [zzp, zza, zzb, zzc])
      refine Ix.tk 5 ⟨some 45, .move (.tmp 2), 30, "operation.go:64", #[], none⟩ (.slice av D.length cv) [11] ?_ KP.out ?_
      · intro wq hSw
        have y2 := KC.out wq hSw
        go_simp
      (try simp only [zzp, zza, zzb, zzc])
      refine Ix.tk 6 ⟨some 46, .move (.tmp 11), 3, "operation.go:64", #[], none⟩ (.int .i64 (n : Int)) [11] ?_ KP.out ?_
      · intro wq hSw
        have y2 := KC.out wq hSw
        go_simp
      (try simp only [zzp, zza, zzb, zzc])
      refine Ix.tk 7 ⟨some 47, .slice 30 (.tmp 45) none (some (.tmp 46)) none, 30, "operation.go:64", #[⟨5,.data⟩,⟨6,.data⟩], none⟩ (.slice av n cv) [11] ?_ KP.out ?_
      · intro wq hSw
        have y2 := KC.out wq hSw
        go_simp
      (try simp only [zzp, zza, zzb, zzc])
      have Hq := hide (H4.out.below B5.out)
      obtain ⟨v5, w5, hr, O5, G5, A5⟩ := run_app (B := 0) Hq.out.b (V4.out.below4 B5.out) (by have := hsz'.out; rw [List.length_take]; omega) (Nat.zero_le _) 30
      rw [eb.out] at hr
      obtain ⟨K5, F5, U5, W5⟩ := Hq.out.app O5 G5 A5 (by have := hsz'.out; rw [List.length_take]; omega)
      replace K5 := hide K5
      replace F5 := hide F5
      replace U5 := hide U5
      replace W5 := hide W5
      obtain ⟨a5, c5, e5, _, _⟩ := O5.form
      clear O5 G5 A5
      rw [e5] at hr F5 U5 W5
      rw [List.length_append, List.length_take, Nat.min_eq_left hn1] at hr F5 U5 W5
      refine wpAnyT_one (i := 8) (o := ⟨some 48, .call { callee := .builtin .append, args := #[.tmp 44, .tmp 47], argTypes := #[30, 30] }, 30, "operation.go:64", #[⟨4, .data⟩, ⟨7, .data⟩], none⟩) (by kernel_rfl) rfl (fun K hK => ?_)
      refine step_app rfl (.tmp 44) (.tmp 47) rfl _ _ _ w5 (by simp [Act.eval]) (by simp [Act.eval]) hr ?_
      refine hK.out _ _ (fun _ => K5.out) ?_
      clear hK K hr
      (try simp only [zzp, zza, zzb, zzc])
      refine Ix.tk 9 ⟨some 49, .nilCheck (.tmp 40), 0, "operation.go:64", #[⟨0,.data⟩,⟨0,.phase⟩,⟨1,.phase⟩,⟨2,.phase⟩,⟨3,.phase⟩,⟨4,.phase⟩,⟨5,.phase⟩,⟨6,.phase⟩,⟨7,.phase⟩,⟨8,.phase⟩], none⟩ (.pointer (some ⟨p, 0, none⟩)) [10,11] ?_ K5.out ?_
      · intro wq hSw
        have y2 := KC.out wq hSw
        go_simp
      (try simp only [zzp, zza, zzb, zzc])
      refine Ix.tk 10 ⟨some 50, .fieldAddr 124 (.tmp 49) 0, 0, "operation.go:64", #[⟨9,.data⟩,⟨0,.phase⟩,⟨1,.phase⟩,⟨2,.phase⟩,⟨3,.phase⟩,⟨4,.phase⟩,⟨5,.phase⟩,⟨6,.phase⟩,⟨7,.phase⟩,⟨8,.phase⟩], none⟩ (.pointer (some ⟨p, 0, none⟩)) [11] ?_ K5.out ?_
      · intro wq hSw
        have y2 := KC.out wq hSw
        go_simp
      (try simp only [zzp, zza, zzb, zzc])
      have d1 := (cells3 K5.out).1
      have d2 := (frozen3 K5.out).1
      refine wpAnyT_one (i := 11) (o := ⟨none, .store 30 (.tmp 50) (.tmp 48), 0, "operation.go:64", #[⟨10, .data⟩, ⟨8, .data⟩, ⟨8, .chain⟩, ⟨0, .phase⟩, ⟨1, .phase⟩, ⟨2, .phase⟩, ⟨3, .phase⟩, ⟨4, .phase⟩, ⟨5, .phase⟩, ⟨6, .phase⟩, ⟨7, .phase⟩, ⟨8, .phase⟩], none⟩) (by kernel_rfl) rfl (fun K hK => ?_)
      go_simp
      refine hK.out _ _ (vac (by kernel_rfl)) ?_
      clear hK K d1 d2 KC
      refine wpAnyT_done (by kernel_rfl) ?_ _
      have D5 := hide (D4.out.below B5.out)
      obtain ⟨O6, D6, G6⟩ := D5.out.one hp F5.out U5.out W5.out (by have := hsz'.out; simp only [apF, List.length_append, List.length_take]; omega)
      have zz : Hid (w2.heap.size < w4.heap.size) := heap_lt N4.out
      have T6 := hide (T3.out.trans ((Sgo.of_below B4.out).trans ((Sgo.of_below B5.out).trans G6)))
      have N6 : Hid ((w5.setCell ⟨p, 0, none⟩ (.slice a5 ((S.F p).by_.length + n) c5)).heap[w2.heap.size]? = some (.cells #[.int .i64 ta, .int .i64 0, .int .i64 tp] 118 (0, 0))) := G6.but.at ((B5.out.block _ zz.out).trans N4.out) hlo.out.1
      replace D6 := hide D6
      clear D5 K5 F5 U5 W5 G6 D4 V4 KP B5 H4 Hq T3
      generalize (w5.setCell ⟨p, 0, none⟩ (.slice a5 ((S.F p).by_.length + n) c5)) = w6 at *
      have y1 : w6.cell? ⟨b, 14, none⟩ = some (.int .i64 S.c8) := D6.out.dk.box.all.2
      have y2 : w6.frozen? ⟨b, 14, none⟩ = false := by have := D6.out.dk.cells; simp [World.frozen?, this]
      have D7 := hide (D6.out.c8 (S.c8 + (n : Int)) hb8'.out)
      have N7 : Hid ((w6.setCell ⟨b, 14, none⟩ (.int .i64 (S.c8 + (n : Int)))).heap[w2.heap.size]? = some (.cells #[.int .i64 ta, .int .i64 0, .int .i64 tp] 118 (0, 0))) := (But.of_grownBy (X := fun k => k = b) (grown_setCell w6 b 14 (.int .i64 (S.c8 + (n : Int)))) fun k e => by cases e; rfl).at N6.out (fun e => hlo.out.2 e.symm)
      obtain ⟨x0, x1, x2⟩ := cells3 N7.out
      have hSt := dsk_strike D7.out.1 (ta, 0, tp) (by have := hft.out; show (0 : Int) ≠ 4; omega)
      have T7 := hide (T6.out.trans D7.out.2)
      unfold fv at hSt
      dsimp only at hSt
      have hE : Hid ((({ ({ S.beg 1 with F := upd S.F p (apF (S.F p) (D.take n)) } : DS) with c8 := S.c8 + (n : Int) } : DS).str 0) = (S.append s D).1) := by
        show _ = _
        rw [hR.out]
        unfold DS.str
        split <;> rfl
      have hA1 : Hid ((n : Int) = (S.append s D).2.1) := by show _ = _; rw [hR.out]
      have hA2 : Hid ((if strF 0 ≠ 0 then strF 0 else if n < D.length then 21 else 0) = (S.append s D).2.2) := by show _ = _; rw [hR.out]
      obtain ⟨e0, he⟩ : ∃ e0, Hid (strF 0 = e0) := ⟨_, rfl⟩
      rw [he.out] at hSt hA2
      clear hR hm hmin hpart hmn D6 N6 T6 N4 B4 N3 B3 D3 V2
      by_cases s0 : e0 = 0
      · subst s0
        by_cases c : n < D.length
        · have c1 : (n : Int) < (D.length : Int) := by omega
          have hA3 : Hid ((21 : Int) = (S.append s D).2.2) := by show _ = _; rw [← hA2.out, if_neg (by simp), if_pos c]
          clear hA2
          go_wp2_with (go_at_call 69; refine hSt.mono ?_; rintro e w8 ⟨rfl, D8, G8⟩; replace D8 := hide D8; replace G8 := hide G8)
          go_ret2
          refine ⟨by rw [← hA1.out, ← hA3.out]; rfl, O6, ?_, T7.out.trans G8.out⟩
          rw [← hE.out]
          exact D8.out.e
        · have c1 : ¬ (n : Int) < (D.length : Int) := by omega
          have hA3 : Hid ((0 : Int) = (S.append s D).2.2) := by show _ = _; rw [← hA2.out, if_neg (by simp), if_neg c]
          clear hA2
          go_wp2_with (go_at_call 69; refine hSt.mono ?_; rintro e w8 ⟨rfl, D8, G8⟩; replace D8 := hide D8; replace G8 := hide G8)
          go_ret2
          refine ⟨by rw [← hA1.out, ← hA3.out]; rfl, O6, ?_, T7.out.trans G8.out⟩
          rw [← hE.out]
          exact D8.out.e
      · have s0' : (e0 != 0) = true := by simpa using s0
        have hA3 : Hid (e0 = (S.append s D).2.2) := by show _ = _; rw [← hA2.out, if_pos s0]
        clear hA2 s0
        go_wp2_with (go_at_call 69; refine hSt.mono ?_; rintro e w8 ⟨rfl, D8, G8⟩; replace D8 := hide D8; replace G8 := hide G8)
        go_ret2
        refine ⟨by rw [← hA1.out, ← hA3.out]; rfl, O6, ?_, T7.out.trans G8.out⟩
        rw [← hE.out]
        exact D8.out.e
    · have k0' : (tk != 0) = true := by simpa using k0
      have hmn := hpart.out k0
      replace k0 := hide k0
      go_upto_region 8 with (go_at_call 76; refine (hm.out _ D3.out).mono ?_; rintro e w4 ⟨rfl, B4⟩; replace B4 := hide B4; have N4 : Hid (w4.heap[w2.heap.size]? = some (.cells #[.int .i64 ta, .int .i64 tk, .int .i64 tp] 118 (0, 0))) := (B4.out.block _ (heap_lt N3.out)).trans N3.out; obtain ⟨x0, x1, x2⟩ := cells3 N4.out; have D4 := hide (D3.out.below B4.out))
      clear x0 x1 x2
      replace hmn := hide hmn
      have H4 : Hid (FlAt w4 p (S.F p) (VB p) (VL p)) := D4.out.fs.at_ p hp
      obtain ⟨ab, cb, eb, _, _⟩ := H4.out.b.form
      have V4 : Hid (Sl w4 (.slice av n cv) (D.take n)) := sl_take (Below.sl B4.out (Below.sl B3.out V2.out)) hn1
      have KC : Hid (∀ q : World, q.heap[p]? = some (.cells #[VB p, VL p, .int .i64 ((S.F p).sp : Int)] TFl (0, 0)) → q.cell? ⟨p, 0, none⟩ = some (.slice ab (S.F p).by_.length cb)) := fun q hq => by rw [← eb]; exact (cells3 hq).1
      have KP : Hid (w4.drew.heap[p]? = some (.cells #[VB p, VL p, .int .i64 ((S.F p).sp : Int)] TFl (0, 0))) := H4.out.box
      have B5 : Hid (Below w4.heap.size w4 w4.drew) := (Below.refl _ _).drew
      replace eb := hide eb
      refine wp_region_T (fun q => q.heap[p]? = some (.cells #[VB p, VL p, .int .i64 ((S.F p).sp : Int)] TFl (0, 0))) 11 (by kernel_rfl) ?_
      generalize w4.drew = q at *
      refine Ix.tk 0 ⟨some 40, .move (.tmp 8), 114, "operation.go:64", #[], none⟩ (.pointer (some ⟨p, 0, none⟩)) [11] ?_ KP.out ?_
      · intro wq hSw
        have y2 := KC.out wq hSw
        go_simp
      (try simp only [zzp, zza, zzb, zzc])
      refine Ix.tk 1 ⟨some 41, .move (.tmp 8), 114, "operation.go:64", #[], none⟩ (.pointer (some ⟨p, 0, none⟩)) [11] ?_ KP.out ?_
      · intro wq hSw
        have y2 := KC.out wq hSw
        go_simp
      (try simp only [zzp, zza, zzb, zzc])
      refine Ix.tk 2 ⟨some 42, .nilCheck (.tmp 41), 0, "operation.go:64", #[⟨1,.data⟩], none⟩ (.pointer (some ⟨p, 0, none⟩)) [11] ?_ KP.out ?_
      · intro wq hSw
        have y2 := KC.out wq hSw
        go_simp
      (try simp only [zzp, zza, zzb, zzc])
      refine Ix.tk 3 ⟨some 43, .fieldAddr 124 (.tmp 42) 0, 0, "operation.go:64", #[⟨2,.data⟩], none⟩ (.pointer (some ⟨p, 0, none⟩)) [11] ?_ KP.out ?_
      · intro wq hSw
        have y2 := KC.out wq hSw
        go_simp
      (try simp only [zzp, zza, zzb, zzc])
      refine Ix.tk 4 ⟨some 44, .load 30 (.tmp 43), 30, "operation.go:64", #[⟨3,.data⟩], none⟩ (.slice ab (S.F p).by_.length cb) [11] ?_ KP.out ?_
      · intro wq hSw
        have y2 := KC.out wq hSw
        go_simp
      (try simp only [zzp, zza, zzb, zzc])
      refine Ix.tk 5 ⟨some 45, .move (.tmp 2), 30, "operation.go:64", #[], none⟩ (.slice av D.length cv) [11] ?_ KP.out ?_
      · intro wq hSw
        have y2 := KC.out wq hSw
        go_simp
      (try simp only [zzp, zza, zzb, zzc])
      refine Ix.tk 6 ⟨some 46, .move (.tmp 11), 3, "operation.go:64", #[], none⟩ (.int .i64 (n : Int)) [11] ?_ KP.out ?_
      · intro wq hSw
        have y2 := KC.out wq hSw
        go_simp
      (try simp only [zzp, zza, zzb, zzc])
      refine Ix.tk 7 ⟨some 47, .slice 30 (.tmp 45) none (some (.tmp 46)) none, 30, "operation.go:64", #[⟨5,.data⟩,⟨6,.data⟩], none⟩ (.slice av n cv) [11] ?_ KP.out ?_
      · intro wq hSw
        have y2 := KC.out wq hSw
        go_simp
      (try simp only [zzp, zza, zzb, zzc])
      have Hq := hide (H4.out.below B5.out)
      obtain ⟨v5, w5, hr, O5, G5, A5⟩ := run_app (B := 0) Hq.out.b (V4.out.below4 B5.out) (by have := hsz'.out; rw [List.length_take]; omega) (Nat.zero_le _) 30
      rw [eb.out] at hr
      obtain ⟨K5, F5, U5, W5⟩ := Hq.out.app O5 G5 A5 (by have := hsz'.out; rw [List.length_take]; omega)
      replace K5 := hide K5
      replace F5 := hide F5
      replace U5 := hide U5
      replace W5 := hide W5
      obtain ⟨a5, c5, e5, _, _⟩ := O5.form
      clear O5 G5 A5
      rw [e5] at hr F5 U5 W5
      rw [List.length_append, List.length_take, Nat.min_eq_left hn1] at hr F5 U5 W5
      refine wpAnyT_one (i := 8) (o := ⟨some 48, .call { callee := .builtin .append, args := #[.tmp 44, .tmp 47], argTypes := #[30, 30] }, 30, "operation.go:64", #[⟨4, .data⟩, ⟨7, .data⟩], none⟩) (by kernel_rfl) rfl (fun K hK => ?_)
      refine step_app rfl (.tmp 44) (.tmp 47) rfl _ _ _ w5 (by simp [Act.eval]) (by simp [Act.eval]) hr ?_
      refine hK.out _ _ (fun _ => K5.out) ?_
      clear hK K hr
      (try simp only [zzp, zza, zzb, zzc])
      refine Ix.tk 9 ⟨some 49, .nilCheck (.tmp 40), 0, "operation.go:64", #[⟨0,.data⟩,⟨0,.phase⟩,⟨1,.phase⟩,⟨2,.phase⟩,⟨3,.phase⟩,⟨4,.phase⟩,⟨5,.phase⟩,⟨6,.phase⟩,⟨7,.phase⟩,⟨8,.phase⟩], none⟩ (.pointer (some ⟨p, 0, none⟩)) [10,11] ?_ K5.out ?_
      · intro wq hSw
        have y2 := KC.out wq hSw
        go_simp
      (try simp only [zzp, zza, zzb, zzc])
      refine Ix.tk 10 ⟨some 50, .fieldAddr 124 (.tmp 49) 0, 0, "operation.go:64", #[⟨9,.data⟩,⟨0,.phase⟩,⟨1,.phase⟩,⟨2,.phase⟩,⟨3,.phase⟩,⟨4,.phase⟩,⟨5,.phase⟩,⟨6,.phase⟩,⟨7,.phase⟩,⟨8,.phase⟩], none⟩ (.pointer (some ⟨p, 0, none⟩)) [11] ?_ K5.out ?_
      · intro wq hSw
        have y2 := KC.out wq hSw
        go_simp
      (try simp only [zzp, zza, zzb, zzc])
      have d1 := (cells3 K5.out).1
      have d2 := (frozen3 K5.out).1
      refine wpAnyT_one (i := 11) (o := ⟨none, .store 30 (.tmp 50) (.tmp 48), 0, "operation.go:64", #[⟨10, .data⟩, ⟨8, .data⟩, ⟨8, .chain⟩, ⟨0, .phase⟩, ⟨1, .phase⟩, ⟨2, .phase⟩, ⟨3, .phase⟩, ⟨4, .phase⟩, ⟨5, .phase⟩, ⟨6, .phase⟩, ⟨7, .phase⟩, ⟨8, .phase⟩], none⟩) (by kernel_rfl) rfl (fun K hK => ?_)
      go_simp
      refine hK.out _ _ (vac (by kernel_rfl)) ?_
      clear hK K d1 d2 KC
      refine wpAnyT_done (by kernel_rfl) ?_ _
      have D5 := hide (D4.out.below B5.out)
      obtain ⟨O6, D6, G6⟩ := D5.out.one hp F5.out U5.out W5.out (by have := hsz'.out; simp only [apF, List.length_append, List.length_take]; omega)
      have zz : Hid (w2.heap.size < w4.heap.size) := heap_lt N4.out
      have T6 := hide (T3.out.trans ((Sgo.of_below B4.out).trans ((Sgo.of_below B5.out).trans G6)))
      have N6 : Hid ((w5.setCell ⟨p, 0, none⟩ (.slice a5 ((S.F p).by_.length + n) c5)).heap[w2.heap.size]? = some (.cells #[.int .i64 ta, .int .i64 tk, .int .i64 tp] 118 (0, 0))) := G6.but.at ((B5.out.block _ zz.out).trans N4.out) hlo.out.1
      replace D6 := hide D6
      clear D5 K5 F5 U5 W5 G6 D4 V4 KP B5 H4 Hq T3
      generalize (w5.setCell ⟨p, 0, none⟩ (.slice a5 ((S.F p).by_.length + n) c5)) = w6 at *
      have y1 : w6.cell? ⟨b, 14, none⟩ = some (.int .i64 S.c8) := D6.out.dk.box.all.2
      have y2 : w6.frozen? ⟨b, 14, none⟩ = false := by have := D6.out.dk.cells; simp [World.frozen?, this]
      have D7 := hide (D6.out.c8 (S.c8 + (n : Int)) hb8'.out)
      have N7 : Hid ((w6.setCell ⟨b, 14, none⟩ (.int .i64 (S.c8 + (n : Int)))).heap[w2.heap.size]? = some (.cells #[.int .i64 ta, .int .i64 tk, .int .i64 tp] 118 (0, 0))) := (But.of_grownBy (X := fun k => k = b) (grown_setCell w6 b 14 (.int .i64 (S.c8 + (n : Int)))) fun k e => by cases e; rfl).at N6.out (fun e => hlo.out.2 e.symm)
      obtain ⟨x0, x1, x2⟩ := cells3 N7.out
      have hSt := dsk_strike D7.out.1 (ta, tk, tp) (by have := hft.out; show (tk : Int) ≠ 4; omega)
      have T7 := hide (T6.out.trans D7.out.2)
      unfold fv at hSt
      dsimp only at hSt
      have hE : Hid ((({ ({ S.beg 1 with F := upd S.F p (apF (S.F p) (D.take n)) } : DS) with c8 := S.c8 + (n : Int) } : DS).str tk) = (S.append s D).1) := by
        show _ = _
        rw [hR.out]
        unfold DS.str
        split <;> rfl
      have hA1 : Hid ((n : Int) = (S.append s D).2.1) := by show _ = _; rw [hR.out]
      have hA2 : Hid ((if strF tk ≠ 0 then strF tk else if n < D.length then 21 else 0) = (S.append s D).2.2) := by show _ = _; rw [hR.out]
      obtain ⟨e0, he⟩ : ∃ e0, Hid (strF tk = e0) := ⟨_, rfl⟩
      rw [he.out] at hSt hA2
      clear hR hm hmin hpart hmn D6 N6 T6 N4 B4 N3 B3 D3 V2
      by_cases s0 : e0 = 0
      · subst s0
        by_cases c : n < D.length
        · have c1 : (n : Int) < (D.length : Int) := by omega
          have hA3 : Hid ((21 : Int) = (S.append s D).2.2) := by show _ = _; rw [← hA2.out, if_neg (by simp), if_pos c]
          clear hA2
          go_wp2_with (go_at_call 69; refine hSt.mono ?_; rintro e w8 ⟨rfl, D8, G8⟩; replace D8 := hide D8; replace G8 := hide G8)
          go_ret2
          refine ⟨by rw [← hA1.out, ← hA3.out]; rfl, O6, ?_, T7.out.trans G8.out⟩
          rw [← hE.out]
          exact D8.out.e
        · have c1 : ¬ (n : Int) < (D.length : Int) := by omega
          have hA3 : Hid ((0 : Int) = (S.append s D).2.2) := by show _ = _; rw [← hA2.out, if_neg (by simp), if_neg c]
          clear hA2
          go_wp2_with (go_at_call 69; refine hSt.mono ?_; rintro e w8 ⟨rfl, D8, G8⟩; replace D8 := hide D8; replace G8 := hide G8)
          go_ret2
          refine ⟨by rw [← hA1.out, ← hA3.out]; rfl, O6, ?_, T7.out.trans G8.out⟩
          rw [← hE.out]
          exact D8.out.e
      · have s0' : (e0 != 0) = true := by simpa using s0
        have hA3 : Hid (e0 = (S.append s D).2.2) := by show _ = _; rw [← hA2.out, if_pos s0]
        clear hA2 s0
        go_wp2_with (go_at_call 69; refine hSt.mono ?_; rintro e w8 ⟨rfl, D8, G8⟩; replace D8 := hide D8; replace G8 := hide G8)
        go_ret2
        refine ⟨by rw [← hA1.out, ← hA3.out]; rfl, O6, ?_, T7.out.trans G8.out⟩
        rw [← hE.out]
        exact D8.out.e
  · have hR : Hid (S.append s D = (S, 0, (S.find s).2)) := by
      show _ = _
      have q := find_no h0
      unfold DS.append
      cases hq : S.find s with
      | mk a c => rw [hq] at q; dsimp only at q; subst q; rfl
    rw [hR.out]
    have q := find_no h0
    rw [q] at hF
    simp only [Option.map_none] at hF
    generalize (S.find s).2 = r at *
    have h0' : (r != 0) = true := by simpa using h0
    obtain ⟨av, cv, rfl, _, q3, q4, _⟩ := hv
    have H := hide h
    clear h h0 q hR
    go_enter Tryz.func16, Tryz.ntmps16
    go_wp2_with (go_at_call 75; refine hF.mono ?_; rintro e w1 ⟨rfl, B1⟩; replace B1 := hide B1)
    go_ret2
    exact ⟨rfl, O, (H.out.below B1.out).e, Sgo.of_below B1.out⟩
end Go.Proofs.YtjehpijjneghpaaGreat.Dk
