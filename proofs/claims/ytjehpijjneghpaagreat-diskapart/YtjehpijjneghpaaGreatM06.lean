/-
  names in order; strings.Clone; Create.
-/
import Derived.Test.YtjehpijjneghpaaGreatM05
import Derived.Test.YtjehpijjneghpaaGreatM01
import Derived.Test.YtjehpijjneghpaaGreatM02
import Derived.Lib.AppendZeros
import Derived.Maps.AppendAt
import Derived.Laws.AppendOwnNone
import Derived.Lib.SliceRun
namespace Go.Proofs.YtjehpijjneghpaaGreat.Dk
open Go.RowKit Go.Maps Go.Sort Go.Shelf Go.Proofs.YtjehpijjneghpaaGreat.Nm
def nms (l : Dr) : List (List UInt8) := (l.map (·.1)).mergeSort fun x y => decide (x ≤ y)
theorem sort_perm {ss tt : List (List UInt8)} (h : ss.Perm tt) : (ss.mergeSort fun x y => decide (x ≤ y)) = tt.mergeSort fun x y => decide (x ≤ y) := by
  have tr : ∀ a b c : List UInt8, decide (a ≤ b) = true → decide (b ≤ c) = true → decide (a ≤ c) = true := fun a b c h1 h2 => by simp only [decide_eq_true_eq] at *; exact List.le_trans h1 h2
  have tt' : ∀ a b : List UInt8, (decide (a ≤ b) || decide (b ≤ a)) = true := fun a b => by simp only [Bool.or_eq_true, decide_eq_true_eq]; exact List.le_total a b
  have p1 := List.pairwise_mergeSort tr tt' ss
  have p2 := List.pairwise_mergeSort tr tt' tt
  refine List.Perm.eq_of_pairwise (le := fun a b => decide (a ≤ b) = true) (fun a b _ _ h1 h2 => ?_) p1 p2 (((List.mergeSort_perm _ _).trans h).trans (List.mergeSort_perm _ _).symm)
  simp only [decide_eq_true_eq] at h1 h2
  exact List.le_antisymm h1 h2
theorem keys_dir (l : Dr) : strKeys (dirD l) = l.map (·.1) := by
  show (l.map dent).map (fun p => strOf p.1) = _
  rw [List.map_map]
  rfl
theorem nms_len (l : Dr) : (nms l).length = l.length := by rw [nms, List.length_mergeSort, List.length_map]
theorem names_any (b : Nat) (l : Dr) (w : World) (h : Mp w b l) (hl : l.length ≤ 1000000000) :
    Calls Tryz.prog 81 #[.map (some b)] w fun e w' => ∃ v : Value, e = .returned v ∧ w'.ownsRow w.heap.size 9 1 v (nms l).length ((nms l).map encStr) ∧ (v = .slice none 0 0 ↔ l = []) ∧ Below w.heap.size w w' := by
  refine (names_gen b l w h hl).mono ?_
  rintro e w' ⟨v, ss, rfl, hp, hr, hn, hB⟩
  rw [keys_dir] at hp
  rw [sort_perm hp] at hr
  refine ⟨v, rfl, ?_, ?_, hB⟩
  · have e : ss.length = (nms l).length := by rw [nms_len, hp.length_eq, List.length_map]
    rw [← e]
    exact hr
  · rw [hn]
    constructor
    · rintro rfl
      exact List.map_eq_nil_iff.1 (List.nil_perm.1 hp)
    · rintro rfl
      exact List.perm_nil.1 hp
theorem clone_str (s : ByteArray) (w : World) (hs : s.size ≤ 281474976710656) : Calls Tryz.prog 72 #[.string s] w fun e w' => e = .returned (.string s) ∧ Below w.heap.size w w' := by
  have hc := Tryz.stringslite_Clone s w hs
  go_enter Tryz.func72, Tryz.ntmps72
  go_wp2_with (go_at_call 105; refine hc.mono ?_; rintro e w1 ⟨rfl, B1⟩; replace B1 := hide B1)
  go_ret
  exact ⟨rfl, B1.out⟩
inductive Created (w w' : World) (b : Nat) (x : Dc) (f g : Nat) (l l2 : Dr) (P : List Ch) (al : Ar) (s : ByteArray) : Int → Prop where
  | no (r : Int) (hr : refF (some x) [s] = r) (h0 : r ≠ 0) (hd : Dk w' b x f g l l2 P al) (st : Stp w w' b x x) : Created w w' b x f g l l2 P al s r
  | there (hr : refF (some x) [s] = 0) (ht : (get l s.data.toList).isSome = true) (hd : Dk w' b x f g l l2 P al) (st : Stp w w' b x x) : Created w w' b x f g l l2 P al s 7
  | many (hr : refF (some x) [s] = 0) (ht : get l s.data.toList = none) (hm : 256 ≤ l.length) (hd : Dk w' b x f g l l2 P al) (st : Stp w w' b x x) : Created w w' b x f g l l2 P al s 9
  | struck (e : Int) (hr : refF (some x) [s] = 0) (ht : get l s.data.toList = none) (hm : l.length < 256) (he : strF (nextF x al).2.1 = e) (h0 : e ≠ 0) (hd : Dk w' b (strX (nextF x al).2.1 (inc x 0)) f g l l2 P (adel al (x.c7 + 1))) (st : Stp w w' b x (strX (nextF x al).2.1 (inc x 0))) : Created w w' b x f g l l2 P al s e
  | done (hr : refF (some x) [s] = 0) (ht : get l s.data.toList = none) (hm : l.length < 256) (he : strF (nextF x al).2.1 = 0) (p : Nat) (pd : Value) (hp : w.heap.size ≤ p) (ho : ¬ Own b { strX (nextF x al).2.1 (inc x 0) with pd := pd } p) (hf : w'.heap[p]? = some (.cells #[.slice none 0 0, .slice none 0 0, .int .i64 0] 124 (0, 0)))
      (hd : Dk w' b { strX (nextF x al).2.1 (inc x 0) with pd := pd } f g (dput l s.data.toList p) l2 (P ++ [.cr s p]) (adel al (x.c7 + 1))) (st : Stp w w' b x { strX (nextF x al).2.1 (inc x 0) with pd := pd }) : Created w w' b x f g l l2 P al s 0
set_option maxRecDepth 100000 in
set_option maxHeartbeats 1000000 in
theorem create_any (w : World) (b : Nat) (x : Dc) (f g : Nat) (l l2 : Dr) (P : List Ch) (al : Ar) (s : ByteArray) (hs : s.size ≤ 140737488355328) (h : Dk w b x f g l l2 P al) (hc : x.c7 < 4611686018427387904) (hk : (nextF x al).2.1 ≠ 4) (hP : P.length < 1000000000) :
    Calls Tryz.prog 14 #[.pointer (some ⟨b, 0, none⟩), .string s] w fun e w' => ∃ r, e = .returned (.int .i64 r) ∧ Created w w' b x f g l l2 P al s r := by
  have hs2 : s.size ≤ maxLen := by unfold maxLen; omega
  have hB := hide ((Below.refl _ w).alloc (Nat.le_refl _) (.cells #[.string s] 9))
  have H1 := hide (h.below hB.out)
  have hr := refuse_any (w.alloc (.cells #[.string s] 9)) _ _ (some x) [s] H1.out.dp (row1 w s _ _) (by simpa using hs2)
  obtain ⟨r, hR⟩ : ∃ r, Hid (refF (some x) [s] = r) := ⟨_, rfl⟩
  rw [hR.out] at hr
  generalize hw1 : w.alloc (.cells #[.string s] 9) = w1 at *
  replace hw1 := hide hw1
  have K1 := hide (Stp.of_below (b := b) (x := x) hB.out)
  by_cases r0 : r = 0
  · subst r0
    have c2 : w1.cell? ⟨b, 2, none⟩ = some (.map (some f)) := by have := H1.out.box.cells.2.2.1; rw [H1.out.fm] at this; exact this
    by_cases g0 : (get l s.data.toList).isSome = true
    · obtain ⟨p, hp⟩ := Option.isSome_iff_exists.1 g0
      have hL := H1.out.mf.look_some hs2 hp
      unfold TM at hL
      clear h hk
      replace g0 := hide g0
      go_enter Tryz.func14, Tryz.ntmps14
      go_upto_region 1 with fail
      go_wp2_with (go_at_call 68; rw [hw1.out]; refine hr.mono ?_; rintro e w2 ⟨rfl, e1⟩; subst w2)
      go_ret
      exact ⟨7, rfl, .there hR.out g0.out H1.out K1.out⟩
    · have hg : get l s.data.toList = none := by simpa using g0
      have hL := H1.out.mf.look_none hs2 hg
      have hLen := fun ty => H1.out.mf.len ty
      unfold TM at hL hLen
      replace hg := hide hg
      by_cases m0 : 256 ≤ l.length
      · have m1 : (256 : Int) ≤ (l.length : Int) := by omega
        clear h hk g0
        go_enter Tryz.func14, Tryz.ntmps14
        go_wp2_with (go_at_call 68; rw [hw1.out]; refine hr.mono ?_; rintro e w2 ⟨rfl, e1⟩; subst w2)
        go_ret
        exact ⟨9, rfl, .many hR.out hg.out m0 H1.out K1.out⟩
      · have m1 : ¬ (256 : Int) ≤ (l.length : Int) := by omega
        have m2 : l.length < 256 := by omega
        have hb := begin_any w1 b x f g l l2 P al 0 (by omega) H1.out hc
        rw [show (aget al (x.c7 + 1)).getD zf = nextF x al from rfl] at hb
        have hS : Hid (∀ u, Dk u b (inc x 0) f g l l2 P (adel al (x.c7 + 1)) → _) := fun u hu => dk_strike u b (inc x 0) f g l l2 P (adel al (x.c7 + 1)) (nextF x al) hu hk
        obtain ⟨t, ht⟩ : ∃ t, Hid (nextF x al = t) := ⟨_, rfl⟩
        rw [ht.out] at hS hb hk
        obtain ⟨e0, he⟩ : ∃ e0, Hid (strF t.2.1 = e0) := ⟨_, rfl⟩
        rw [he.out] at hS
        obtain ⟨y, hX⟩ : ∃ y, Hid (strX t.2.1 (inc x 0) = y) := ⟨_, rfl⟩
        rw [hX.out] at hS
        by_cases s0 : e0 = 0
        · subst s0
          have hC := hide (clone_str s)
          have hT : Hid (∀ u p, Dk u b y f g l l2 P (adel al (x.c7 + 1)) → _) := fun u p hu => dk_change u b y f g l l2 P _ (.cr s p) hu hs2 trivial (by unfold maxLen; omega) hP
          clear h hk g0
          go_enter Tryz.func14, Tryz.ntmps14
          go_wp2_with (first
            | (go_at_call 68; rw [hw1.out]; refine hr.mono ?_; rintro e w2 ⟨rfl, e1⟩; subst w2)
            | (go_at_call 70; refine hb.mono ?_; rintro e w2 ⟨rfl, D2, B2⟩; replace D2 := hide D2; replace B2 := hide B2; clear hL hLen c2)
            | (go_at_call 69; refine (hS.out _ D2.out).mono ?_; rintro e w3 ⟨rfl, D3, B3⟩; replace D3 := hide D3; replace B3 := hide B3)
            | (go_at_call 72; refine (hC.out w3 (by omega)).mono ?_; rintro e w4 ⟨rfl, B4⟩; replace B4 := hide B4; have D4 := hide (D3.out.below B4.out); have B5 := hide ((Below.refl _ w4).alloc (Nat.le_refl _) (.cells #[.slice none 0 0, .slice none 0 0, .int .i64 0] 124)); have N5 := hide (heap_alloc_new w4 (.cells #[.slice none 0 0, .slice none 0 0, .int .i64 0] 124)); have D5 := hide (D4.out.below B5.out))
            | (go_at_call 71; refine (hT.out _ w4.heap.size D5.out).mono ?_; rintro e w6 ⟨rfl, pd, D6, B6, O6⟩; replace D6 := hide D6; replace B6 := hide B6; replace O6 := hide O6))
          go_ret
          have T3 : Stp w2 w3 b (inc x 0) y := by rw [← hX.out]; exact Stp.strX B3.out
          have T5 : Stp w3 (w4.alloc (.cells #[.slice none 0 0, .slice none 0 0, .int .i64 0] 124)) b y y := Stp.of_below (B4.out.trans (B5.out.mono B4.out.size))
          have T6 := Stp.change B6.out O6.out
          have T4 := (K1.out.trans (Stp.inc B2.out)).trans T3
          have z3 := T4.but.size
          have z4 := B4.out.size
          have hno : ¬ Own b y w4.heap.size := fun c => Nat.lt_irrefl _ (D4.out.lt _ c)
          refine ⟨0, rfl, .done hR.out hg.out m2 (by rw [ht.out, he.out]) w4.heap.size pd (by omega) ?_ (B6.out.at N5.out hno) ?_ ?_⟩
          · rw [ht.out, hX.out]
            intro c
            rcases T6.own _ c with q | q
            · exact hno q
            · simp at q
              omega
          · rw [ht.out, hX.out]; exact D6.out
          · rw [ht.out, hX.out]; exact (T4.trans T5).trans T6
        · have s0' : (e0 != 0) = true := by simpa using s0
          replace s0 := hide s0
          clear h hk g0
          go_enter Tryz.func14, Tryz.ntmps14
          go_wp2_with (first
            | (go_at_call 68; rw [hw1.out]; refine hr.mono ?_; rintro e w2 ⟨rfl, e1⟩; subst w2)
            | (go_at_call 70; refine hb.mono ?_; rintro e w2 ⟨rfl, D2, B2⟩; replace D2 := hide D2; replace B2 := hide B2; clear hL hLen c2)
            | (go_at_call 69; refine (hS.out _ D2.out).mono ?_; rintro e w3 ⟨rfl, D3, B3⟩; replace D3 := hide D3; replace B3 := hide B3))
          go_ret
          have T2 : Stp w2 w3 b (inc x 0) y := by rw [← hX.out]; exact Stp.strX B3.out
          refine ⟨e0, rfl, .struck e0 hR.out hg.out m2 (by rw [ht.out, he.out]) s0.out ?_ ?_⟩
          · rw [ht.out, hX.out]; exact D3.out
          · rw [ht.out, hX.out]; exact (K1.out.trans (Stp.inc B2.out)).trans T2
  · have r0' : (r != 0) = true := by simpa using r0
    replace r0 := hide r0
    clear h hk
    go_enter Tryz.func14, Tryz.ntmps14
    go_wp2_with (go_at_call 68; rw [hw1.out]; refine hr.mono ?_; rintro e w2 ⟨rfl, e1⟩; subst w2)
    go_ret
    exact ⟨r, rfl, .no r hR.out r0.out H1.out K1.out⟩
end Go.Proofs.YtjehpijjneghpaaGreat.Dk
namespace Go.Proofs.YtjehpijjneghpaaGreat
open Go.RowKit
set_option maxRecDepth 100000
theorem hide {p : Prop} (h : p) : Hid p := h
theorem owns_zero {w : World} {base e cap g : Nat} {cur : Array Value} (hg : base ≤ g) (h : w.heap[g]? = some (.cells cur e (0, 0))) (hs : cur.size = cap) (hm : cap ≤ maxLen) : w.ownsRow base e 1 (.slice (some ⟨g, 0, none⟩) 0 cap) 0 (bvals []) :=
  ⟨rfl, Or.inr ⟨g, cap, cur, rfl, hg, h, Nat.zero_le _, hm, by omega, by simp [bvals]⟩⟩
set_option maxHeartbeats 400000 in
theorem grow_any (w : World) (n : Nat) (hn : n ≤ 140737488355328) :
    Calls Tryz.prog 121 #[.slice none 0 0, .int .i64 (n : Int)] w fun e w' => ∃ v', e = .returned v' ∧ w'.ownsRow w.heap.size 5 1 v' 0 (bvals []) ∧ Below w.heap.size w w' := by
  obtain ⟨i0, hi, hz0, hz1, hz2⟩ := info_parts Tryz.infoU8
  have HN : Hid (n ≤ 140737488355328) := hn
  by_cases h0 : n = 0
  · subst h0
    clear hn
    go_enter Tryz.func121, Tryz.ntmps121
    go_wp2_with fail
    go_ret
    exact ⟨_, rfl, World.ownsRow_nil _ _ _ _, Below.refl _ _⟩
  · have g0 : (0 : Int) < (n : Int) := by omega
    have hr := Lib.run_append_nil_zeros (P := Tryz.prog) w 30 3 30 5 i0 (.int .u8 0) .i64 .i64 Tryz.underlying30 Tryz.underlying3 hi hz0 n (by omega) (by omega) (by omega) (by rw [hz2]; omega)
    have hge := grownCap_ge w n 0 5
    have hle := grownCap_le_maxLen w n 0 5 (by unfold maxLen; omega)
    have hcs : Hid ((Builtin.zeroCells (Value.int .u8 0).cells n ++ Builtin.zeroCells (Value.int .u8 0).cells (grownCap w n 0 5 - n)).size = grownCap w n 0 5) := by
      show _ = _
      simp only [Array.size_append, size_zeroCells]
      simp [Value.cells]
      omega
    generalize grownCap w n 0 5 = cp at *
    generalize Builtin.zeroCells (Value.int .u8 0).cells n ++ Builtin.zeroCells (Value.int .u8 0).cells (cp - n) = cs at *
    have HO : Hid ((w.drew.alloc (.cells cs 5)).ownsRow w.heap.size 5 1 (.slice (some ⟨w.heap.size, 0, none⟩) 0 cp) 0 (bvals [])) := owns_zero (Nat.le_refl _) (heap_alloc_new w.drew _) hcs.out hle
    have HB : Hid (Below w.heap.size w (w.drew.alloc (.cells cs 5))) := (Below.refl _ w).drew.alloc (by simp) _
    have hcp : cp ≤ 9223372036854775807 := by unfold maxLen at hle; omega
    have HR := hide hr
    clear hle hr hcs hn h0
    go_enter Tryz.func121, Tryz.ntmps121
    go_wp2_with (at_builtin; refine Lib.wpList_append_run _ rfl (.tmp 20) (.tmp 21) 30 3 rfl _ _ rfl rfl _ _ HR.out ?_)
    go_ret
    exact ⟨_, rfl, HO.out, HB.out⟩
theorem flat_snoc (ls : List (List UInt8)) (k : Nat) (h : k < ls.length) : (ls.take (k + 1)).flatten = (ls.take k).flatten ++ ls[k] := by
  rw [List.take_succ_eq_append_getElem h, List.flatten_append, List.flatten_singleton]
theorem flat_le (ls : List (List UInt8)) (k : Nat) : (ls.take k).flatten.length ≤ ls.flatten.length := by
  have h : ls.flatten = (ls.take k).flatten ++ (ls.drop k).flatten := by rw [← List.flatten_append, List.take_append_drop]
  rw [h, List.length_append]; omega
set_option maxRecDepth 100000 in
set_option maxHeartbeats 800000 in
theorem concat_any (w : World) (v : Value) (vs : List Value) (ls : List (List UInt8)) (hv : Row w v vs) (hs : Sls w vs ls) (hlen : ls.flatten.length ≤ 140737488355328) :
    Calls Tryz.prog 111 #[v] w fun e w' => ∃ v', e = .returned v' ∧ w'.ownsRow w.heap.size 5 1 v' ls.flatten.length (bvals ls.flatten) ∧ Below w.heap.size w w' := by
  obtain ⟨ao, ca, rfl, h2, h3, h4, h5⟩ := hv
  have hm : ca ≤ 9223372036854775807 := by unfold maxLen at h4; omega
  have HS := hide hs
  have HL := hide hlen
  obtain ⟨n, hn⟩ : ∃ n, Hid (vs.length = n) := ⟨_, rfl⟩
  have hnl : Hid (ls.length = n) := hs.1.symm.trans hn.out
  have hnm : n ≤ 9223372036854775807 := by rw [← hn.out]; omega
  rw [hn.out]
  clear h2 h4 hs hlen h3
  have H5 := hide h5
  clear h5
  go_enter Tryz.func111, Tryz.ntmps111
  go_wp2_with fail
  go_loopw [3, 11] (fun vz vi wr => ∃ k z : Nat, k ≤ n ∧ vz = .int .i64 (z : Int) ∧ vi = .int .i64 (k : Int) ∧ Hid (z = (ls.take k).flatten.length) ∧ w = wr) (fun _ i _ => n - (intOf i).toNat)
  case atStart => exact ⟨0, 0, Nat.zero_le _, rfl, rfl, rfl, rfl⟩
  case round =>
    obtain ⟨k, z, hk, rfl, rfl, hz, rfl⟩ := hrel
    by_cases hlt : k < n
    · have hkv : k < vs.length := by rw [hn.out]; exact hlt
      have hkl : k < ls.length := by rw [hnl.out]; exact hlt
      obtain ⟨b1, o1, rfl, hb⟩ := H5.out k hkv
      have HX := hide (HS.out.2 k hkv hkl)
      obtain ⟨ao2, ca2, e2, _, _, _, _⟩ := HX.out
      rw [e2] at hb
      obtain ⟨m, hml⟩ : ∃ m, Hid (ls[k].length = m) := ⟨ls[k].length, hide rfl⟩
      rw [hml.out] at hb
      have hz2 : Hid (z + m = (ls.take (k + 1)).flatten.length) := by show _ = _; rw [flat_snoc ls k hkl, List.length_append, hz.out, hml.out]
      have hzb : z + m ≤ 140737488355328 := by rw [hz2.out]; exact Nat.le_trans (flat_le ls (k + 1)) HL.out
      have hneg : ¬ ((z : Int) + (m : Int) < 0) := by omega
      clear e2 hml hz
      go_wp2_with fail
      go_roundw
      case rel => exact ⟨k + 1, z + m, by omega, by go_num, by go_num, hz2.out, by trivial⟩
      case measure => simp [intOf]; omega
    · obtain rfl : k = n := by omega
      have hzb : z ≤ 140737488355328 := by rw [hz.out]; exact Nat.le_trans (flat_le ls k) HL.out
      clear hz
      go_wp2_with fail
      refine (grow_any _ z hzb).mono ?_
      rintro e w1 ⟨v1, rfl, ho1, hb1⟩
      clear hzb
      go_wp2_with fail
      go_loopw [6, 27] (fun vz vi wr => ∃ j : Nat, j ≤ k ∧ vi = .int .i64 (j : Int) ∧ Hid (wr.ownsRow w.heap.size 5 1 vz ((ls.take j).flatten).length (bvals (ls.take j).flatten)) ∧ Hid (Below w.heap.size w wr)) (fun _ i _ => k - (intOf i).toNat)
      case atStart => exact ⟨0, Nat.zero_le _, rfl, ho1, hb1⟩
      case round =>
        obtain ⟨j, hj, rfl, ho, hb⟩ := hrel
        by_cases hlt : j < k
        · have hkv : j < vs.length := by rw [hn.out]; exact hlt
          have hkl : j < ls.length := by rw [hnl.out]; exact hlt
          obtain ⟨b1, o1, rfl, hc⟩ := H5.out j hkv
          have hc2 : wr.cell? ⟨b1, o1 + j, none⟩ = some vs[j] := (hb.out.cell (lt_of_cell hc)).trans hc
          have HX := hide (Below.sl hb.out (HS.out.2 j hkv hkl))
          have hle : (ls.take j).flatten.length + ls[j].length ≤ 140737488355328 := by
            have := flat_le ls (j + 1)
            rw [flat_snoc ls j hkl, List.length_append] at this
            have := HL.out
            omega
          have hsz := hb.out.size
          have HLe := hide hle
          have HSz := hide hsz
          have HF := hide (flat_snoc ls j hkl)
          obtain ⟨u, hu⟩ : ∃ u, u = vs[j] := ⟨_, rfl⟩
          rw [← hu] at hc2 HX
          obtain ⟨L, hL⟩ : ∃ L, L = (ls.take j).flatten := ⟨_, rfl⟩
          obtain ⟨M, hM⟩ : ∃ M, M = ls[j] := ⟨_, rfl⟩
          rw [← hL] at HLe HF ho
          rw [← hM] at HLe HF HX
          clear hc hle hsz hu hL hM
          go_wp2_with (at_builtin; refine wpList_append_bytes rfl (.tmp 31) (.tmp 32) 30 rfl w.heap.size 5 Tryz.infoU8 Tryz.underlying30 _ _ L M rfl ho.out rfl HX.out HLe.out HSz.out ?_)
          intro v2 w2 ho2 hb2
          rw [← List.length_append, ← HF.out] at ho2
          replace ho2 := hide ho2
          go_wp2_with fail
          go_roundw
          case rel => exact ⟨j + 1, by omega, by go_num, ho2.out, hb.out.trans hb2⟩
          case measure => simp [intOf]; omega
        · obtain rfl : j = k := by omega
          have HT : Hid ((ls.take j).flatten = ls.flatten) := by show _ = _; rw [List.take_of_length_le (by rw [hnl.out]; omega)]
          rw [HT.out] at ho
          go_wp2_with fail
          go_ret
          exact ⟨_, rfl, ho.out, hb.out⟩
end Go.Proofs.YtjehpijjneghpaaGreat
namespace Go.Proofs.YtjehpijjneghpaaGreat.Dk
open Go.RowKit Go.Maps Go.Proofs.YtjehpijjneghpaaGreat.Nm
def Ob (B : Nat) (w : World) (v : Value) (l : List UInt8) : Prop := w.ownsRow B 5 1 v l.length (bvals l)
theorem Ob.nil (B : Nat) (w : World) : Ob B w (.slice none 0 0) [] := World.ownsRow_nil _ _ _ _
theorem infoB : (Tryz.prog.info? 5).map (fun i => (i.zero, i.size, i.bytes)) = some (some (.int .u8 0), 1, 1) := by kernel_rfl
theorem Ob.sl {B : Nat} {w : World} {v : Value} {l : List UInt8} (h : Ob B w v l) : Sl w v l := Sl.of_owns h
theorem Ob.low {B C : Nat} {w : World} {v : Value} {l : List UInt8} (h : Ob B w v l) (hb : C ≤ B) : Ob C w v l := by
  refine ⟨h.1, ?_⟩
  rcases h.2 with h | ⟨g, cap, cur, rfl, hg, r⟩
  · exact .inl h
  · exact .inr ⟨g, cap, cur, rfl, Nat.le_trans hb hg, r⟩
theorem Ob.but {B : Nat} {X : Nat → Prop} {A C : World} {v : Value} {l : List UInt8} (h : Ob B A v l) (hb : But X A C) (hx : ∀ k, v.ownBlock = some k → ¬ X k) : Ob B C v l := by
  refine ⟨h.1, ?_⟩
  rcases h.2 with h | ⟨g, cap, cur, rfl, hg, hh, r⟩
  · exact .inl h
  · exact .inr ⟨g, cap, cur, rfl, hg, hb.at hh (hx g rfl), r⟩
theorem Ob.below {B : Nat} {w w' : World} {v : Value} {l : List UInt8} (h : Ob B w v l) (hb : Below w.heap.size w w') : Ob B w' v l := h.but (But.of_below hb fun _ => False) fun _ _ c => c
theorem Ob.no {B : Nat} {w : World} {v : Value} {l : List UInt8} {b : Nat} {cs : Array Value} {T : TypeId} {fz : Nat × Nat} (h : Ob B w v l) (hb : w.heap[b]? = some (.cells cs T fz)) (hT : T ≠ 5) : v.ownBlock ≠ some b := fun e1 => by
  rcases h.2 with ⟨rfl, _⟩ | ⟨g, cap, cur, rfl, hg, hh, r⟩
  · simp [Value.ownBlock] at e1
  · simp [Value.ownBlock] at e1
    subst e1
    rw [hb] at hh
    simp at hh
    exact hT hh.2.1
theorem Ob.lt {B : Nat} {w : World} {v : Value} {l : List UInt8} (h : Ob B w v l) : ∀ k, v.ownBlock = some k → B ≤ k ∧ k < w.heap.size := fun k hk => World.ownsRow.lt h k hk
theorem Ob.form {B : Nat} {w : World} {v : Value} {l : List UInt8} (h : Ob B w v l) : ∃ ao ca, v = .slice ao l.length ca ∧ l.length ≤ ca ∧ ca ≤ 9223372036854775807 := by
  obtain ⟨ao, cap, e, _, h3, h4, _⟩ := h.sl
  exact ⟨ao, cap, e, h3, by unfold maxLen at h4; omega⟩
theorem run_app {B : Nat} {w : World} {v vx : Value} {l m : List UInt8} (h : Ob B w v l) (hm : Sl w vx m) (hl : l.length + m.length ≤ 140737488355328) (hB : B ≤ w.heap.size) (ty : TypeId) :
    ∃ v' w', (Builtin.append_ #[30, 30] ty #[v, vx]).run Tryz.prog w = .ok v' w' ∧ Ob B w' v' (l ++ m) ∧ w.grownBy w' v.ownBlock ∧ (v'.ownBlock = v.ownBlock ∨ v'.ownBlock = some w.heap.size) := by
  obtain ⟨i0, hi, hz0, hz1, hz2⟩ := info_parts infoB
  obtain ⟨ao, cap, rfl, h2, h3, h4, h5⟩ := hm
  cases ao with
  | none =>
    obtain ⟨rfl, rfl⟩ := h2 rfl
    refine ⟨v, w, ?_, by simpa using h, ⟨rfl, rfl, rfl, Nat.le_refl _, fun _ _ _ => rfl⟩, .inl rfl⟩
    exact run_append_owned_none (P := Tryz.prog) (w := w) B 30 ty 5 i0 1 Tryz.underlying30 hi v l.length (bvals l) h
  | some ad =>
    have hcells : ∀ j u, (bvals m)[j]? = some u → w.cell? (ad.add j) = some u := by
      intro j u hu
      have hj : j < m.length := by
        have := (List.getElem?_eq_some_iff.1 hu).1
        simpa [bvals] using this
      obtain ⟨b, off, e1, hc⟩ := h5 j hj
      simp only [Option.some.injEq] at e1
      subst e1
      rw [bvals_get hj] at hu
      simp only [Option.some.injEq] at hu
      subst hu
      rw [addr_add]; exact hc
    obtain ⟨v', w', hr, ho, hg, _, hat⟩ := run_append_own_at (P := Tryz.prog) w B 30 ty 5 i0 (.int .u8 0) 1 1 Tryz.underlying30 hi hz0 hz1 hz2 rfl (by decide) v l.length (bvals l) h ad m.length cap (bvals m) (by simp [bvals]) hcells (by
      intro u hu
      simp only [bvals, List.mem_map] at hu
      obtain ⟨c, _, rfl⟩ := hu
      rfl) (by unfold maxLen; omega) (by omega) hB
    refine ⟨v', w', hr, ?_, hg, hat⟩
    unfold Ob
    rw [List.length_append, bvals_append]
    exact ho
theorem eqlS (w : World) (a : Option Addr) (n c n' c' : Nat) : (binOp .eql 30 (.slice a n c) (.slice none n' c')).run Tryz.prog w = .ok (.bool a.isNone) w := Lib.run_eql_slice_nil w _ _ a n c n' c' Tryz.underlying30
theorem clone_bytes (w : World) (v : Value) (l : List UInt8) (hv : Sl w v l) (hl : l.length ≤ 140737488355328) :
    Calls Tryz.prog 83 #[v] w fun e w' => ∃ v', e = .returned v' ∧ Ob w.heap.size w' v' l ∧ Below w.heap.size w w' := by
  have qT := eqlS
  have V := hide hv
  obtain ⟨ao, cap, rfl, h2, _⟩ := hv
  cases ao with
  | none =>
    obtain ⟨rfl, rfl⟩ := h2 rfl
    clear h2 V
    go_enter Tryz.func83, Tryz.ntmps83
    go_wp2_with fail
    go_ret
    exact ⟨_, rfl, Ob.nil _ _, Below.refl _ _⟩
  | some ad =>
    clear h2
    have hB := hide ((Below.refl _ w).alloc (Nat.le_refl _) (.cells #[] 5))
    have O1 : Ob w.heap.size (w.alloc (.cells #[] 5)) (.slice (some ⟨w.heap.size, 0, none⟩) 0 0) [] := owns_zero (Nat.le_refl _) (heap_alloc_new w _) rfl (Nat.zero_le _)
    obtain ⟨v', w', hr, O2, hg, _⟩ := run_app (ty := 30) O1 (Below.sl hB.out V.out) (by simpa using hl) (by simp)
    have K : Hid (Ob w.heap.size w' v' l ∧ Below w.heap.size w w') := ⟨by simpa using O2, hB.out.grown hg (by simp) (fun k hk => by simp [Value.ownBlock] at hk; omega)⟩
    clear O1 O2 hg
    go_enter Tryz.func83, Tryz.ntmps83
    go_wp2_with (at_builtin; refine Lib.wpList_append_run _ rfl (.tmp 5) (.tmp 6) 30 30 rfl _ _ rfl rfl _ _ hr ?_)
    go_ret
    exact ⟨_, rfl, K.out⟩
structure Fl where
  by_ : List UInt8
  la : List UInt8
  sp : Nat
def TFl : TypeId := 124
structure FlAt (w : World) (p : Nat) (f : Fl) (vb vl : Value) : Prop where
  box : w.heap[p]? = some (.cells #[vb, vl, .int .i64 (f.sp : Int)] TFl (0, 0))
  b : Ob 0 w vb f.by_
  l : Ob 0 w vl f.la
  ne : ∀ k, vb.ownBlock = some k → vl.ownBlock ≠ some k
  le : f.la.length ≤ f.by_.length
  sp : f.sp ≤ f.by_.length - f.la.length
  sz : f.by_.length ≤ 1099511627776
def FOwn (p : Nat) (vb vl : Value) (k : Nat) : Prop := k = p ∨ vb.ownBlock = some k ∨ vl.ownBlock = some k
theorem FlAt.but {X : Nat → Prop} {A B : World} {p : Nat} {f : Fl} {vb vl : Value} (h : FlAt A p f vb vl) (hb : But X A B) (hx : ∀ k, FOwn p vb vl k → ¬ X k) : FlAt B p f vb vl :=
  ⟨hb.at h.box (hx p (.inl rfl)), h.b.but hb fun k hk => hx k (.inr (.inl hk)), h.l.but hb fun k hk => hx k (.inr (.inr hk)), h.ne, h.le, h.sp, h.sz⟩
theorem FlAt.below {A B : World} {p : Nat} {f : Fl} {vb vl : Value} (h : FlAt A p f vb vl) (hb : Below A.heap.size A B) : FlAt B p f vb vl := h.but (But.of_below hb fun _ => False) fun _ _ c => c
theorem FlAt.lt {w : World} {p : Nat} {f : Fl} {vb vl : Value} (h : FlAt w p f vb vl) : ∀ k, FOwn p vb vl k → k < w.heap.size := by
  rintro k (rfl | e | e)
  · exact heap_lt h.box
  · exact (h.b.lt k e).2
  · exact (h.l.lt k e).2
theorem FlAt.new {w : World} {p : Nat} (h : w.heap[p]? = some (.cells #[.slice none 0 0, .slice none 0 0, .int .i64 0] 124 (0, 0))) : FlAt w p ⟨[], [], 0⟩ (.slice none 0 0) (.slice none 0 0) :=
  ⟨h, Ob.nil _ _, Ob.nil _ _, fun k hk => by simp [Value.ownBlock] at hk, Nat.le_refl _, Nat.zero_le _, Nat.zero_le _⟩
theorem tail_any (w : World) (p : Nat) (f : Fl) (vb vl : Value) (h : FlAt w p f vb vl) : Calls Tryz.prog 85 #[.pointer (some ⟨p, 0, none⟩)] w fun e w' => e = .returned (.int .i64 ((f.by_.length - f.la.length : Nat) : Int)) ∧ ∃ n, w' = w.drewN n := by
  obtain ⟨x0, x1, _⟩ := cells3 h.box
  obtain ⟨ao, ca, rfl, _, _⟩ := h.b.form
  obtain ⟨ao2, ca2, rfl, _, _⟩ := h.l.form
  have hle := h.le
  have hsz := h.sz
  clear h
  generalize f.by_.length = n at *
  generalize f.la.length = m at *
  have e1 : ((n - m : Nat) : Int) = (n : Int) - (m : Int) := by omega
  have e2 : IntKind.i64.wrap ((n : Int) - (m : Int)) = (n : Int) - (m : Int) := by rw [IntKind.wrap_i64]; omega
  rw [e1]
  clear e1
  go_enter Tryz.func85, Tryz.ntmps85
  go_upto_region 1 with fail
  go_quiet (fail)
  go_wp2_with fail
  go_ret
  exact ⟨rfl, _, rfl⟩
theorem Ob.zeros {B g cap : Nat} : ∀ (k o : Nat) (w : World) (L : List UInt8), Ob B w (.slice (some ⟨g, 0, none⟩) L.length cap) L → o + k ≤ L.length →
    Ob B (w.setCells g o (List.replicate k (.int .u8 0))) (.slice (some ⟨g, 0, none⟩) L.length cap) (L.take o ++ List.replicate k 0 ++ L.drop (o + k)) ∧ w.grownBy (w.setCells g o (List.replicate k (.int .u8 0))) (some g) := by
  intro k
  induction k with
  | zero =>
    intro o w L h ho
    have e0 : w.setCells g o (List.replicate 0 (.int .u8 0)) = w := by cases o <;> rfl
    refine ⟨?_, by rw [e0]; exact ⟨rfl, rfl, rfl, Nat.le_refl _, fun _ _ _ => rfl⟩⟩
    have e : w.setCells g o (List.replicate 0 (.int .u8 0)) = w := by cases o <;> rfl
    rw [e]
    simpa using h
  | succ k ih =>
    intro o w L h ho
    obtain ⟨s1, g1⟩ := World.ownsRow.stored h o (.int .u8 0)
    have hL : (L.set o 0).length = L.length := by simp
    have s2 : Ob B (w.setCell ⟨g, o, none⟩ (.int .u8 0)) (.slice (some ⟨g, 0, none⟩) (L.set o 0).length cap) (L.set o 0) := by
      unfold Ob
      rw [hL, show bvals (L.set o 0) = (bvals L).set o (.int .u8 0) by unfold bvals; rw [List.map_set]; rfl]
      exact s1
    obtain ⟨i1, i2⟩ := ih (o + 1) _ (L.set o 0) s2 (by rw [hL]; omega)
    rw [hL] at i1
    refine ⟨?_, ?_⟩
    · have e : (L.set o 0).take (o + 1) ++ List.replicate k 0 ++ (L.set o 0).drop (o + 1 + k) = L.take o ++ List.replicate (k + 1) 0 ++ L.drop (o + (k + 1)) := by
        rw [List.take_succ_eq_append_getElem (by rw [hL]; omega), List.getElem_set_self, List.take_set_of_le (Nat.le_refl _), List.drop_set_of_lt (by omega), List.replicate_succ, show o + 1 + k = o + (k + 1) by omega]
        simp
      rw [e] at i1
      exact i1
    · refine ⟨i2.os.trans g1.os, i2.tape.trans g1.tape, i2.output.trans g1.output, Nat.le_trans g1.size i2.size, fun j hj hn => ?_⟩
      rw [show w.setCells g o (List.replicate (k + 1) (.int .u8 0)) = (w.setCell ⟨g, o, none⟩ (.int .u8 0)).setCells g (o + 1) (List.replicate k (.int .u8 0)) from rfl, i2.block j (Nat.lt_of_lt_of_le hj g1.size) hn]
      exact g1.block j hj hn
theorem zeroU8 (w : World) : (zeroValue 5).run Tryz.prog w = .ok (.int .u8 0) w := by kernel_rfl
theorem run_clear {B : Nat} {w : World} {ao : Option Addr} {n ca k : Nat} {L : List UInt8} (h : Ob B w (.slice ao n ca) L) (hn : n = L.length) (hk : k ≤ L.length) (ty : TypeId) :
    ∃ w', (Builtin.clear_ #[30] ty #[.slice ao k ca]).run Tryz.prog w = .ok (.tuple #[]) w' ∧ Ob B w' (.slice ao n ca) (List.replicate k 0 ++ L.drop k) ∧ w.grownBy w' (Value.slice ao n ca).ownBlock := by
  by_cases k0 : k = 0
  · subst k0
    refine ⟨w, ?_, by simpa using h, ⟨rfl, rfl, rfl, Nat.le_refl _, fun _ _ _ => rfl⟩⟩
    cases ao <;> simp [Builtin.clear_, run_underlying Tryz.underlying30]
  · subst hn
    rcases h.2 with ⟨e, e2⟩ | ⟨g, cap, cur, e, hg, hh, r⟩
    · omega
    · simp only [Value.slice.injEq] at e
      obtain ⟨rfl, _, rfl⟩ := e
      obtain ⟨r1, _, r2, _⟩ := r
      have hc : ∀ j, j < k → (w.cell? ⟨g, 0 + j, none⟩).isSome = true := by
        intro j hj
        simp [World.cell?, hh]
        omega
      have hf : ∀ j, j < k → w.frozen? ⟨g, 0 + j, none⟩ = false := fun j _ => World.ownsRow.frozenAt h _
      have hr := Lib.run_clear_slice (P := Tryz.prog) w 30 5 ty (.int .u8 0) Tryz.underlying30 zeroU8 rfl rfl g 0 k ca (by omega) hc hf
      obtain ⟨z1, z2⟩ := Ob.zeros k 0 w L h (by omega)
      exact ⟨_, hr, by simpa using z1, z2⟩
def svd (f : Fl) (n : Nat) : List UInt8 := List.replicate (min f.sp n) 0 ++ ((f.by_.drop f.la.length).take n).drop (min f.sp n)
theorem svd_len (f : Fl) (n : Nat) (h : f.la.length + n ≤ f.by_.length) : (svd f n).length = n := by
  unfold svd
  simp
  omega
theorem run_sub {w : World} {v : Value} {l : List UInt8} (h : Sl w v l) (a n : Nat) (hn : a + n ≤ l.length) :
    ∃ v', (∀ q : World, (Instr.slice 30 v (some (.int .i64 (a : Int))) (some (.int .i64 ((a : Int) + (n : Int)))) none).run Tryz.prog q = .ok v' q) ∧ Sl w v' ((l.drop a).take n) := by
  obtain ⟨ao, ca, rfl, h2, h3, h4, h5⟩ := h
  refine ⟨.slice (if ca = a then ao else ao.map (·.add (a * 1))) n (ca - a), fun q => ?_, ?_⟩
  · have e1 : (0 : Int) ≤ (a : Int) + (n : Int) ∧ (a : Int) + (n : Int) ≤ (ca : Int) := by omega
    have e2 : ((a : Int) + (n : Int)).toNat = a + n := by omega
    have e3 : (a : Int) ≤ ((a + n : Nat) : Int) := by omega
    have e4 : (sizeOf 5).run Tryz.prog q = .ok 1 q := by kernel_rfl
    simp [Instr.slice, run_underlying Tryz.underlying30, Instr.sliceBounds, Instr.sliceBound, asIntOf, e1, e2, e4, Result.andThen]
  · have hlen : ((l.drop a).take n).length = n := by simp; omega
    refine ⟨_, _, by rw [hlen], ?_, by rw [hlen]; omega, by omega, ?_⟩
    · intro e
      cases ao with
      | none => obtain ⟨rfl, rfl⟩ := h2 rfl; simp
      | some ad => split at e <;> simp at e
    · intro i hi
      rw [hlen] at hi
      obtain ⟨b, off, e, hc⟩ := h5 (a + i) (by omega)
      subst e
      have hne : ca ≠ a := by omega
      refine ⟨b, off + a, by simp [hne, addr_add], ?_⟩
      rw [show off + a + i = off + (a + i) by omega, hc]
      simp
set_option maxRecDepth 100000 in
theorem saved_any (w : World) (p n : Nat) (f : Fl) (vb vl : Value) (h : FlAt w p f vb vl) (hn : f.la.length + n ≤ f.by_.length) :
    Calls Tryz.prog 107 #[.pointer (some ⟨p, 0, none⟩), .int .i64 (n : Int)] w fun e w' => ∃ v, e = .returned v ∧ Ob w.heap.size w' v (svd f n) ∧ Below w.heap.size w w' := by
  obtain ⟨x0, x1, x2⟩ := cells3 h.box
  have hsz := h.sz
  have hB := hide h.box
  obtain ⟨vs, hS, VS⟩ := run_sub h.b.sl f.la.length n hn
  have hlen : ((f.by_.drop f.la.length).take n).length = n := by simp; omega
  have hC := clone_bytes w vs _ VS (by rw [hlen]; omega)
  obtain ⟨k, hk⟩ : ∃ k, Hid (min f.sp n = k) := ⟨_, rfl⟩
  have hE : Hid (svd f n = List.replicate k 0 ++ ((f.by_.drop f.la.length).take n).drop k) := by show _ = _; rw [← hk.out]; rfl
  rw [hE.out]
  have hk2 : k ≤ n ∧ k ≤ f.sp := by have := hk.out; omega
  have hkm : (f.sp ≤ n ∧ k = f.sp) ∨ (n < f.sp ∧ k = n) := by have := hk.out; omega
  generalize (f.by_.drop f.la.length).take n = L at *
  obtain ⟨ao2, ca2, rfl, _, _⟩ := h.l.form
  have w1' : IntKind.i64.wrap ((f.la.length : Int) + (n : Int)) = (f.la.length : Int) + (n : Int) := by rw [IntKind.wrap_i64]; omega
  have hsp : f.sp ≤ 1099511627776 := by have := h.sp; omega
  have hF : Hid (∀ q, Below w.heap.size w q → q.cell? ⟨p, 2, none⟩ = some (.int .i64 (f.sp : Int))) := fun q hq => by rw [hq.cell (p := ⟨p, 2, none⟩) (lt_of_cell x2)]; exact x2
  clear h hE VS
  generalize f.la.length = a at *
  generalize f.sp = sp at *
  generalize f.by_.length = N at *
  go_enter Tryz.func107, Tryz.ntmps107
  go_upto_region 3 with (go_at_call 83; refine hC.mono ?_; rintro e w1 ⟨v1, rfl, O1, B1⟩; replace O1 := hide O1; replace B1 := hide B1)
  obtain ⟨ao1, ca1, rfl, c1, c2⟩ := O1.out.form
  obtain ⟨w2, hR, O2, G2⟩ := run_clear (k := k) O1.out rfl (by omega) 0
  have y2 := hF.out w1 B1.out
  have K : Hid (Ob w.heap.size w2 (.slice ao1 L.length ca1) (List.replicate k 0 ++ L.drop k) ∧ Below w.heap.size w w2) := ⟨O2, B1.out.grown G2 B1.out.size (fun j hj => (O1.out.lt j hj).1)⟩
  rw [hlen] at K c1
  rw [hlen]
  clear O1 O2 G2 hC hS x0 x1 x2 hk2 hk
  replace hlen := hide hlen
  replace hn := hide hn
  have hmin : min (sp : Int) (n : Int) = (k : Int) := by omega
  have i2 : (k : Int) ≤ (ca1 : Int) := by omega
  clear hkm
  go_wp2_with fail
  go_ret
  exact ⟨_, rfl, K.out⟩
def jnk (f : Fl) (N : Int) (J : List UInt8) : Nat := min J.length (min (f.by_.length - f.la.length - wthn N (f.by_.length - f.la.length)) 512)
def crF (f : Fl) (N : Int) (J : List UInt8) : List UInt8 := f.la ++ (svd f (wthn N (f.by_.length - f.la.length)) ++ J.take (jnk f N J))
theorem Row.three {w : World} {o : TypeId} (a b c : Value) : Row (w.alloc (.cells #[a, b, c] o)) (.slice (some ⟨w.heap.size, 0, none⟩) 3 3) [a, b, c] := by
  refine ⟨some ⟨w.heap.size, 0, none⟩, 3, rfl, fun e => by simp at e, Nat.le_refl _, by decide, fun i hi => ?_⟩
  have hi2 : i = 0 ∨ i = 1 ∨ i = 2 := by simp at hi; omega
  refine ⟨_, _, rfl, ?_⟩
  rw [Nat.zero_add]
  unfold World.cell?
  simp only [heap_alloc_new]
  rcases hi2 with rfl | rfl | rfl <;> rfl
theorem sls3 {w : World} {a b c : Value} {x y z : List UInt8} (ha : Sl w a x) (hb : Sl w b y) (hc : Sl w c z) : Sls w [a, b, c] [x, y, z] := by
  refine ⟨rfl, fun i h1 h2 => ?_⟩
  have hi2 : i = 0 ∨ i = 1 ∨ i = 2 := by simp at h1; omega
  rcases hi2 with rfl | rfl | rfl
  · exact ha
  · exact hb
  · exact hc
theorem _root_.Go.Proofs.YtjehpijjneghpaaGreat.Sl.below4 {w w' : World} {v : Value} {l : List UInt8} (h : Sl w v l) (hb : Below w.heap.size w w') : Sl w' v l := Below.sl hb h
theorem sl_take {w : World} {a : Option Addr} {n c j : Nat} {l : List UInt8} (h : Sl w (.slice a n c) l) (hj : j ≤ l.length) : Sl w (.slice a j c) (l.take j) := by
  obtain ⟨ao, ca, e, h2, h3, h4, h5⟩ := h
  simp only [Value.slice.injEq] at e
  obtain ⟨rfl, _, rfl⟩ := e
  have hl : (l.take j).length = j := by simp; omega
  refine ⟨a, c, by rw [hl], fun e => ?_, by rw [hl]; omega, h4, fun i hi => ?_⟩
  · obtain ⟨rfl, rfl⟩ := h2 e
    simp
  · rw [hl] at hi
    obtain ⟨b, off, e, hc⟩ := h5 i (by omega)
    exact ⟨b, off, e, by rw [hc]; simp⟩
theorem FlAt.setSp {w : World} {p : Nat} {f : Fl} {vb vl : Value} (h : FlAt w p f vb vl) (n : Nat) (hn : n ≤ f.by_.length - f.la.length) : FlAt (w.setCell ⟨p, 2, none⟩ (.int .i64 (n : Int))) p ⟨f.by_, f.la, n⟩ vb vl := by
  have g := But.of_grownBy (X := fun k => k = p) (grown_setCell w p 2 (.int .i64 (n : Int))) fun k e => by cases e; rfl
  refine ⟨?_, h.b.but g (fun k hk e => h.b.no h.box (by decide) (by rw [← e]; exact hk)), h.l.but g (fun k hk e => h.l.no h.box (by decide) (by rw [← e]; exact hk)), h.ne, h.le, hn, h.sz⟩
  have := heap_setCell_same w p 2 _ _ (.int .i64 (n : Int)) h.box
  simpa using this
theorem spoil_any (w : World) (p : Nat) (f : Fl) (vb vl : Value) (h : FlAt w p f vb vl) :
    Calls Tryz.prog 77 #[.pointer (some ⟨p, 0, none⟩)] w fun e w' => e = .returned (.tuple #[]) ∧ FlAt w' p ⟨f.by_, f.la, f.by_.length - f.la.length⟩ vb vl ∧ But (fun k => k = p) w w' := by
  have hT := tail_any w p f vb vl h
  have H := hide h
  clear h
  go_enter Tryz.func77, Tryz.ntmps77
  go_wp2_with (go_at_call 85; refine hT.mono ?_; rintro e w1 ⟨rfl, nq, rfl⟩; have x2 := (cells3 (H.out.below (Qt.below ⟨nq, rfl⟩ _)).box).2.2; have x3 := (frozen3 (H.out.below (Qt.below ⟨nq, rfl⟩ _)).box).2.2)
  go_end0
  have H1 : FlAt (w.drewN nq) p f vb vl := H.out.below (Qt.below ⟨nq, rfl⟩ _)
  refine ⟨rfl, H1.setSp _ (Nat.le_refl _), ?_⟩
  exact (But.of_below (Qt.below ⟨nq, rfl⟩ _) _).trans (But.of_grownBy (grown_setCell (w.drewN nq) p 2 _) fun k e => by cases e; rfl)
end Go.Proofs.YtjehpijjneghpaaGreat.Dk
