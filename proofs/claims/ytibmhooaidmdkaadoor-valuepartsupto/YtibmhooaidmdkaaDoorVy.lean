/-
  The walk of ValueParts, over what May, Size and Key answer.
-/
import Derived.Test.YtibmhooaidmdkaaDoorVy0
import Derived.Deep.CutRange
namespace Go.Proofs.YtibmhooaidmdkaaDoor.Va
open Go.RowKit Go.Proofs.YtibmhooaidmdkaaDoor.Rl
set_option maxRecDepth 100000

set_option maxHeartbeats 4000000 in
theorem parts_walk (hbeg : Does0 7) (hkey : DoesKey 9) (hsize : Does1 17 fun x => .int .i64 (sizeO x)) (hmay : Does1 10 fun x => .bool (mayV x))
    (w : World) (ao : Option Addr) (l : List Val) (cap : Nat) (t : List UInt8) (hno : ao = none → l = [] ∧ cap = 0) (hc : l.length ≤ cap) (hcm : cap ≤ maxLen) (hl : IsL w ao 0 l) (hw : wtL l) (hsz : szL l ≤ 1048576) (ht : t.length ≤ 1048576) (hML : Mx w) :
    Calls Tryd.prog 6 #[.slice ao l.length cap, .string (bstr t)] w fun e w' => e = .returned (.bool true) ∧ Below w.heap.size w w' := by
  replace hML : Hid (Mx w) := hML
  replace hbeg : Hid (Does0 7) := hbeg
  replace hmay : Hid (Does1 10 fun x => .bool (mayV x)) := hmay
  replace hkey : Hid (DoesKey 9) := hkey
  replace hsize : Hid (Does1 17 fun x => .int .i64 (sizeO x)) := hsize
  replace hl : Hid (IsL w ao 0 l) := hl
  replace hw : Hid (wtL l) := hw
  replace hsz : Hid (szL l ≤ 1048576) := hsz
  have hA : Hid ((ao = none → l = [] ∧ cap = 0) ∧ l.length ≤ cap ∧ cap ≤ maxLen) := ⟨hno, hc, hcm⟩
  obtain ⟨n, hn⟩ : ∃ n, Hid (l.length = n) := ⟨_, rfl⟩
  have hn1 : n ≤ 9223372036854775807 := by rw [← hn.out]; unfold maxLen at hcm; omega
  rw [hn.out]
  clear hno hc hcm
  have hS : Hid (∀ i, 0 ≤ sizesO (l.take i) ∧ sizesO (l.take i) ≤ 1048576 ∧ (keysO (l.take i)).length ≤ 9437184) := fun i => by
    have h1 := sizesO_le (l.take i)
    have h2 := keysO_len (l.take i)
    have h3 := szL_split l i
    have h4 := hsz.out
    omega
  obtain ⟨nt, hnt⟩ : ∃ n, Hid (t.length = n) := ⟨_, rfl⟩
  rw [hnt.out] at ht
  go_enter Tryd.func6, Tryd.ntmps6
  go_wp2_with fail
  refine (hbeg.out _ hML.out).mono ?_
  rintro e w1 ⟨rfl, hb1⟩
  replace hb1 : Hid (Below w.heap.size w w1) := hb1
  have hz1 : Hid (w.heap.size ≤ w1.heap.size) := hb1.out.size
  go_wp2_with fail
  go_loopw [5, 6, 7, 8] (fun v5 v6 v7 v8 wr => ∃ (i : Nat) (z : Int) (m : Bool), i ≤ n ∧ v8 = .int .i64 (i : Int) ∧ v6 = .int .i64 z ∧ v7 = .bool m ∧ 1 ≤ z ∧ z ≤ 1048577 ∧ Hid (z = 1 + sizesO (l.take i)) ∧ Hid (m = flatsO (l.take i)) ∧ Hid (wr.ownsRow w.heap.size 5 1 v5 (6 :: keysO (l.take i)).length (bvals (6 :: keysO (l.take i)))) ∧ Hid (Below w.heap.size w wr)) (fun _ _ _ x _ => n - (intOf x).toNat)
  case atStart => exact ⟨0, 1, true, by omega, rfl, rfl, rfl, by omega, by omega, by show _ = _; simp [sizesO], by show _ = _; simp [flatsO], owns_name (owns_six hz1.out) (by simp [keysO]) (by simp [keysO]), hb1.out.trans ((box_below _ _).mono hz1.out)⟩
  case round =>
    obtain ⟨i, z, m, hi, rfl, rfl, rfl, hz0, hz9, hz, hm, hown, hB⟩ := hrel
    have hsw : Hid (w.heap.size ≤ wr.heap.size) := hB.out.size
    by_cases hin : i = n
    · have htk : l.take i = l := List.take_of_length_le (by have := hn.out; omega)
      rw [htk] at hz hm hown
      subst hin
      have kst : ∀ (w : World) (a : Addr) (x : Nat) (m : Mode), (store a (.float .f64 x) m).run Tryd.prog w = stored Tryd.prog w a (.float .f64 x) m := fun w a x m => run_store Tryd.prog w a _ m rfl
      go_upto_region 16 with fail
      obtain ⟨w6, hw6⟩ : ∃ w6, Hid (wr.alloc (.cells #[.int .i64 5, .int .i64 0, .float .f64 0, .string (bstr t), .slice none 0 0] 25) = w6) := ⟨_, rfl⟩
      rw [hw6.out]
      have hb6 : Below wr.heap.size wr w6 := by rw [← hw6.out]; exact box_below _ _
      have hx6 : Hid (Bx w6 wr.heap.size 5 0 0 t none 0 0) := by show Bx ..; rw [← hw6.out]; exact Bx.new _ _ _ _ _ _ _ _ _
      have hB6 : Hid (Below w.heap.size w w6) := hB.out.trans (hb6.mono hsw.out)
      have hown6 : Hid (w6.ownsRow w.heap.size 5 1 u5 (6 :: keysO l).length (bvals (6 :: keysO l))) := ownsRow_below hown.out hb6
      have hvt : Hid (∀ q, IsV q (.agg #[.int .i64 5, .int .i64 0, .float .f64 0, .string (bstr t), .slice none 0 0]) (.mk 5 0 0 t [])) := fun q => by
        rw [IsV]
        exact ⟨none, 0, rfl, fun _ => ⟨rfl, rfl⟩, by simp, by decide, by rw [hnt.out]; omega, by rw [IsL]; trivial⟩
      have hwt5 : Hid (wtV (.mk 5 0 0 t [])) := by show wtV _; rw [wtV, wtL]; simp
      have hmt : Hid (mayV (.mk 5 0 0 t []) = decide (nt < 65536)) := by show _ = _; rw [text_may, hnt.out]
      clear hb6 hw6 hown hB kst
      obtain ⟨R, hR⟩ : ∃ R, Hid (wr.heap.size = R) := ⟨_, rfl⟩
      rw [hR.out] at hx6 ⊢
      have hls : ((bstr t).size : Int) = (nt : Int) := by rw [← hnt.out]; rfl
      go_cut [89] from 70 (fun s wx => s = .bool false ∧ Hid (Below w.heap.size w wx) ∧ Hid (wx.ownsRow w.heap.size 5 1 u5 (6 :: keysO l).length (bvals (6 :: keysO l))))
      case first =>
        obtain ⟨d0, d1, d2, d3, d4⟩ := hx6.out
        by_cases hlt : nt < 65536
        · have kmt : Hid (∀ q, Calls Tryd.prog 10 #[.agg #[.int .i64 5, .int .i64 0, .float .f64 0, .string (bstr t), .slice none 0 0]] q fun e w' => e = .returned (.bool true) ∧ Below q.heap.size q w') := fun q => by
            have t : Calls Tryd.prog 10 #[.agg #[.int .i64 5, .int .i64 0, .float .f64 0, .string (bstr t), .slice none 0 0]] q fun e w' => e = .returned (.bool (mayV (.mk 5 0 0 t []))) ∧ Below q.heap.size q w' := hmay.out q _ _ (hvt.out q) hwt5.out
            rw [hmt.out, decide_eq_true hlt] at t
            exact t
          have kst : Hid (∀ q, Calls Tryd.prog 17 #[.agg #[.int .i64 5, .int .i64 0, .float .f64 0, .string (bstr t), .slice none 0 0]] q fun e w' => e = .returned (.int .i64 ((nt : Int) + 1)) ∧ Below q.heap.size q w') := fun q => by
            have t : Calls Tryd.prog 17 #[.agg #[.int .i64 5, .int .i64 0, .float .f64 0, .string (bstr t), .slice none 0 0]] q fun e w' => e = .returned (.int .i64 (sizeO (.mk 5 0 0 t []))) ∧ Below q.heap.size q w' := hsize.out q _ _ (hvt.out q) hwt5.out
            rw [text_size (by rw [hnt.out]; exact hlt), hnt.out] at t
            exact t
          have l1 : (nt : Int) < 65536 := by omega
          have l2 : (((nt : Int) + 1) != ((nt : Int) + 1)) = false := by simp
          clear hlt
          go_wp2_with fail
          refine (kmt.out _).mono ?_
          rintro e w7 ⟨rfl, hb7⟩
          have hx7 : Hid (Bx w7 R 5 0 0 t none 0 0) := hx6.out.below hb7
          have hB7 : Hid (Below w.heap.size w w7) := hB6.out.trans (hb7.mono hB6.out.size)
          have hown7 := hideP (ownsRow_below hown6.out hb7)
          clear hb7 d0 d1 d2 d3 d4
          obtain ⟨d0, d1, d2, d3, d4⟩ := hx7.out
          go_wp2_with fail
          refine (kmt.out _).mono ?_
          rintro e w8 ⟨rfl, hb8⟩
          have hx8 : Hid (Bx w8 R 5 0 0 t none 0 0) := hx7.out.below hb8
          have hB8 : Hid (Below w.heap.size w w8) := hB7.out.trans (hb8.mono hB7.out.size)
          have hown8 := hideP (ownsRow_below hown7.out hb8)
          clear hb8 d0 d1 d2 d3 d4
          obtain ⟨d0, d1, d2, d3, d4⟩ := hx8.out
          go_wp2_with fail
          refine (kst.out _).mono ?_
          rintro e w9 ⟨rfl, hb9⟩
          have hB9 : Hid (Below w.heap.size w w9) := hB8.out.trans (hb9.mono hB8.out.size)
          have hown9 := hideP (ownsRow_below hown8.out hb9)
          clear hb9 d0 d1 d2 d3 d4
          go_wp2_with fail
          go_meet
          case rel => exact ⟨rfl, hB9, hown9⟩
        · have kmt : Hid (∀ q, Calls Tryd.prog 10 #[.agg #[.int .i64 5, .int .i64 0, .float .f64 0, .string (bstr t), .slice none 0 0]] q fun e w' => e = .returned (.bool false) ∧ Below q.heap.size q w') := fun q => by
            have t : Calls Tryd.prog 10 #[.agg #[.int .i64 5, .int .i64 0, .float .f64 0, .string (bstr t), .slice none 0 0]] q fun e w' => e = .returned (.bool (mayV (.mk 5 0 0 t []))) ∧ Below q.heap.size q w' := hmay.out q _ _ (hvt.out q) hwt5.out
            rw [hmt.out, decide_eq_false hlt] at t
            exact t
          have l1 : ¬ (nt : Int) < 65536 := by omega
          clear hlt
          go_wp2_with fail
          refine (kmt.out _).mono ?_
          rintro e w7 ⟨rfl, hb7⟩
          have hx7 : Hid (Bx w7 R 5 0 0 t none 0 0) := hx6.out.below hb7
          have hB7 : Hid (Below w.heap.size w w7) := hB6.out.trans (hb7.mono hB6.out.size)
          have hown7 := hideP (ownsRow_below hown6.out hb7)
          clear hb7 d0 d1 d2 d3 d4
          obtain ⟨d0, d1, d2, d3, d4⟩ := hx7.out
          go_wp2_with fail
          refine (kmt.out _).mono ?_
          rintro e w8 ⟨rfl, hb8⟩
          have hB8 : Hid (Below w.heap.size w w8) := hB7.out.trans (hb8.mono hB7.out.size)
          have hown8 := hideP (ownsRow_below hown7.out hb8)
          clear hb8 d0 d1 d2 d3 d4
          go_wp2_with fail
          go_meet
          case rel => exact ⟨by simp [l1], hB8, hown8⟩
      case rest =>
        obtain ⟨rfl, hBc, hoc⟩ := hcut
        clear hx6 hB6 hown6 hvt hwt5 hmt hls
        cases m
        case false =>
          go_wp2_with fail
          go_ret
          exact ⟨rfl, hBc.out⟩
        by_cases hbig : 65536 < z
        · go_wp2_with fail
          go_ret
          exact ⟨rfl, hBc.out⟩
        have kst : ∀ (w : World) (a : Addr) (x : Nat) (m : Mode), (store a (.float .f64 x) m).run Tryd.prog w = stored Tryd.prog w a (.float .f64 x) m := fun w a x m => run_store Tryd.prog w a _ m rfl
        go_upto_region 21 with fail
        obtain ⟨w6, hw6⟩ : ∃ w6, Hid (wc.alloc (.cells #[.int .i64 6, .int .i64 0, .float .f64 0, .string ⟨#[]⟩, .slice ao i cap] 25) = w6) := ⟨_, rfl⟩
        rw [hw6.out]
        have hb6 : Below wc.heap.size wc w6 := by rw [← hw6.out]; exact box_below _ _
        have hx6 : Hid (Bx w6 wc.heap.size 6 0 0 [] ao i cap) := by show Bx ..; rw [← hw6.out]; exact Bx.new _ _ _ _ _ _ _ _ _
        have hB6 : Hid (Below w.heap.size w w6) := hBc.out.trans (hb6.mono hBc.out.size)
        have hown6 := hideP (ownsRow_below hoc.out hb6)
        obtain ⟨R, hR⟩ : ∃ R, Hid (wc.heap.size = R) := ⟨_, rfl⟩
        rw [hR.out] at hx6 ⊢
        clear hb6 hw6 hoc hBc kst
        have hfl : flatsO l = true := hm.out.symm
        have hmL : Hid (mayV (.mk 6 0 0 [] l) = true) := flats_may hfl (by have := hz.out; omega)
        have hvL : Hid (∀ q, Below w.heap.size w q → IsV q (.agg #[.int .i64 6, .int .i64 0, .float .f64 0, .string (bstr []), .slice ao i cap]) (.mk 6 0 0 [] l)) := fun q hb => by
          rw [IsV]
          exact ⟨ao, cap, by rw [hn.out], hA.out.1, hA.out.2.1, hA.out.2.2, by simp, IsL.below hb l ao 0 hl.out⟩
        have hwL : Hid (wtV (.mk 6 0 0 [] l)) := by show wtV _; rw [wtV]; exact ⟨by omega, by omega, by omega, hw.out⟩
        have kkey : Hid (∀ q, Below w.heap.size w q → Calls Tryd.prog 9 #[.agg #[.int .i64 6, .int .i64 0, .float .f64 0, .string (bstr []), .slice ao i cap]] q fun e w' => ∃ kv, e = .returned (.tuple #[kv, .int .i64 0]) ∧ w'.ownsRow q.heap.size 5 1 kv (6 :: keysO l ++ [0]).length (bvals (6 :: keysO l ++ [0])) ∧ Below q.heap.size q w') := fun q hb => by
          have t := Key_new q _ _ (hvL.out q hb) hwL.out
          rw [show errO (.mk 6 0 0 [] l) = 0 by rw [errO, hmL.out]; rfl, show keyO (.mk 6 0 0 [] l) = 6 :: keysO l ++ [0] by rw [keyO, hmL.out, flats_keys hfl]; exact key_list l] at t
          exact t
        have ksz : Hid (∀ q, Below w.heap.size w q → Calls Tryd.prog 17 #[.agg #[.int .i64 6, .int .i64 0, .float .f64 0, .string (bstr []), .slice ao i cap]] q fun e w' => e = .returned (.int .i64 z) ∧ Below q.heap.size q w') := fun q hb => by
          have t : Calls Tryd.prog 17 #[.agg #[.int .i64 6, .int .i64 0, .float .f64 0, .string (bstr []), .slice ao i cap]] q fun e w' => e = .returned (.int .i64 (sizeO (.mk 6 0 0 [] l))) ∧ Below q.heap.size q w' := hsize.out q _ _ (hvL.out q hb) hwL.out
          rw [show sizeO (.mk 6 0 0 [] l) = z by rw [sizeO, hmL.out, hz.out, flats_sizes hfl, szV]; simp] at t
          exact t
        have hkl : (keysO l).length ≤ 9437184 := by have := (hS.out l.length).2.2; rw [List.take_length] at this; exact this
        have zz : (z == z) = true := by simp
        clear hfl
        obtain ⟨d0, d1, d2, d3, d4⟩ := hx6.out
        go_wp2_with fail
        clear d0 d1 d2 d3 d4
        refine (kkey.out _ hB6.out).mono ?_
        rintro e w7 ⟨kv, rfl, slk, hb7⟩
        have hx7 : Hid (Bx w7 R 6 0 0 [] ao i cap) := hx6.out.below hb7
        have hB7 : Hid (Below w.heap.size w w7) := hB6.out.trans (hb7.mono hB6.out.size)
        have hown7 := hideP (ownsRow_below hown6.out hb7)
        replace slk : Hid (w7.ownsRow w6.heap.size 5 1 kv (6 :: keysO l ++ [0]).length (bvals (6 :: keysO l ++ [0]))) := slk
        have hu5 : Hid (∀ k, u5.ownBlock = some k → k < w6.heap.size) := fun k hk => (hown6.out.lt k hk).2
        clear hb7
        obtain ⟨d0, d1, d2, d3, d4⟩ := hx7.out
        go_wp2_with fail
        clear d0 d1 d2 d3 d4
        refine (ksz.out _ hB7.out).mono ?_
        rintro e w8 ⟨rfl, hb8⟩
        have hB8 : Hid (Below w.heap.size w w8) := hB7.out.trans (hb8.mono hB7.out.size)
        have hown8 := hideP (ownsRow_below hown7.out hb8)
        have slk8 := hideP (ownsRow_below slk.out hb8)
        have hs8 : Hid (w.heap.size ≤ w8.heap.size) := hB8.out.size
        clear hb8 slk
        go_wp2_with (at_builtin; refine wpList_append_bytes_on (by rfl) (.tmp 113) (.tmp 114) 28 rfl w.heap.size 5 Tryd.infoU8 Tryd.underlying28 _ _ (6 :: keysO l) [0] rfl (hown8.out.alloc _) rfl (Sl.one _ _ _ _ rfl) (by simp; omega) (by have := hs8.out; simp; omega) ?_)
        intro v9 w9 ho hb9 hg9
        have slk9 := owns_else (slk8.out.alloc _) hu5.out hg9
        obtain ⟨k1, c1, e1, _, p1, q1, r1⟩ := Sl.of_owns slk9
        obtain ⟨k2, c2, e2, _, p2, q2, r2⟩ := Sl.of_owns (owns_name (l := 6 :: keysO l ++ [0]) ho (by simp) (by simp))
        obtain ⟨N, hN⟩ : ∃ N, Hid (List.length (6 :: keysO l ++ [0]) = N) := ⟨List.length (6 :: keysO l ++ [0]), rfl⟩
        rw [hN.out] at e1 e2
        have keq : Hid (Calls Tryd.prog 16 #[.slice k1 N c1, .slice k2 N c2] w9 fun e w' => e = .returned (.bool true) ∧ Qt w9 w') := by
          have t := Go.Proofs.YtibmhooaidmdkaaDoor.eq_any w9 k1 k2 (6 :: keysO l ++ [0]) (6 :: keysO l ++ [0]) c1 c2 (Nat.le_trans p1 q1) (Nat.le_trans p2 q2) r1 r2
          rw [decide_eq_true (Eq.refl (6 :: keysO l ++ [0])), hN.out] at t
          exact t
        clear ho slk9 p1 q1 r1 p2 q2 r2
        subst e1 e2
        have hB9 : Hid (Below w.heap.size w w9) := (hB8.out.trans ((box_below _ _).mono hs8.out)).trans hb9
        clear hb9 hg9 slk8 hown8 hown7 hown6 hu5 hkl
        go_wp2_with fail
        refine keq.out.mono ?_
        rintro e w10 ⟨rfl, hq⟩
        have hB10 : Hid (Below w.heap.size w w10) := hB9.out.trans (Qt.below hq _)
        clear hq
        go_wp2_with fail
        go_ret
        exact ⟨rfl, hB10.out⟩
    · have hil : i < l.length := by have := hn.out; omega
      have i1 : (i : Int) < (n : Int) := by omega
      have i2 : (0 : Int) ≤ (i : Int) := by omega
      obtain ⟨x, hx⟩ : ∃ x, Hid (l[i] = x) := ⟨l[i], rfl⟩
      have hg := IsL.get hl.out i hil
      obtain ⟨b, off, c0, c1, c2, c3, c4, rfl, g0, g1, g2, g3, g4, hv⟩ := hg
      rw [Nat.zero_add] at g0 g1 g2 g3 g4
      rw [hx.out] at hv
      have hwx : Hid (wtV x) := by show wtV x; rw [← hx.out]; exact wtL_at hw.out i hil
      have hk2 : Hid (keysO (l.take (i + 1)) = keysO (l.take i) ++ keyO x) := by show _ = _; rw [keysO_take hil, hx.out]
      have hz2 : Hid (sizesO (l.take (i + 1)) = sizesO (l.take i) + sizeO x) := by show _ = _; rw [sizesO_take hil, hx.out]
      have hm2 : Hid (flatsO (l.take (i + 1)) = (m && (mayV x && flatV x))) := by show _ = _; rw [flatsO_take hil, hx.out, hm.out]
      obtain ⟨X, hX⟩ : ∃ X, Hid (x = X) := ⟨_, rfl⟩
      have hvv := hv
      obtain ⟨xk, xn, xr, xt, xl⟩ := x
      rw [IsV] at hvv
      obtain ⟨xo, xc, ev, _⟩ := hvv
      simp only [Value.agg.injEq, Array.mk.injEq, List.cons.injEq, and_true] at ev
      obtain ⟨rfl, rfl, rfl, rfl, rfl⟩ := ev
      obtain ⟨nx, hnx⟩ : ∃ n, Hid (xl.length = n) := ⟨_, rfl⟩
      have hfl : Hid (flatV X = (!decide (xk = 6) || decide (nx = 0))) := by
        show _ = _
        rw [← hX.out, ← hnx.out]
        cases xl <;> simp [flatV]
      rw [hnx.out] at g4 hv
      rw [hX.out] at hx hv hwx hk2 hz2 hm2
      have hcl : Hid (∀ q, Below w.heap.size w q → q.cell? ⟨b, off + i * 5, none⟩ = some (.int .i64 xk) ∧ q.cell? ⟨b, off + i * 5 + 1, none⟩ = some (.int .i64 xn) ∧ q.cell? ⟨b, off + i * 5 + 2, none⟩ = some (.float .f64 xr) ∧ q.cell? ⟨b, off + i * 5 + 3, none⟩ = some (.string (bstr xt)) ∧ q.cell? ⟨b, off + i * 5 + 4, none⟩ = some (.slice xo nx xc)) := fun q hb =>
        ⟨(hb.cell (lt_of_cell g0)).trans g0, (hb.cell (lt_of_cell g1)).trans g1, (hb.cell (lt_of_cell g2)).trans g2, (hb.cell (lt_of_cell g3)).trans g3, (hb.cell (lt_of_cell g4)).trans g4⟩
      have hvx : Hid (∀ q, Below w.heap.size w q → IsV q (.agg #[.int .i64 xk, .int .i64 xn, .float .f64 xr, .string (bstr xt), .slice xo nx xc]) X) := fun q hb => IsV.below hb _ _ hv
      clear hv hx hX hw hl g0 g1 g2 g3 g4
      obtain ⟨g0, g1, g2, g3, g4⟩ := hcl.out wr hB.out
      go_wp2_with fail
      clear g0 g1 g2 g3 g4
      refine (isLight_any _ _ X (hvx.out _ hB.out)).mono ?_
      rintro e w2 ⟨rfl, hb⟩
      replace hb : Hid (Below wr.heap.size wr w2) := hb
      have hB2 : Hid (Below w.heap.size w w2) := hB.out.trans (hb.out.mono hsw.out)
      obtain ⟨L, hL⟩ : ∃ L, Hid (isLight X = L) := ⟨isLight X, rfl⟩
      rw [hL.out]
      cases L
      case false =>
        go_wp2_with fail
        go_ret
        exact ⟨rfl, hB2.out⟩
      obtain ⟨g0, g1, g2, g3, g4⟩ := hcl.out w2 hB2.out
      go_wp2_with fail
      clear g0 g1 g2 g3 g4
      refine (hkey.out _ _ X (hvx.out _ hB2.out) hwx.out).mono ?_
      rintro e w3 ⟨kv, rfl, slk, hb3⟩
      have hb2 : Hid (Below wr.heap.size wr w3) := hb.out.trans (hb3.mono hb.out.size)
      have hB3 : Hid (Below w.heap.size w w3) := hB.out.trans (hb2.out.mono hsw.out)
      have hown3 : Hid (w3.ownsRow w.heap.size 5 1 u5 (6 :: keysO (l.take i)).length (bvals (6 :: keysO (l.take i)))) := ownsRow_below hown.out hb2.out
      have hsz3 : Hid (w.heap.size ≤ w3.heap.size) := hB3.out.size
      replace slk : Hid (Sl w3 kv (keyO X)) := slk
      clear hb hb3 hb2 hB hown hsw hB2
      obtain ⟨M, hM⟩ : ∃ M : Bool, Hid ((m && (mayV X && flatV X)) = M) := ⟨_, rfl⟩
      obtain ⟨E1, hE1⟩ : ∃ e, Hid (errO X = e) := ⟨errO X, rfl⟩
      rw [hE1.out]
      go_upto_region 12 with fail
      go_cut [7] from 18 to 69 (fun s wx => s = .bool M ∧ wx = w3)
      case first =>
        obtain ⟨g0, g1, g2, g3, g4⟩ := hcl.out w3 hB3.out
        clear g1 g2 g3
        cases m
        case false =>
          have hM0 : M = false := by rw [← hM.out]; rfl
          subst hM0
          go_wp2_with fail
          go_meet
          case rel => exact ⟨rfl, rfl⟩
        cases hmx : mayV X
        · have hE : E1 = 1 := by rw [← hE1.out, errO, hmx]; rfl
          have hM0 : M = false := by rw [← hM.out, hmx]; rfl
          subst hE hM0
          clear hmx
          go_wp2_with fail
          go_meet
          case rel => exact ⟨rfl, rfl⟩
        have hE : E1 = 0 := by rw [← hE1.out, errO, hmx]; rfl
        subst hE
        have hM1 : M = (!decide (xk = 6) || decide (nx = 0)) := by rw [← hM.out, hmx, hfl.out]; rfl
        clear hmx
        by_cases hk6 : xk = 6
        · by_cases hn0 : nx = 0
          · have hM0 : M = true := by rw [hM1, hk6, hn0]; rfl
            subst hM0 hk6 hn0
            clear hM1
            go_wp2_with fail
            go_meet
            case rel => exact ⟨rfl, rfl⟩
          · have hM0 : M = false := by rw [hM1, hk6]; simp [hn0]
            have q1 : ((nx : Int) == 0) = false := by simp; omega
            subst hM0 hk6
            clear hM1
            go_wp2_with fail
            go_meet
            case rel => exact ⟨rfl, rfl⟩
        · have hM0 : M = true := by rw [hM1]; simp [hk6]
          have q1 : (xk != 6) = true := by simp [hk6]
          subst hM0
          clear hM1 hk6
          go_wp2_with fail
          go_meet
          case rel => exact ⟨rfl, rfl⟩
      case rest =>
        obtain ⟨rfl, hwc⟩ := hcut
        subst hwc
        have hkx : (keysO (l.take i)).length + (keyO X).length ≤ 9437184 := by have := (hS.out (i + 1)).2.2; rw [hk2.out, List.length_append] at this; exact this
        go_wp2_with (at_builtin; refine wpList_append_bytes rfl (.tmp 60) (.tmp 61) 28 rfl w.heap.size 5 Tryd.infoU8 Tryd.underlying28 _ _ (6 :: keysO (l.take i)) (keyO X) rfl hown3.out rfl slk.out (by simp; omega) hsz3.out ?_)
        intro v4 w4 ho hb4
        have hB4 : Hid (Below w.heap.size w w4) := hB3.out.trans hb4
        have hown4 : Hid (w4.ownsRow w.heap.size 5 1 v4 (6 :: keysO (l.take (i + 1))).length (bvals (6 :: keysO (l.take (i + 1))))) := owns_name ho (by first | (rw [hk2.out]; done) | (rw [hk2.out]; simp)) (by first | (rw [hk2.out]; done) | (rw [hk2.out]; simp))
        clear ho hb4 hown3 hB3 hsz3 hkx slk
        obtain ⟨g0, g1, g2, g3, g4⟩ := hcl.out w4 hB4.out
        go_wp2_with fail
        clear g0 g1 g2 g3 g4
        obtain ⟨Z, hZ⟩ : ∃ Z, Hid (sizeO X = Z) := ⟨_, rfl⟩
        have ksz : Hid (∀ q, Below w.heap.size w q → Calls Tryd.prog 17 #[.agg #[.int .i64 xk, .int .i64 xn, .float .f64 xr, .string (bstr xt), .slice xo nx xc]] q fun e w' => e = .returned (.int .i64 Z) ∧ Below q.heap.size q w') := fun q hb => by
          have t : Calls Tryd.prog 17 #[.agg #[.int .i64 xk, .int .i64 xn, .float .f64 xr, .string (bstr xt), .slice xo nx xc]] q fun e w' => e = .returned (.int .i64 (sizeO X)) ∧ Below q.heap.size q w' := hsize.out q _ X (hvx.out _ hb) hwx.out
          rw [hZ.out] at t
          exact t
        refine (ksz.out _ hB4.out).mono ?_
        clear ksz
        rintro e w5 ⟨rfl, hb5⟩
        have hB5 : Hid (Below w.heap.size w w5) := hB4.out.trans (hb5.mono hB4.out.size)
        have hown5 : Hid (w5.ownsRow w.heap.size 5 1 v4 (6 :: keysO (l.take (i + 1))).length (bvals (6 :: keysO (l.take (i + 1))))) := ownsRow_below hown4.out hb5
        have hs1 := hS.out (i + 1)
        rw [hz2.out, hZ.out] at hs1
        have hs2 : 0 ≤ Z := by rw [← hZ.out]; exact (sizeO_le X).1
        have hs3 : z + Z ≤ 1048577 := by have := hz.out; omega
        have hz3 : Hid (z + Z = 1 + sizesO (l.take (i + 1))) := by show _ = _; rw [hz2.out, hZ.out, hz.out]; omega
        have hm3 : Hid (M = flatsO (l.take (i + 1))) := by show _ = _; rw [hm2.out, hM.out]
        clear hs1 hz2 hZ hb5 hB4 hown4 hk2
        have hs4 : -9223372036854775808 ≤ z + Z := by omega
        have hs5 : z + Z ≤ 9223372036854775807 := by omega
        go_wp2_with fail
        go_roundw
        case rel => exact ⟨i + 1, z + Z, M, by omega, by go_num, rfl, rfl, by omega, by omega, hz3, hm3, hown5, hB5⟩
        case measure => simp [intOf]; omega
#print axioms parts_walk
end Go.Proofs.YtibmhooaidmdkaaDoor.Va
