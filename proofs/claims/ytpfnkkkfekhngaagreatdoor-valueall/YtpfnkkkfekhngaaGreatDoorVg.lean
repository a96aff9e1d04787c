/-
  The law's first look, over what Key, Read, Size and Compare answer.
-/
import Derived.Test.YtpfnkkkfekhngaaGreatDoorVwK
import Derived.Test.YtpfnkkkfekhngaaGreatDoorVm
import Derived.Test.YtpfnkkkfekhngaaGreatDoorEq
namespace Go.Proofs.YtpfnkkkfekhngaaGreatDoor.Va
open Go.RowKit Go.Proofs.YtpfnkkkfekhngaaGreatDoor.Rl
set_option maxRecDepth 100000

def sizeO (x : Val) : Int := if mayV x then (szV x : Int) else 0
/-- What Read owes. -/
def DoesRead (f : Nat) : Prop := ∀ (w : World) (v : Value) (b : List UInt8), Mx w → Sl w v b → Calls Tryz.prog f #[v] w fun e w' => ∃ rv, e = .returned (.tuple #[rv, .int .i64 (readO b).2.1, .int .i64 (readO b).2.2]) ∧ IsV w' rv (readO b).1 ∧ Below w.heap.size w w'
def V1 : Val := .mk 1 0 0 [] []
def V2 : Val := .mk 2 1 0 [] []
def V0 : Val := .mk 6 0 0 [] [V1, V2]
theorem Sl.new (w : World) (l : List UInt8) (T : TypeId) (cs : Array Value) (hc : cs = (bvals l).toArray) (n : Nat) (hn : n = l.length) (hl : l.length ≤ maxLen) : Sl (w.alloc (.cells cs T)) (.slice (some ⟨w.heap.size, 0, none⟩) n n) l := by
  subst hc hn
  refine ⟨_, _, rfl, fun e => by simp at e, Nat.le_refl _, hl, fun i hi => ⟨w.heap.size, 0, rfl, ?_⟩⟩
  rw [Nat.zero_add]
  refine box_cell w _ T i _ ?_
  rw [List.getElem?_toArray, bvals_get hi]
/-- The blocks of the first value. -/
def Bg (w q : World) : Prop := Below w.heap.size w q ∧ q.cell? ⟨w.heap.size, 0, none⟩ = some (.int .i64 1) ∧ q.cell? ⟨w.heap.size, 1, none⟩ = some (.int .i64 0) ∧ q.cell? ⟨w.heap.size, 2, none⟩ = some (.float .f64 0) ∧ q.cell? ⟨w.heap.size, 3, none⟩ = some (.string ⟨#[]⟩) ∧ q.cell? ⟨w.heap.size, 4, none⟩ = some (.slice none 0 0) ∧ q.cell? ⟨w.heap.size, 5, none⟩ = some (.int .i64 2) ∧ q.cell? ⟨w.heap.size, 6, none⟩ = some (.int .i64 1) ∧ q.cell? ⟨w.heap.size, 7, none⟩ = some (.float .f64 0) ∧ q.cell? ⟨w.heap.size, 8, none⟩ = some (.string ⟨#[]⟩) ∧ q.cell? ⟨w.heap.size, 9, none⟩ = some (.slice none 0 0) ∧ q.cell? ⟨w.heap.size + 1, 0, none⟩ = some (.int .i64 6) ∧ q.cell? ⟨w.heap.size + 1, 1, none⟩ = some (.int .i64 0) ∧ q.cell? ⟨w.heap.size + 1, 2, none⟩ = some (.float .f64 0) ∧ q.cell? ⟨w.heap.size + 1, 3, none⟩ = some (.string ⟨#[]⟩) ∧ q.cell? ⟨w.heap.size + 1, 4, none⟩ = some (.slice (some ⟨w.heap.size, 0, none⟩) 2 2)
theorem Bg.below {w q q' : World} (h : Bg w q) (hb : Below q.heap.size q q') : Bg w q' := by
  unfold Bg at *
  obtain ⟨h0, c0, c1, c2, c3, c4, c5, c6, c7, c8, c9, c10, c11, c12, c13, c14⟩ := h
  exact ⟨h0.trans (hb.mono h0.size), (hb.cell (lt_of_cell c0)).trans c0, (hb.cell (lt_of_cell c1)).trans c1, (hb.cell (lt_of_cell c2)).trans c2, (hb.cell (lt_of_cell c3)).trans c3, (hb.cell (lt_of_cell c4)).trans c4, (hb.cell (lt_of_cell c5)).trans c5, (hb.cell (lt_of_cell c6)).trans c6, (hb.cell (lt_of_cell c7)).trans c7, (hb.cell (lt_of_cell c8)).trans c8, (hb.cell (lt_of_cell c9)).trans c9, (hb.cell (lt_of_cell c10)).trans c10, (hb.cell (lt_of_cell c11)).trans c11, (hb.cell (lt_of_cell c12)).trans c12, (hb.cell (lt_of_cell c13)).trans c13, (hb.cell (lt_of_cell c14)).trans c14⟩
theorem isV1 (q : World) : IsV q (.agg #[.int .i64 1, .int .i64 0, .float .f64 0, .string ⟨#[]⟩, .slice none 0 0]) V1 := by
  unfold V1
  rw [IsV]
  exact ⟨none, 0, rfl, fun _ => ⟨rfl, rfl⟩, by simp, by decide, by simp, by rw [IsL]; trivial⟩
theorem isV2 (q : World) : IsV q (.agg #[.int .i64 2, .int .i64 1, .float .f64 0, .string ⟨#[]⟩, .slice none 0 0]) V2 := by
  unfold V2
  rw [IsV]
  exact ⟨none, 0, rfl, fun _ => ⟨rfl, rfl⟩, by simp, by decide, by simp, by rw [IsL]; trivial⟩
theorem isV0 {w q : World} (h : Bg w q) : IsV q (.agg #[.int .i64 6, .int .i64 0, .float .f64 0, .string ⟨#[]⟩, .slice (some ⟨w.heap.size, 0, none⟩) 2 2]) V0 := by
  unfold Bg at h
  obtain ⟨_, c0, c1, c2, c3, c4, c5, c6, c7, c8, c9, c10, c11, c12, c13, c14⟩ := h
  unfold V0
  rw [IsV]
  refine ⟨some ⟨w.heap.size, 0, none⟩, 2, rfl, fun e => by simp at e, by simp, by decide, by simp, ?_⟩
  rw [IsL, IsL, IsL]
  exact ⟨⟨_, _, _, _, _, _, _, rfl, c0, c1, c2, c3, c4, isV1 q⟩, ⟨_, _, _, _, _, _, _, rfl, c5, c6, c7, c8, c9, isV2 q⟩, trivial⟩
theorem wt0 : wtV V0 ∧ wtV V1 := by
  unfold V0 V1 V2
  simp [wtV, wtL]
theorem may0 : mayV V0 = true := by decide +kernel
theorem key0 : keyO V0 = [6, 1, 2, 1, 0] ∧ errO V0 = 0 ∧ sizeO V0 = 3 ∧ compV V1 V0 = -1 ∧ eqV V0 V0 = true := by
  refine ⟨by decide +kernel, by decide +kernel, by decide +kernel, by decide +kernel, by decide +kernel⟩
theorem read0 : readO [6, 1, 2, 1, 0, 9] = (V0, 5, 0) := by kernel_rfl
theorem read1 : readO [2, 2] = (zeroV, 1, 4) := by kernel_rfl
set_option maxHeartbeats 4000000 in
theorem begun_walk (hkey : DoesKey 10) (hread : DoesRead 28) (hsize : Does1 14 fun x => .int .i64 (sizeO x)) (hcmp : Does2 21 fun x y => .int .i64 (compV x y)) : Does0 5 := by
  intro w hML
  replace hML : Hid (Mx w) := hML
  have kst : ∀ (w : World) (a : Addr) (x : Nat) (m : Mode), (store a (.float .f64 x) m).run Tryz.prog w = stored Tryz.prog w a (.float .f64 x) m := fun w a x m => run_store Tryz.prog w a _ m rfl
  replace hkey : Hid (DoesKey 10) := hkey
  replace hread : Hid (DoesRead 28) := hread
  replace hsize : Hid (Does1 14 fun x => .int .i64 (sizeO x)) := hsize
  replace hcmp : Hid (Does2 21 fun x y => .int .i64 (compV x y)) := hcmp
  have hB0 : Hid (Bg w ((w.alloc (.cells #[.int .i64 1, .int .i64 0, .float .f64 0, .string ⟨#[]⟩, .slice none 0 0, .int .i64 2, .int .i64 1, .float .f64 0, .string ⟨#[]⟩, .slice none 0 0] 35)).alloc (.cells #[.int .i64 6, .int .i64 0, .float .f64 0, .string ⟨#[]⟩, .slice (some ⟨w.heap.size, 0, none⟩) 2 2] 35))) := by
    show Bg ..
    unfold Bg
    have e1 : ∀ A : Obj, (w.alloc A).heap.size = w.heap.size + 1 := fun A => by simp
    have n0 : ∀ (cs : Array Value) (T : TypeId) (B : Obj) (j : Nat) (v : Value), cs[j]? = some v → ((w.alloc (.cells cs T)).alloc B).cell? ⟨w.heap.size, j, none⟩ = some v := fun cs T B j v hv => by
      have h := box_cell w cs T j v hv
      exact ((box_below (w.alloc (.cells cs T)) B).cell (lt_of_cell h)).trans h
    have n1 : ∀ (A : Obj) (cs : Array Value) (T : TypeId) (j : Nat) (v : Value), cs[j]? = some v → ((w.alloc A).alloc (.cells cs T)).cell? ⟨w.heap.size + 1, j, none⟩ = some v := fun A cs T j v hv => by
      have h := box_cell (w.alloc A) cs T j v hv
      rw [e1] at h
      exact h
    exact ⟨(box_below _ _).alloc (by rw [e1]; omega) _, n0 _ _ _ _ _ rfl, n0 _ _ _ _ _ rfl, n0 _ _ _ _ _ rfl, n0 _ _ _ _ _ rfl, n0 _ _ _ _ _ rfl, n0 _ _ _ _ _ rfl, n0 _ _ _ _ _ rfl, n0 _ _ _ _ _ rfl, n0 _ _ _ _ _ rfl, n0 _ _ _ _ _ rfl, n1 _ _ _ _ _ rfl, n1 _ _ _ _ _ rfl, n1 _ _ _ _ _ rfl, n1 _ _ _ _ _ rfl, n1 _ _ _ _ _ rfl⟩
  go_enter Tryz.func5, Tryz.ntmps5
  go_wp2_with fail
  refine (hkey.out _ _ V0 (isV0 hB0.out) wt0.1).mono ?_
  rintro e w1 ⟨kv, rfl, slk, hb⟩
  rw [key0.1] at slk
  rw [key0.2.1]
  have hB1 : Hid (Bg w w1) := hB0.out.below hb
  replace slk : Hid (Sl w1 kv [6, 1, 2, 1, 0]) := slk
  clear hb hB0
  go_wp2_with fail
  refine (hread.out _ _ [6, 1, 2, 1, 0, 9] ((hML.out.below hB1.out.1).below (box_below _ _)) (Sl.new w1 [6, 1, 2, 1, 0, 9] _ _ rfl 6 rfl (by decide))).mono ?_
  rintro e w2 ⟨rv, rfl, isr, hb⟩
  rw [read0] at isr ⊢
  have hb2 : Below w1.heap.size w1 w2 := keepV hb (box_below _ _)
  have hB2 : Hid (Bg w w2) := hB1.out.below hb2
  have slk2 : Hid (Sl w2 kv [6, 1, 2, 1, 0]) := Below.sl hb2 slk.out
  have isr' := isr
  simp only at isr isr' ⊢
  unfold V0 at isr'
  rw [IsV] at isr'
  obtain ⟨ro, rc, erv, _⟩ := isr'
  rw [erv] at isr ⊢
  replace isr : Hid (IsV w2 _ V0) := isr
  clear erv hb hb2 hB1 slk
  go_wp2_with fail
  have slb : Sl ((w2.alloc (.cells #[.int .i64 6, .int .i64 0, .float .f64 0, .string (bstr []), .slice ro 2 rc] 35)).alloc (.cells #[.int .u8 2, .int .u8 2] 5)) (.slice (some ⟨w2.heap.size + 1, 0, none⟩) 2 2) [2, 2] := by
    have h := Sl.new (w2.alloc (.cells #[.int .i64 6, .int .i64 0, .float .f64 0, .string (bstr []), .slice ro 2 rc] 35)) [2, 2] 5 #[.int .u8 2, .int .u8 2] rfl 2 rfl (by decide)
    rw [show (w2.alloc (.cells #[.int .i64 6, .int .i64 0, .float .f64 0, .string (bstr []), .slice ro 2 rc] 35)).heap.size = w2.heap.size + 1 by simp] at h
    exact h
  refine (hread.out _ _ [2, 2] ((hML.out.below hB2.out.1).below (keepV (box_below _ _) (box_below _ _))) slb).mono ?_
  rintro e w3 ⟨zv, rfl, isz, hb⟩
  rw [read1] at isz ⊢
  simp only at isz ⊢
  unfold zeroV at isz
  rw [IsV] at isz
  obtain ⟨zo, zc, ezv, hzn, hz1, _⟩ := isz
  rw [ezv]
  have hbb : Below w2.heap.size w2 w3 := keepV hb (keepV (box_below _ _) (box_below _ _))
  have hBox : ∀ (j : Nat) (v : Value), #[.int .i64 6, .int .i64 0, .float .f64 0, .string (bstr []), .slice ro 2 rc][j]? = some v → w3.cell? ⟨w2.heap.size, j, none⟩ = some v := fun j v hv => by
    have h1 := box_cell w2 _ 35 j v hv
    have h2 := ((box_below (w2.alloc (.cells #[.int .i64 6, .int .i64 0, .float .f64 0, .string (bstr []), .slice ro 2 rc] 35)) (.cells #[.int .u8 2, .int .u8 2] 5)).cell (lt_of_cell h1)).trans h1
    exact (hb.cell (lt_of_cell h2)).trans h2
  obtain ⟨R, hR⟩ : ∃ R, Hid (w2.heap.size = R) := ⟨_, rfl⟩
  rw [hR.out] at hBox ⊢
  replace hBox : Hid (∀ (j : Nat) (v : Value), #[.int .i64 6, .int .i64 0, .float .f64 0, .string (bstr []), .slice ro 2 rc][j]? = some v → w3.cell? ⟨R, j, none⟩ = some v) := hBox
  have hB3 : Hid (Bg w w3) := hB2.out.below hbb
  have slk3 : Hid (Sl w3 kv [6, 1, 2, 1, 0]) := Below.sl hbb slk2.out
  have isr3 : Hid (IsV w3 (.agg #[.int .i64 6, .int .i64 0, .float .f64 0, .string (bstr []), .slice ro 2 rc]) V0) := IsV.below hbb _ _ isr.out
  clear hb hbb ezv slb hB2 slk2 isr
  go_wp2_with fail
  obtain ⟨w4, hw4⟩ : ∃ w4, Hid (w3.alloc (.cells #[.int .i64 0, .int .i64 0, .float .f64 0, .string (bstr []), .slice zo 0 zc] 35) = w4) := ⟨_, rfl⟩
  rw [hw4.out]
  have hb4 : Below w3.heap.size w3 w4 := by rw [← hw4.out]; exact box_below _ _
  have hB4 : Hid (Bg w w4) := hB3.out.below hb4
  have slk4 : Hid (Sl w4 kv [6, 1, 2, 1, 0]) := Below.sl hb4 slk3.out
  have isr4 : Hid (IsV w4 (.agg #[.int .i64 6, .int .i64 0, .float .f64 0, .string (bstr []), .slice ro 2 rc]) V0) := IsV.below hb4 _ _ isr3.out
  have hBox4 : Hid (∀ (j : Nat) (v : Value), #[.int .i64 6, .int .i64 0, .float .f64 0, .string (bstr []), .slice ro 2 rc][j]? = some v → w4.cell? ⟨R, j, none⟩ = some v) := fun j v hv => by
    have h := hBox.out j v hv
    exact (hb4.cell (lt_of_cell h)).trans h
  have KS : Hid (∀ q : World, Below w4.heap.size w4 q → Below w4.heap.size w4 q ∧ q.cell? ⟨w.heap.size, 0, none⟩ = some (.int .i64 1) ∧ q.cell? ⟨w.heap.size, 1, none⟩ = some (.int .i64 0) ∧ q.cell? ⟨w.heap.size, 2, none⟩ = some (.float .f64 0) ∧ q.cell? ⟨w.heap.size, 3, none⟩ = some (.string ⟨#[]⟩) ∧ q.cell? ⟨w.heap.size, 4, none⟩ = some (.slice none 0 0) ∧ q.cell? ⟨w.heap.size + 1, 0, none⟩ = some (.int .i64 6) ∧ q.cell? ⟨w.heap.size + 1, 1, none⟩ = some (.int .i64 0) ∧ q.cell? ⟨w.heap.size + 1, 2, none⟩ = some (.float .f64 0) ∧ q.cell? ⟨w.heap.size + 1, 3, none⟩ = some (.string ⟨#[]⟩) ∧ q.cell? ⟨w.heap.size + 1, 4, none⟩ = some (.slice (some ⟨w.heap.size, 0, none⟩) 2 2) ∧ q.cell? ⟨R, 0, none⟩ = some (.int .i64 6) ∧ q.cell? ⟨R, 1, none⟩ = some (.int .i64 0) ∧ q.cell? ⟨R, 2, none⟩ = some (.float .f64 0) ∧ q.cell? ⟨R, 3, none⟩ = some (.string (bstr [])) ∧ q.cell? ⟨R, 4, none⟩ = some (.slice ro 2 rc)) := fun q hb => by
    obtain ⟨_, c0, c1, c2, c3, c4, c5, c6, c7, c8, c9, c10, c11, c12, c13, c14⟩ := hB4.out.below hb
    have hx : ∀ (j : Nat) (v : Value), #[.int .i64 6, .int .i64 0, .float .f64 0, .string (bstr []), .slice ro 2 rc][j]? = some v → q.cell? ⟨R, j, none⟩ = some v := fun j v hv => by
      have h := hBox4.out j v hv
      exact (hb.cell (lt_of_cell h)).trans h
    exact ⟨hb, c0, c1, c2, c3, c4, c10, c11, c12, c13, c14, hx 0 _ rfl, hx 1 _ rfl, hx 2 _ rfl, hx 3 _ rfl, hx 4 _ rfl⟩
  have hS1 := KS.out w4.drew (Below.refl _ _).drew
  obtain ⟨ko, kc, ekv, _, k1, k2, k3⟩ := slk4.out
  rw [ekv]
  have keq : Hid (∀ o : TypeId, Calls Tryz.prog 17 #[.slice ko ([6, 1, 2, 1, 0] : List UInt8).length kc, .slice (some ⟨w4.heap.size, 0, none⟩) 5 5] (w4.alloc (.cells #[.int .u8 6, .int .u8 1, .int .u8 2, .int .u8 1, .int .u8 0] o)).drew fun e w' => e = .returned (.bool true) ∧ Qt (w4.alloc (.cells #[.int .u8 6, .int .u8 1, .int .u8 2, .int .u8 1, .int .u8 0] o)).drew w') := fun o => by
    have hs : Sl (w4.alloc (.cells #[.int .u8 6, .int .u8 1, .int .u8 2, .int .u8 1, .int .u8 0] o)) (.slice (some ⟨w4.heap.size, 0, none⟩) 5 5) [6, 1, 2, 1, 0] := Sl.new w4 [6, 1, 2, 1, 0] o _ rfl 5 rfl (by decide)
    obtain ⟨ao, ca, e1, _, _, _, hr⟩ := hs
    simp only [Value.slice.injEq] at e1
    obtain ⟨rfl, _, rfl⟩ := e1
    have hk : Rd (w4.alloc (.cells #[.int .u8 6, .int .u8 1, .int .u8 2, .int .u8 1, .int .u8 0] o)).drew ko [6, 1, 2, 1, 0] := Below.rd (box_below _ _).drew k3
    have t := Go.Proofs.YtpfnkkkfekhngaaGreatDoor.eq_any (w4.alloc (.cells #[.int .u8 6, .int .u8 1, .int .u8 2, .int .u8 1, .int .u8 0] o)).drew ko (some ⟨w4.heap.size, 0, none⟩) [6, 1, 2, 1, 0] [6, 1, 2, 1, 0] kc 5 (by decide) (by decide) hk hr
    rw [decide_eq_true rfl] at t
    exact t
  have keqv : Hid (∀ q, Below w4.heap.size w4 q → Calls Tryz.prog 16 #[(.agg #[.int .i64 6, .int .i64 0, .float .f64 0, .string (bstr []), .slice ro 2 rc]), (.agg #[.int .i64 6, .int .i64 0, .float .f64 0, .string ⟨#[]⟩, .slice (some ⟨w.heap.size, 0, none⟩) 2 2])] q fun e w' => e = .returned (.bool true) ∧ Below q.heap.size q w') := fun q hb => by
    have t := Va.eq_any V0 V0 q _ _ (IsV.below hb _ _ isr4.out) (isV0 (hB4.out.below hb))
    rw [key0.2.2.2.2] at t
    exact t
  have ksz : Hid (∀ q, Below w4.heap.size w4 q → Calls Tryz.prog 14 #[(.agg #[.int .i64 6, .int .i64 0, .float .f64 0, .string ⟨#[]⟩, .slice (some ⟨w.heap.size, 0, none⟩) 2 2])] q fun e w' => e = .returned (.int .i64 3) ∧ Below q.heap.size q w') := fun q hb => by
    have t : Calls Tryz.prog 14 #[(.agg #[.int .i64 6, .int .i64 0, .float .f64 0, .string ⟨#[]⟩, .slice (some ⟨w.heap.size, 0, none⟩) 2 2])] q fun e w' => e = .returned (.int .i64 (sizeO V0)) ∧ Below q.heap.size q w' := hsize.out q _ V0 (isV0 (hB4.out.below hb)) wt0.1
    rw [key0.2.2.1] at t
    exact t
  have kcm : Hid (∀ q, Below w4.heap.size w4 q → Calls Tryz.prog 21 #[(.agg #[.int .i64 1, .int .i64 0, .float .f64 0, .string ⟨#[]⟩, .slice none 0 0]), (.agg #[.int .i64 6, .int .i64 0, .float .f64 0, .string ⟨#[]⟩, .slice (some ⟨w.heap.size, 0, none⟩) 2 2])] q fun e w' => e = .returned (.int .i64 (-1)) ∧ Below q.heap.size q w') := fun q hb => by
    have t : Calls Tryz.prog 21 #[(.agg #[.int .i64 1, .int .i64 0, .float .f64 0, .string ⟨#[]⟩, .slice none 0 0]), (.agg #[.int .i64 6, .int .i64 0, .float .f64 0, .string ⟨#[]⟩, .slice (some ⟨w.heap.size, 0, none⟩) 2 2])] q fun e w' => e = .returned (.int .i64 (compV V1 V0)) ∧ Below q.heap.size q w' := hcmp.out q _ _ V1 V0 (isV1 q) (isV0 (hB4.out.below hb)) wt0.2 wt0.1
    rw [key0.2.2.2.1] at t
    exact t
  clear kst hb4 ekv k1 k2 k3
  go_region_held3 (fun q => Below w4.heap.size w4 q ∧ q.cell? ⟨w.heap.size, 0, none⟩ = some (.int .i64 1) ∧ q.cell? ⟨w.heap.size, 1, none⟩ = some (.int .i64 0) ∧ q.cell? ⟨w.heap.size, 2, none⟩ = some (.float .f64 0) ∧ q.cell? ⟨w.heap.size, 3, none⟩ = some (.string ⟨#[]⟩) ∧ q.cell? ⟨w.heap.size, 4, none⟩ = some (.slice none 0 0) ∧ q.cell? ⟨w.heap.size + 1, 0, none⟩ = some (.int .i64 6) ∧ q.cell? ⟨w.heap.size + 1, 1, none⟩ = some (.int .i64 0) ∧ q.cell? ⟨w.heap.size + 1, 2, none⟩ = some (.float .f64 0) ∧ q.cell? ⟨w.heap.size + 1, 3, none⟩ = some (.string ⟨#[]⟩) ∧ q.cell? ⟨w.heap.size + 1, 4, none⟩ = some (.slice (some ⟨w.heap.size, 0, none⟩) 2 2) ∧ q.cell? ⟨R, 0, none⟩ = some (.int .i64 6) ∧ q.cell? ⟨R, 1, none⟩ = some (.int .i64 0) ∧ q.cell? ⟨R, 2, none⟩ = some (.float .f64 0) ∧ q.cell? ⟨R, 3, none⟩ = some (.string (bstr [])) ∧ q.cell? ⟨R, 4, none⟩ = some (.slice ro 2 rc))
    (first | exact hS1 | assumption | exact KS.out _ (keepV (by assumption) (And.left (by assumption))) | exact KS.out _ (keepV (Qt.below (by assumption) _) (And.left (by assumption))) | exact KS.out _ (Below.alloc (And.left (by assumption)) (Below.size (And.left (by assumption))) _))
    (first
      | (go_at_call 17; refine (keq.out _).mono ?_; rintro e v1 ⟨rfl, Q1⟩)
      | (go_at_call 16; refine (keqv.out _ (And.left (by assumption))).mono ?_; rintro e v2 ⟨rfl, B2⟩)
      | (go_at_call 14; refine (ksz.out _ (And.left (by assumption))).mono ?_; rintro e v3 ⟨rfl, B3⟩)
      | (go_at_call 21; refine (kcm.out _ (And.left (by assumption))).mono ?_; rintro e v4 ⟨rfl, B4⟩))
  have hfin : Hid (Below w.heap.size w v4) := keepV (And.left (a := Below w4.heap.size w4 v4) (by assumption)) hB4.out.1
  go_wp2_with fail
  go_ret
  exact ⟨rfl, hfin.out⟩
#print axioms begun_walk
end Go.Proofs.YtpfnkkkfekhngaaGreatDoor.Va
