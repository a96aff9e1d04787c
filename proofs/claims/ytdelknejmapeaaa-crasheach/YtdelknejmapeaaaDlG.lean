/-
  room: how many more bytes fit.
-/
import Derived.Test.YtdelknejmapeaaaDlF
namespace Go.Proofs.Ytdelknejmapeaaa.Dk
open Go.RowKit Go.Maps Go.Proofs.Ytdelknejmapeaaa.Nm

def DS.room (S : DS) : Int := max (S.most - (sumL S.F S.dir : Int)) 0
theorem DS.ok.sum {S : DS} (h : S.ok) (hc : S.c7 < 1000000000) : (sumL S.F S.dir : Int) ≤ 16777216000000000 := by
  have h1 := sumL_le S.F S.dir fun e he => h.sz e.2 (runs_mem (List.mem_map.2 ⟨e, he, rfl⟩))
  obtain ⟨d1, _, _⟩ := dir_len h hc
  have : S.dir.length * 16777216 ≤ 1000000000 * 16777216 := Nat.mul_le_mul_right _ (by omega)
  omega
set_option maxRecDepth 100000 in
theorem room_any {w : World} {b : Nat} {S : DS} {O : Nat → Prop} {f g : Nat} {pd : Value} {am : Option Nat} {VB VL : Nat → Value} (h : Dsk w b S O f g pd am VB VL) (hc : S.c7 < 1000000000) :
    Calls Try.prog 31 #[.pointer (some ⟨b, 0, none⟩)] w fun e w' => e = .returned (.int .i64 S.room) ∧ Below w.heap.size w w' := by
  have c0 : w.cell? ⟨b, 0, none⟩ = some (.int .i64 S.most) := h.dk.box.cells.1
  have c2 : w.cell? ⟨b, 2, none⟩ = some (.map (some f)) := h.dk.box.cells.2.2.1
  have hown : w.ownsMap Try.prog TS ptrR f S.dir.length (dirD S.dir) := h.dk.mf
  have hsum := h.ok.sum hc
  have hmost := h.ok.most
  have hkeys := hide h.dk.mf.keys
  have hfl := hide h.dk.mf.lt
  have hF : Hid (∀ q p k, Below w.heap.size w q → get S.dir k = some p → ∃ ao ca, q.cell? ⟨p, 0, none⟩ = some (.slice ao (S.F p).by_.length ca)) := fun q p k hq hp => by
    have hf := (h.fs.at_ p (DS.mem_dir hp)).below hq
    obtain ⟨ao, ca, e, _⟩ := hf.b.form
    exact ⟨ao, ca, by rw [← e]; exact (cells3 hf.box).1⟩
  have hroom : Hid (max (S.most - (sumL S.F S.dir : Int)) 0 = S.room) := rfl
  have hss := hide (leftS_start S.F S.dir)
  have hse : Hid (∀ left : Lit → Bool, (∀ kl, left kl = false) → leftS S.F S.dir left = 0) := fun left hl => leftS_end S.F S.dir hl
  have hst : Hid (∀ (left : Lit → Bool) k p, get S.dir k = some p → left (.string k) = true → leftS S.F S.dir left = leftS S.F S.dir (fun z => left z && !z.sameKey (.string k)) + (S.F p).by_.length) := fun left k p hg hl => leftS_step S.F hkeys.out hg hl
  have hsl : Hid (∀ left : Lit → Bool, leftS S.F S.dir left ≤ sumL S.F S.dir) := fun left => leftS_le S.F S.dir left
  have hhas : Hid (∀ k, Maps.has (dirD S.dir) (.string k) = true → (get S.dir k).isSome = true) := fun k hk => by rw [← dirD_has]; exact hk
  have hrg : Hid (∀ (x : ByteArray) (c : Option Nat) (y : DataW Unit × List MemPlace), (∀ zd, (dirD S.dir).atKey (.string x.data.toList) zd = y.1) → ptrR (.pointer (c.map fun b => ⟨b, 0, none⟩)) = some y → (get S.dir x.data.toList).isSome = true → ∃ p, c = some p ∧ get S.dir x.data.toList = some p) := fun x c y h1 h2 h3 => round_get h1 h2 h3
  generalize S.dir = l at *
  generalize hSM : S.most = M at *
  obtain ⟨N, hN⟩ : ∃ N : Nat, sumL S.F l = N := ⟨_, rfl⟩
  rw [hN] at hss hsl hsum hroom
  generalize S.room = R at *
  generalize S.F = F at *
  clear h hN hkeys hSM
  go_enter Try.func31, Try.ntmps31
  go_wp2_with (first
    | (at_range; refine wpList_range_own _ rfl _ TM rfl TS TF keyS undM ptrR f l.length (dirD l) rfl hown ?_; intro w0 hrg0 hg0 hs0)
    | go_in)
  go_frame
  go_loopw [3] (fun v wr => ∃ (left : Lit → Bool) (cnt : Nat), wr.ranges Try.prog TS ptrR f w.heap.size l.length (dirD l) left cnt ∧ v = .int .i64 (M - (N : Int) + (leftS F l left : Int)) ∧ Hid (∀ k, left (.string k) = true → (get l k).isSome = true) ∧ Hid (Below w.heap.size w wr))
    (fun _ wr => wr.rangeLeft f w.heap.size)
  case atStart =>
    refine ⟨_, _, hrg0, ?_, hhas.out, (Below.refl _ w).grown hg0 (Nat.le_refl _) (fun j hj => by cases hj)⟩
    rw [hss.out]
    congr 1
    omega
  case round =>
    obtain ⟨left, cnt, hrgs, rfl, hlk, hnx⟩ := hrel
    go_wp2_with (first
      | (at_next; refine wpList_next_ranges _ rfl _ rfl TS keyS ptrR Value.string (fun c : Option Nat => .pointer (c.map fun b => ⟨b, 0, none⟩)) (fun key kl hk => keyOf_str_inv hk) (fun v y hv => ptrR_shape hv) f w.heap.size l.length _ _ _ rfl hrgs ?_ ?_)
      | go_in)
    · intro hc0 hl0
      have e0 := hse.out left hl0
      rw [e0]
      generalize hX : M - (N : Int) + ((0 : Nat) : Int) = X
      have hX2 : Hid (max X 0 = R) := by show _ = _; rw [← hroom.out, ← hX]; simp
      clear hX
      go_wp2_with fail
      go_ret
      exact ⟨by rw [← hX2.out]; rfl, hnx.out⟩
    · intro x c kl ya yb w1 cnt1 hkey hlx hv hat hrg1 hlt hg1 hs1 hen
      obtain ⟨rfl, hxs⟩ := keyOf_str_lit hkey
      obtain ⟨p, rfl, hp⟩ := hrg.out x c (ya, yb) hat hv (hlk.out _ hlx)
      have hst1 := hst.out left _ p hp hlx
      have hB1 := hide (hnx.out.grown hg1 hnx.out.size (fun j hj => by cases hj; exact Nat.le_refl _))
      obtain ⟨ao, ca, hcell⟩ := hF.out w1 p _ hB1.out hp
      have hsl1 := hsl.out left
      have hlk2 : Hid (∀ k, (fun z : Lit => left z && !z.sameKey (.string x.data.toList)) (.string k) = true → (get l k).isSome = true) := fun k hk => hlk.out k (by simp only [Bool.and_eq_true] at hk; exact hk.1)
      obtain ⟨L1, hL1⟩ : ∃ L1 : Nat, Hid (leftS F l (fun z => left z && !z.sameKey (.string x.data.toList)) = L1) := ⟨_, rfl⟩
      rw [hL1.out] at hst1
      obtain ⟨len, hlen⟩ : ∃ len : Nat, (F p).by_.length = len := ⟨_, rfl⟩
      rw [hlen] at hst1 hcell
      rw [hst1]
      obtain ⟨X, hX⟩ : ∃ X : Int, Hid (M - (N : Int) + ((L1 + len : Nat) : Int) = X) := ⟨_, rfl⟩
      have hw : IntKind.i64.wrap (X - (len : Int)) = X - (len : Int) := by have := hX.out; rw [IntKind.wrap_i64]; omega
      rw [hX.out]
      replace hst1 := hide hst1
      replace hsl1 := hide hsl1
      replace hlt := hide hlt
      replace hp := hide hp
      replace hkey := hide hkey
      replace hv := hide hv
      replace hat := hide hat
      replace hrg1 := hide hrg1
      replace hrgs := hide hrgs
      clear hg1 hs1 hlen hlx
      simp only [Option.map_some] at hen
      go_wp2_with fail
      go_roundw
      case rel =>
        refine ⟨_, cnt1, hrg1.out, ?_, hlk2.out, hB1.out⟩
        rw [hL1.out]
        have := hX.out
        congr 1
        omega
      case measure => rw [hrg1.out.left_eq, hrgs.out.left_eq]; exact hlt.out
#print axioms room_any
end Go.Proofs.Ytdelknejmapeaaa.Dk
