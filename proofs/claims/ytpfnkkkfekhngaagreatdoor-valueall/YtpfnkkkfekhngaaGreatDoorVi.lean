/-
  Values in memory; whether one is light.
-/
import Derived.Test.YtpfnkkkfekhngaaGreatDoorVr
import Derived.Test.YtpfnkkkfekhngaaGreatDoorOpen
import Derived.Test.YtpfnkkkfekhngaaGreatDoorGen
import Derived.Deep.Cut
import Derived.Handy
namespace Go.Proofs.YtpfnkkkfekhngaaGreatDoor.Va
open Go.RowKit Go.Proofs.YtpfnkkkfekhngaaGreatDoor.Rl
set_option maxRecDepth 100000

def bstr (t : List UInt8) : ByteArray := ⟨t.toArray⟩
mutual
/-- The struct v is the value x. -/
def IsV (w : World) : Value → Val → Prop
  | v, .mk k n r t l => ∃ ao cap, v = .agg #[.int .i64 k, .int .i64 n, .float .f64 r, .string (bstr t), .slice ao l.length cap] ∧ (ao = none → l = [] ∧ cap = 0) ∧ l.length ≤ cap ∧ cap ≤ maxLen ∧ t.length ≤ 140737488355328 ∧ IsL w ao 0 l
/-- From the i-th element on the values lie there. -/
def IsL (w : World) (ao : Option Addr) : Nat → List Val → Prop
  | _, [] => True
  | i, x :: r => (∃ b off c0 c1 c2 c3 c4, ao = some ⟨b, off, none⟩ ∧ w.cell? ⟨b, off + i * 5, none⟩ = some c0 ∧ w.cell? ⟨b, off + i * 5 + 1, none⟩ = some c1 ∧ w.cell? ⟨b, off + i * 5 + 2, none⟩ = some c2 ∧ w.cell? ⟨b, off + i * 5 + 3, none⟩ = some c3 ∧ w.cell? ⟨b, off + i * 5 + 4, none⟩ = some c4 ∧ IsV w (.agg #[c0, c1, c2, c3, c4]) x) ∧ IsL w ao (i + 1) r
end
theorem IsL.get {w : World} {ao : Option Addr} : ∀ {l : List Val} {i : Nat}, IsL w ao i l → ∀ j (h : j < l.length),
    ∃ b off c0 c1 c2 c3 c4, ao = some ⟨b, off, none⟩ ∧ w.cell? ⟨b, off + (i + j) * 5, none⟩ = some c0 ∧ w.cell? ⟨b, off + (i + j) * 5 + 1, none⟩ = some c1 ∧ w.cell? ⟨b, off + (i + j) * 5 + 2, none⟩ = some c2 ∧ w.cell? ⟨b, off + (i + j) * 5 + 3, none⟩ = some c3 ∧ w.cell? ⟨b, off + (i + j) * 5 + 4, none⟩ = some c4 ∧ IsV w (.agg #[c0, c1, c2, c3, c4]) l[j]
  | [], _, _, j, h => by simp at h
  | x :: r, i, hh, 0, _ => by rw [IsL] at hh; exact hh.1
  | x :: r, i, hh, j + 1, h => by
    rw [IsL] at hh
    have := IsL.get hh.2 j (by simpa using h)
    rw [show i + 1 + j = i + (j + 1) by omega] at this
    exact this
mutual
theorem IsV.below {w w' : World} (hb : Below w.heap.size w w') : ∀ (x : Val) (v : Value), IsV w v x → IsV w' v x
  | .mk k n r t l, v, h => by
    rw [IsV] at h ⊢
    obtain ⟨ao, cap, h1, h2, h3, h4, h5, h6⟩ := h
    exact ⟨ao, cap, h1, h2, h3, h4, h5, IsL.below hb l ao 0 h6⟩
theorem IsL.below {w w' : World} (hb : Below w.heap.size w w') : ∀ (l : List Val) (ao : Option Addr) (i : Nat), IsL w ao i l → IsL w' ao i l
  | [], _, _, _ => by rw [IsL]; trivial
  | x :: r, ao, i, h => by
    rw [IsL] at h ⊢
    obtain ⟨⟨b, off, c0, c1, c2, c3, c4, e, g0, g1, g2, g3, g4, hv⟩, hr⟩ := h
    have cell : ∀ o c, w.cell? ⟨b, o, none⟩ = some c → w'.cell? ⟨b, o, none⟩ = some c := fun o c hc => by
      rw [hb.cell (p := ⟨b, o, none⟩) (lt_of_cell hc)]; exact hc
    exact ⟨⟨b, off, c0, c1, c2, c3, c4, e, cell _ _ g0, cell _ _ g1, cell _ _ g2, cell _ _ g3, cell _ _ g4, IsV.below hb x _ hv⟩, IsL.below hb r ao (i + 1) hr⟩
end
mutual
def lightV : Val → Int → Int → Int
  | .mk _ _ _ _ l, deep, left => if 20 < deep then -1 else lightL l (deep + 1) (left - 1)
def lightL : List Val → Int → Int → Int
  | [], _, left => left
  | x :: r, deep, left => if left < 0 then left else lightL r deep (lightV x deep left)
end
mutual
theorem light_le : ∀ (x : Val) (deep left : Int), 0 ≤ left → -1 ≤ lightV x deep left ∧ lightV x deep left ≤ left
  | .mk k n r t l, deep, left, h => by
    rw [lightV]
    by_cases hd : 20 < deep
    · rw [if_pos hd]; omega
    · rw [if_neg hd]
      have := lightL_le l (deep + 1) (left - 1) (by omega)
      omega
theorem lightL_le : ∀ (l : List Val) (deep left : Int), -1 ≤ left → -1 ≤ lightL l deep left ∧ lightL l deep left ≤ left
  | [], _, left, h => by rw [lightL]; omega
  | x :: r, deep, left, h => by
    rw [lightL]
    by_cases hl : left < 0
    · rw [if_pos hl]; omega
    · rw [if_neg hl]
      have h1 := light_le x deep left (by omega)
      have h2 := lightL_le r deep (lightV x deep left) h1.1
      omega
end
theorem lightL_neg (l : List Val) (deep left : Int) (h : left < 0) : lightL l deep left = left := by
  cases l with
  | nil => rw [lightL]
  | cons x r => rw [lightL, if_pos h]
set_option maxHeartbeats 1000000 in
theorem light_any (x : Val) : ∀ (w : World) (v : Value) (deep left : Int), IsV w v x → 0 ≤ deep → deep ≤ 30 → 0 ≤ left → left ≤ 3000 →
    Calls Tryz.prog 31 #[v, .int .i64 deep, .int .i64 left] w fun e w' => e = .returned (.int .i64 (lightV x deep left)) ∧ Below w.heap.size w w' := by
  induction x using Val.ind with
  | h k n r t l ih =>
    intro w v deep left hv hd0 hd1 hl0 hl1
    rw [IsV] at hv
    obtain ⟨ao, cap, rfl, h2, h3, h4, h5, h6⟩ := hv
    replace h6 : Hid (IsL w ao 0 l) := h6
    replace ih : Hid (∀ x ∈ l, ∀ (w : World) (v : Value) (deep left : Int), IsV w v x → 0 ≤ deep → deep ≤ 30 → 0 ≤ left → left ≤ 3000 → Calls Tryz.prog 31 #[v, .int .i64 deep, .int .i64 left] w fun e w' => e = .returned (.int .i64 (lightV x deep left)) ∧ Below w.heap.size w w') := ih
    obtain ⟨n0, hn0⟩ : ∃ n0, Hid (l.length = n0) := ⟨_, rfl⟩
    rw [hn0.out] at h3 ⊢
    have hn1 : n0 ≤ 9223372036854775807 := by unfold maxLen at h4; omega
    clear h2 h3 h4 h5
    by_cases hdeep : 20 < deep
    · have fin : Hid (lightV (.mk k n r t l) deep left = -1) := by show _ = _; rw [lightV, if_pos hdeep]
      go_enter Tryz.func31, Tryz.ntmps31
      go_wp2_with fail
      go_ret
      exact ⟨by rw [fin.out]; rfl, box_below _ _⟩
    · have fin : Hid (lightV (.mk k n r t l) deep left = lightL l (deep + 1) (left - 1)) := by show _ = _; rw [lightV, if_neg hdeep]
      obtain ⟨R, hR⟩ : ∃ R, Hid (lightV (.mk k n r t l) deep left = R) := ⟨_, rfl⟩
      rw [hR.out] at fin ⊢
      go_enter Tryz.func31, Tryz.ntmps31
      go_wp2_with fail
      go_loopw [2, 7] (fun v2 v7 wr => ∃ (i : Nat) (z : Int), i ≤ n0 ∧ v7 = .int .i64 (i : Int) ∧ v2 = .int .i64 z ∧ -1 ≤ z ∧ z ≤ 3000 ∧ Hid (R = lightL (l.drop i) (deep + 1) z) ∧ wr.cell? ⟨w.heap.size, 4, none⟩ = some (.slice ao n0 cap) ∧ Hid (Below w.heap.size w wr ∧ w.heap.size < wr.heap.size)) (fun _ v _ => n0 - (intOf v).toNat)
      case atStart => exact ⟨0, left - 1, by omega, rfl, rfl, by omega, by omega, fin.out, by simp, ⟨box_below _ _, by simp⟩⟩
      case round =>
        obtain ⟨i, z, hi, rfl, rfl, hz0, hz1, hz, hc4, hB⟩ := hrel
        by_cases hin : i = n0
        · have hRz : R = z := by rw [hz.out, List.drop_of_length_le (by have := hn0.out; omega), lightL]
          subst hin hRz
          go_wp2_with fail
          go_ret
          exact ⟨rfl, hB.out.1⟩
        · have i1 : (i : Int) < (n0 : Int) := by omega
          have i2 : (0 : Int) ≤ (i : Int) := by omega
          by_cases hzn : z < 0
          · have hRz : R = z := by rw [hz.out]; exact lightL_neg _ _ _ hzn
            subst hRz
            go_wp2_with fail
            go_ret
            exact ⟨rfl, hB.out.1⟩
          · have hil : i < l.length := by have := hn0.out; omega
            have hbw : Hid (IsL wr ao 0 l) := IsL.below hB.out.1 l ao 0 h6.out
            obtain ⟨b, off, c0, c1, c2, c3, c4, rfl, g0, g1, g2, g3, g4, hx⟩ := IsL.get hbw.out i hil
            rw [Nat.zero_add] at g0 g1 g2 g3 g4
            replace hx : Hid (IsV wr (.agg #[c0, c1, c2, c3, c4]) l[i]) := hx
            have hz2 : Hid (R = lightL (l.drop (i + 1)) (deep + 1) (lightV l[i] (deep + 1) z)) := by
              show _ = _
              rw [hz.out, List.drop_eq_getElem_cons hil, lightL, if_neg hzn]
            have hle := light_le l[i] (deep + 1) z (by omega)
            obtain ⟨y, hy⟩ : ∃ y, Hid (lightV l[i] (deep + 1) z = y) := ⟨lightV l[i] (deep + 1) z, rfl⟩
            rw [hy.out] at hz2 hle
            go_wp2_with fail
            refine (ih.out l[i] (List.getElem_mem hil) _ _ (deep + 1) z hx.out (by omega) (by omega) (by omega) (by omega)).mono ?_
            rintro e w1 ⟨rfl, hb⟩
            rw [hy.out]
            have hc5 : w1.cell? ⟨w.heap.size, 4, none⟩ = some (.slice (some ⟨b, off, none⟩) n0 cap) := by
              rw [hb.cell (p := ⟨w.heap.size, 4, none⟩) hB.out.2]; exact hc4
            have hB1 : Hid (Below w.heap.size w w1 ∧ w.heap.size < w1.heap.size) := ⟨hB.out.1.trans (hb.mono hB.out.1.size), by have := hb.size; have := hB.out.2; omega⟩
            clear hc4 hb g0 g1 g2 g3 g4
            go_wp2_with fail
            go_roundw
            case rel => exact ⟨i + 1, y, by omega, by go_num, rfl, by omega, by omega, hz2.out, by assumption, hB1.out⟩
            case measure => simp [intOf]; omega
def isLight (x : Val) : Bool := decide (0 ≤ lightV x 0 3000)
theorem isLight_any (w : World) (v : Value) (x : Val) (hv : IsV w v x) : Calls Tryz.prog 6 #[v] w fun e w' => e = .returned (.bool (isLight x)) ∧ Below w.heap.size w w' := by
  have hvv := hv
  obtain ⟨k, n, r, t, l⟩ := x
  rw [IsV] at hvv
  obtain ⟨ao, cap, rfl, _⟩ := hvv
  obtain ⟨R, hR⟩ : ∃ R, Hid (lightV (.mk k n r t l) 0 3000 = R) := ⟨lightV (.mk k n r t l) 0 3000, rfl⟩
  have fin : Hid (isLight (.mk k n r t l) = decide (0 ≤ R)) := by show _ = _; rw [isLight, hR.out]
  rw [fin.out]
  go_enter Tryz.func6, Tryz.ntmps6
  go_wp2_with fail
  refine (light_any (.mk k n r t l) _ _ 0 3000 (IsV.below (box_below _ _) _ _ hv) (by omega) (by omega) (by omega) (by omega)).mono ?_
  rintro e w1 ⟨rfl, hb⟩
  rw [hR.out]
  have hb2 : Hid (Below w.heap.size w w1) := (box_below _ _).trans (hb.mono (by simp))
  clear hb
  go_wp2_with fail
  go_ret
  exact ⟨rfl, hb2.out⟩
end Go.Proofs.YtpfnkkkfekhngaaGreatDoor.Va
