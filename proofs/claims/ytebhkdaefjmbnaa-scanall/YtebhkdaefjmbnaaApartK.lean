/-
  What (*flumelaw1.Bytes).Apart answers of lists that were kept, each a block of its own: true.
-/
import Derived.Test.YtebhkdaefjmbnaaApart
namespace Go.Proofs.Ytebhkdaefjmbnaa
open Go.RowKit

/-- Block, length and capacity of a row of bytes at or above base. -/
def Own8 (w : World) (base : Nat) (t : Nat × Nat × Nat) : Prop :=
  ∃ cur, w.heap[t.1]? = some (.cells cur 5 (0, 0)) ∧ cur.size = t.2.2 ∧ t.2.1 ≤ t.2.2 ∧ t.2.2 ≤ maxLen ∧ t.2.1 ≤ 281474976710656 ∧ base ≤ t.1
/-- Such rows, no two of them one block. -/
def Items (w : World) (base : Nat) (its : List (Nat × Nat × Nat)) : Prop := (∀ t ∈ its, Own8 w base t) ∧ (its.map (·.1)).Nodup

theorem Own8.frK {w w' : World} {base kb : Nat} {t : Nat × Nat × Nat} (h : Own8 w base t) (hk : t.1 ≠ kb) (hf : FrK base kb w w') : Own8 w' base t := by
  obtain ⟨cur, h1, h2⟩ := h
  exact ⟨cur, by rw [hf.block t.1 (heap_lt h1) hk (.inr fun c fr e => by rw [h1] at e; simp at e)]; exact h1, h2⟩
theorem Own8.below {w w' : World} {base : Nat} {t : Nat × Nat × Nat} (h : Own8 w base t) (hf : Below w.heap.size w w') : Own8 w' base t := by
  obtain ⟨cur, h1, h2⟩ := h
  exact ⟨cur, by rw [hf.block t.1 (heap_lt h1)]; exact h1, h2⟩
theorem Items.sub {w : World} {base : Nat} {its its' : List (Nat × Nat × Nat)} (h : Items w base its) (hs : its'.Sublist its) : Items w base its' :=
  ⟨fun t ht => h.1 t (hs.subset ht), h.2.sublist (hs.map _)⟩
theorem Own8.of_owns {w : World} {base g n c : Nat} {xs : List Value} (h : w.ownsRow base 5 1 (.slice (some ⟨g, 0, none⟩) n c) n xs) (hn : n ≤ 281474976710656) : Own8 w base (g, n, c) := by
  obtain ⟨_, p⟩ := h
  rcases p with ⟨e, _⟩ | ⟨g', cap, cur, e, hg, hh, h1, h2, h3, _⟩
  · simp at e
  · simp only [Value.slice.injEq, Option.some.injEq, Addr.mk.injEq] at e
    obtain ⟨⟨rfl, _⟩, _, rfl⟩ := e
    exact ⟨cur, hh, by show cur.size = c; omega, h1, h2, hn, hg⟩

set_option maxRecDepth 100000 in
set_option maxHeartbeats 1000000 in
theorem apart_zero (w : World) (kb cap : Nat) (ao : Option Addr) (top : w.cell? ⟨kb, 0, none⟩ = some (.slice ao 0 cap)) :
    Calls Try.prog 15 #[.pointer (some ⟨kb, 0, none⟩)] w fun e w' => e = .returned (.bool true) ∧ w' = w := by
  have HT : Hid (w.cell? ⟨kb, 0, none⟩ = some (.slice ao 0 cap)) := top
  clear top
  go_enter Try.func15, Try.ntmps15
  go_wp2_with fail
  go_loopw [3] (fun vs wr => ∃ (sc : Nat), vs = .int .i64 (sc : Int) ∧ (sc = 1 ∨ sc = 250 ∨ sc = 62500) ∧ wr = w) (fun s _ => 62500 - (intOf s).toNat)
  case atStart => exact ⟨1, rfl, .inl rfl, rfl⟩
  case round =>
    obtain ⟨sc, rfl, hsc, hw⟩ := hrel
    replace hw := hw.symm
    subst hw
    by_cases hend : sc = 62500
    · subst hend
      go_wp2_with fail
      go_ret
      exact ⟨rfl, rfl⟩
    · have hs2 : sc ≤ 250 := by omega
      have hsI : (sc : Int) ≤ 250 := by omega
      go_wp2_with fail
      (try simp only [hsI, decide_true])
      go_loopw [4] (fun vi wr => vi = .int .i64 0 ∧ wr = w) (fun _ _ => 0)
      case atStart => exact ⟨rfl, rfl⟩
      case round =>
        obtain ⟨rfl, hw⟩ := hrel
        replace hw := hw.symm
        subst hw
        have top := HT.out
        go_wp2_with fail
        clear top
        go_loopw [7] (fun vi wr => vi = .int .i64 0 ∧ wr = w) (fun _ _ => 0)
        case atStart => exact ⟨rfl, rfl⟩
        case round =>
          obtain ⟨rfl, hw⟩ := hrel
          replace hw := hw.symm
          subst hw
          have top := HT.out
          go_wp2_with fail
          go_roundw
          case rel => exact ⟨sc * 250, by go_num, by omega, by trivial⟩
          case measure => simp [intOf]; omega

theorem apart_anyD (w : World) (base kb : Nat) (its : List (Nat × Nat × Nat)) (size : Nat) (hk : Kept w base kb its size) (hi : Items w base its) :
    Calls Try.prog 15 #[.pointer (some ⟨kb, 0, none⟩)] w fun e w' => e = .returned (.bool true) ∧ BD base w w' := by
  obtain ⟨vl, hkb, ho, -, -⟩ := hk
  have top : w.cell? ⟨kb, 0, none⟩ = some vl := by simp [World.cell?, hkb]
  obtain ⟨_, p⟩ := id ho
  rcases p with ⟨rfl, hn⟩ | ⟨lb, cap, cur, rfl, hlb, hh, hn, hm, hs, ht⟩
  · exact (apart_zero w kb 0 none top).mono fun e w' ⟨h1, h2⟩ => ⟨h1, by rw [h2]; exact BD.refl _ _⟩
  · have hblk : ∀ j (hj : j < its.length), ∃ cur, w.heap[its[j].1]? = some (.cells cur 5 (0, 0)) ∧ cur.size = its[j].2.2 ∧ its[j].2.1 ≤ its[j].2.2 ∧ its[j].2.2 ≤ maxLen ∧ its[j].2.1 ≤ 281474976710656 ∧ base ≤ its[j].1 := fun j hj => hi.1 _ (List.getElem_mem hj)
    have ed : ∀ j, j < its.length → its.getD j (0, 0, 0) = its[j]! := fun j hj => by simp [List.getD, hj]
    have ee : ∀ j (hj : j < its.length), its.getD j (0, 0, 0) = its[j] := fun j hj => by simp [List.getD, hj]
    refine apart_pos w kb lb its.length cap base (fun j => (its.getD j (0, 0, 0)).1) (fun j => (its.getD j (0, 0, 0)).2.2) (fun j => (its.getD j (0, 0, 0)).2.1) ⟨top, fun j hj => ⟨?_, ho.frozenAt j⟩, fun j hj => ?_⟩ ⟨?_, fun j hj => ?_, fun i j h1 h2 hne => ?_, hlb, fun j hj => ?_⟩ hn (by unfold maxLen at hm; omega) (fun j hj => ?_) (fun j hj => ?_)
    · rw [ho.cellAt j (by omega)]
      simp only [ee j hj]
      simp [itvs, itv, hj]
    · obtain ⟨cu, h1, h2, h3, h4, h5, h6⟩ := hblk j hj
      simp only [ee j hj]
      refine ⟨fun q hq => ⟨?_, by simp [World.frozen?, h1]⟩, h3, heap_lt h1⟩
      simp only [World.cell?, h1]
      rw [Array.getElem?_eq_getElem (by omega)]; rfl
    · rintro rfl
      rw [hkb] at hh; simp at hh
    · obtain ⟨cu, h1, _⟩ := hblk j hj
      simp only [ee j hj]
      refine ⟨fun e => ?_, fun e => ?_⟩
      · rw [e, hkb] at h1; simp at h1
      · rw [e, hh] at h1; simp at h1
    · simp only [ee i h1, ee j h2]
      intro e
      have hp := List.pairwise_iff_getElem.1 hi.2
      rcases Nat.lt_or_gt_of_ne hne with hlt | hlt
      · exact hp i j (by simpa using h1) (by simpa using h2) hlt (by simpa using e)
      · exact hp j i (by simpa using h2) (by simpa using h1) hlt (by simpa using e.symm)
    · simp only [ee j hj]; obtain ⟨cu, h1, h2, h3, h4, h5, h6⟩ := hblk j hj; exact h6
    · simp only [ee j hj]; obtain ⟨cu, h1, h2, h3, h4, h5, h6⟩ := hblk j hj; unfold maxLen at h4; omega
    · simp only [ee j hj]; obtain ⟨cu, h1, h2, h3, h4, h5, h6⟩ := hblk j hj; exact h5
theorem apart_any (w : World) (base kb : Nat) (its : List (Nat × Nat × Nat)) (size : Nat) (hk : Kept w base kb its size) (hi : Items w base its) :
    Calls Try.prog 15 #[.pointer (some ⟨kb, 0, none⟩)] w fun e w' => e = .returned (.bool true) ∧ Below base w w' :=
  (apart_anyD w base kb its size hk hi).mono fun _ _ ⟨h1, h2⟩ => ⟨h1, h2.b⟩
#print axioms apart_any
end Go.Proofs.Ytebhkdaefjmbnaa
