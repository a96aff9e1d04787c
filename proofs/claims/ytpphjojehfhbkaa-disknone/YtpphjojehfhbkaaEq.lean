/-
  What flumelaw1.Eq answers: whether two lists of bytes are one.
-/
import Derived.Test.YtpphjojehfhbkaaProg
import Derived.Test.YtpphjojehfhbkaaBase
namespace Go.Proofs.Ytpphjojehfhbkaa
open Go.RowKit

set_option maxHeartbeats 800000 in
theorem eq_any (w : World) (ao bo : Option Addr) (l m : List UInt8) (ca cb : Nat) (hl : l.length ≤ maxLen) (hm : m.length ≤ maxLen) (ha : Rd w ao l) (hb : Rd w bo m) :
    Calls Try.prog 14 #[.slice ao l.length ca, .slice bo m.length cb] w fun e w' => e = .returned (.bool (decide (l = m))) ∧ Qt w w' := by
  unfold maxLen at hl hm
  by_cases hn : (l.length : Int) = (m.length : Int)
  · have hn' : (((l.length : Nat) : Int) != ((m.length : Nat) : Int)) = false := by simp; omega
    have HN : Hid (l.length = m.length) := by show _ = _; omega
    clear hn
    go_enter Try.func14, Try.ntmps14
    go_wp2
    go_loopw [5] (fun i wr => ∃ k : Nat, k ≤ l.length ∧ i = .int .i64 k ∧ Qt w wr ∧ Hid (l.take k = m.take k)) (fun i _ => l.length - (intOf i).toNat)
    case atStart => exact ⟨0, Nat.zero_le _, rfl, Qt.refl _, by simp [Hid]⟩
    case round =>
      obtain ⟨k, hk, rfl, ⟨nq, rfl⟩, heq⟩ := hrel
      by_cases hlt : k < l.length
      · obtain ⟨b1, o1, rfl, h1⟩ := ha.at (by omega)
        obtain ⟨b2, o2, rfl, h2⟩ := hb.at (by have := HN.out; omega)
        have hlt2 : k < m.length := by have := HN.out; omega
        have c1 := h1 k hlt
        have c2 := h2 k hlt2
        clear h1 h2
        cases hc : ((l[k].toNat : Int) != (m[k].toNat : Int))
        · have HS : Hid (l.take (k + 1) = m.take (k + 1)) := by
            show _ = _
            rw [take_snoc l k hlt, take_snoc m k hlt2, heq.out, u8_eq hc]
          go_wp2
          go_quiet (fail)
          go_wp2
          go_roundw
          case rel => exact ⟨k + 1, by omega, by go_num, ⟨_, rfl⟩, HS⟩
          case measure => simp [intOf]; omega
        · have HS : Hid (decide (l = m) = false) := by
            show _ = _
            exact decide_eq_false (ne_at k hlt hlt2 (u8_ne hc))
          go_wp2
          go_quiet (fail)
          go_wp2
          go_ret
          exact ⟨ret_bool (by rw [HS.out]), Qt.drewN ⟨_, rfl⟩ _⟩
      · have HS : Hid (decide (l = m) = true) := by
          show _ = _
          exact decide_eq_true (take_eq_all HN.out k (by omega) heq.out)
        go_wp2
        go_ret
        exact ⟨ret_bool (by rw [HS.out]), ⟨_, rfl⟩⟩
  · have hn' : (((l.length : Nat) : Int) != ((m.length : Nat) : Int)) = true := by simp; omega
    have HS : Hid (decide (l = m) = false) := by
      show _ = _
      exact decide_eq_false (by rintro rfl; exact hn rfl)
    clear hn
    go_enter Try.func14, Try.ntmps14
    go_wp2
    go_ret
    exact ⟨ret_bool (by rw [HS.out]), Qt.refl _⟩
#print axioms eq_any
end Go.Proofs.Ytpphjojehfhbkaa
