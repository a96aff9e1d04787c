/-
  What wire.String answers.
-/
import Derived.Test.YtgccfpmjcpoddaaForms
namespace Go.Proofs.Ytgccfpmjcpoddaa
open Go.RowKit

set_option maxHeartbeats 400000 in
theorem string_any (w : World) (x : Value) (l : List UInt8) (hx : Sl w x l) (hlen : l.length + 10 ≤ 140737488355328) :
    Calls Try.prog 21 #[x] w fun e w' => ∃ v', e = .returned v' ∧ w'.ownsRow w.heap.size 5 1 v' (enc l.length ++ l).length (bvals (enc l.length ++ l)) ∧ Below w.heap.size w w' := by
  have hx0 := hx
  obtain ⟨ao, ca, rfl, h2, h3, h4, h5⟩ := hx
  clear h2 h5 h4 h3
  obtain ⟨i0, hi, hz0, hz1, hz2⟩ := info_parts Try.infoU8
  have hel := enc_len l.length
  go_enter Try.func21, Try.ntmps21
  go_wp2_with (at_make; refine wpList_make_own w rfl _ _ 28 rfl w.heap.size 5 i0 (.int .u8 0) 1 Try.underlying28 hi hz0 hz1 .i64 .i64 _ (10 + l.length) rfl rfl (by simp) (by rw [hz2]; omega) (by unfold maxLen; omega) (Nat.le_refl _) ?_)
  intro w1 ho1 hg1
  have hb1 : Below w.heap.size w w1 := (Below.refl _ _).grown hg1 (Nat.le_refl _) (fun k hk => by simp at hk)
  have hsz := hb1.size
  clear hg1
  go_wp2_with fail
  refine (appendVarint_any w1 w.heap.size _ [] l.length (by omega) hsz ho1 (by decide)).mono ?_
  rintro e w2 ⟨v2, rfl, ho2, hb2⟩
  have hsz2 := hb2.size
  have hb12 := hb1.trans hb2
  have hx2 := Below.sl hb12 hx0
  simp only [List.nil_append] at ho2
  clear ho1 hb1 hb2
  go_wp2_with (at_builtin; refine wpList_append_bytes rfl (.tmp 12) (.tmp 13) 28 rfl w.heap.size 5 Try.infoU8 Try.underlying28 _ _ (enc l.length) l rfl ho2 rfl hx2 (by omega) (by omega) ?_)
  intro v3 w3 ho3 hb3
  have hb := hb12.trans hb3
  clear ho2 hb12 hb3
  go_wp2
  go_ret
  exact ⟨_, rfl, by rw [List.length_append]; exact ho3, hb⟩
end Go.Proofs.Ytgccfpmjcpoddaa
