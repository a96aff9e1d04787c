/-
  The Nums that go; Cut: the program's.
-/
import Derived.Test.YtdhjlongdfgejaaCtE
namespace Go.Proofs.Ytdhjlongdfgejaa.Ct
open Go.RowKit

def ivals (l : List Int) : List Value := l.map fun n => .int .i64 n
/-- The numbers l as a list v of the call's own, from block B on. -/
def IOwn (B : Nat) (w : World) (v : Value) (l : List Int) : Prop := w.ownsRow B 2 1 v l.length (ivals l)
theorem IOwn.nil (B : Nat) (w : World) : IOwn B w (.slice none 0 0) [] := World.ownsRow_nil _ _ _ _
theorem IOwn.below {B : Nat} {w w' : World} {v : Value} {l : List Int} (h : IOwn B w v l) (hb : Below w.heap.size w w') : IOwn B w' v l := ownsRow_below h hb
theorem IOwn.low {B B' : Nat} {w : World} {v : Value} {l : List Int} (h : IOwn B w v l) (hb : B' ≤ B) : IOwn B' w v l := owns_lower h hb
theorem IOwn.form {B : Nat} {w : World} {v : Value} {l : List Int} (h : IOwn B w v l) : ∃ ao ca, v = .slice ao l.length ca ∧ l.length ≤ ca ∧ ca ≤ 9223372036854775807 := by
  rcases h.2 with ⟨rfl, e⟩ | ⟨g, cap, cur, rfl, _, _, a, b, _⟩
  · exact ⟨_, _, by rw [e], by omega, by omega⟩
  · exact ⟨_, _, rfl, a, by unfold maxLen at b; omega⟩
theorem ivals_one (l : List Int) : ∀ u ∈ ivals l, u.oneCell' = true := by
  intro u hu
  simp only [ivals, List.mem_map] at hu
  obtain ⟨c, _, rfl⟩ := hu
  rfl
theorem one_new (w : World) (n : Int) (t : TypeId) : ∀ j u, ([Value.int .i64 n] : List Value)[j]? = some u → (w.alloc (.cells #[.int .i64 n] t)).cell? ((⟨w.heap.size, 0, none⟩ : Addr).add j) = some u := by
  intro j u hu
  match j with
  | 0 =>
    simp at hu; subst hu
    rw [addr_add]
    simp only [World.cell?, heap_alloc_new]
    rfl
  | j + 1 => simp at hu
set_option maxHeartbeats 1000000 in
theorem nums_any (w : World) (v : Value) (l : List Sg) (hv : Sgs w v l) (hl : l.length ≤ 64) :
    Calls Try.prog 40 #[v] w fun e w' => ∃ v', e = .returned v' ∧ IOwn w.heap.size w' v' (l.map Sg.nm) ∧ Below w.heap.size w w' := by
  obtain ⟨N, hN⟩ : ∃ N, Hid (l.length = N) := ⟨_, rfl⟩
  have HV := hide hv
  obtain ⟨ao, ca, rfl, q1, q2⟩ := hv.form
  rw [hN.out] at hl q1 ⊢
  rw [hN.out] at HV
  obtain ⟨i0, hi, hz0, hz1, hz2⟩ := info_parts infoI64
  clear hv
  go_enter Try.func40, Try.ntmps40
  go_wp2_with (at_make; refine wpList_make_own w rfl _ _ 41 rfl w.heap.size 2 i0 (.int .i64 0) 1 Try.underlying41 hi hz0 hz1 .i64 .i64 _ N rfl rfl (by simp) (by rw [hz2]; omega) (by unfold maxLen; omega) (Nat.le_refl _) ?_)
  intro w1 ho1 hg1
  have hb1 : Hid (Below w.heap.size w w1) := (Below.refl _ _).grown hg1 (Nat.le_refl _) (fun k hk => by simp at hk)
  have ho1' : Hid (IOwn w.heap.size w1 (.slice (some ⟨w.heap.size, 0, none⟩) 0 N) []) := ho1
  clear ho1 hg1
  go_wp2_with fail
  go_loopw [3, 11] (fun vb vi wr => ∃ i : Nat, i ≤ N ∧ vi = .int .i64 (i : Int) ∧ Hid (Below w.heap.size w wr) ∧ Hid (IOwn w.heap.size wr vb ((l.take i).map Sg.nm))) (fun _ vi _ => N - (intOf vi).toNat)
  case atStart => exact ⟨0, Nat.zero_le _, rfl, hb1, ho1'⟩
  case round =>
    obtain ⟨i, hi', rfl, hW, hO⟩ := hrel
    have hil : Hid (((l.take i).map Sg.nm).length = i) := by show _ = _; have := hN.out; simp; omega
    obtain ⟨aov, cav, rfl, hc1, hc2⟩ := hO.out.form
    rw [hil.out] at hc1 hO ⊢
    by_cases hlt : i < N
    · obtain ⟨b, off, ca', e, _, _, hc⟩ := HV.out.at (by rw [hN.out]; omega)
      simp only [Value.slice.injEq] at e
      obtain ⟨rfl, eN, rfl⟩ := e
      clear eN
      obtain ⟨k0, k1, k2, k3, k4⟩ := (hc i (by rw [hN.out]; omega)).below hW.out
      have hsn : Hid ((l.take (i + 1)).map Sg.nm = (l.take i).map Sg.nm ++ [(sg l i).nm]) := by
        show _ = _
        have hix : i < l.length := by rw [hN.out]; exact hlt
        rw [sg_get hix, List.take_succ_eq_append_getElem hix, List.map_append]
        rfl
      clear hc
      generalize sg l i = s at *
      obtain ⟨nm, ba, se, en, sz⟩ := s
      dsimp only at k0 k1 k2 k3 k4 hsn
      have X1 := hide (heap_alloc_new wr (.cells #[.int .i64 nm, .int .i64 ba, .int .u32 (se : Int), .int .i64 en, .int .i64 sz] 53))
      have B1 := hide (keepF hW.out (box_below wr (.cells #[.int .i64 nm, .int .i64 ba, .int .u32 (se : Int), .int .i64 en, .int .i64 sz] 53)))
      have O1 := hide (hO.out.below (box_below wr (.cells #[.int .i64 nm, .int .i64 ba, .int .u32 (se : Int), .int .i64 en, .int .i64 sz] 53)))
      have B2 := hide (keepF B1.out (box_below (wr.alloc (.cells #[.int .i64 nm, .int .i64 ba, .int .u32 (se : Int), .int .i64 en, .int .i64 sz] 53)) (.cells #[.int .i64 nm] 2)))
      have O2 := hide (O1.out.below (box_below (wr.alloc (.cells #[.int .i64 nm, .int .i64 ba, .int .u32 (se : Int), .int .i64 en, .int .i64 sz] 53)) (.cells #[.int .i64 nm] 2)))
      have hz := hide B2.out.size
      have hlt' : (i : Int) < (N : Int) := by omega
      have hsz1 : Hid ((wr.alloc (.cells #[.int .i64 nm, .int .i64 ba, .int .u32 (se : Int), .int .i64 en, .int .i64 sz] 53)).heap.size = wr.heap.size + 1) := by simp [Hid]
      go_wp2_with (at_builtin; refine wpList_append_own_at _ rfl (.tmp 15) (.tmp 18) 41 rfl w.heap.size 2 i0 (.int .i64 0) 1 8 Try.underlying41 hi hz0 hz1 hz2 rfl (by decide) (.slice aov i cav) i (ivals ((l.take i).map Sg.nm)) rfl (by have := O2.out; unfold IOwn at this; rw [hil.out] at this; exact this) ⟨wr.heap.size + 1, 0, none⟩ 1 1 [.int .i64 nm] (by first | rfl | simp [Act.eval]) rfl (by have hh := one_new (wr.alloc (.cells #[.int .i64 nm, .int .i64 ba, .int .u32 (se : Int), .int .i64 en, .int .i64 sz] 53)) nm 2; rw [hsz1.out] at hh; exact hh) (by simp [Value.oneCell']) (by unfold maxLen; omega) (by omega) hz.out ?_; intro v6 w6 ho6 hg6 _ _)
      have B6 := hide (Below.grown B2.out hg6 hz.out (fun k hk => (O2.out.lt k hk).1))
      have O6 : Hid (IOwn w.heap.size w6 v6 ((l.take (i + 1)).map Sg.nm)) := by
        show IOwn _ _ _ _
        unfold IOwn
        rw [hsn.out, List.length_append, hil.out]
        simp only [ivals, List.map_append] at ho6 ⊢
        exact ho6
      clear ho6 hg6 O1 O2 B1 B2 hz
      go_wp2_with fail
      go_roundw
      case rel => exact ⟨i + 1, by omega, by go_num, B6, O6⟩
      case measure => simp [intOf]; omega
    · obtain rfl : i = N := by omega
      have hE : Hid (l.take i = l) := by show _ = _; rw [← hN.out, List.take_length]
      rw [hE.out] at hO
      go_wp2_with fail
      go_ret
      exact ⟨_, rfl, hO.out, hW.out⟩
#print axioms nums_any
end Go.Proofs.Ytdhjlongdfgejaa.Ct
