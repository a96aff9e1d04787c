/-
  What flumelaw1.Lent and flumelaw1.Back do: a copy with a mark behind it; the mark and the bytes looked at, and written over.
-/
import Derived.Test.YtdhjlongdfgejaaGen
namespace Go.Proofs.Ytdhjlongdfgejaa
open Go.RowKit

/-- v is a slice of the bytes l at the head of block g, the two bytes of the mark behind them. -/
def LentAt (w : World) (g : Nat) (v : Value) (l : List UInt8) : Prop :=
  ∃ cap, v = .slice (some ⟨g, 0, none⟩) l.length cap ∧ w.ownsRow 0 5 1 (.slice (some ⟨g, 0, none⟩) (l.length + 2) cap) (l.length + 2) (bvals (l ++ [171, 172]))

theorem LentAt.sl {w : World} {g : Nat} {v : Value} {l : List UInt8} (h : LentAt w g v l) : Sl w v l := by
  obtain ⟨cap, rfl, ho⟩ := h
  obtain ⟨ao, ca, hv, g2, g3, g4, g5⟩ := Sl.of_owns2 (l := l ++ [171, 172]) ho (by simp)
  simp only [Value.slice.injEq] at hv
  obtain ⟨rfl, _, rfl⟩ := hv
  simp only [List.length_append, List.length_cons, List.length_nil] at g3
  refine ⟨_, _, rfl, fun e => by simp at e, by omega, g4, fun i hi => ?_⟩
  obtain ⟨b, off, e1, hc⟩ := g5 i (by simp; omega)
  exact ⟨b, off, e1, by rw [hc]; simp [List.getElem_append_left hi]⟩
theorem LentAt.below {w w' : World} {g : Nat} {v : Value} {l : List UInt8} (h : LentAt w g v l) (hb : Below w.heap.size w w') : LentAt w' g v l := by
  obtain ⟨cap, e, ho⟩ := h
  exact ⟨cap, e, ownsRow_below ho hb⟩
theorem LentAt.lt {w : World} {g : Nat} {v : Value} {l : List UInt8} (h : LentAt w g v l) : g < w.heap.size := by
  obtain ⟨cap, e, ho⟩ := h
  exact (ho.lt g rfl).2

set_option maxHeartbeats 400000 in
theorem lent_any (w : World) (x : Value) (l : List UInt8) (hx : Sl w x l) (hlen : l.length + 2 ≤ 140737488355328) :
    Calls Try.prog 23 #[x] w fun e w' => ∃ g v', e = .returned v' ∧ LentAt w' g v' l ∧ Below w.heap.size w w' ∧ w.heap.size ≤ g := by
  have hx0 := hx
  obtain ⟨ao, ca, rfl, h2, h3, h4, h5⟩ := hx
  clear h2 h5 h4 h3
  go_enter Try.func23, Try.ntmps23
  go_wp2_with (at_builtin; refine wpList_append_bytes rfl (.const (.slice none 0 0)) (.tmp 4) 31 rfl w.heap.size 5 Try.infoU8 Try.underlying31 _ _ [] l rfl (World.ownsRow_nil _ _ _ _) rfl hx0 (by simp; omega) (Nat.le_refl _) ?_)
  intro v1 w1 o1 b1
  have hz1 := b1.size
  clear hx0
  go_wp2_with (at_builtin; refine wpList_append_bytes rfl (.tmp 6) (.tmp 7) 31 rfl w.heap.size 5 Try.infoU8 Try.underlying31 _ _ l [171, 172] rfl (o1.alloc _) rfl (sl_lit w1 [171, 172] 5 (by decide) _ rfl) (by simpa using hlen) (by simp; omega) ?_)
  intro v2 w2 o2 b2
  have b12 : Below w.heap.size w w2 := (b1.alloc hz1 _).trans b2
  have o3 : w2.ownsRow w.heap.size 5 1 v2 (l.length + 2) (bvals (l ++ [171, 172])) := by simpa using o2
  obtain ⟨p1, p2⟩ := id o3
  rcases p2 with ⟨_, hn⟩ | ⟨g, cap, cur, rfl, hg, hh, hn, hm, hs, ht⟩
  · omega
  · have hm' : cap ≤ 9223372036854775807 := by unfold maxLen at hm; omega
    have HO : Hid (w2.ownsRow 0 5 1 (.slice (some ⟨g, 0, none⟩) (l.length + 2) cap) (l.length + 2) (bvals (l ++ [171, 172]))) := ⟨p1, .inr ⟨g, cap, cur, rfl, Nat.zero_le _, hh, hn, hm, hs, ht⟩⟩
    clear o1 o2 o3 p1 hh hs ht b1 b2
    go_wp2
    go_ret
    exact ⟨g, _, rfl, ⟨cap, rfl, HO.out⟩, b12, hg⟩
theorem xor85 (c : UInt8) : ∃ d : UInt8, bits BinOp.xor IntKind.u8 ((c.toNat : Nat) : Int) 85 = ((d.toNat : Nat) : Int) := by
  have h := u8_xor_nat c.toNat 85 c.toNat_lt (by decide)
  have hl : c.toNat ^^^ 85 < 256 := by
    have := Nat.xor_lt_two_pow (n := 8) c.toNat_lt (show 85 < 2 ^ 8 by decide)
    simpa using this
  exact ⟨UInt8.ofNat (c.toNat ^^^ 85), by rw [UInt8.toNat_ofNat_of_lt' hl]; exact h⟩

set_option maxRecDepth 100000 in
set_option maxHeartbeats 1000000 in
theorem back_any (w0 w : World) (g : Nat) (v y : Value) (l : List UInt8) (hb0 : Below w0.heap.size w0 w) (hy : Sl w0 y l) (hv : LentAt w g v l) (hg : w0.heap.size ≤ g) (hlen : l.length ≤ 140737488355328) :
    Calls Try.prog 26 #[v, y] w fun e w' => e = .returned (.bool true) ∧ w.grownBy w' (some g) := by
  obtain ⟨cap, rfl, ho⟩ := hv
  obtain ⟨bo, cb, rfl, k2, k3, k4, k5⟩ := hy
  clear k2 k3 k4
  have hcap : l.length + 2 ≤ cap ∧ cap ≤ 9223372036854775807 := by
    obtain ⟨_, p2⟩ := id ho
    rcases p2 with ⟨h, _⟩ | ⟨_, c, _, h, _, _, hn, hm, _⟩
    · simp at h
    · simp only [Value.slice.injEq] at h
      obtain ⟨_, _, rfl⟩ := h
      unfold maxLen at hm
      omega
  obtain ⟨hc1, hc2⟩ := hcap
  have m1 : w.cell? ⟨g, l.length, none⟩ = some (.int .u8 171) := by rw [ho.cellAt l.length (by omega)]; simp [bvals, bval]
  have m2 : w.cell? ⟨g, l.length + 1, none⟩ = some (.int .u8 172) := by rw [ho.cellAt (l.length + 1) (by omega)]; simp [bvals, bval]
  have hn' : (((l.length : Nat) : Int) != ((l.length : Nat) : Int)) = false := by simp
  go_enter Try.func26, Try.ntmps26
  go_wp2
  clear hn' m1 m2
  go_loopw [5, 6] (fun o i wr => ∃ (k : Nat) (D : List UInt8), k ≤ l.length ∧ o = .bool true ∧ i = .int .i64 k ∧ Hid (D.length = k) ∧ wr.ownsRow 0 5 1 (.slice (some ⟨g, 0, none⟩) (l.length + 2) cap) (l.length + 2) (bvals (D ++ (l ++ [171, 172]).drop k)) ∧ w.grownBy wr (some g)) (fun _ i _ => l.length - (intOf i).toNat)
  case atStart => exact ⟨0, [], Nat.zero_le _, rfl, rfl, rfl, by simpa using ho, Qt.grown (Qt.refl _) _⟩
  case round =>
    clear ho
    obtain ⟨k, D, hk, rfl, rfl, hD, ho, hgr⟩ := hrel
    by_cases hlt : k < l.length
    · obtain ⟨b1, o1, rfl, hb⟩ := k5.at (by omega)
      have d2 := hb k hlt
      have hlt2 := lt_of_cell d2
      have c2 : wr.cell? ⟨b1, o1 + k, none⟩ = some (.int .u8 (l[k].toNat : Int)) := by
        refine hgr.cell (a := ⟨b1, o1 + k, none⟩) ?_ ?_
        · rw [hb0.cell (p := ⟨b1, o1 + k, none⟩) hlt2]; exact d2
        · simp only [ne_eq, Option.some.injEq]; intro e; have : b1 < w0.heap.size := hlt2; omega
      have hdr : (l ++ [171, 172]).drop k = l[k] :: (l ++ [171, 172]).drop (k + 1) := by
        rw [List.drop_eq_getElem_cons (by simp; omega), List.getElem_append_left hlt]
      have c1 : wr.cell? ⟨g, k, none⟩ = some (.int .u8 (l[k].toNat : Int)) := by
        rw [ho.cellAt k (by omega), hdr, bvals_get (by simp [hD.out])]
        simp [hD.out]
      have f1 := ho.frozenAt k
      obtain ⟨x, hx⟩ := xor85 l[k]
      have HX : Hid (bits BinOp.xor IntKind.u8 ((l[k].toNat : Nat) : Int) 85 = ((x.toNat : Nat) : Int)) := hx
      have HO : Hid ((wr.setCell ⟨g, k, none⟩ (bval x)).ownsRow 0 5 1 (.slice (some ⟨g, 0, none⟩) (l.length + 2) cap) (l.length + 2) (bvals ((D ++ [x]) ++ (l ++ [171, 172]).drop (k + 1)))) := by
        have h := (ho.stored k (bval x)).1
        rw [hdr] at h
        have e : (bvals (D ++ l[k] :: (l ++ [171, 172]).drop (k + 1))).set k (bval x) = bvals ((D ++ [x]) ++ (l ++ [171, 172]).drop (k + 1)) := by
          rw [bvals_append, List.set_append_right _ _ (by rw [bvals_length, hD.out]; omega), bvals_length, hD.out, Nat.sub_self]
          simp [bvals]
        rw [e] at h
        exact h
      have HG : Hid (w.grownBy (wr.setCell ⟨g, k, none⟩ (bval x)) (some g)) := grown_trans hgr (grown_setCell wr g k (bval x))
      generalize l[k] = c at *
      clear hx hb d2 hdr ho hgr
      go_wp2
      go_quiet (fail)
      go_wp2
      go_roundw
      case rel =>
        rw [HX.out]
        exact ⟨k + 1, D ++ [x], by omega, rfl, by go_num, by show _ = _; simp [hD.out], HO.out, grown_trans HG.out (Qt.grown ⟨_, rfl⟩ _)⟩
      case measure => simp [intOf]; omega
    · go_wp2
      go_ret
      exact ⟨rfl, hgr⟩
end Go.Proofs.Ytdhjlongdfgejaa
