/-
  Keys put behind bytes: lists, and value.Key.
-/
import Derived.Test.YtpfnkkkfekhngaaGreatDoorVn
namespace Go.Proofs.YtpfnkkkfekhngaaGreatDoor.Va
open Go.RowKit Go.Proofs.YtpfnkkkfekhngaaGreatDoor.Rl
set_option maxRecDepth 100000

def DoesApp (x : Val) : Prop := ∀ (w0 w : World) (S : Nat → Prop) (tv b : Value) (l : List UInt8) (d : Nat), okV d x = true → szV x ≤ 65536 → wtV x → IsT S w0 tv x → Below w0.heap.size w0 w → w.ownsRow w0.heap.size 5 1 b l.length (bvals l) → l.length + 9 * szV x ≤ 1000000 →
  Disp "flume/value.appendKey" tv [b] w (Puts w0.heap.size w (l ++ keyV x))
theorem wtL_at : ∀ {l : List Val}, wtL l → ∀ i (h : i < l.length), wtV l[i]
  | [], _, i, h => by simp at h
  | x :: r, hw, 0, _ => by rw [wtL] at hw; exact hw.1
  | x :: r, hw, i + 1, h => by rw [wtL] at hw; exact wtL_at hw.2 i (by simpa using h)
set_option maxHeartbeats 1000000 in
theorem listApp (ls : List Val) (ih : ∀ x ∈ ls, DoesApp x) (w0 w : World) (S : Nat → Prop) (ao : Option Addr) (cap : Nat) (b : Value) (l : List UInt8) (d : Nat) (hok : okL d ls = true) (hsz : szL ls ≤ 65535) (hwt : wtL ls) (hl : IsTL S w0 ao 0 ls) (h2 : ls.length ≤ cap) (h3 : cap ≤ maxLen)
    (hB : Below w0.heap.size w0 w) (hown : w.ownsRow w0.heap.size 5 1 b l.length (bvals l)) (hlen : l.length + 9 * (1 + szL ls) ≤ 1000000) :
    Calls Tryz.prog 145 #[.slice ao ls.length cap, b] w (Puts w0.heap.size w (l ++ 6 :: (keyL ls ++ [0]))) := by
  obtain ⟨n, hn⟩ : ∃ n, Hid (ls.length = n) := ⟨_, rfl⟩
  rw [hn.out] at h2 ⊢
  have hcap : n ≤ 9223372036854775807 := by unfold maxLen at h3; omega
  replace hl : Hid (IsTL S w0 ao 0 ls) := hl
  replace ih : Hid (∀ x ∈ ls, DoesApp x) := ih
  replace hok : Hid (okL d ls = true) := hok
  replace hwt : Hid (wtL ls) := hwt
  replace hB : Hid (Below w0.heap.size w0 w) := hB
  replace hown : Hid (w.ownsRow w0.heap.size 5 1 b l.length (bvals l)) := hown
  have hs0 : Hid (w0.heap.size ≤ w.heap.size) := hB.out.size
  obtain ⟨base, hbase⟩ : ∃ base, Hid (w0.heap.size = base) := ⟨_, rfl⟩
  rw [hbase.out] at hown hs0 hB ⊢
  clear h3
  go_enter Tryz.func145, Tryz.ntmps145
  go_wp2_with (at_builtin; refine wpList_append_bytes rfl (.tmp 7) (.tmp 8) 40 rfl base 5 Tryz.infoU8 Tryz.underlying40 _ _ l [6] rfl (hown.out.alloc _) rfl (Sl.one _ _ _ _ rfl) (by simp; omega) (by have := hs0.out; simp; omega) ?_)
  intro v' w1 ho hb
  have hq : Hid (w1.ownsRow base 5 1 v' (l ++ [6]).length (bvals (l ++ [6])) ∧ Below base w w1) := ⟨by simpa using ho, ((Below.refl _ _).alloc hs0.out _).trans hb⟩
  clear ho hb
  go_wp2_with fail
  go_loopw [1, 12] (fun v x wr => ∃ i : Nat, i ≤ n ∧ x = .int .i64 (i : Int) ∧ Hid (wr.ownsRow base 5 1 v (l ++ 6 :: keyL (ls.take i)).length (bvals (l ++ 6 :: keyL (ls.take i))) ∧ Below base w wr)) (fun _ x _ => n - (intOf x).toNat)
  case atStart => exact ⟨0, by omega, rfl, hq.out⟩
  case round =>
    obtain ⟨i, hi, rfl, hw⟩ := hrel
    clear hown hq
    have hsz2 : base ≤ wr.heap.size := by have := hw.out.2.size; have := hs0.out; omega
    have hkl : (keyL (ls.take i)).length ≤ 9 * szL (ls.take i) := keyL_le _ d (by have := okL_split d ls i; rw [hok.out] at this; simp at this; exact this.1)
    have hsp := szL_split ls i
    by_cases hin : i = n
    · have htk : ls.take i = ls := List.take_of_length_le (by have := hn.out; omega)
      rw [htk] at hw hkl
      clear hsp
      subst hin
      go_wp2_with (at_builtin; refine wpList_append_bytes rfl (.tmp 20) (.tmp 21) 40 rfl base 5 Tryz.infoU8 Tryz.underlying40 _ _ (l ++ 6 :: keyL ls) [0] rfl (hw.out.1.alloc _) rfl (Sl.one _ _ _ _ rfl) (by simp; omega) (by simp; omega) ?_)
      intro v2 w2 ho hb
      have hq2 : Hid (w2.ownsRow base 5 1 v2 (l ++ 6 :: (keyL ls ++ [0])).length (bvals (l ++ 6 :: (keyL ls ++ [0]))) ∧ Below base w w2) := ⟨owns_name ho (by simp) (by simp), (hw.out.2.alloc (by omega) _).trans hb⟩
      clear ho hb
      go_wp2_with fail
      go_ret
      exact ⟨_, rfl, hq2.out⟩
    · have hil : i < ls.length := by have := hn.out; omega
      have i1 : (i : Int) < (n : Int) := by omega
      have i2 : (0 : Int) ≤ (i : Int) := by omega
      obtain ⟨bb, off, c, rfl, _, hc, hx⟩ := IsTL.get hl.out i hil
      rw [Nat.zero_add] at hc
      have hBr : Below base w0 wr := hB.out.trans hw.out.2
      replace hc := (hBr.cell (by have := lt_of_cell hc; rw [hbase.out] at this; exact this)).trans hc
      have hst := szL_split ls (i + 1)
      rw [szL_take hil] at hst
      obtain ⟨T, u, f, rfl, hme, hen, hcall⟩ := ih.out ls[i] (List.getElem_mem hil) w0 wr S c u1 (l ++ 6 :: keyL (ls.take i)) d (okL_at hok.out hil) (by omega) (wtL_at hwt.out i hil) hx (by rw [hbase.out]; exact hBr) (by rw [hbase.out]; exact hw.out.1) (by simp; omega)
      rw [hbase.out] at hcall
      replace hcall : Hid (Calls Tryz.prog f [u, u1].toArray wr (Puts base wr (l ++ 6 :: keyL (ls.take i) ++ keyV ls[i]))) := hcall
      have hkt : Hid (keyL (ls.take (i + 1)) = keyL (ls.take i) ++ keyV ls[i]) := keyL_take hil
      clear hsp hst hx hkl
      go_wp2_with fail
      refine hcall.out.mono ?_
      rintro e w2 ⟨v2, rfl, ho, hb⟩
      have hq2 : Hid (w2.ownsRow base 5 1 v2 (l ++ 6 :: keyL (ls.take (i + 1))).length (bvals (l ++ 6 :: keyL (ls.take (i + 1)))) ∧ Below base w w2) := by
        rw [hkt.out]
        exact ⟨owns_name ho (by simp) (by simp), hw.out.2.trans hb⟩
      clear ho hb hc hBr
      go_wp2_with fail
      go_roundw
      case rel => exact ⟨i + 1, by omega, by go_num, hq2.out⟩
      case measure => simp [intOf]; omega
theorem app_any (x : Val) : DoesApp x := by
  induction x using Val.ind with
  | h k n r t l ih =>
    intro w0 w S tv b l0 d ho hs hw ht hB hown hlen
    obtain ⟨f1, f2, f3, f4, f5, f6, f7⟩ := ok_free ho
    rw [szV] at hs hlen
    rw [wtV] at hw
    rw [IsT] at ht
    have hbs := hB.size
    have z0 : szL ([] : List Val) = 0 := by rw [szL]
    rcases ht with ⟨rfl, rfl⟩ | ⟨rfl, rfl⟩ | ⟨rfl, rfl⟩ | ⟨rfl, rfl⟩ | ⟨rfl, rfl⟩ | ⟨rfl, ao, cap, rfl, h2, h3, h4⟩
    · rw [f1 (by omega), f2 (by omega), f3 (by omega), f4 (by omega) (by omega), key_nil]
      exact ⟨_, _, 105, rfl, fun q => by kernel_rfl, fun a q => by kernel_rfl, nilApp w _ b l0 hbs hown (by omega)⟩
    · rw [f1 (by omega), f2 (by omega), f3 (by omega), key_bool]
      exact ⟨_, _, 110, rfl, fun q => by kernel_rfl, fun a q => by kernel_rfl, boolApp w _ b l0 n (f5 rfl) hbs hown (by omega)⟩
    · rw [f1 (by omega), f2 (by omega), f3 (by omega), key_int]
      exact ⟨_, _, 117, rfl, fun q => by kernel_rfl, fun a q => by kernel_rfl, intApp w _ b l0 n (by omega) (by omega) hbs hown (by omega)⟩
    · rw [f1 (by omega), f2 (by omega), f4 (by omega) (by omega), key_real]
      exact ⟨_, _, 125, rfl, fun q => by kernel_rfl, fun a q => by kernel_rfl, realApp w _ b l0 r hw.2.2.1 hbs hown (by omega)⟩
    · rw [f1 (by omega), f3 (by omega), f4 (by omega) (by omega), key_text]
      exact ⟨_, _, 136, rfl, fun q => by kernel_rfl, fun a q => by kernel_rfl, textApp w _ b l0 t hbs hown (by omega) (by omega)⟩
    · rw [f2 (by omega), f3 (by omega), f4 (by omega) (by omega), key_list]
      exact ⟨_, _, 145, rfl, fun q => by kernel_rfl, fun a q => by kernel_rfl, listApp l ih w0 w S ao cap b l0 (d + 1) f7 (by omega) hw.2.2.2 h4 h2 h3 hB hown (by omega)⟩
theorem owns_down {w : World} {base base' e k : Nat} {v : Value} {n : Nat} {xs : List Value} (h : w.ownsRow base e k v n xs) (hb : base' ≤ base) : w.ownsRow base' e k v n xs := by
  obtain ⟨h1, h2⟩ := h
  rcases h2 with h | ⟨g, cap, cur, a1, a2, a3⟩
  · exact ⟨h1, Or.inl h⟩
  · exact ⟨h1, Or.inr ⟨g, cap, cur, a1, by omega, a3⟩⟩
/-- What Key answers is new. -/
theorem Key_new (w : World) (v : Value) (x : Val) (hv : IsV w v x) (hw : wtV x) : Calls Tryz.prog 10 #[v] w fun e w' => ∃ kv, e = .returned (.tuple #[kv, .int .i64 (errO x)]) ∧ w'.ownsRow w.heap.size 5 1 kv (keyO x).length (bvals (keyO x)) ∧ Below w.heap.size w w' := by
  have hc := fun q (hq : Below w.heap.size w q) => thingOf_any q v x (IsV.below hq x v hv)
  have hs := fun (q : World) (tv : Value) (h : mayV x = true) (S : Nat → Prop) (ht : IsT S q tv x) => app_any x q q S tv (.slice none 0 0) [] 0 (may_parts h).1 (may_parts h).2 hw ht (Below.refl _ _) ⟨by simp [bvals], Or.inl ⟨rfl, rfl⟩⟩ (by have := (may_parts h).2; simp; omega)
  obtain ⟨k, n, r, t, l⟩ := x
  rw [IsV] at hv
  obtain ⟨ao, cap, rfl, _⟩ := hv
  obtain ⟨X, hX⟩ : ∃ X, Hid (Val.mk k n r t l = X) := ⟨_, rfl⟩
  rw [hX.out] at hc hs ⊢
  replace hc : Hid (∀ q, Below w.heap.size w q → _) := hc
  replace hs : Hid (∀ (q : World) (tv : Value), mayV X = true → ∀ S : Nat → Prop, IsT S q tv X → Disp "flume/value.appendKey" tv [.slice none 0 0] q (Puts q.heap.size q ([] ++ keyV X))) := hs
  obtain ⟨M, hM⟩ : ∃ M, Hid (mayV X = M) := ⟨mayV X, rfl⟩
  obtain ⟨Z, hZ⟩ : ∃ Z, Hid (errO X = Z) := ⟨errO X, rfl⟩
  obtain ⟨K, hK⟩ : ∃ K, Hid (keyO X = K) := ⟨keyO X, rfl⟩
  have hZ2 : Hid (Z = if M then 0 else 1) := by show _ = _; rw [← hZ.out, errO, hM.out]
  have hK2 : Hid (K = if M then keyV X else []) := by show _ = _; rw [← hK.out, keyO, hM.out]
  rw [hZ.out, hK.out]
  clear hw
  go_enter Tryz.func10, Tryz.ntmps10
  go_wp2_with fail
  refine (hc.out _ (box_below _ _)).mono ?_
  rintro e w1 ⟨tv, rfl, hno, hyes, hb⟩
  have hB : Hid (Below w.heap.size w w1) := keepV hb (box_below _ _)
  rw [hM.out] at hno hyes ⊢
  clear hb
  cases M with
  | false =>
    have hZ3 : Hid (Z = 1) := hZ2.out
    have hK3 : Hid (K = []) := hK2.out
    clear hno hyes
    go_wp2_with fail
    go_returns
    refine ⟨_, by rw [hZ3.out]; rfl, ?_, hB.out⟩
    rw [hK3.out]
    exact ⟨by simp [bvals], Or.inl ⟨rfl, rfl⟩⟩
  | true =>
    have hZ3 : Hid (Z = 0) := hZ2.out
    have hK3 : Hid (K = keyV X) := hK2.out
    obtain ⟨T, u, f, rfl, hme, hen, hcall⟩ := hs.out w1 tv hM.out _ (hyes rfl)
    rw [List.nil_append, ← hK3.out] at hcall
    replace hcall : Hid (Calls Tryz.prog f [u, .slice none 0 0].toArray w1 (Puts w1.heap.size w1 K)) := hcall
    clear hno hyes
    go_wp2_with fail
    refine hcall.out.mono ?_
    rintro e w2 ⟨v2, rfl, ho, hb⟩
    have hq2 : Hid (w2.ownsRow w.heap.size 5 1 v2 K.length (bvals K) ∧ Below w.heap.size w w2) := ⟨owns_down ho hB.out.size, keepV hb hB.out⟩
    clear ho hb
    go_wp2_with fail
    go_returns
    exact ⟨_, by rw [hZ3.out]; rfl, hq2.out⟩
theorem Key_any : DoesKey 10 := fun w v x hv hw => (Key_new w v x hv hw).mono fun _ _ ⟨kv, h1, h2, h3⟩ => ⟨kv, h1, Sl.of_owns h2, h3⟩
#print axioms Key_any
end Go.Proofs.YtpfnkkkfekhngaaGreatDoor.Va
