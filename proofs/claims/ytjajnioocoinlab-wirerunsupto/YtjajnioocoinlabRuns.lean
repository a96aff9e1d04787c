/-
  WireRuns: the fields written one behind the other, as a plain list; the walk through both loops.
-/
import Derived.Test.YtjajnioocoinlabRws
import Derived.Test.YtjajnioocoinlabBack
import Derived.Deep.RegionHeld3
namespace Go.Proofs.Ytjajnioocoinlab
open Go.RowKit

theorem wpList_append_name {P : Program} {w : World} {ops : Array Oper} {rest : List Oper} {o : Oper} {a : Act} {Q : Exit → Act → World → Prop} (hgd : o.guard = none) (s x : Operand) (t : TypeId)
    (ho : o.op = .call { callee := .builtin .append, args := #[s, x], argTypes := #[t, t] })
    (base : Nat) (e : TypeId) (hinf : (P.info? e).map (fun i => (i.zero, i.size, i.bytes)) = some (some (.int .u8 0), 1, 1)) (ht : P.underlying t = some (.slice e))
    (v vx : Value) (l m : List UInt8) (hs : a.eval s = v) (hown : w.ownsRow base e 1 v l.length (bvals l)) (hx : a.eval x = vx) (hsl : Sl w vx m)
    (hbytes : l.length + m.length ≤ 140737488355328) (hbase : base ≤ w.heap.size)
    (h : ∀ v' w' L, Hid (L = l ++ m) → L.length ≤ l.length + m.length → w'.ownsRow base e 1 v' L.length (bvals L) → Below base w w' → wpList P ops Q rest (a.put o.dst v') w') : wpList P ops Q (o :: rest) a w :=
  wpList_append_bytes hgd s x t ho base e hinf ht v vx l m hs hown hx hsl hbytes hbase fun v' w' h1 h2 => h v' w' (l ++ m) rfl (by simp) h1 h2

/-- Pieces one behind the other. -/
def runs (P : Nat → List UInt8) : Nat → List UInt8
  | 0 => []
  | k + 1 => runs P k ++ P k
theorem runs_split (P : Nat → List UInt8) (k : Nat) : ∀ n, k < n → ∃ r, runs P n = runs P k ++ (P k ++ r) := by
  intro n
  induction n with
  | zero => intro h; omega
  | succ n ih =>
    intro h
    by_cases hk : k = n
    · subst hk; exact ⟨[], by simp [runs]⟩
    · obtain ⟨r, hr⟩ := ih (by omega)
      exact ⟨r ++ P n, by rw [runs, hr]; simp⟩
/-- The five forms of a row of fields. -/
def piece (u i : Int) (s : List UInt8) : List UInt8 := enc u.toNat ++ (enc (zig i).toNat ++ (fx 4 (u % 4294967296).toNat ++ (fx 8 u.toNat ++ (enc s.length ++ s))))
theorem piece_len (u i : Int) (s : List UInt8) : (piece u i s).length ≤ 42 + s.length := by
  have h1 := enc_len u.toNat
  have h2 := enc_len (zig i).toNat
  have h3 := enc_len s.length
  simp only [piece, List.length_append, fx_len]; omega
theorem runs_len (P : Nat → List UInt8) (L : Nat → Nat) (h : ∀ k, (P k).length ≤ 42 + L k) : ∀ n, (runs P n).length ≤ 42 * n + ((List.range n).map L).sum := by
  intro n
  induction n with
  | zero => simp [runs]
  | succ n ih =>
    have := h n
    simp only [runs, List.length_append, List.range_succ, List.map_append, List.sum_append, List.map_cons, List.map_nil, List.sum_cons, List.sum_nil]
    omega

theorem vr_at (A B : List UInt8) (n : Nat) (hn : n < 18446744073709551616) : vr (A ++ (enc n ++ B)) A.length 18446744073709551615 = (n, (enc n).length, 0) := by
  unfold vr
  rw [List.drop_left, rv_enc n B hn]
  simp only []
  rw [if_neg (by simp), if_neg (by omega)]
theorem num_at (A B : List UInt8) (s n : Nat) (hn : n < 256 ^ s) : num (((A ++ (fx s n ++ B)).drop A.length).take s) = n := by
  rw [List.drop_left, List.take_append_of_le_length (by rw [fx_len]; omega), List.take_of_length_le (by rw [fx_len]; omega), fx_num s n hn]
theorem rs_at (A s B : List UInt8) (hs : s.length < 18446744073709551616) : rs ((A ++ (enc s.length ++ (s ++ B))).drop A.length) (s.length : Int) = (s, (enc s.length).length + s.length, 0) := by
  rw [List.drop_left]
  have h := rv_enc s.length (s ++ B) hs
  unfold rs
  rw [h]
  simp only []
  rw [if_neg (by omega), if_neg (by simp), if_neg (by omega), if_neg (by simp only [List.length_append]; omega)]
  simp

/-- The five readings of a row of fields, each at its place. -/
theorem read_piece (R A r s : List UInt8) (u z f : Nat) (rb : Nat) (hR : R = A ++ (enc u ++ (enc z ++ (fx 4 f ++ (fx 8 u ++ (enc s.length ++ (s ++ r))))))) (hu : u < 18446744073709551616) (hz : z < 18446744073709551616) (hf : f < 4294967296) (hs : s.length ≤ 1048576) :
    ∃ p1 p2 p3 p4, (∀ w, RdrAt w rb R A.length 0 → Calls Try.prog 15 #[.pointer (some ⟨rb, 0, none⟩), .int .u64 18446744073709551615] w fun e w' => e = .returned (.int .u64 (u : Int)) ∧ RdrAt w' rb R p1 0 ∧ w.grownBy w' (some rb)) ∧
      (∀ w, RdrAt w rb R p1 0 → Calls Try.prog 16 #[.pointer (some ⟨rb, 0, none⟩)] w fun e w' => e = .returned (.int .i64 (zag (z : Int))) ∧ RdrAt w' rb R p2 0 ∧ w.grownBy w' (some rb)) ∧
      (∀ w, RdrAt w rb R p2 0 → Calls Try.prog 17 #[.pointer (some ⟨rb, 0, none⟩)] w fun e w' => e = .returned (.int .u32 (f : Int)) ∧ RdrAt w' rb R p3 0 ∧ w.grownBy w' (some rb)) ∧
      (∀ w, RdrAt w rb R p3 0 → Calls Try.prog 18 #[.pointer (some ⟨rb, 0, none⟩)] w fun e w' => e = .returned (.int .u64 (u : Int)) ∧ RdrAt w' rb R p4 0 ∧ w.grownBy w' (some rb)) ∧
      (∀ w, RdrAt w rb R p4 0 → Calls Try.prog 19 #[.pointer (some ⟨rb, 0, none⟩), .int .i64 (s.length : Int)] w fun e w' => ∃ v', e = .returned v' ∧ Sl w' v' s ∧ RdrAt w' rb R (A ++ (enc u ++ (enc z ++ (fx 4 f ++ (fx 8 u ++ (enc s.length ++ s)))))).length 0 ∧ w.grownBy w' (some rb)) := by
  refine ⟨(A ++ enc u).length, (A ++ enc u ++ enc z).length, (A ++ enc u ++ enc z ++ fx 4 f).length, (A ++ enc u ++ enc z ++ fx 4 f ++ fx 8 u).length, ?_, ?_, ?_, ?_, ?_⟩
  · intro w h
    have hv : vr R A.length 18446744073709551615 = (u, (enc u).length, 0) := by rw [hR]; exact vr_at A _ u hu
    refine (Varint_good w rb R A.length 18446744073709551615 h (by omega) (by rw [hv])).mono ?_
    rw [hv]
    rintro e w' ⟨h1, h2, h3⟩
    exact ⟨h1, by rw [List.length_append]; exact h2, h3⟩
  · intro w h
    have hv : vr R (A ++ enc u).length 18446744073709551615 = (z, (enc z).length, 0) := by
      rw [hR, ← List.append_assoc]; exact vr_at (A ++ enc u) _ z hz
    refine (Signed_good w rb R _ h (by rw [hv])).mono ?_
    rw [hv]
    rintro e w' ⟨h1, h2, h3⟩
    exact ⟨h1, by rw [List.length_append]; exact h2, h3⟩
  · intro w h
    have hR2 : R = (A ++ enc u ++ enc z) ++ (fx 4 f ++ (fx 8 u ++ (enc s.length ++ (s ++ r)))) := by rw [hR]; simp only [List.append_assoc]
    have hv : num ((R.drop (A ++ enc u ++ enc z).length).take 4) = f := by rw [hR2]; exact num_at _ _ 4 f hf
    have hk : (A ++ enc u ++ enc z).length + 4 ≤ R.length := by have h4 := fx_len 4 f; rw [hR2]; simp only [List.length_append]; omega
    refine (Fixed32_good w rb R _ h hk).mono ?_
    rw [hv]
    rintro e w' ⟨h1, h2, h3⟩
    exact ⟨h1, by rw [List.length_append, fx_len]; exact h2, h3⟩
  · intro w h
    have hR2 : R = (A ++ enc u ++ enc z ++ fx 4 f) ++ (fx 8 u ++ (enc s.length ++ (s ++ r))) := by rw [hR]; simp only [List.append_assoc]
    have hv : num ((R.drop (A ++ enc u ++ enc z ++ fx 4 f).length).take 8) = u := by rw [hR2]; exact num_at _ _ 8 u hu
    have hk : (A ++ enc u ++ enc z ++ fx 4 f).length + 8 ≤ R.length := by have h8 := fx_len 8 u; rw [hR2]; simp only [List.length_append]; omega
    refine (Fixed64_good w rb R _ h hk).mono ?_
    rw [hv]
    rintro e w' ⟨h1, h2, h3⟩
    exact ⟨h1, by rw [List.length_append, fx_len]; exact h2, h3⟩
  · intro w h
    have hR2 : R = (A ++ enc u ++ enc z ++ fx 4 f ++ fx 8 u) ++ (enc s.length ++ (s ++ r)) := by rw [hR]; simp only [List.append_assoc]
    have hv : rs (R.drop (A ++ enc u ++ enc z ++ fx 4 f ++ fx 8 u).length) (s.length : Int) = (s, (enc s.length).length + s.length, 0) := by rw [hR2]; exact rs_at _ s r (by omega)
    refine (String_good w rb R _ (s.length : Int) h (by omega) (by omega) (by rw [hv])).mono ?_
    rw [hv]
    rintro e w' ⟨v', h1, h2, h3, h4⟩
    refine ⟨v', h1, Sl.of_owns h2, ?_, h4⟩
    have e2 : (A ++ (enc u ++ (enc z ++ (fx 4 f ++ (fx 8 u ++ (enc s.length ++ s)))))).length = (A ++ enc u ++ enc z ++ fx 4 f ++ fx 8 u).length + ((enc s.length).length + s.length) := by simp only [List.length_append]; omega
    rw [e2]; exact h3

/-- What is kept through the readings: nothing old has turned; the three elements lie where they lay. -/
theorem keep3 {w u u' : World} {p1 p2 p3 : Addr} {v1 v2 v3 : Value} {rb : Nat} (h : Below w.heap.size w u ∧ u.cell? p1 = some v1 ∧ u.cell? p2 = some v2 ∧ u.cell? p3 = some v3) (hg : u.grownBy u' (some rb)) (hr : w.heap.size ≤ rb)
    (h1 : p1.block < w.heap.size) (h2 : p2.block < w.heap.size) (h3 : p3.block < w.heap.size) : Below w.heap.size w u' ∧ u'.cell? p1 = some v1 ∧ u'.cell? p2 = some v2 ∧ u'.cell? p3 = some v3 := by
  have hb := below_rdr h.1 hg hr
  exact ⟨hb, by rw [hb.cell h1, ← h.1.cell h1]; exact h.2.1, by rw [hb.cell h2, ← h.1.cell h2]; exact h.2.2.1, by rw [hb.cell h3, ← h.1.cell h3]; exact h.2.2.2⟩
end Go.Proofs.Ytjajnioocoinlab
