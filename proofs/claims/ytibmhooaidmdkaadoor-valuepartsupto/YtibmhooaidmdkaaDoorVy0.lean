/-
  ValueParts: what its sums are.
-/
import Derived.Test.YtibmhooaidmdkaaDoorVf
import Derived.Test.YtibmhooaidmdkaaDoorVwB
namespace Go.Proofs.YtibmhooaidmdkaaDoor.Va
open Go.RowKit Go.Proofs.YtibmhooaidmdkaaDoor.Rl
set_option maxRecDepth 100000

def keysO : List Val → List UInt8
  | [] => []
  | x :: r => keyO x ++ keysO r
def sizesO : List Val → Int
  | [] => 0
  | x :: r => sizeO x + sizesO r
def flatV : Val → Bool
  | .mk k _ _ _ l => !decide (k = 6) || l.isEmpty
def flatsO : List Val → Bool
  | [] => true
  | x :: r => (mayV x && flatV x) && flatsO r
theorem keysO_append : ∀ a b : List Val, keysO (a ++ b) = keysO a ++ keysO b
  | [], b => by simp [keysO]
  | x :: r, b => by simp [keysO, keysO_append r b]
theorem sizesO_append : ∀ a b : List Val, sizesO (a ++ b) = sizesO a + sizesO b
  | [], b => by simp [sizesO]
  | x :: r, b => by simp only [List.cons_append, sizesO, sizesO_append r b]; omega
theorem flatsO_append : ∀ a b : List Val, flatsO (a ++ b) = (flatsO a && flatsO b)
  | [], b => by simp [flatsO]
  | x :: r, b => by simp only [List.cons_append, flatsO, flatsO_append r b, Bool.and_assoc]
theorem take_next {l : List Val} {i : Nat} (h : i < l.length) : l.take (i + 1) = l.take i ++ [l[i]] := by simp
theorem keysO_take {l : List Val} {i : Nat} (h : i < l.length) : keysO (l.take (i + 1)) = keysO (l.take i) ++ keyO l[i] := by rw [take_next h, keysO_append]; simp [keysO]
theorem sizesO_take {l : List Val} {i : Nat} (h : i < l.length) : sizesO (l.take (i + 1)) = sizesO (l.take i) + sizeO l[i] := by rw [take_next h, sizesO_append]; simp [sizesO]
theorem flatsO_take {l : List Val} {i : Nat} (h : i < l.length) : flatsO (l.take (i + 1)) = (flatsO (l.take i) && (mayV l[i] && flatV l[i])) := by rw [take_next h, flatsO_append]; simp [flatsO]
theorem sizeO_le (x : Val) : 0 ≤ sizeO x ∧ sizeO x ≤ (szV x : Int) := by unfold sizeO; split <;> omega
theorem sizesO_le : ∀ l : List Val, 0 ≤ sizesO l ∧ sizesO l ≤ (szL l : Int)
  | [] => by simp [sizesO, szL]
  | x :: r => by have := sizeO_le x; have := sizesO_le r; rw [sizesO, szL]; omega
theorem keyO_len (x : Val) : (keyO x).length ≤ 9 * szV x := by
  unfold keyO
  split
  · exact key_len x
  · simp
theorem keysO_len : ∀ l : List Val, (keysO l).length ≤ 9 * szL l
  | [] => by simp [keysO]
  | x :: r => by have := keyO_len x; have := keysO_len r; rw [keysO, szL, List.length_append]; omega
theorem flats_keys : ∀ {l : List Val}, flatsO l = true → keysO l = keyL l
  | [], _ => by rw [keysO, keyL]
  | x :: r, h => by
    rw [flatsO, Bool.and_eq_true, Bool.and_eq_true] at h
    rw [keysO, keyL, flats_keys h.2, keyO, h.1.1]
    rfl
theorem flats_sizes : ∀ {l : List Val}, flatsO l = true → sizesO l = (szL l : Int)
  | [], _ => by rw [sizesO, szL]; rfl
  | x :: r, h => by
    rw [flatsO, Bool.and_eq_true, Bool.and_eq_true] at h
    rw [sizesO, szL, flats_sizes h.2, sizeO, h.1.1]
    simp
theorem flat_ok {x : Val} (h : mayV x = true) (hf : flatV x = true) : okV 1 x = true := by
  have h0 := may_ok h
  obtain ⟨k, n, r, t, l⟩ := x
  have hl : l = [] := by
    by_cases hk : k = 6
    · subst hk
      simpa [flatV] using hf
    · exact (ok_free h0).1 hk
  subst hl
  rw [okV, Bool.and_eq_true, Bool.and_eq_true] at h0 ⊢
  exact ⟨⟨h0.1.1, by simp⟩, by rw [okL]⟩
theorem flats_ok : ∀ {l : List Val}, flatsO l = true → okL 1 l = true
  | [], _ => by rw [okL]
  | x :: r, h => by
    rw [flatsO, Bool.and_eq_true, Bool.and_eq_true] at h
    rw [okL, flat_ok h.1.1 h.1.2, flats_ok h.2]
    rfl
theorem flats_may {l : List Val} (h : flatsO l = true) (hn : 1 + sizesO l ≤ 65536) : mayV (.mk 6 0 0 [] l) = true := by
  rw [flats_sizes h] at hn
  rw [mayV, okV, flats_ok h, szV]
  simp [plain]
  omega
theorem text_may (t : List UInt8) : mayV (.mk 5 0 0 t []) = decide (t.length < 65536) := by
  rw [mayV, okV, okL, szV, szL]
  simp [plain]
  omega
theorem text_size {t : List UInt8} (h : t.length < 65536) : sizeO (.mk 5 0 0 t []) = (t.length : Int) + 1 := by
  rw [sizeO, text_may, decide_eq_true h, szV, szL]
  simp
  omega
/-- An append of bytes that a guard asks for: all but the own block stands. -/
theorem wpList_append_bytes_on {P : Program} {w : World} {ops : Array Oper} {rest : List Oper} {o : Oper} {a : Act} {Q : Exit → Act → World → Prop} (hwn : Region.wanted o (yielded ops a.tmps) = true) (s x : Operand) (t : TypeId)
    (ho : o.op = .call { callee := .builtin .append, args := #[s, x], argTypes := #[t, t] })
    (base : Nat) (e : TypeId) (hinf : (P.info? e).map (fun i => (i.zero, i.size, i.bytes)) = some (some (.int .u8 0), 1, 1)) (ht : P.underlying t = some (.slice e))
    (v vx : Value) (l m : List UInt8) (hs : a.eval s = v) (hown : w.ownsRow base e 1 v l.length (bvals l)) (hx : a.eval x = vx) (hsl : Sl w vx m)
    (hbytes : l.length + m.length ≤ 140737488355328) (hbase : base ≤ w.heap.size)
    (h : ∀ v' w', w'.ownsRow base e 1 v' (l ++ m).length (bvals (l ++ m)) → Below base w w' → (w' = w ∨ w.grownBy w' v.ownBlock) → wpList P ops Q rest (a.put o.dst v') w') : wpList P ops Q (o :: rest) a w := by
  have h2 : wpList P ops Q ({ o with guard := none } :: rest) a w := by
    obtain ⟨i0, hi, hz0, hz1, hz2⟩ := info_parts hinf
    obtain ⟨ao, cap, rfl, h2, h3, h4, h5⟩ := hsl
    cases ao with
    | none =>
      obtain ⟨rfl, rfl⟩ := h2 rfl
      refine wpList_append_own_none rfl s x t ho base e i0 1 ht hi v l.length (bvals l) hs hown hx ?_
      exact h v w (by simpa using hown) (Below.refl _ _) (Or.inl rfl)
    | some ad =>
      have hcells : ∀ j u, (bvals m)[j]? = some u → w.cell? (ad.add j) = some u := by
        intro j u hu
        have hj : j < m.length := by
          have := (List.getElem?_eq_some_iff.1 hu).1
          simpa [bvals] using this
        obtain ⟨b, off, e1, hc⟩ := h5 j hj
        simp only [Option.some.injEq] at e1
        subst e1
        rw [bvals_get hj] at hu
        simp only [Option.some.injEq] at hu
        subst hu
        have ea : (⟨b, off, none⟩ : Addr).add j = ⟨b, off + j, none⟩ := by
          unfold Addr.add; split <;> simp_all
        rw [ea]; exact hc
      refine wpList_append_own w rfl s x t ho base e i0 (.int .u8 0) 1 1 ht hi hz0 hz1 hz2 rfl (by decide) v l.length (bvals l) hs hown ad m.length cap (bvals m) hx (by simp [bvals]) hcells ?_ (by unfold maxLen; omega) (by omega) hbase ?_
      · intro u hu
        simp only [bvals, List.mem_map] at hu
        obtain ⟨c, _, rfl⟩ := hu
        rfl
      · intro v' w' ho' hg _
        refine h v' w' ?_ ((Below.refl _ _).grown hg hbase fun k hk => (hown.lt k hk).1) (Or.inr hg)
        rw [List.length_append, bvals_append]
        exact ho'
  unfold wpList at h2 ⊢
  rw [if_pos hwn]
  rw [if_pos (by simp [Region.wanted])] at h2
  exact h2
/-- What lies elsewhere stands. -/
theorem owns_else {w w' : World} {b1 e1 n1 : Nat} {v u : Value} {xs : List Value} (hv : w.ownsRow b1 e1 1 v n1 xs) (hu : ∀ k, u.ownBlock = some k → k < b1) (hg : w' = w ∨ w.grownBy w' u.ownBlock) : w'.ownsRow b1 e1 1 v n1 xs := by
  rcases hg with rfl | hg
  · exact hv
  · refine hv.kept hg ?_
    by_cases h0 : v.ownBlock = none
    · exact Or.inl h0
    · refine Or.inr fun he => ?_
      obtain ⟨k, hk⟩ := Option.ne_none_iff_exists'.1 h0
      have h1 := (hv.lt k hk).1
      have h2 := hu k (he ▸ hk)
      omega
theorem hideP {p : Prop} (h : p) : Hid p := h
theorem owns_six {w : World} {base : Nat} (h : base ≤ w.heap.size) : (w.alloc (.cells #[.int .u8 6] 5)).ownsRow base 5 1 (.slice (some ⟨w.heap.size, 0, none⟩) 1 1) ([6] : List UInt8).length (bvals [6]) :=
  ⟨by simp [bvals], .inr ⟨w.heap.size, 1, #[.int .u8 6], rfl, h, heap_alloc_new w _, by simp, by decide, rfl, rfl⟩⟩
end Go.Proofs.YtibmhooaidmdkaaDoor.Va
