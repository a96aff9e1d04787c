/-
  The numbers of their bits, as a list of its own.
-/
import Derived.Test.YtojohcckaklmpaaDoorRlP
import Derived.Test.YtojohcckaklmpaaDoorOpen
namespace Go.Proofs.YtojohcckaklmpaaDoor.Rl
open Go.RowKit
set_option maxRecDepth 100000

def uvals (us : List Nat) : List Value := us.map fun n : Nat => .int .u64 (n : Int)
theorem Tryd.infoF64 : (Tryd.prog.info? 26).map (fun i => (i.zero, i.size, i.bytes)) = some (some (.float .f64 0), 1, 8) := by kernel_rfl
theorem infoF_parts {P : Program} {e : TypeId} (h : (P.info? e).map (fun i => (i.zero, i.size, i.bytes)) = some (some (.float .f64 0), 1, 8)) : ∃ i, P.info? e = some i ∧ i.zero = some (.float .f64 0) ∧ i.size = 1 ∧ i.bytes = 8 := by
  cases hi : P.info? e with
  | none => rw [hi] at h; cases h
  | some i =>
    rw [hi] at h
    simp only [Option.map_some, Option.some.injEq, Prod.mk.injEq] at h
    exact ⟨i, rfl, h.1, h.2.1, h.2.2⟩
theorem Row.of_owns {w : World} {base e n : Nat} {v : Value} {vs : List Value} (h : w.ownsRow base e 1 v n vs) : Row w v vs := by
  have h0 := h
  obtain ⟨h1, h2⟩ := h
  rw [Nat.mul_one] at h1
  subst h1
  rcases h2 with ⟨rfl, hn⟩ | ⟨g, cap, cur, rfl, hg, hh, hn, hm, hs, ht⟩
  · obtain rfl := List.length_eq_zero_iff.1 hn
    exact Row.nil w
  · refine ⟨some ⟨g, 0, none⟩, cap, rfl, fun e => by simp at e, hn, hm, fun i hi => ⟨g, 0, rfl, ?_⟩⟩
    rw [Nat.zero_add, h0.cellAt i (by omega)]
    simp [hi]
set_option maxHeartbeats 1000000 in
theorem of_any (w : World) (v : Value) (us : List Nat) (hx : Row w v (uvals us)) (hsz : us.length * 8 ≤ 140737488355328) :
    Calls Tryd.prog 8 #[v] w fun e w' => ∃ v', e = .returned v' ∧ w'.ownsRow w.heap.size 26 1 v' us.length (fvals us) ∧ Below w.heap.size w w' := by
  obtain ⟨i0, hi0, hz0, hz1, hz2⟩ := infoF_parts Tryd.infoF64
  obtain ⟨ao, cap, rfl, h1, h2, h3, h4⟩ := hx
  have hlen : (uvals us).length = us.length := by simp [uvals]
  have h4' : Hid (At w ao (uvals us)) := h4
  rw [hlen] at h2 ⊢
  clear h1 h4 hlen h2 h3
  obtain ⟨n, hn⟩ : ∃ n, Hid (us.length = n) := ⟨_, rfl⟩
  rw [hn.out] at hsz ⊢
  have k2 := of_run
  go_enter Tryd.func8, Tryd.ntmps8
  go_wp2_with fail
  go_loopw [3, 4] (fun v3 v4 wr => ∃ i : Nat, i ≤ n ∧ v4 = .int .i64 (i : Int) ∧ wr.ownsRow w.heap.size 26 1 v3 i (fvals (us.take i)) ∧ Hid (Below w.heap.size w wr)) (fun _ v _ => n - (intOf v).toNat)
  case atStart => exact ⟨0, by omega, rfl, ⟨by simp [fvals], Or.inl ⟨rfl, rfl⟩⟩, Below.refl _ _⟩
  case round =>
    obtain ⟨i, hi, rfl, ho, hB⟩ := hrel
    by_cases hin : i = n
    · subst hin
      have ho2 : Hid (wr.ownsRow w.heap.size 26 1 u3 i (fvals us)) := by
        have := ho
        rwa [List.take_of_length_le (by have := hn.out; omega)] at this
      clear ho
      go_wp2
      go_ret
      exact ⟨_, rfl, ho2.out, hB.out⟩
    · have hil : i < us.length := by have := hn.out; omega
      obtain ⟨x, hx⟩ : ∃ x, Hid (us[i] = x) := ⟨us[i], rfl⟩
      obtain ⟨rb, off, rfl, hcell⟩ := h4'.out i (by simp [uvals]; omega)
      have hcx : wr.cell? ⟨rb, off + i, none⟩ = some (.int .u64 (x : Int)) := by
        rw [hB.out.cell (p := ⟨rb, off + i, none⟩) (lt_of_cell hcell), hcell, ← hx.out]
        simp [uvals]
      clear hcell
      have htk : Hid (fvals (us.take (i + 1)) = fvals (us.take i) ++ [.float .f64 x]) := by
        show _ = _
        rw [List.take_succ_eq_append_getElem hil, ← hx.out]; unfold fvals; rw [List.map_append]; rfl
      have i1 : (i : Int) < (n : Int) := by omega
      have i2 : (0 : Int) ≤ (i : Int) := by omega
      have hBs := hB.out.size
      have hh1 : ∀ u ∈ [Value.float .f64 x], u.oneCell' = true := by simp [Value.oneCell']
      have hh2 : i + 1 ≤ maxLen := by unfold maxLen; omega
      have hh3 : (i + 1) * 8 ≤ 140737488355328 := by omega
      go_wp2_with (at_builtin; refine wpList_append_own _ rfl (.tmp 11) (.tmp 17) 24 rfl w.heap.size 26 i0 (.float .f64 0) 1 8 Tryd.underlying24 hi0 hz0 hz1 hz2 rfl (by decide) _ _ _ rfl (ho.alloc _) ⟨wr.heap.size, 0, none⟩ 1 1 [.float .f64 x] rfl rfl (cell_one_new _ _ _) hh1 hh2 hh3 (by simp; omega) ?_)
      intro v' w2 ho2 hg2 _
      have hb2 : Hid (Below w.heap.size w w2) := (hB.out.alloc (by omega) _).grown hg2 (by simp; omega) (fun k hk => (ho.lt k hk).1)
      have ho3 : Hid (w2.ownsRow w.heap.size 26 1 v' (i + 1) (fvals (us.take (i + 1)))) := by rw [htk.out]; exact ho2
      clear ho ho2 hg2
      go_wp2_with fail
      go_roundw
      case rel => exact ⟨i + 1, by omega, by go_num, ho3.out, hb2.out⟩
      case measure => simp [intOf]; omega
#print axioms of_any
theorem nats_of (l : List Int) (h : ∀ n ∈ l, (Lit.int .u64 n).wf = true) : ∃ us : List Nat, Bs us ∧ l.map (Value.int .u64) = uvals us ∧ us.length = l.length := by
  refine ⟨l.map Int.toNat, ?_, ?_, by simp⟩
  · intro b hb
    obtain ⟨n, hn, rfl⟩ := List.mem_map.1 hb
    have := u64_bounds (h n hn)
    omega
  · unfold uvals
    rw [List.map_map]
    apply List.map_congr_left
    intro n hn
    have := u64_bounds (h n hn)
    simp only [Function.comp]
    congr 1
    omega
theorem bytesU64 : Tryd.prog.bytesOf 45 = 8 := by kernel_rfl
theorem u64s_reach {H : Type} {ts : List TypeId} {ds : List (DataW H)} (hsz : (DataW.weightsEach Tryd.prog ts ds).all (· ≤ reachBytes) = true) {j : Nat} {d : DataW H} {l : List Int} (ht : ts[j]? = some 22) (hd : ds[j]? = some d)
    (h : (d = .nil ∧ l = []) ∨ ∃ elems sp, d = .slice elems sp ∧ elems.length = l.length) : l.length * 8 ≤ 140737488355328 := by
  rcases h with ⟨_, rfl⟩ | ⟨elems, sp, rfl, he⟩
  · simp
  · have := sized_slice hsz ht hd Tryd.underlying22
    rw [bytesU64] at this
    simp only [reachBytes] at this
    omega
end Go.Proofs.YtojohcckaklmpaaDoor.Rl
