/-
  An argument that is a value, or a slice of values, opened.
-/
import Derived.Test.YtpfnkkkfekhngaaGreatDoorVi
import Derived.Deep.Slices
import Derived.Laws.Cover2
namespace Go.Proofs.YtpfnkkkfekhngaaGreatDoor.Va
open Go.ChangeShapes Go.WideShapes Go.ChangeAt Go.RowKit Go.Deep Go.Proofs.YtpfnkkkfekhngaaGreatDoor.Rl
set_option maxRecDepth 100000

theorem trod_float {H : Type} {enc : TypeId × Value → H} {P : Program} {w : World} {base : Nat} {spare : Nat → Bool} {held : Bool} {fuel : Nat} {t : TypeId} {k : FloatKind} {cs : List Value} {x : DataW H × List MemPlace}
    (ht : P.underlying t = some (.float k)) (h : DataW.trod enc P w base spare held fuel t cs = some x) : ∃ b, cs = [.float k b] ∧ (Lit.float k b).wf = true := by
  cases fuel with
  | zero => simp [DataW.trod] at h
  | succ n =>
    unfold DataW.trod at h
    rw [ht] at h
    split at h <;> simp_all
theorem cells_five {w : World} {base : Nat} {a : Addr} {cs : List Value} (h : w.cells? base a 5 = some cs) : ∃ c0 c1 c2 c3 c4, cs = [c0, c1, c2, c3, c4] ∧ w.cell? (a.add 0) = some c0 ∧ w.cell? (a.add 1) = some c1 ∧ w.cell? (a.add 2) = some c2 ∧ w.cell? (a.add 3) = some c3 ∧ w.cell? (a.add 4) = some c4 := by
  unfold World.cells? at h
  split at h
  · rw [show List.range 5 = [0, 1, 2, 3, 4] by decide] at h
    simp only [List.mapM_cons, List.mapM_nil, Option.bind_eq_bind, Option.bind_eq_some_iff, Option.pure_def, Option.some.injEq] at h
    obtain ⟨c0, h0, l0, ⟨c1, h1, l1, ⟨c2, h2, l2, ⟨c3, h3, l3, ⟨c4, h4, l4, rfl, rfl⟩, rfl⟩, rfl⟩, rfl⟩, rfl⟩ := h
    exact ⟨c0, c1, c2, c3, c4, rfl, h0, h1, h2, h3, h4⟩
  · cases h
theorem cellsV : Tryz.prog.cellsOf 35 = 5 := by kernel_rfl
theorem cells1 : Tryz.prog.cellsOf 3 = 1 ∧ Tryz.prog.cellsOf 2 = 1 ∧ Tryz.prog.cellsOf 33 = 1 ∧ Tryz.prog.cellsOf 9 = 1 ∧ Tryz.prog.cellsOf 22 = 1 := by
  refine ⟨?_, ?_, ?_, ?_, ?_⟩ <;> kernel_rfl
theorem fields : ∃ fs : Array Field, Tryz.prog.underlying 35 = some (.struct fs) ∧ fs.size = 5 ∧ (fs[0]?).map (fun f => (f.type, f.offset)) = some (3, 0) ∧ (fs[1]?).map (fun f => (f.type, f.offset)) = some (2, 1) ∧ (fs[2]?).map (fun f => (f.type, f.offset)) = some (33, 2) ∧ (fs[3]?).map (fun f => (f.type, f.offset)) = some (9, 3) ∧ (fs[4]?).map (fun f => (f.type, f.offset)) = some (22, 4) :=
  ⟨_, Tryz.underlying35, by kernel_rfl, by kernel_rfl, by kernel_rfl, by kernel_rfl, by kernel_rfl, by kernel_rfl⟩
theorem map_two {o : Option Field} {t : TypeId} {n : Nat} (h : o.map (fun f => (f.type, f.offset)) = some (t, n)) : ∃ f, o = some f ∧ f.type = t ∧ f.offset = n := by
  cases o with
  | none => cases h
  | some f => simp at h; exact ⟨f, rfl, h.1, h.2⟩
theorem i64_of {n : Int} (h : (Lit.int .i64 n).wf = true) : -9223372036854775808 ≤ n ∧ n ≤ 9223372036854775807 := by
  simpa [Lit.wf, IntKind.min, IntKind.max, IntKind.signed, IntKind.bits] using h
theorem f64_of {n : Nat} (h : (Lit.float .f64 n).wf = true) : n < 18446744073709551616 := by
  simpa [Lit.wf] using h
/-- From index i on the elements are values. -/
theorem isL_of {w : World} {b off : Nat} : ∀ (l : List Val) (i : Nat), (∀ j (h : j < l.length), ∃ c0 c1 c2 c3 c4, w.cell? ⟨b, off + (i + j) * 5, none⟩ = some c0 ∧ w.cell? ⟨b, off + (i + j) * 5 + 1, none⟩ = some c1 ∧ w.cell? ⟨b, off + (i + j) * 5 + 2, none⟩ = some c2 ∧ w.cell? ⟨b, off + (i + j) * 5 + 3, none⟩ = some c3 ∧ w.cell? ⟨b, off + (i + j) * 5 + 4, none⟩ = some c4 ∧ IsV w (.agg #[c0, c1, c2, c3, c4]) l[j]) → IsL w (some ⟨b, off, none⟩) i l
  | [], i, _ => by rw [IsL]; trivial
  | x :: r, i, h => by
    rw [IsL]
    refine ⟨?_, isL_of r (i + 1) fun j hj => ?_⟩
    · obtain ⟨c0, c1, c2, c3, c4, g⟩ := h 0 (by simp)
      exact ⟨b, off, c0, c1, c2, c3, c4, rfl, g⟩
    · have := h (j + 1) (by simpa using hj)
      rw [show i + (j + 1) = i + 1 + j by omega] at this
      exact this
theorem wtL_of : ∀ l : List Val, (∀ x ∈ l, wtV x) → wtL l
  | [], _ => by rw [wtL]; trivial
  | x :: r, h => by rw [wtL]; exact ⟨h x (by simp), wtL_of r fun y hy => h y (by simp [hy])⟩
theorem weightsAll_in {H : Type} {P : Program} {e : TypeId} : ∀ {ds : List (DataW H)} {i : Nat} {d : DataW H}, ds[i]? = some d → ∀ n ∈ d.weights P e, n ∈ DataW.weightsAll P e ds
  | [], i, d, h, _, _ => by simp at h
  | c :: r, 0, d, h, n, hn => by
    simp only [List.getElem?_cons_zero, Option.some.injEq] at h
    subst h
    simp only [DataW.weightsAll, List.mem_append]
    exact Or.inl hn
  | c :: r, i + 1, d, h, n, hn => by
    simp only [DataW.weightsAll, List.mem_append]
    exact Or.inr (weightsAll_in (i := i) (by simpa using h) n hn)
theorem open_val {H : Type} {enc : TypeId × Value → H} {w : World} {base : Nat} {spare : Nat → Bool} {held : Bool} :
    ∀ (fuel : Nat) (cs : List Value) (x : DataW H × List MemPlace), DataW.trod enc Tryz.prog w base spare held fuel 35 cs = some x → (∀ n ∈ x.1.weights Tryz.prog 35, n ≤ reachBytes) → ∃ y : Val, IsV w (.agg cs.toArray) y ∧ wtV y := by
  intro fuel
  induction fuel using Nat.strongRecOn with
  | ind fuel ih =>
  intro cs x h hwt
  obtain ⟨fs, hfs, hsz, f0, f1, f2, f3, f4⟩ := fields
  obtain ⟨k1, k2, k3, k4, k5⟩ := cells1
  obtain ⟨xs, m, hm, hxe, hlen, hxl, hel⟩ := DataW.trod_struct hfs h
  have hpt : ∀ (i : Nat) (t : TypeId) (o : Nat) (y : DataW H × List MemPlace), (fs[i]?).map (fun f : Field => (f.type, f.offset)) = some (t, o) → xs[i]? = some y → ∀ n ∈ y.1.weights Tryz.prog t, n ≤ reachBytes := by
    intro i t o y hf hy n hn
    obtain ⟨f, e1, e2, e3⟩ := map_two hf
    refine hwt n ?_
    rw [hxe]
    simp only [DataW.weights, hfs]
    exact DataW.weights_mem_each (j := i) (t := t) (d := y.1) (by rw [List.getElem?_map, Array.getElem?_toList, e1]; simp [e2]) (by rw [List.getElem?_map, hy]; rfl) n hn
  rw [cellsV] at hlen
  obtain ⟨c0, c1, c2, c3, c4, rfl⟩ : ∃ c0 c1 c2 c3 c4, cs = [c0, c1, c2, c3, c4] := by
    match cs, hlen with
    | [c0, c1, c2, c3, c4], _ => exact ⟨c0, c1, c2, c3, c4, rfl⟩
  have part : ∀ i t o, (fs[i]?).map (fun f => (f.type, f.offset)) = some (t, o) → Tryz.prog.cellsOf t = 1 → i < 5 → ∃ y, DataW.trod enc Tryz.prog w base spare held m t (([c0, c1, c2, c3, c4].drop o).take 1) = some y ∧ xs[i]? = some y := by
    intro i t o hf hc hi
    obtain ⟨f, e1, e2, e3⟩ := map_two hf
    have := hel i f e1
    rw [e2, e3, hc, List.getElem?_eq_getElem (by omega)] at this
    exact ⟨_, this, List.getElem?_eq_getElem (by omega)⟩
  obtain ⟨y0, t0, z0⟩ := part 0 _ _ f0 k1 (by omega)
  obtain ⟨y1, t1, z1⟩ := part 1 _ _ f1 k2 (by omega)
  obtain ⟨y2, t2, z2⟩ := part 2 _ _ f2 k3 (by omega)
  obtain ⟨y3, t3, z3⟩ := part 3 _ _ f3 k4 (by omega)
  obtain ⟨y4, t4, z4⟩ := part 4 _ _ f4 k5 (by omega)
  obtain ⟨k, e0, _, w0⟩ := DataW.trod_int Tryz.underlying3 t0
  obtain ⟨n, e1, _, w1⟩ := DataW.trod_int Tryz.underlying2 t1
  obtain ⟨r, e2, w2⟩ := trod_float Tryz.underlying33 t2
  obtain ⟨t, e3, ex3, w3⟩ := DataW.trod_string Tryz.underlying9 t3
  simp at e0 e1 e2 e3
  subst e0 e1 e2 e3
  have hb : Value.string t = .string (bstr t.data.toList) := by rw [bstr, Array.toArray_toList]
  have hts : t.data.toList.length ≤ 140737488355328 := by
    have := hpt 3 _ _ y3 f3 z3 t.data.toList.length (by rw [ex3]; simp [DataW.weights])
    simp only [reachBytes] at this
    omega
  rcases DataW.trod_slice Tryz.underlying22 t4 with ⟨e4, _⟩ | ⟨a, len, cap, elems, rest, q, hq, e4, ex4, hbase, hl, hmx, hlenE, helem, _, _⟩
  · simp at e4
    subst e4
    refine ⟨.mk k n r t.data.toList [], ?_, by rw [wtV]; exact ⟨i64_of w0, i64_of w1, f64_of w2, by rw [wtL]; trivial⟩⟩
    rw [IsV]
    exact ⟨none, 0, by rw [hb]; rfl, fun _ => ⟨rfl, rfl⟩, by simp, by decide, hts, by rw [IsL]; trivial⟩
  · simp at e4
    subst e4
    rw [cellsV] at helem
    have each : ∀ i, i < len → ∃ y : Val, wtV y ∧ ∃ d0 d1 d2 d3 d4, w.cell? ((a.add (i * 5)).add 0) = some d0 ∧ w.cell? ((a.add (i * 5)).add 1) = some d1 ∧ w.cell? ((a.add (i * 5)).add 2) = some d2 ∧ w.cell? ((a.add (i * 5)).add 3) = some d3 ∧ w.cell? ((a.add (i * 5)).add 4) = some d4 ∧ IsV w (.agg #[d0, d1, d2, d3, d4]) y := by
      intro i hi
      have h1 := helem i hi
      rw [List.getElem?_eq_getElem (by omega)] at h1
      obtain ⟨cs', g1, g2⟩ := Option.bind_eq_some_iff.1 h1
      obtain ⟨d0, d1, d2, d3, d4, rfl, q0, q1, q2, q3, q4⟩ := cells_five g1
      obtain ⟨y, hy, hw⟩ := ih q (by omega) _ _ g2 (fun n hn => hpt 4 _ _ y4 f4 z4 n (by
        rw [ex4]
        simp only [DataW.weights, Tryz.underlying22, List.mem_cons, List.mem_append]
        exact Or.inr (Or.inl (weightsAll_in (i := i) (d := (elems[i]).1) (by rw [List.getElem?_map, List.getElem?_eq_getElem (by omega)]; rfl) n hn))))
      exact ⟨y, hw, d0, d1, d2, d3, d4, q0, q1, q2, q3, q4, hy⟩
    haveI : Inhabited Val := ⟨.mk 0 0 0 [] []⟩
    obtain ⟨F, hF⟩ := choose_lt each
    refine ⟨.mk k n r t.data.toList ((List.range len).map F), ?_, ?_⟩
    · rw [IsV]
      refine ⟨some a, cap, by rw [hb]; simp, fun e => by simp at e, by simpa using hl, hmx, hts, ?_⟩
      by_cases h0 : len = 0
      · subst h0; simp only [List.range_zero, List.map_nil]; rw [IsL]; trivial
      · obtain ⟨b, off, sp⟩ := a
        have hsp : sp = none := by
          obtain ⟨_, d0, _, _, _, _, q0, _⟩ := hF 0 (by omega)
          simpa [Addr.add] using World.cell?_spot q0
        subst hsp
        refine isL_of _ 0 fun j hj => ?_
        simp at hj
        obtain ⟨_, d0, d1, d2, d3, d4, q0, q1, q2, q3, q4, hy⟩ := hF j hj
        simp only [addr_add] at q0 q1 q2 q3 q4
        rw [Nat.zero_add]
        exact ⟨d0, d1, d2, d3, d4, q0, q1, q2, q3, q4, by simpa using hy⟩
    · rw [wtV]
      refine ⟨i64_of w0, i64_of w1, f64_of w2, wtL_of _ fun y hy => ?_⟩
      obtain ⟨i, hi, rfl⟩ := List.mem_map.1 hy
      exact (hF i (by simpa using hi)).1
#print axioms open_val
end Go.Proofs.YtpfnkkkfekhngaaGreatDoor.Va
