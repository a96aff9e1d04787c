/-
  A value's argument opened, with its size below the bulk of what is read; a slice of values.
-/
import Derived.Test.YtpfnkkkfekhngaaGreatDoorVo
import Derived.Test.YtpfnkkkfekhngaaGreatDoorVb
import Derived.HandedShaped
import Derived.Shelf.Vars
namespace Go.Proofs.YtpfnkkkfekhngaaGreatDoor.Va
open Go.ChangeShapes Go.WideShapes Go.ChangeAt Go.RowKit Go.Deep Go.Proofs.YtpfnkkkfekhngaaGreatDoor.Rl
set_option maxRecDepth 100000

theorem bulk_one {H : Type} (d : DataW H) : 1 ≤ Rows.uptoBulk d := by
  cases d with
  | lit l => cases l <;> simp [Rows.uptoBulk]
  | _ => simp [Rows.uptoBulk]
theorem bulk_part {H : Type} : ∀ {l : List (DataW H)} {i : Nat} {d : DataW H}, l[i]? = some d → Rows.uptoBulk d + (l.length - 1) ≤ Rows.uptoBulkAll l
  | [], i, d, h => by simp at h
  | c :: r, 0, d, h => by
    simp only [List.getElem?_cons_zero, Option.some.injEq] at h
    subst h
    have hl : ∀ l : List (DataW H), l.length ≤ Rows.uptoBulkAll l := fun l => by
      induction l with
      | nil => simp
      | cons a b ih => have := bulk_one a; simp only [Rows.uptoBulkAll, List.length_cons]; omega
    have := hl r
    simp only [Rows.uptoBulkAll, List.length_cons]
    omega
  | c :: r, i + 1, d, h => by
    have h1 := bulk_part (l := r) (i := i) (d := d) (by simpa using h)
    have h2 := bulk_one c
    have h3 : i < r.length := by
      have h4 : r[i]? = some d := by simpa using h
      exact (List.getElem?_eq_some_iff.1 h4).1
    simp only [Rows.uptoBulkAll, List.length_cons]
    omega
theorem bulk_two {H : Type} : ∀ {l : List (DataW H)} {i j : Nat} {d e : DataW H}, i < j → l[i]? = some d → l[j]? = some e → Rows.uptoBulk d + Rows.uptoBulk e ≤ Rows.uptoBulkAll l
  | [], i, j, d, e, _, h, _ => by simp at h
  | c :: r, 0, 0, d, e, hij, _, _ => by omega
  | c :: r, 0, j + 1, d, e, _, h, h' => by
    simp only [List.getElem?_cons_zero, Option.some.injEq] at h
    subst h
    have := bulk_part (l := r) (i := j) (d := e) (by simpa using h')
    simp only [Rows.uptoBulkAll]
    omega
  | c :: r, i + 1, 0, d, e, hij, _, _ => by omega
  | c :: r, i + 1, j + 1, d, e, hij, h, h' => by
    have := bulk_two (l := r) (i := i) (j := j) (d := d) (e := e) (by omega) (by simpa using h) (by simpa using h')
    simp only [Rows.uptoBulkAll]
    omega
theorem szL_bulk {H : Type} : ∀ (l : List Val) (ds : List (DataW H)), l.length = ds.length → (∀ (i : Nat) (y : Val) (d : DataW H), l[i]? = some y → ds[i]? = some d → szV y ≤ Rows.uptoBulk d) → szL l ≤ Rows.uptoBulkAll ds
  | [], ds, _, _ => by rw [szL]; omega
  | x :: r, [], h, _ => by simp at h
  | x :: r, d :: ds, h, hh => by
    have h1 := hh 0 x d rfl rfl
    have h2 := szL_bulk r ds (by simpa using h) (fun i y e h1 h2 => hh (i + 1) y e (by simpa using h1) (by simpa using h2))
    rw [szL]
    simp only [Rows.uptoBulkAll]
    omega
theorem open_vals_of {H : Type} {enc : TypeId × Value → H} {w : World} {base : Nat} {spare : Nat → Bool} {held : Bool} (fuel : Nat)
    (ih : ∀ q, q < fuel → ∀ (cs : List Value) (x : DataW H × List MemPlace), DataW.trod enc Tryz.prog w base spare held q 35 cs = some x → (∀ n ∈ x.1.weights Tryz.prog 35, n ≤ reachBytes) → ∃ y : Val, IsV w (.agg cs.toArray) y ∧ wtV y ∧ szV y ≤ Rows.uptoBulk x.1)
    (v : Value) (x : DataW H × List MemPlace) (h : DataW.trod enc Tryz.prog w base spare held fuel 22 [v] = some x) (hwt : ∀ n ∈ x.1.weights Tryz.prog 22, n ≤ reachBytes) :
    ∃ (ao : Option Addr) (l : List Val) (cap : Nat), v = .slice ao l.length cap ∧ (ao = none → l = [] ∧ cap = 0) ∧ l.length ≤ cap ∧ cap ≤ maxLen ∧ IsL w ao 0 l ∧ wtL l ∧ szL l + 1 ≤ Rows.uptoBulk x.1 := by
  rcases DataW.trod_slice Tryz.underlying22 h with ⟨e4, _⟩ | ⟨a, len, cap, elems, rest, q, hq, e4, ex4, hbase, hl, hmx, hlenE, helem, _, _⟩
  · simp at e4
    subst e4
    exact ⟨none, [], 0, rfl, fun _ => ⟨rfl, rfl⟩, by simp, by decide, by rw [IsL]; trivial, by rw [wtL]; trivial, by rw [szL]; exact bulk_one _⟩
  · simp at e4
    subst e4
    rw [cellsV] at helem
    have each : ∀ i, i < len → ∃ y : Val, wtV y ∧ (∀ d, elems[i]? = some d → szV y ≤ Rows.uptoBulk d.1) ∧ ∃ d0 d1 d2 d3 d4, w.cell? ((a.add (i * 5)).add 0) = some d0 ∧ w.cell? ((a.add (i * 5)).add 1) = some d1 ∧ w.cell? ((a.add (i * 5)).add 2) = some d2 ∧ w.cell? ((a.add (i * 5)).add 3) = some d3 ∧ w.cell? ((a.add (i * 5)).add 4) = some d4 ∧ IsV w (.agg #[d0, d1, d2, d3, d4]) y := by
      intro i hi
      have h1 := helem i hi
      rw [List.getElem?_eq_getElem (by omega)] at h1
      obtain ⟨cs', g1, g2⟩ := Option.bind_eq_some_iff.1 h1
      obtain ⟨d0, d1, d2, d3, d4, rfl, q0, q1, q2, q3, q4⟩ := cells_five g1
      obtain ⟨y, hy, hw, hs⟩ := ih q (by omega) _ _ g2 (fun n hn => hwt n (by
        rw [ex4]
        simp only [DataW.weights, Tryz.underlying22, List.mem_cons, List.mem_append]
        exact Or.inr (Or.inl (weightsAll_in (i := i) (d := (elems[i]).1) (by rw [List.getElem?_map, List.getElem?_eq_getElem (by omega)]; rfl) n hn))))
      refine ⟨y, hw, fun d hd => ?_, d0, d1, d2, d3, d4, q0, q1, q2, q3, q4, hy⟩
      rw [List.getElem?_eq_getElem (by omega)] at hd
      simp only [Option.some.injEq] at hd
      rw [← hd]
      exact hs
    haveI : Inhabited Val := ⟨.mk 0 0 0 [] []⟩
    obtain ⟨F, hF⟩ := choose_lt each
    refine ⟨some a, (List.range len).map F, cap, by simp, fun e => by simp at e, by simpa using hl, hmx, ?_, wtL_of _ fun y hy => ?_, ?_⟩
    · by_cases h0 : len = 0
      · subst h0; simp only [List.range_zero, List.map_nil]; rw [IsL]; trivial
      · obtain ⟨b, off, sp⟩ := a
        have hsp : sp = none := by
          obtain ⟨_, _, d0, _, _, _, _, q0, _⟩ := hF 0 (by omega)
          simpa [Addr.add] using World.cell?_spot q0
        subst hsp
        refine isL_of _ 0 fun j hj => ?_
        simp at hj
        obtain ⟨_, _, d0, d1, d2, d3, d4, q0, q1, q2, q3, q4, hy⟩ := hF j hj
        simp only [addr_add] at q0 q1 q2 q3 q4
        rw [Nat.zero_add]
        exact ⟨d0, d1, d2, d3, d4, q0, q1, q2, q3, q4, by simpa using hy⟩
    · obtain ⟨i, hi, rfl⟩ := List.mem_map.1 hy
      exact (hF i (by simpa using hi)).1
    · rw [ex4]
      have := szL_bulk ((List.range len).map F) (elems.map (·.1)) (by simp; omega) (fun i y d h1 h2 => by
        rw [List.getElem?_map] at h1 h2
        obtain ⟨j, hj, rfl⟩ := Option.map_eq_some_iff.1 h1
        obtain ⟨c, hc, rfl⟩ := Option.map_eq_some_iff.1 h2
        obtain ⟨hlt, hje⟩ := List.getElem?_eq_some_iff.1 hj
        have hji : j = i := by rw [← hje]; simp
        subst hji
        exact (hF j (by simpa using hlt)).2.1 c hc)
      simp only [Rows.uptoBulk]
      omega
theorem open_val2 {H : Type} {enc : TypeId × Value → H} {w : World} {base : Nat} {spare : Nat → Bool} {held : Bool} :
    ∀ (fuel : Nat) (cs : List Value) (x : DataW H × List MemPlace), DataW.trod enc Tryz.prog w base spare held fuel 35 cs = some x → (∀ n ∈ x.1.weights Tryz.prog 35, n ≤ reachBytes) → ∃ y : Val, IsV w (.agg cs.toArray) y ∧ wtV y ∧ szV y ≤ Rows.uptoBulk x.1 := by
  intro fuel
  induction fuel using Nat.strongRecOn with
  | ind fuel ih =>
  intro cs x h hwt
  obtain ⟨fs, hfs, hsz, f0, f1, f2, f3, f4⟩ := fields
  obtain ⟨k1, k2, k3, k4, k5⟩ := cells1
  obtain ⟨xs, m, hm, hxe, hlen, hxl, hel⟩ := DataW.trod_struct hfs h
  have hpt : ∀ (i : Nat) (t : TypeId) (o : Nat) (y : DataW H × List MemPlace), (fs[i]?).map (fun f : Field => (f.type, f.offset)) = some (t, o) → xs[i]? = some y → ∀ n ∈ y.1.weights Tryz.prog t, n ≤ reachBytes := by
    intro i t o y hf hy n hn
    obtain ⟨f, e1, e2, e3⟩ := map_two hf
    refine hwt n ?_
    rw [hxe]
    simp only [DataW.weights, hfs]
    exact DataW.weights_mem_each (j := i) (t := t) (d := y.1) (by rw [List.getElem?_map, Array.getElem?_toList, e1]; simp [e2]) (by rw [List.getElem?_map, hy]; rfl) n hn
  rw [cellsV] at hlen
  obtain ⟨c0, c1, c2, c3, c4, rfl⟩ : ∃ c0 c1 c2 c3 c4, cs = [c0, c1, c2, c3, c4] := by
    match cs, hlen with
    | [c0, c1, c2, c3, c4], _ => exact ⟨c0, c1, c2, c3, c4, rfl⟩
  have part : ∀ i t o, (fs[i]?).map (fun f => (f.type, f.offset)) = some (t, o) → Tryz.prog.cellsOf t = 1 → i < 5 → ∃ y, DataW.trod enc Tryz.prog w base spare held m t (([c0, c1, c2, c3, c4].drop o).take 1) = some y ∧ xs[i]? = some y := by
    intro i t o hf hc hi
    obtain ⟨f, e1, e2, e3⟩ := map_two hf
    have := hel i f e1
    rw [e2, e3, hc, List.getElem?_eq_getElem (by omega)] at this
    exact ⟨_, this, List.getElem?_eq_getElem (by omega)⟩
  obtain ⟨y0, t0, z0⟩ := part 0 _ _ f0 k1 (by omega)
  obtain ⟨y1, t1, z1⟩ := part 1 _ _ f1 k2 (by omega)
  obtain ⟨y2, t2, z2⟩ := part 2 _ _ f2 k3 (by omega)
  obtain ⟨y3, t3, z3⟩ := part 3 _ _ f3 k4 (by omega)
  obtain ⟨y4, t4, z4⟩ := part 4 _ _ f4 k5 (by omega)
  obtain ⟨k, e0, _, w0⟩ := DataW.trod_int Tryz.underlying3 t0
  obtain ⟨n, e1, _, w1⟩ := DataW.trod_int Tryz.underlying2 t1
  obtain ⟨r, e2, w2⟩ := trod_float Tryz.underlying33 t2
  obtain ⟨t, e3, ex3, w3⟩ := DataW.trod_string Tryz.underlying9 t3
  simp at e0 e1 e2 e3
  subst e0 e1 e2 e3
  have hb : Value.string t = .string (bstr t.data.toList) := by rw [bstr, Array.toArray_toList]
  have hts : t.data.toList.length ≤ 140737488355328 := by
    have := hpt 3 _ _ y3 f3 z3 t.data.toList.length (by rw [ex3]; simp [DataW.weights])
    simp only [reachBytes] at this
    omega
  have t4' : DataW.trod enc Tryz.prog w base spare held m 22 [c4] = some y4 := by simpa using t4
  obtain ⟨ao, l, cap, ev, g1, g2, g3, g4, g5, g6⟩ := open_vals_of m (fun q hq => ih q (by omega)) c4 y4 t4' (hpt 4 _ _ y4 f4 z4)
  subst ev
  refine ⟨.mk k n r t.data.toList l, ?_, ?_, ?_⟩
  · rw [IsV]
    exact ⟨ao, cap, by rw [hb], g1, g2, g3, hts, g4⟩
  · rw [wtV]
    exact ⟨i64_of w0, i64_of w1, f64_of w2, g5⟩
  · have hb2 := bulk_two (l := xs.map (·.1)) (i := 3) (j := 4) (d := y3.1) (e := y4.1) (by omega) (by rw [List.getElem?_map, z3]; rfl) (by rw [List.getElem?_map, z4]; rfl)
    rw [szV, hxe]
    have h3 : Rows.uptoBulk y3.1 = t.data.toList.length + 1 := by rw [ex3]; simp [Rows.uptoBulk]
    simp only [Rows.uptoBulk]
    omega
theorem open_vals {H : Type} {enc : TypeId × Value → H} {w : World} {base : Nat} {spare : Nat → Bool} {held : Bool} (fuel : Nat) (v : Value) (x : DataW H × List MemPlace) (h : DataW.trod enc Tryz.prog w base spare held fuel 22 [v] = some x) (hwt : ∀ n ∈ x.1.weights Tryz.prog 22, n ≤ reachBytes) :
    ∃ (ao : Option Addr) (l : List Val) (cap : Nat), v = .slice ao l.length cap ∧ (ao = none → l = [] ∧ cap = 0) ∧ l.length ≤ cap ∧ cap ≤ maxLen ∧ IsL w ao 0 l ∧ wtL l ∧ szL l + 1 ≤ Rows.uptoBulk x.1 :=
  open_vals_of fuel (fun q _ => open_val2 q) v x h hwt
#print axioms open_vals
end Go.Proofs.YtpfnkkkfekhngaaGreatDoor.Va

/-
  A row that lists variables, its first world's shape handed on; what bytealg.MaxLen holds there.
-/
namespace Go.Proofs.YtpfnkkkfekhngaaGreatDoor
open Go.RowKit
variable {H : Type} {enc : TypeId × Value → H}

theorem handed_both {a : Assume} {C : Checked} {os : Os} {f : FuncId} {fn : Func} {s : ChangeSpec} {conds : List PathCond} {apart fresh handsOn again : Bool} {X : World → Array Value → Prop}
    (own : ownKnob C.prog.godebug = none) (started : os.Started) (noInit : C.prog.inits.idxOf? f = none) (hfn : C.prog.funcs[f]? = some fn)
    (witness : ∃ (w : World) (tape : Tape) (i : Input), w.os = os ∧ (w.forCall tape i).Shaped C.prog ∧ i.vars = [] ∧ Input.okWide C.prog (w.forCall tape i) .any w.heap.size f i ∧
      ((s.pre enc C.prog fn conds apart (w.forCall tape i).memory i.args ∧ X (w.forCall tape i).memory i.args) ∧ sizedMet enc C.prog fn (OpenSpec.ofChange s) apart (w.forCall tape i).memory i.args) ∧ a.holds C.prog (lone (Frame.enter C.prog f i.args .normal) [] (w.forCall tape i)))
    (contract : ∀ (W : World) (base : Nat) (args : Array Value) (ds gs : List (DataW H)) (before : List MemPlace),
      (∀ (j : Nat) t v, fn.params[j]? = some t → args[j]? = some v → Value.okWide C.prog W .any base t v) →
      DataW.Whole enc C.prog fn.params.toList s.vars apart W args.toList ds gs before →
      (DataW.weightsEach C.prog (fn.params.toList ++ s.plain.varTypes C.prog) (ds ++ gs)).all (· ≤ reachBytes) = true → W.ShapedOpen C.prog →
      Calls C.prog f args W fun e W' => ∃ v, e = .returned v ∧ s.post enc C.prog fn apart fresh handsOn again W args v W') :
    ReturnsInHanded a C os f .any (fun w args => (s.pre enc C.prog fn conds apart w args ∧ X w args) ∧ sizedMet enc C.prog fn (OpenSpec.ofChange s) apart w args) (s.post enc C.prog fn apart fresh handsOn again) := by
  refine returnsInHanded_of_calls own started noInit witness ?_
  intro w tape i _ hsh _ hok hpre _
  obtain ⟨_, _, _, fn', hfn', _, _, _, _, hval⟩ := hok
  have e : fn' = fn := Option.some.inj (hfn'.symm.trans hfn)
  subst e
  obtain ⟨⟨⟨ds, gs, before, hw, _⟩, _⟩, hz⟩ := hpre
  have hw' := DataW.Whole.of_heap (w' := w.forCall tape i) (by rfl) hw
  refine (contract (w.forCall tape i) w.heap.size i.args ds gs before hval hw' (hz.weights hw) hsh).mono fun e W' ⟨v, he, hp⟩ => ?_
  subst he
  exact ChangeSpec.post_blind hp
theorem mx_of {w : World} (h : w.ShapedOpen Tryz.prog) : Va.Mx w :=
  cell_of_shapedOpen_int (t := 3) (zero := #[.int .i64 0]) (k := .i64) h (of_decide_eq_true (by kernel_rfl)) (by kernel_rfl) rfl (by kernel_rfl) (by kernel_rfl) Tryz.underlying3
end Go.Proofs.YtpfnkkkfekhngaaGreatDoor

