/-
  refuse, find; New.
-/
import Derived.Test.YtjehpijjneghpaaGreatK01
import Derived.Deep.RegionHeld3
import Derived.Deep.CutRange
import Derived.Deep.RegionLaw
import Derived.BigRegion
import Derived.Handy
import Derived.Laws.Externs
import Derived.Carry
namespace Go.Proofs.YtjehpijjneghpaaGreat.Dk
open Go.RowKit Go.Maps Go.Proofs.YtjehpijjneghpaaGreat.Nm
def refF (x : Option Dc) (L : List ByteArray) : Int := if upD x then (if L.all (fun s => may s.data.toList) then 0 else 24) else 22
theorem all_take {L : List ByteArray} {k : Nat} (hk : k < L.length) (h : (L.take k).all (fun s => may s.data.toList) = true) (h2 : may L[k].data.toList = true) : (L.take (k + 1)).all (fun s => may s.data.toList) = true := by
  rw [List.take_succ_eq_append_getElem hk, List.all_append, h]
  simp [h2]
theorem all_no {L : List ByteArray} {k : Nat} (hk : k < L.length) (h2 : may L[k].data.toList = false) : L.all (fun s => may s.data.toList) = false := by
  cases h : L.all (fun s => may s.data.toList) with
  | false => rfl
  | true => rw [List.all_eq_true] at h; have := h _ (List.getElem_mem hk); rw [h2] at this; exact absurd this (by simp)
theorem refuse_any (w : World) (d v : Value) (x : Option Dc) (L : List ByteArray) (h : Dp w d x) (hv : Row w v (L.map Value.string)) (hl : ∀ s ∈ L, s.size ≤ maxLen) :
    Calls Tryz.prog 68 #[d, v] w fun e w' => e = .returned (.int .i64 (refF x L)) ∧ w' = w := by
  have hu := up_any w d x h
  obtain ⟨ao, cap, rfl, _, h1, h2, h3⟩ := hv
  rw [List.length_map] at *
  obtain ⟨N, hN⟩ : ∃ N, Hid (L.length = N) := ⟨_, rfl⟩
  rw [hN.out] at h1 ⊢
  have i9 : (N : Int) ≤ 9223372036854775807 := by unfold maxLen at h2; omega
  clear h
  cases hx : upD x with
  | false =>
    rw [hx] at hu
    have hE : Hid (refF x L = 22) := by show _ = _; simp [refF, hx]
    rw [hE.out]
    clear h3 hl hx hE
    go_enter Tryz.func68, Tryz.ntmps68
    go_wp2_with (go_at_call 43; refine hu.mono ?_; rintro e w1 ⟨rfl, e1⟩; subst w1)
    go_ret
    exact ⟨rfl, rfl⟩
  | true =>
    rw [hx] at hu
    obtain ⟨E, hG⟩ : ∃ E, refF x L = E := ⟨_, rfl⟩
    have hE : Hid (E = if L.all (fun s => may s.data.toList) then 0 else 24) := by show _ = _; rw [← hG]; simp [refF, hx]
    rw [hG]
    replace h3 := hide h3
    replace hl := hide hl
    clear hx h2 hG
    go_enter Tryz.func68, Tryz.ntmps68
    go_wp2_with (go_at_call 43; refine hu.mono ?_; rintro e w1 ⟨rfl, e1⟩; subst w1)
    go_loop [12] (fun i => ∃ k : Nat, k ≤ N ∧ i = .int .i64 k ∧ Hid ((L.take k).all (fun s => may s.data.toList) = true)) (fun i => N - (intOf i).toNat)
    case atStart => exact ⟨0, Nat.zero_le _, rfl, rfl⟩
    case round =>
      obtain ⟨k, hk, rfl, ha⟩ := hrel
      by_cases hlt : k < N
      · have i1 : (k : Int) < (N : Int) := by omega
        have hkl : k < L.length := by rw [hN.out]; exact hlt
        obtain ⟨b, off, rfl, hc⟩ := h3.out k (by rw [List.length_map]; exact hkl)
        have hcell : w.cell? ⟨b, off + k, none⟩ = some (.string L[k]) := by rw [hc, List.getElem_map]
        have hm := may_any L[k] w (hl.out _ (List.getElem_mem hkl))
        have hA := hide (all_take hkl ha.out)
        have hB := hide (all_no hkl)
        clear hc h3
        generalize L[k] = s at *
        cases hmx : may s.data.toList with
        | true =>
          rw [hmx] at hm
          replace hA := hide (hA.out hmx)
          clear hB hmx
          go_wp2_with (go_at_call 104; refine hm.mono ?_; rintro e w' ⟨rfl, e1⟩; subst w')
          go_round
          case rel => exact ⟨k + 1, by omega, by go_num, hA.out⟩
          case measure => simp [intOf]; omega
        | false =>
          rw [hmx] at hm
          replace hB := hide (hB.out hmx)
          clear hA hmx
          go_wp2_with (go_at_call 104; refine hm.mono ?_; rintro e w' ⟨rfl, e1⟩; subst w')
          go_ret
          exact ⟨by rw [hE.out, hB.out]; rfl, rfl⟩
      · have i1 : ¬ (k : Int) < (N : Int) := by omega
        have hA : Hid (L.all (fun s => may s.data.toList) = true) := by
          have := ha.out
          rwa [List.take_of_length_le (by rw [hN.out]; omega)] at this
        clear h3
        go_wp2_with fail
        go_ret
        exact ⟨by rw [hE.out, hA.out]; rfl, rfl⟩
def findF (x : Option Dc) (l : Dr) (s : ByteArray) : Value × Int :=
  if refF x [s] = 0 then (match get l s.data.toList with | some p => (.pointer (some ⟨p, 0, none⟩), 0) | none => (.pointer none, 6)) else (.pointer none, refF x [s])
theorem row1 (w : World) (s : ByteArray) (T : TypeId) (z : Nat × Nat) : Row (w.alloc (.cells #[.string s] T z)) (.slice (some ⟨w.heap.size, 0, none⟩) 1 1) ([s].map Value.string) := by
  refine ⟨_, 1, rfl, fun e => by simp at e, Nat.le_refl _, by decide, fun i hi => ?_⟩
  obtain rfl : i = 0 := by simp at hi; omega
  refine ⟨_, _, rfl, ?_⟩
  unfold World.cell?
  simp only [Nat.zero_add, heap_alloc_new]
  rfl
theorem row0 (w : World) : Row w (.slice none 0 0) (([] : List ByteArray).map Value.string) := Row.nil w
theorem find_any (w : World) (d : Value) (x : Option Dc) (l : Dr) (s : ByteArray) (h : Dp w d x) (hs : s.size ≤ maxLen) (hl : ∀ y m, x = some y → y.fm = some m → Mp w m l) :
    Calls Tryz.prog 75 #[d, .string s] w fun e w' => e = .returned (.tuple #[(findF x l s).1, .int .i64 (findF x l s).2]) ∧ Below w.heap.size w w' := by
  have hr := refuse_any (w.alloc (.cells #[.string s] 9)) d _ x [s] (h.below ((Below.refl _ w).alloc (Nat.le_refl _) _)) (row1 w s _ _) (by simpa using hs)
  have hB := hide ((Below.refl _ w).alloc (Nat.le_refl _) (.cells #[.string s] 9))
  by_cases h0 : refF x [s] = 0
  · rw [h0] at hr
    rcases h with ⟨rfl, rfl⟩ | ⟨b, y, rfl, rfl, hb⟩
    · exact absurd h0 (by simp [refF, upD])
    · have h2 := hb.cells.2.2.1
      cases hf : y.fm with
      | none => exact absurd h0 (by simp [refF, upD, hf])
      | some m =>
        rw [hf] at h2
        have hm := hl y m rfl hf
        have hm2 : Mp (w.alloc (.cells #[.string s] 9)) m l := hm.heap (Below.heap_alloc _ _ _ hm.lt)
        have h3 : (w.alloc (.cells #[.string s] 9)).cell? ⟨b, 2, none⟩ = some (.map (some m)) := by rw [hB.out.cell (p := ⟨b, 2, none⟩) (lt_of_cell h2)]; exact h2
        obtain ⟨E, hE⟩ : ∃ E, Hid (findF (some y) l s = E) := ⟨_, rfl⟩
        rw [hE.out]
        cases hg : get l s.data.toList with
        | none =>
          have hK : Hid (E = (.pointer none, 6)) := by show _ = _; rw [← hE.out]; simp [findF, h0, hg]
          have hL := hm2.look_none hs hg
          unfold TM at hL
          clear hm hm2 hl hf hg h0 hb h2 hE
          go_enter Tryz.func75, Tryz.ntmps75
          go_wp2_with (go_at_call 68; refine hr.mono ?_; rintro e w1 ⟨rfl, e1⟩; subst w1)
          go_ret2
          exact ⟨by rw [hK.out]; rfl, hB.out⟩
        | some p =>
          have hK : Hid (E = (.pointer (some ⟨p, 0, none⟩), 0)) := by show _ = _; rw [← hE.out]; simp [findF, h0, hg]
          have hL := hm2.look_some hs hg
          unfold TM at hL
          clear hm hm2 hl hf hg h0 hb h2 hE
          go_enter Tryz.func75, Tryz.ntmps75
          go_wp2_with (go_at_call 68; refine hr.mono ?_; rintro e w1 ⟨rfl, e1⟩; subst w1)
          go_ret2
          exact ⟨by rw [hK.out]; rfl, hB.out⟩
  · obtain ⟨E, hE⟩ : ∃ E, Hid (findF x l s = E) := ⟨_, rfl⟩
    obtain ⟨r, hR⟩ : ∃ r, refF x [s] = r := ⟨_, rfl⟩
    have hK : Hid (E = (.pointer none, r)) := by show _ = _; rw [← hE.out, ← hR]; simp [findF, h0]
    rw [hE.out]
    rw [hR] at hr h0
    have h0' : (r != 0) = true := by simpa using h0
    clear hE hl h hR h0
    go_enter Tryz.func75, Tryz.ntmps75
    go_wp2_with (go_at_call 68; refine hr.mono ?_; rintro e w1 ⟨rfl, e1⟩; subst w1)
    go_ret2
    exact ⟨by rw [hK.out]; rfl, hB.out⟩
end Go.Proofs.YtjehpijjneghpaaGreat.Dk
namespace Go.Proofs.YtjehpijjneghpaaGreat.Dk
open Go.RowKit Go.Maps
abbrev Ft := Int × Int × Int
def fv (f : Ft) : Value := .agg #[.int .i64 f.1, .int .i64 f.2.1, .int .i64 f.2.2]
def fd (f : Ft) : DataW Unit := .agg [.lit (.int .i64 f.1), .lit (.int .i64 f.2.1), .lit (.int .i64 f.2.2)]
def faultR : Value → Option (DataW Unit × List MemPlace)
  | .agg ⟨[.int .i64 a, .int .i64 k, .int .i64 p]⟩ => some (fd (a, k, p), [])
  | _ => none
theorem faultR_fv (f : Ft) : faultR (fv f) = some (fd f, []) := rfl
theorem faultR_inv {v : Value} {f : Ft} {ps : List MemPlace} (h : faultR v = some (fd f, ps)) : v = fv f := by
  unfold faultR at h
  split at h
  · rename_i a k p
    simp [fd] at h
    obtain ⟨⟨h1, h2, h3⟩, _⟩ := h
    subst h1 h2 h3
    rfl
  · simp at h
abbrev Ar := List (Int × Ft)
def aent (p : Int × Ft) : Lit × DataW Unit := (.int .i64 p.1, fd p.2)
def armD (l : Ar) : DataW Unit := .map (l.map aent)
def aget (l : Ar) (n : Int) : Option Ft := (l.find? fun p => p.1 == n).map (·.2)
def ains (x : Int × Ft) : Ar → Ar
  | [] => [x]
  | y :: r => if x.1 < y.1 then x :: y :: r else y :: ains x r
def adel (l : Ar) (n : Int) : Ar := l.filter fun p => !(p.1 == n)
def aput (l : Ar) (n : Int) (f : Ft) : Ar := ains (n, f) (adel l n)
theorem insert_aent (x : Int × Ft) : ∀ l : Ar, DataW.insert (aent x) (l.map aent) = (ains x l).map aent := by
  intro l
  induction l with
  | nil => rfl
  | cons y r ih =>
    simp only [List.map_cons, DataW.insert, ains]
    have e : (aent x).1.before (aent y).1 = decide (x.1 < y.1) := rfl
    rw [e]
    by_cases h : x.1 < y.1
    · simp [h]
    · simp [h, ih]
theorem same_aent (n : Int) (p : Int × Ft) : (aent p).1.sameKey (.int .i64 n) = (p.1 == n) := by
  unfold aent Lit.sameKey
  simp
  rfl
theorem filter_aent (l : Ar) (n : Int) : (l.map aent).filter (fun p => !p.1.sameKey (.int .i64 n)) = (adel l n).map aent := by
  unfold adel
  rw [List.filter_map]
  congr 1
  apply List.filter_congr
  intro p _
  simp only [Function.comp, same_aent]
theorem armD_del (l : Ar) (n : Int) : (armD l).del (.int .i64 n) = armD (adel l n) := by
  show DataW.map _ = DataW.map _
  rw [filter_aent]
theorem armD_put (l : Ar) (n : Int) (f : Ft) : (armD l).put (.int .i64 n) (fd f) = armD (aput l n f) := by
  show DataW.map _ = DataW.map _
  rw [filter_aent]
  exact congrArg DataW.map (insert_aent (n, f) (adel l n))
theorem find_aent (l : Ar) (n : Int) : (l.map aent).find? (fun p => p.1.sameKey (.int .i64 n)) = (l.find? fun p => p.1 == n).map aent := by
  rw [List.find?_map]
  have : ((fun p : Lit × DataW Unit => p.1.sameKey (.int .i64 n)) ∘ aent) = fun p => p.1 == n := funext fun p => same_aent n p
  rw [this]
def zf : Ft := (0, 0, 0)
theorem armD_at (l : Ar) (n : Int) : (armD l).atKey (.int .i64 n) (fd zf) = fd ((aget l n).getD zf) := by
  unfold armD DataW.atKey aget
  simp only []
  rw [find_aent]
  cases l.find? fun p => p.1 == n with
  | none => rfl
  | some p => rfl
theorem armD_has (l : Ar) (n : Int) : Maps.has (armD l) (.int .i64 n) = (aget l n).isSome := by
  unfold aget
  show (l.map aent).any (fun p => p.1.sameKey (.int .i64 n)) = _
  rw [List.any_map]
  induction l with
  | nil => rfl
  | cons y r ih =>
    simp only [List.any_cons, List.find?_cons]
    have e : ((fun p : Lit × DataW Unit => p.1.sameKey (.int .i64 n)) ∘ aent) y = (y.1 == n) := same_aent n y
    rw [e]
    cases hy : (y.1 == n)
    · simp only [Bool.false_or]; exact ih
    · rfl
theorem armD_size (l : Ar) : Maps.size (armD l) = l.length := by simp [Maps.size, armD]
def TA : TypeId := 94
def TI : TypeId := 2
theorem keyI : Keyed Tryz.prog TI := int_keyed Tryz.underlying2
theorem undA : Tryz.prog.underlying TA = some (.map TI 118) := Tryz.underlying94
theorem zeroFt (w : World) : (zeroValue 118).run Tryz.prog w = .ok (fv zf) w := by kernel_rfl
theorem keyNum {n : Int} (h0 : -9223372036854775808 ≤ n) (h1 : n ≤ 9223372036854775807) : keyOf Tryz.prog TI (.int .i64 n) = some (.int .i64 n) :=
  keyOf_int_mk Tryz.underlying2 (by have e1 : IntKind.i64.min = -9223372036854775808 := rfl; have e2 : IntKind.i64.max = 9223372036854775807 := rfl; simp [Lit.wf, e1, e2]; omega)
def Am (w : World) (b : Nat) (l : Ar) : Prop := w.ownsMap Tryz.prog TI faultR b l.length (armD l)
theorem Am.of {w : World} {b n : Nat} {l : Ar} (h : w.ownsMap Tryz.prog TI faultR b n (armD l)) : Am w b l := by
  obtain ⟨es, clock, hb, F, _, hD⟩ := h
  refine ⟨es, clock, hb, F, ?_, hD⟩
  have e1 : Maps.size (armD l) = l.length := armD_size l
  rw [hD] at e1
  have e2 := length_read (P := Tryz.prog) (k := TI) (R0 := faultR) es
  simp only [Maps.size] at e1
  omega
theorem Am.lt {w : World} {b : Nat} {l : Ar} (h : Am w b l) : b < w.heap.size := World.ownsMap.lt h
theorem Am.heap {w w' : World} {b : Nat} {l : Ar} (h : Am w b l) (e : w'.heap[b]? = w.heap[b]?) : Am w' b l := by
  obtain ⟨es, clock, hb, r⟩ := h
  exact ⟨es, clock, e.trans hb, r⟩
theorem Am.look {w : World} {b : Nat} {l : Ar} {n : Int} (h : Am w b l) (h0 : -9223372036854775808 ≤ n) (h1 : n ≤ 9223372036854775807) : (Instr.lookup TA (.map (some b)) (.int .i64 n) false).run Tryz.prog w = .ok (fv ((aget l n).getD zf)) w := by
  obtain ⟨v, ps, hrun, hv⟩ := World.ownsMap.lookup h keyI undA (zeroFt w) (faultR_fv zf) (keyNum h0 h1)
  rw [armD_at] at hv
  rw [hrun, faultR_inv hv]
theorem Am.look_ok {w : World} {b : Nat} {l : Ar} {n : Int} (h : Am w b l) (h0 : -9223372036854775808 ≤ n) (h1 : n ≤ 9223372036854775807) : (Instr.lookup TA (.map (some b)) (.int .i64 n) true).run Tryz.prog w = .ok (.tuple #[fv ((aget l n).getD zf), .bool (aget l n).isSome]) w := by
  obtain ⟨v, ps, hrun, hv⟩ := World.ownsMap.look_ok h keyI undA (zeroFt w) (faultR_fv zf) (keyNum h0 h1)
  rw [armD_at] at hv
  rw [hrun, faultR_inv hv, armD_has]
theorem look_nilA (w : World) {n : Int} (h0 : -9223372036854775808 ≤ n) (h1 : n ≤ 9223372036854775807) : (Instr.lookup TA (.map none) (.int .i64 n) false).run Tryz.prog w = .ok (fv zf) w :=
  Maps.look_nil false keyI undA (zeroFt w) (keyNum h0 h1)
theorem drop_nilA (w : World) {n : Int} (h0 : -9223372036854775808 ≤ n) (h1 : n ≤ 9223372036854775807) (ty : TypeId) : (Builtin.delete_ #[TA, TI] ty #[.map none, .int .i64 n]).run Tryz.prog w = .ok (.tuple #[]) w :=
  Maps.drop_nil keyI undA (keyNum h0 h1) ty
theorem Am.store {w : World} {b : Nat} {l : Ar} {n : Int} {f : Ft} (h : Am w b l) (h0 : -9223372036854775808 ≤ n) (h1 : n ≤ 9223372036854775807) (hl : l.length < maxLen) :
    ∃ w', (Instr.mapUpdate TA (.map (some b)) (.int .i64 n) (fv f)).run Tryz.prog w = .ok () w' ∧ Am w' b (aput l n f) ∧ w.mapTurned w' b := by
  obtain ⟨w', hrun, ho, ht⟩ := World.ownsMap.store h keyI undA hl (keyNum h0 h1) (faultR_fv f)
  rw [armD_put] at ho
  exact ⟨w', hrun, Am.of ho, ht⟩
theorem Am.drop {w : World} {b : Nat} {l : Ar} {n : Int} (h : Am w b l) (h0 : -9223372036854775808 ≤ n) (h1 : n ≤ 9223372036854775807) (ty : TypeId) :
    ∃ w', (Builtin.delete_ #[TA, TI] ty #[.map (some b), .int .i64 n]).run Tryz.prog w = .ok (.tuple #[]) w' ∧ Am w' b (adel l n) ∧ w.mapTurned w' b := by
  obtain ⟨w', hrun, ho, ht⟩ := World.ownsMap.drop h keyI undA (keyNum h0 h1) ty
  rw [armD_del] at ho
  exact ⟨w', hrun, Am.of ho, ht⟩
theorem turned_but {w w' : World} {b : Nat} (h : w.mapTurned w' b) : But (fun k => k = b) w w' := But.of_grownBy h.grown fun k e => by cases e; rfl
end Go.Proofs.YtjehpijjneghpaaGreat.Dk
namespace Go.Proofs.YtjehpijjneghpaaGreat.Dk
open Go.RowKit Go.Maps Go.Proofs.YtjehpijjneghpaaGreat.Nm
structure Sb (w u : World) (b rb : Nat) (cs : Array Value) (am : Option Nat) (al : Ar) (f : Ft) : Prop where
  box : u.heap[b]? = some (.cells cs TD (0, 0))
  ans : u.heap[rb]? = some (.cells #[.int .i64 f.1, .int .i64 f.2.1, .int .i64 f.2.2] 118 (0, 0))
  arm : ∀ m, am = some m → Am u m al
  but : But (fun k => k = b ∨ am = some k) w u
  lo : w.heap.size ≤ rb
theorem Sb.ne {w u : World} {b rb : Nat} {cs : Array Value} {am : Option Nat} {al : Ar} {f : Ft} (h : Sb w u b rb cs am al f) : b ≠ rb := by
  intro e
  have h1 := h.box
  rw [e, h.ans] at h1
  simp [TD] at h1
theorem Am.setCell {u : World} {m : Nat} {al : Ar} (h : Am u m al) {b j : Nat} {v : Value} (hb : b ≠ m) : Am (u.setCell ⟨b, j, none⟩ v) m al := h.heap ((grown_setCell u b j v).block m h.lt (by simpa using fun e => hb e.symm))
theorem Am.ne {u : World} {m b : Nat} {al : Ar} {cs : Array Value} {T : TypeId} {z : Nat × Nat} (h : Am u m al) (hb : u.heap[b]? = some (.cells cs T z)) : b ≠ m := by
  rintro rfl
  obtain ⟨es, clock, h, _⟩ := h
  rw [hb] at h
  cases h
theorem Sb.set {w u : World} {b rb : Nat} {cs : Array Value} {am : Option Nat} {al : Ar} {f : Ft} (h : Sb w u b rb cs am al f) (j : Nat) (v : Value) : Sb w (u.setCell ⟨b, j, none⟩ v) b rb (cs.setIfInBounds j v) am al f := by
  have g := grown_setCell u b j v
  refine ⟨heap_setCell_same _ _ _ _ _ _ h.box, ?_, fun m e => ((h.arm m e)).setCell ((h.arm m e).ne h.box), h.but.trans (But.of_grownBy g fun k e => by cases e; exact .inl rfl), h.lo⟩
  rw [g.block rb (heap_lt h.ans) (by simpa using fun e => h.ne e.symm)]
  exact h.ans
theorem Sb.start {w : World} {b : Nat} {cs : Array Value} {am : Option Nat} {al : Ar} (hb : w.heap[b]? = some (.cells cs TD (0, 0))) (hm : ∀ m, am = some m → Am w m al) :
    Sb w (w.alloc (.cells #[.int .i64 0, .int .i64 0, .int .i64 0] 118)) b w.heap.size cs am al zf := by
  have hB := (Below.refl _ w).alloc (Nat.le_refl _) (.cells #[.int .i64 0, .int .i64 0, .int .i64 0] 118)
  exact ⟨(hB.block b (heap_lt hb)).trans hb, heap_alloc_new _ _, fun m e => (hm m e).heap (hB.block m (hm m e).lt), But.of_below hB _, Nat.le_refl _⟩
theorem Sb.more {w u u' : World} {b rb : Nat} {cs : Array Value} {am : Option Nat} {al : Ar} {f : Ft} (h : Sb w u b rb cs am al f) (hB : Below u.heap.size u u') : Sb w u' b rb cs am al f :=
  ⟨(hB.block b (heap_lt h.box)).trans h.box, (hB.block rb (heap_lt h.ans)).trans h.ans, fun m e => (h.arm m e).heap (hB.block m (h.arm m e).lt), h.but.trans (But.of_below hB _), h.lo⟩
theorem Sb.cell {w u : World} {b rb : Nat} {cs : Array Value} {am : Option Nat} {al : Ar} {f : Ft} (h : Sb w u b rb cs am al f) (i : Nat) : u.cell? ⟨b, i, none⟩ = cs[i]? := by simp [World.cell?, h.box]
theorem Sb.frozen {w u : World} {b rb : Nat} {cs : Array Value} {am : Option Nat} {al : Ar} {f : Ft} (h : Sb w u b rb cs am al f) (i : Nat) : u.frozen? ⟨b, i, none⟩ = false := by simp [World.frozen?, h.box]
theorem Sb.put {w u : World} {b rb : Nat} {cs : Array Value} {am : Option Nat} {al : Ar} {g : Ft} (h : Sb w u b rb cs am al g) (f : Ft) :
    Sb w (((u.setCell ⟨rb, 0, none⟩ (.int .i64 f.1)).setCell ⟨rb, 1, none⟩ (.int .i64 f.2.1)).setCell ⟨rb, 2, none⟩ (.int .i64 f.2.2)) b rb cs am al f := by
  have g0 := grown_setCell u rb 0 (.int .i64 f.1)
  have g1 := grown_setCell (u.setCell ⟨rb, 0, none⟩ (.int .i64 f.1)) rb 1 (.int .i64 f.2.1)
  have g2 := grown_setCell ((u.setCell ⟨rb, 0, none⟩ (.int .i64 f.1)).setCell ⟨rb, 1, none⟩ (.int .i64 f.2.1)) rb 2 (.int .i64 f.2.2)
  have B := ((But.of_grownBy (X := fun k => k = rb) g0 fun k e => by cases e; rfl).trans (But.of_grownBy g1 fun k e => by cases e; rfl)).trans (But.of_grownBy g2 fun k e => by cases e; rfl)
  have z0 := heap_setCell_same u rb 0 _ _ (.int .i64 f.1) h.ans
  have z1 := heap_setCell_same _ rb 1 _ _ (.int .i64 f.2.1) z0
  have z2 := heap_setCell_same _ rb 2 _ _ (.int .i64 f.2.2) z1
  refine ⟨B.at h.box h.ne, by simpa using z2, fun m e => (h.arm m e).heap (B.block m (h.arm m e).lt (fun q => (h.arm m e).ne h.ans q.symm)), ?_, h.lo⟩
  have lo := h.lo
  exact ⟨B.os.trans h.but.os, B.tape.trans h.but.tape, B.output.trans h.but.output, Nat.le_trans h.but.size B.size, fun k hk hx => (B.block k (Nat.lt_of_lt_of_le hk h.but.size) (by omega)).trans (h.but.block k hk hx)⟩
theorem cells3 {w : World} {b : Nat} {a0 a1 a2 : Value} {T : TypeId} {z : Nat × Nat} (h : w.heap[b]? = some (.cells #[a0, a1, a2] T z)) : w.cell? ⟨b, 0, none⟩ = some a0 ∧ w.cell? ⟨b, 1, none⟩ = some a1 ∧ w.cell? ⟨b, 2, none⟩ = some a2 := by simp [World.cell?, h]
theorem frozen3 {w : World} {b : Nat} {a0 a1 a2 : Value} {T : TypeId} (h : w.heap[b]? = some (.cells #[a0, a1, a2] T (0, 0))) : w.frozen? ⟨b, 0, none⟩ = false ∧ w.frozen? ⟨b, 1, none⟩ = false ∧ w.frozen? ⟨b, 2, none⟩ = false := by simp [World.frozen?, h]
set_option maxHeartbeats 1000000 in
theorem begin_gen (w : World) (b j : Nat) (cs : Array Value) (c a : Int) (am : Option Nat) (al : Ar) (hb : w.heap[b]? = some (.cells cs TD (0, 0))) (hz : cs.size = 15) (hj : j < 7)
    (h1 : cs[6 + j]? = some (.int .i64 c)) (h2 : cs[13]? = some (.int .i64 a)) (h3 : cs[5]? = some (.map am)) (hm : ∀ m, am = some m → Am w m al) (hn : am = none → al = [])
    (c0 : 0 ≤ c) (c1 : c < 4611686018427387904) (a0 : 0 ≤ a) (a1 : a < 4611686018427387904) :
    Calls Tryz.prog 70 #[.pointer (some ⟨b, 0, none⟩), .pointer (some ⟨b, 6 + j, none⟩)] w fun e w' => e = .returned (fv ((aget al (a + 1)).getD zf)) ∧
      w'.heap[b]? = some (.cells ((cs.setIfInBounds (6 + j) (.int .i64 (c + 1))).setIfInBounds 13 (.int .i64 (a + 1))) TD (0, 0)) ∧ (∀ m, am = some m → Am w' m (adel al (a + 1))) ∧ But (fun k => k = b ∨ am = some k) w w' := by
  obtain ⟨f, hf⟩ : ∃ f, Hid ((aget al (a + 1)).getD zf = f) := ⟨_, rfl⟩
  rw [hf.out]
  have S0 := hide (Sb.start (am := am) hb hm)
  obtain ⟨u0, hu0⟩ : ∃ u0, Hid (w.alloc (.cells #[.int .i64 0, .int .i64 0, .int .i64 0] 118) = u0) := ⟨_, rfl⟩
  rw [hu0.out] at S0
  have k1 : u0.cell? ⟨b, 6 + j, none⟩ = some (.int .i64 c) := (S0.out.cell _).trans h1
  have k2 := S0.out.frozen (6 + j)
  replace hm := hide hm
  replace hb := hide hb
  replace hn := hide hn
  clear h1
  go_enter Tryz.func70, Tryz.ntmps70
  go_upto_region 1 with fail
  rw [hu0.out]
  go_upto_region 2 with fail
  have S1 := hide (S0.out.set (6 + j) (.int .i64 (c + 1)))
  generalize u0.setCell ⟨b, 6 + j, none⟩ (.int .i64 (c + 1)) = u1 at *
  obtain ⟨cs1, hc1⟩ : ∃ cs1, Hid (cs.setIfInBounds (6 + j) (.int .i64 (c + 1)) = cs1) := ⟨_, rfl⟩
  rw [hc1.out] at S1
  have g2 : cs1[13]? = some (.int .i64 a) := by rw [← hc1.out, Array.getElem?_setIfInBounds_ne (by omega)]; exact h2
  have g3 : cs1[5]? = some (.map am) := by rw [← hc1.out, Array.getElem?_setIfInBounds_ne (by omega)]; exact h3
  have g4 : cs1.size = 15 := by rw [← hc1.out]; simpa using hz
  have l1 : u1.cell? ⟨b, 13, none⟩ = some (.int .i64 a) := (S1.out.cell _).trans g2
  have l2 := S1.out.frozen 13
  clear k1 k2 S0 hu0 h2 h3 hz
  go_upto_region 3 with fail
  have S2 := hide (S1.out.set 13 (.int .i64 (a + 1)))
  generalize u1.setCell ⟨b, 13, none⟩ (.int .i64 (a + 1)) = u2 at *
  obtain ⟨cs2, hc2⟩ : ∃ cs2, Hid (cs1.setIfInBounds 13 (.int .i64 (a + 1)) = cs2) := ⟨_, rfl⟩
  rw [hc2.out] at S2
  have g5 : cs2[13]? = some (.int .i64 (a + 1)) := by rw [← hc2.out, Array.getElem?_setIfInBounds_self_of_lt (by omega)]
  have g6 : cs2[5]? = some (.map am) := by rw [← hc2.out, Array.getElem?_setIfInBounds_ne (by omega)]; exact g3
  have m1 : u2.cell? ⟨b, 13, none⟩ = some (.int .i64 (a + 1)) := (S2.out.cell _).trans g5
  have m2 : u2.cell? ⟨b, 5, none⟩ = some (.map am) := (S2.out.cell _).trans g6
  clear l1 l2 S1 g2 g3 g4
  have hG : ∀ q : World, (∀ m, am = some m → Am q m al) → (Instr.lookup 94 (.map am) (.int .i64 (a + 1)) false).run Tryz.prog q = .ok (.agg #[.int .i64 f.1, .int .i64 f.2.1, .int .i64 f.2.2]) q := by
    intro q hq
    cases am with
    | none => have := look_nilA q (n := a + 1) (by omega) (by omega); have hq := hf.out; rw [hn.out rfl] at hq; simp [aget] at hq; rw [← hq]; exact this
    | some m => have := (hq m rfl).look (n := a + 1) (by omega) (by omega); rw [hf.out] at this; exact this
  have L1 := hG u2.drew fun m e => S2.out.arm m e
  have L2 := hG (u2.alloc (.cells #[.int .i64 0, .int .i64 0, .int .i64 0] 118)).drew fun m e => (S2.out.arm m e).heap (by show (u2.alloc _).heap[m]? = _; exact Below.heap_alloc _ _ _ (S2.out.arm m e).lt)
  have n1 : (u2.alloc (.cells #[.int .i64 0, .int .i64 0, .int .i64 0] 118)).cell? ⟨b, 13, none⟩ = some (.int .i64 (a + 1)) := by rw [((Below.refl _ u2).alloc (Nat.le_refl _) _).cell (p := ⟨b, 13, none⟩) (lt_of_cell m1)]; exact m1
  have n2 : (u2.alloc (.cells #[.int .i64 0, .int .i64 0, .int .i64 0] 118)).cell? ⟨b, 5, none⟩ = some (.map am) := by rw [((Below.refl _ u2).alloc (Nat.le_refl _) _).cell (p := ⟨b, 5, none⟩) (lt_of_cell m2)]; exact m2
  replace hG := hide hG
  go_upto_region 3 with fail
  go_region
  all_goals
    have S3 : Hid (Sb w (u2.alloc (.cells #[.int .i64 f.1, .int .i64 f.2.1, .int .i64 f.2.2] 118)).drew b w.heap.size cs2 am al zf) := S2.out.more (((Below.refl _ u2).alloc (Nat.le_refl _) _).drew)
    have F3 : Hid ((u2.alloc (.cells #[.int .i64 f.1, .int .i64 f.2.1, .int .i64 f.2.2] 118)).drew.heap[u2.heap.size]? = some (.cells #[.int .i64 f.1, .int .i64 f.2.1, .int .i64 f.2.2] 118 (0, 0))) := heap_alloc_new u2 _
    have Z3 : Hid (w.heap.size < u2.heap.size) := heap_lt S2.out.ans
    generalize (u2.alloc (.cells #[.int .i64 f.1, .int .i64 f.2.1, .int .i64 f.2.2] 118)).drew = u3 at *
    have m3 : u3.cell? ⟨b, 13, none⟩ = some (.int .i64 (a + 1)) := (S3.out.cell _).trans g5
    have m4 : u3.cell? ⟨b, 5, none⟩ = some (.map am) := (S3.out.cell _).trans g6
    clear L1 L2 n1 n2 m1 m2 hG S2 g5 g6
    obtain ⟨u4, hD, S4, F4⟩ : ∃ u4, (Builtin.delete_ #[94, 2] 0 #[.map am, .int .i64 (a + 1)]).run Tryz.prog u3.drew = .ok (.tuple #[]) u4 ∧ Hid (Sb w u4 b w.heap.size cs2 am (adel al (a + 1)) zf) ∧ Hid (u4.heap[u2.heap.size]? = some (.cells #[.int .i64 f.1, .int .i64 f.2.1, .int .i64 f.2.2] 118 (0, 0))) := by
      cases am with
      | none => exact ⟨u3.drew, drop_nilA u3.drew (by omega) (by omega) 0, by have q := S3.out.more (Below.refl _ u3).drew; rw [hn.out rfl] at q ⊢; exact q, F3.out⟩
      | some m =>
        have hA : Am u3.drew m al := S3.out.arm m rfl
        obtain ⟨u4, hr, h4, ht⟩ := hA.drop (n := a + 1) (by omega) (by omega) 0
        refine ⟨u4, hr, ⟨?_, ?_, fun m' e => by cases e; exact h4, ?_, S3.out.lo⟩, ?_⟩
        · exact (turned_but ht).at (k := b) S3.out.box ((S3.out.arm m rfl).ne S3.out.box)
        · exact (turned_but ht).at (k := w.heap.size) S3.out.ans ((S3.out.arm m rfl).ne S3.out.ans)
        · exact (S3.out.more (Below.refl _ u3).drew).but.trans ((turned_but ht).mono fun k _ e => .inr (by rw [e]))
        · exact (turned_but ht).at (k := u2.heap.size) F3.out ((S3.out.arm m rfl).ne F3.out)
    go_upto_region 4 with fail
    go_region
    obtain ⟨x0, x1, x2⟩ := cells3 F4.out
    obtain ⟨y0, y1, y2⟩ := cells3 S4.out.ans
    obtain ⟨r0, r1, r2⟩ := frozen3 S4.out.ans
    go_wp2_with fail
    have S5 := hide (S4.out.put f)
    generalize ((u4.setCell ⟨w.heap.size, 0, none⟩ (.int .i64 f.1)).setCell ⟨w.heap.size, 1, none⟩ (.int .i64 f.2.1)).setCell ⟨w.heap.size, 2, none⟩ (.int .i64 f.2.2) = u5 at *
    clear x0 x1 x2 y0 y1 y2 r0 r1 r2 S4 F4
    obtain ⟨x0, x1, x2⟩ := cells3 S5.out.ans
    refine bodyPost_ret (v := fv f) (by simp [results, Tryz.results70, go_sem, x0, x1, x2]; try rfl) rfl ?_
    exact ⟨rfl, by rw [hc1.out, hc2.out]; exact S5.out.box, S5.out.arm, S5.out.but⟩
end Go.Proofs.YtjehpijjneghpaaGreat.Dk
namespace Go.Proofs.YtjehpijjneghpaaGreat.Dk
open Go.RowKit Go.Maps Go.Proofs.YtjehpijjneghpaaGreat.Nm
def strF (k : Int) : Int := if k = 1 then 20 else if k = 2 then 21 else if k = 3 then 22 else 0
def strC (k : Int) (cs : Array Value) : Array Value := if k = 3 then cs.setIfInBounds 1 (.bool false) else cs
theorem strike_any (w : World) (b : Nat) (cs : Array Value) (f : Ft) (hb : w.heap[b]? = some (.cells cs TD (0, 0))) (h1 : ∃ u, cs[1]? = some u) (hk : f.2.1 ≠ 4) :
    Calls Tryz.prog 69 #[.pointer (some ⟨b, 0, none⟩), fv f] w fun e w' => e = .returned (.int .i64 (strF f.2.1)) ∧ w'.heap[b]? = some (.cells (strC f.2.1 cs) TD (0, 0)) ∧ But (fun k => k = b) w w' := by
  obtain ⟨a, k, p⟩ := f
  obtain ⟨u, h1⟩ := h1
  dsimp only at hk ⊢
  have hB := hide ((Below.refl _ w).alloc (Nat.le_refl _) (.cells #[.int .i64 a, .int .i64 k, .int .i64 p] 118))
  have hN : Hid ((w.alloc (.cells #[.int .i64 a, .int .i64 k, .int .i64 p] 118)).heap[w.heap.size]? = some (.cells #[.int .i64 a, .int .i64 k, .int .i64 p] 118 (0, 0))) := heap_alloc_new _ _
  obtain ⟨w1, hw1⟩ : ∃ w1, Hid (w.alloc (.cells #[.int .i64 a, .int .i64 k, .int .i64 p] 118) = w1) := ⟨_, rfl⟩
  rw [hw1.out] at hB hN
  have hb1 : w1.heap[b]? = some (.cells cs TD (0, 0)) := (hB.out.block b (heap_lt hb)).trans hb
  obtain ⟨x0, x1, x2⟩ := cells3 hN.out
  have y1 : w1.cell? ⟨b, 1, none⟩ = some u := by simp [World.cell?, hb1, h1]
  have y2 : w1.frozen? ⟨b, 1, none⟩ = false := by simp [World.frozen?, hb1]
  have hG := hide (But.of_grownBy (X := fun k => k = b) (grown_setCell w1 b 1 (.bool false)) fun k e => by cases e; rfl)
  have hC := hide (heap_setCell_same w1 b 1 _ _ (.bool false) hb1)
  replace hb1 := hide hb1
  unfold fv
  dsimp only
  obtain ⟨E, hE⟩ : ∃ E, Hid (strF k = E) := ⟨_, rfl⟩
  obtain ⟨C, hC0⟩ : ∃ C, Hid (strC k cs = C) := ⟨_, rfl⟩
  rw [hE.out, hC0.out]
  clear hb h1
  by_cases k1 : k = 1
  · subst k1
    go_enter Tryz.func69, Tryz.ntmps69
    go_upto_region 1 with fail
    rw [hw1.out]
    go_wp2_with fail
    go_ret
    exact ⟨by rw [← hE.out]; rfl, by rw [← hC0.out]; exact hb1.out, But.of_below hB.out _⟩
  have k1' : (k == 1) = false := by simpa using k1
  by_cases k2 : k = 2
  · subst k2
    go_enter Tryz.func69, Tryz.ntmps69
    go_upto_region 1 with fail
    rw [hw1.out]
    go_wp2_with fail
    go_ret
    exact ⟨by rw [← hE.out]; rfl, by rw [← hC0.out]; exact hb1.out, But.of_below hB.out _⟩
  have k2' : (k == 2) = false := by simpa using k2
  by_cases k3 : k = 3
  · subst k3
    go_enter Tryz.func69, Tryz.ntmps69
    go_upto_region 1 with fail
    rw [hw1.out]
    go_wp2_with fail
    go_ret
    exact ⟨by rw [← hE.out]; rfl, by rw [← hC0.out]; exact hC.out, (But.of_below hB.out _).trans hG.out⟩
  have k3' : (k == 3) = false := by simpa using k3
  have k4' : (k == 4) = false := by simpa using hk
  have e1 : Hid (E = 0) := by show _ = _; rw [← hE.out]; simp [strF, k1, k2, k3]
  have e2 : Hid (C = cs) := by show _ = _; rw [← hC0.out]; simp [strC, k3]
  clear hE hC0
  go_enter Tryz.func69, Tryz.ntmps69
  go_upto_region 1 with fail
  rw [hw1.out]
  go_wp2_with fail
  go_ret
  exact ⟨by rw [e1.out]; rfl, by rw [e2.out]; exact hb1.out, But.of_below hB.out _⟩
def strR (k : Int) : Int := if k = 2 then 0 else strF k
theorem strikeRoomless_any (w : World) (b : Nat) (cs : Array Value) (f : Ft) (hb : w.heap[b]? = some (.cells cs TD (0, 0))) (h1 : ∃ u, cs[1]? = some u) (hk : f.2.1 ≠ 4) :
    Calls Tryz.prog 73 #[.pointer (some ⟨b, 0, none⟩), fv f] w fun e w' => e = .returned (.int .i64 (strR f.2.1)) ∧ w'.heap[b]? = some (.cells (strC f.2.1 cs) TD (0, 0)) ∧ But (fun k => k = b) w w' := by
  have hB := hide ((Below.refl _ w).alloc (Nat.le_refl _) (.cells #[.int .i64 f.1, .int .i64 f.2.1, .int .i64 f.2.2] 118))
  have hN : Hid ((w.alloc (.cells #[.int .i64 f.1, .int .i64 f.2.1, .int .i64 f.2.2] 118)).heap[w.heap.size]? = some (.cells #[.int .i64 f.1, .int .i64 f.2.1, .int .i64 f.2.2] 118 (0, 0))) := heap_alloc_new _ _
  obtain ⟨w1, hw1⟩ : ∃ w1, Hid (w.alloc (.cells #[.int .i64 f.1, .int .i64 f.2.1, .int .i64 f.2.2] 118) = w1) := ⟨_, rfl⟩
  rw [hw1.out] at hB hN
  have hb1 : w1.heap[b]? = some (.cells cs TD (0, 0)) := (hB.out.block b (heap_lt hb)).trans hb
  have hS := strike_any w1 b cs f hb1 h1 hk
  unfold fv at hS ⊢
  obtain ⟨a, k, p⟩ := f
  dsimp only at *
  obtain ⟨x0, x1, x2⟩ := cells3 hN.out
  replace hb1 := hide hb1
  by_cases k2 : k = 2
  · subst k2
    clear hS hb
    go_enter Tryz.func73, Tryz.ntmps73
    go_upto_region 1 with fail
    rw [hw1.out]
    go_wp2_with fail
    go_ret
    exact ⟨rfl, hb1.out, But.of_below hB.out _⟩
  have k2' : (k == 2) = false := by simpa using k2
  obtain ⟨E, hE⟩ : ∃ E, Hid (strF k = E) := ⟨_, rfl⟩
  have hR : Hid (strR k = E) := by show _ = _; rw [← hE.out]; simp [strR, k2]
  rw [hR.out]
  rw [hE.out] at hS
  clear hb
  go_enter Tryz.func73, Tryz.ntmps73
  go_upto_region 1 with fail
  rw [hw1.out]
  go_wp2_with (go_at_call 69; refine hS.mono ?_; rintro e w2 ⟨rfl, hc, hbt⟩; replace hc := hide hc; replace hbt := hide hbt)
  go_ret
  exact ⟨rfl, hc.out, (But.of_below hB.out _).trans hbt.out⟩
end Go.Proofs.YtjehpijjneghpaaGreat.Dk
namespace Go.Proofs.YtjehpijjneghpaaGreat.Dk
open Go.RowKit Go.Maps Go.Proofs.YtjehpijjneghpaaGreat.Nm
theorem eqlM (w : World) (r : Option Nat) : (binOp .eql 92 (.map r) (.map none)).run Tryz.prog w = .ok (.bool r.isNone) w := run_eql_map_nil w _ _ _ r Tryz.underlying92
theorem eqlA (w : World) (r : Option Nat) : (binOp .eql 94 (.map r) (.map none)).run Tryz.prog w = .ok (.bool r.isNone) w := run_eql_map_nil w _ _ _ r Tryz.underlying94
theorem run_clone {r : Nat} {es : Array MapEntry} {clock : Nat} (w : World) (t : TypeId) (hb : w.heap[r]? = some (.map es clock)) :
    (callFunc 115 #[.iface t (.map (some r))]).run Tryz.prog w = .ok (.value (.iface t (.map (some w.heap.size)))) (w.alloc (.map es clock)) := by
  have e : Extern.MapsClone.clone #[.iface t (.map (some r))] = (getObj r >>= fun o => match o with
      | .map entries clock => (newObj (.map entries clock) >>= fun n => pure (.iface t (.map (some n))))
      | _ => stuck "maps.clone: a map expected") := rfl
  rw [run_callFunc_extern Tryz.func115 (by kernel_rfl) (by kernel_rfl) (by kernel_rfl) (e := Extern.MapsClone.clone) (by kernel_rfl), e]
  simp [MapKept.run_getObj_map hb, Result.andThen, go_sem]
theorem run_assertM (w : World) (t xT k e : TypeId) (v : Value) (h : Tryz.prog.underlying t = some (.map k e)) : (Instr.typeAssert (.iface t v) xT t false).run Tryz.prog w = .ok v w := by
  simp [Instr.typeAssert, run_underlying h, go_sem, Result.andThen]
theorem clone_mp (w : World) (m : Nat) (l : Dr) (h : Mp w m l) : Calls Tryz.prog 106 #[.map (some m)] w fun e w' => e = .returned (.map (some w.heap.size)) ∧ Mp w' w.heap.size l ∧ Below w.heap.size w w' := by
  have qT := eqlM
  obtain ⟨es, clock, hb, F, hs, hD⟩ := h
  have hE := run_clone w 92 hb
  have hA := run_assertM (w.alloc (.map es clock)) 92 20 _ _ (.map (some w.heap.size)) Tryz.underlying92
  have hB := hide ((Below.refl _ w).alloc (Nat.le_refl _) (.map es clock))
  have hM : Hid (Mp (w.alloc (.map es clock)) w.heap.size l) := ⟨es, clock, heap_alloc_new _ _, F, hs, hD⟩
  clear hb F hs hD
  go_enter Tryz.func106, Tryz.ntmps106
  go_wp2_with fail
  go_ret
  exact ⟨rfl, hM.out, hB.out⟩
theorem clone_am (w : World) (m : Nat) (l : Ar) (h : Am w m l) : Calls Tryz.prog 93 #[.map (some m)] w fun e w' => e = .returned (.map (some w.heap.size)) ∧ Am w' w.heap.size l ∧ Below w.heap.size w w' := by
  have qT := eqlA
  obtain ⟨es, clock, hb, F, hs, hD⟩ := h
  have hE := run_clone w 94 hb
  have hA := run_assertM (w.alloc (.map es clock)) 94 20 _ _ (.map (some w.heap.size)) Tryz.underlying94
  have hB := hide ((Below.refl _ w).alloc (Nat.le_refl _) (.map es clock))
  have hM : Hid (Am (w.alloc (.map es clock)) w.heap.size l) := ⟨es, clock, heap_alloc_new _ _, F, hs, hD⟩
  clear hb F hs hD
  go_enter Tryz.func93, Tryz.ntmps93
  go_wp2_with fail
  go_ret
  exact ⟨rfl, hM.out, hB.out⟩
theorem clone_nilA (w : World) : Calls Tryz.prog 93 #[.map none] w fun e w' => e = .returned (.map none) ∧ w' = w := by
  have qT := eqlA
  go_enter Tryz.func93, Tryz.ntmps93
  go_wp2_with fail
  go_ret
  exact ⟨rfl, rfl⟩
end Go.Proofs.YtjehpijjneghpaaGreat.Dk
namespace Go.Proofs.YtjehpijjneghpaaGreat.Dk
open Go.RowKit Go.Maps Go.Proofs.YtjehpijjneghpaaGreat.Nm
theorem Mp.ne {u : World} {m b : Nat} {l : Dr} {cs : Array Value} {T : TypeId} {z : Nat × Nat} (h : Mp u m l) (hb : u.heap[b]? = some (.cells cs T z)) : b ≠ m := by
  rintro rfl
  obtain ⟨es, clock, h, _⟩ := h
  rw [hb] at h
  cases h
theorem Mp.but {X : Nat → Prop} {A B : World} {m : Nat} {l : Dr} (h : Mp A m l) (hb : But X A B) (hx : ¬ X m) : Mp B m l := h.heap (hb.block m h.lt hx)
theorem Am.but {X : Nat → Prop} {A B : World} {m : Nat} {l : Ar} (h : Am A m l) (hb : But X A B) (hx : ¬ X m) : Am B m l := h.heap (hb.block m h.lt hx)
def newC (most : Int) (f g : Nat) : Array Value := dcells ⟨most, true, some f, some g, .slice none 0 0, none, 0, 0, 0, 0, 0, 0, 0, 0, 0⟩
theorem new_any (w : World) (most : Int) (h0 : -9223372036854775808 ≤ most) (h1 : most ≤ 9223372036854775807) :
    Calls Tryz.prog 9 #[.int .i64 most] w fun e w' => Below w.heap.size w w' ∧ ((¬ (0 ≤ most ∧ most ≤ 16777216) ∧ e = .returned (.pointer none) ∧ w' = w) ∨
      (0 ≤ most ∧ most ≤ 16777216 ∧ e = .returned (.pointer (some ⟨w.heap.size + 2, 0, none⟩)) ∧ w'.heap[w.heap.size + 2]? = some (.cells (newC most w.heap.size (w.heap.size + 1)) TD (0, 0)) ∧ Mp w' w.heap.size [] ∧ Mp w' (w.heap.size + 1) [])) := by
  by_cases h2 : 0 ≤ most ∧ most ≤ 16777216
  · obtain ⟨g1, g2⟩ := h2
    have hmm := @run_makeMap Tryz.prog
    have n1 : ¬ most < 0 := by omega
    have n2 : ¬ 16777216 < most := by omega
    obtain ⟨u, hu⟩ : ∃ u, Hid (((w.alloc (.map #[] 0)).alloc (.map #[] 0)).alloc (.cells (newC most w.heap.size (w.heap.size + 1)) TD) = u) := ⟨_, rfl⟩
    have hB1 := (Below.refl _ w).alloc (Nat.le_refl _) (.map #[] 0)
    have hB2 := (Below.refl _ (w.alloc (.map #[] 0))).alloc (Nat.le_refl _) (.map #[] 0)
    have hB3 := (Below.refl _ ((w.alloc (.map #[] 0)).alloc (.map #[] 0))).alloc (Nat.le_refl _) (.cells (newC most w.heap.size (w.heap.size + 1)) TD)
    have m1 := Mp.made w
    have m2 := Mp.made (w.alloc (.map #[] 0))
    have n3 := heap_alloc_new ((w.alloc (.map #[] 0)).alloc (.map #[] 0)) (.cells (newC most w.heap.size (w.heap.size + 1)) TD)
    have e1 : (w.alloc (.map #[] 0)).heap.size = w.heap.size + 1 := by simp
    have e2 : ((w.alloc (.map #[] 0)).alloc (.map #[] 0)).heap.size = w.heap.size + 2 := by simp
    rw [e1] at m2
    rw [e2, hu.out] at n3
    have k1 : Mp u w.heap.size [] := by rw [← hu.out]; exact (m1.heap (hB2.block _ (by omega))).heap (hB3.block _ (by omega))
    have k2 : Mp u (w.heap.size + 1) [] := by rw [← hu.out]; exact m2.heap (hB3.block _ (by omega))
    have k3 : Below w.heap.size w u := by rw [← hu.out]; exact (hB1.trans (hB2.mono (by omega))).trans (hB3.mono (by omega))
    have K := hide (And.intro n3 (And.intro k1 (And.intro k2 k3)))
    clear n3 k1 k2 k3 m1 m2 hB1 hB2 hB3 e1 e2
    go_enter Tryz.func9, Tryz.ntmps9
    go_wp2_with fail
    go_ret
    obtain ⟨k0, k1, k2, k3⟩ := K.out
    rw [← hu.out] at k0 k1 k2 k3
    exact ⟨k3, rfl, k0, k1, k2⟩
  · go_enter Tryz.func9, Tryz.ntmps9
    by_cases g1 : most < 0
    · go_wp2_with fail
      go_ret
      exact ⟨Below.refl _ _, by first | exact .inl ⟨h2, rfl, rfl⟩ | exact .inl ⟨rfl, rfl⟩ | exact .inl rfl⟩
    · have g2 : 16777216 < most := by omega
      go_wp2_with fail
      go_ret
      exact ⟨Below.refl _ _, by first | exact .inl ⟨h2, rfl, rfl⟩ | exact .inl ⟨rfl, rfl⟩ | exact .inl rfl⟩
theorem settle_any (w : World) (b m : Nat) (cs : Array Value) (l : Dr) (hb : w.heap[b]? = some (.cells cs TD (0, 0))) (hz : cs.size = 15) (h2 : cs[2]? = some (.map (some m))) (hm : Mp w m l) :
    Calls Tryz.prog 74 #[.pointer (some ⟨b, 0, none⟩)] w fun e w' => e = .returned (.tuple #[]) ∧ ∃ m', w.heap.size ≤ m' ∧ Mp w' m' l ∧
      w'.heap[b]? = some (.cells ((cs.setIfInBounds 3 (.map (some m'))).setIfInBounds 4 (.slice none 0 0)) TD (0, 0)) ∧ But (fun k => k = b) w w' := by
  have c2 : w.cell? ⟨b, 2, none⟩ = some (.map (some m)) := by simp [World.cell?, hb, h2]
  have hC := clone_mp w m l hm
  replace hb := hide hb
  clear hm
  go_enter Tryz.func74, Tryz.ntmps74
  go_wp2_with (go_at_call 106; refine hC.mono ?_; rintro e w1 ⟨rfl, M1, B1⟩; replace M1 := hide M1; replace B1 := hide B1; have b1 : Hid (w1.heap[b]? = some (.cells cs TD (0, 0))) := (B1.out.block b (heap_lt hb.out)).trans hb.out; have d3 : w1.cell? ⟨b, 3, none⟩ = some (cs.getD 3 undef) := (by simp [World.cell?, b1.out, hz]); have f3 : w1.frozen? ⟨b, 3, none⟩ = false := (by simp [World.frozen?, b1.out]); have b2 := hide (heap_setCell_same w1 b 3 _ _ (.map (some w.heap.size)) b1.out); have d4 : (w1.setCell ⟨b, 3, none⟩ (.map (some w.heap.size))).cell? ⟨b, 4, none⟩ = some (cs.getD 4 undef) := (by simp [World.cell?, b2.out, hz]); have f4 : (w1.setCell ⟨b, 3, none⟩ (.map (some w.heap.size))).frozen? ⟨b, 4, none⟩ = false := (by simp [World.frozen?, b2.out]))
  have b3 := hide (heap_setCell_same _ b 4 _ _ (.slice none 0 0) b2.out)
  have g3 := But.of_grownBy (X := fun k => k = b) (grown_setCell w1 b 3 (.map (some w.heap.size))) fun k e => by cases e; rfl
  have g4 := But.of_grownBy (X := fun k => k = b) (grown_setCell (w1.setCell ⟨b, 3, none⟩ (.map (some w.heap.size))) b 4 (.slice none 0 0)) fun k e => by cases e; rfl
  go_end0
  exact ⟨rfl, w.heap.size, Nat.le_refl _, (M1.out.but (g3.trans g4) (fun e => M1.out.ne b1.out e.symm)), b3.out, (But.of_below B1.out _).trans (g3.trans g4)⟩
inductive Ch where
  | cr (n : ByteArray) (p : Nat)
  | rn (f t : ByteArray)
  | rm (n : ByteArray)
def Ch.val : Ch → Value
  | .cr n p => .agg #[.string n, .pointer (some ⟨p, 0, none⟩)]
  | .rn f t => .agg #[.string f, .string t]
  | .rm n => .agg #[.string n]
def Ch.ty : Ch → TypeId
  | .cr _ _ => 126
  | .rn _ _ => 158
  | .rm _ => 160
def Ch.ok : Ch → Prop
  | .cr n _ => n.size ≤ maxLen
  | .rn f t => f.size ≤ maxLen ∧ t.size ≤ maxLen
  | .rm n => n.size ≤ maxLen
def Ch.run (l : Dr) : Ch → Dr
  | .cr n p => dput l n.data.toList p
  | .rn f t => match get l f.data.toList with | some p => ddel (dput l t.data.toList p) f.data.toList | none => l
  | .rm n => ddel l n.data.toList
theorem doC_any (w : World) (m : Nat) (l : Dr) (n : ByteArray) (p : Nat) (hm : Mp w m l) (hn : n.size ≤ maxLen) (hl : l.length < maxLen) :
    Calls Tryz.prog 162 #[.agg #[.string n, .pointer (some ⟨p, 0, none⟩)], .map (some m)] w fun e w' => e = .returned (.tuple #[]) ∧ Mp w' m (dput l n.data.toList p) ∧ But (fun k => k = m) w w' := by
  have hB := hide ((Below.refl _ w).alloc (Nat.le_refl _) (.cells #[.string n, .pointer (some ⟨p, 0, none⟩)] 126))
  have m1 : Mp (w.alloc (.cells #[.string n, .pointer (some ⟨p, 0, none⟩)] 126)) m l := hm.heap (hB.out.block m hm.lt)
  obtain ⟨w2, hU, m2, ht⟩ := m1.store (s := n) (p := p) hn hl
  unfold TM at hU
  have k2 := hide (turned_but ht)
  replace m2 := hide m2
  clear m1 ht hm
  go_enter Tryz.func162, Tryz.ntmps162
  go_wp2_with fail
  go_end0
  exact ⟨rfl, m2.out, (But.of_below hB.out _).trans k2.out⟩
theorem doX_any (w : World) (m : Nat) (l : Dr) (n : ByteArray) (hm : Mp w m l) (hn : n.size ≤ maxLen) :
    Calls Tryz.prog 166 #[.agg #[.string n], .map (some m)] w fun e w' => e = .returned (.tuple #[]) ∧ Mp w' m (ddel l n.data.toList) ∧ But (fun k => k = m) w w' := by
  have hB := hide ((Below.refl _ w).alloc (Nat.le_refl _) (.cells #[.string n] 160))
  have m1 : Mp (w.alloc (.cells #[.string n] 160)) m l := hm.heap (hB.out.block m hm.lt)
  obtain ⟨w2, hU, m2, ht⟩ := m1.drop (s := n) hn 0
  unfold TM TS at hU
  have k2 := hide (turned_but ht)
  replace m2 := hide m2
  clear m1 ht hm
  go_enter Tryz.func166, Tryz.ntmps166
  go_wp2_with fail
  go_end0
  exact ⟨rfl, m2.out, (But.of_below hB.out _).trans k2.out⟩
end Go.Proofs.YtjehpijjneghpaaGreat.Dk
