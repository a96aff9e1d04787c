/-
  Plain facts for the walks over package wire: lists of bytes, where a slice's bytes lie in memory. No program is named here.
-/
import Derived.WalkKit
import Derived.WalkSpells
import Derived.WalkLawsBesides
import Derived.Deep.QuietTactic
import Derived.BigQuiet
import Derived.Laws.AppendOwnNone
import Derived.Test.YtjehpijjneghpaaGreatProg
import Derived.Lib.SlBytesConst
import Derived.Test.YtjehpijjneghpaaGreatRows
import Derived.ProofKit
import Derived.OpenShut
import Derived.SizedLaws
import Derived.Deep.Slices
import Derived.Maps.OwnSet
import Derived.Maps.OwnOps
import Derived.Maps.Views
import Derived.Maps.RangeWalk
import Derived.RangeFuncNested
import Derived.RangeFuncLeaves
import Derived.Below
namespace Go.Proofs.YtjehpijjneghpaaGreat
open Go.RowKit
def Rd (w : World) (ao : Option Addr) (l : List UInt8) : Prop :=
  ∀ i (h : i < l.length), ∃ b off, ao = some ⟨b, off, none⟩ ∧ w.cell? ⟨b, off + i, none⟩ = some (.int .u8 (l[i].toNat : Int))
theorem Rd.at {w : World} {ao : Option Addr} {l : List UInt8} (h : Rd w ao l) (hl : 0 < l.length) :
    ∃ b off, ao = some ⟨b, off, none⟩ ∧ ∀ i (h : i < l.length), w.cell? ⟨b, off + i, none⟩ = some (.int .u8 (l[i].toNat : Int)) := by
  obtain ⟨b, off, e, _⟩ := h 0 hl
  refine ⟨b, off, e, fun i hi => ?_⟩
  obtain ⟨b', off', e', hc⟩ := h i hi
  rw [e] at e'
  simp only [Option.some.injEq, Addr.mk.injEq] at e'
  obtain ⟨rfl, rfl, _⟩ := e'
  exact hc
def Qt (w w' : World) : Prop := ∃ k, w' = w.drewN k
theorem Qt.refl (w : World) : Qt w w := ⟨0, rfl⟩
theorem Qt.drewN {w u : World} (h : Qt w u) (n : Nat) : Qt w (u.drewN n) := by
  obtain ⟨k, rfl⟩ := h; exact ⟨k + n, by simp⟩
theorem Qt.trans {w u v : World} (h : Qt w u) (g : Qt u v) : Qt w v := by
  obtain ⟨n, rfl⟩ := g; exact h.drewN n
theorem Qt.cell {w u : World} (h : Qt w u) (a : Addr) : u.cell? a = w.cell? a := by obtain ⟨k, rfl⟩ := h; rfl
theorem Qt.below {w u : World} (h : Qt w u) (B : Nat) : Below B w u := by
  obtain ⟨k, rfl⟩ := h; exact below_drewN (Below.refl _ _) k
theorem Qt.size {w u : World} (h : Qt w u) : u.heap.size = w.heap.size := by obtain ⟨k, rfl⟩ := h; rfl
theorem ret_bool {a b : Bool} (h : a = b) : Ending.returned (.bool a) = .returned (.bool b) := by rw [h]
theorem take_eq_all {l m : List UInt8} (hlen : l.length = m.length) (k : Nat) (hk : l.length ≤ k) (h : l.take k = m.take k) : l = m := by
  rwa [List.take_of_length_le hk, List.take_of_length_le (by omega)] at h
theorem take_snoc (l : List UInt8) (k : Nat) (h : k < l.length) : l.take (k + 1) = l.take k ++ [l[k]] := by
  rw [List.take_succ_eq_append_getElem h]
theorem ne_at {l m : List UInt8} (k : Nat) (h1 : k < l.length) (h2 : k < m.length) (h : l[k] ≠ m[k]) : l ≠ m := by
  rintro rfl; exact h rfl
theorem u8_ne {a b : UInt8} (h : ((a.toNat : Int) != (b.toNat : Int)) = true) : a ≠ b := by
  rintro rfl; simp at h
theorem u8_eq {a b : UInt8} (h : ((a.toNat : Int) != (b.toNat : Int)) = false) : a = b := by
  simp at h; exact UInt8.toNat_inj.1 (by omega)
end Go.Proofs.YtjehpijjneghpaaGreat
namespace Go.Proofs.YtjehpijjneghpaaGreat
def encF : Nat → Nat → List UInt8
  | 0, _ => []
  | f + 1, n => if n < 128 then [UInt8.ofNat n] else UInt8.ofNat (n % 128 + 128) :: encF f (n / 128)
def enc (n : Nat) : List UInt8 := encF 10 n
def bval (c : UInt8) : Value := .int .u8 (c.toNat : Int)
def bvals (l : List UInt8) : List Value := l.map bval
theorem bvals_append (l m : List UInt8) : bvals (l ++ m) = bvals l ++ bvals m := by simp [bvals]
theorem bvals_length (l : List UInt8) : (bvals l).length = l.length := by simp [bvals]
end Go.Proofs.YtjehpijjneghpaaGreat
namespace Go.Proofs.YtjehpijjneghpaaGreat
open Go.RowKit
def Sl (w : World) (v : Value) (l : List UInt8) : Prop :=
  ∃ ao cap, v = .slice ao l.length cap ∧ (ao = none → l = [] ∧ cap = 0) ∧ l.length ≤ cap ∧ cap ≤ maxLen ∧ Rd w ao l
theorem lt_of_cell {w : World} {a : Addr} {v : Value} (h : w.cell? a = some v) : a.block < w.heap.size := by
  unfold World.cell? at h
  by_cases hb : a.block < w.heap.size
  · exact hb
  · rw [Array.getElem?_eq_none (by omega)] at h; simp at h
theorem Below.rd {w w' : World} (h : Below w.heap.size w w') {ao : Option Addr} {l : List UInt8} (g : Rd w ao l) : Rd w' ao l := by
  intro i hi
  obtain ⟨b, off, e, hc⟩ := g i hi
  exact ⟨b, off, e, by rw [h.cell (p := ⟨b, off + i, none⟩) (lt_of_cell hc)]; exact hc⟩
theorem Below.sl {w w' : World} (h : Below w.heap.size w w') {v : Value} {l : List UInt8} (g : Sl w v l) : Sl w' v l := by
  obtain ⟨ao, cap, h1, h2, h3, h4, h5⟩ := g
  exact ⟨ao, cap, h1, h2, h3, h4, Below.rd h h5⟩
theorem Qt.sl {w w' : World} (h : Qt w w') {v : Value} {l : List UInt8} (g : Sl w v l) : Sl w' v l := Below.sl (h.below _) g
theorem ownsRow_below {w w' : World} {base e n : Nat} {v : Value} {xs : List Value} (h : w.ownsRow base e 1 v n xs) (hb : Below w.heap.size w w') : w'.ownsRow base e 1 v n xs := by
  obtain ⟨h1, h2⟩ := h
  refine ⟨h1, ?_⟩
  rcases h2 with h2 | ⟨g, cap, cur, hv, hg, hh, r⟩
  · exact Or.inl h2
  · have hlt : g < w.heap.size := by
      by_cases hb : g < w.heap.size
      · exact hb
      · rw [Array.getElem?_eq_none (by omega)] at hh; simp at hh
    exact Or.inr ⟨g, cap, cur, hv, hg, by rw [hb.block g hlt]; exact hh, r⟩
theorem bvals_get {l : List UInt8} {i : Nat} (h : i < l.length) : (bvals l)[i]? = some (.int .u8 (l[i].toNat : Int)) := by
  simp [bvals, bval, h]
theorem Sl.of_owns {w : World} {base e : Nat} {v : Value} {l : List UInt8} (h : w.ownsRow base e 1 v l.length (bvals l)) : Sl w v l := by
  have h0 := h
  obtain ⟨h1, h2⟩ := h
  rcases h2 with ⟨rfl, hn⟩ | ⟨g, cap, cur, rfl, hg, hh, hn, hm, hs, ht⟩
  · obtain rfl := List.length_eq_zero_iff.1 hn
    exact ⟨none, 0, rfl, fun _ => ⟨rfl, rfl⟩, Nat.le_refl _, Nat.zero_le _, fun i hi => by simp at hi⟩
  · refine ⟨some ⟨g, 0, none⟩, cap, rfl, fun e => by simp at e, hn, hm, fun i hi => ⟨g, 0, rfl, ?_⟩⟩
    rw [Nat.zero_add, h0.cellAt i (by omega), bvals_get hi]
theorem Sl.nil (w : World) : Sl w (.slice none 0 0) [] := ⟨none, 0, rfl, fun _ => ⟨rfl, rfl⟩, Nat.le_refl _, Nat.zero_le _, fun i hi => by simp at hi⟩
theorem wpList_append_bytes {P : Program} {w : World} {ops : Array Oper} {rest : List Oper} {o : Oper} {a : Act} {Q : Exit → Act → World → Prop} (hgd : o.guard = none) (s x : Operand) (t : TypeId)
    (ho : o.op = .call { callee := .builtin .append, args := #[s, x], argTypes := #[t, t] })
    (base : Nat) (e : TypeId) (hinf : (P.info? e).map (fun i => (i.zero, i.size, i.bytes)) = some (some (.int .u8 0), 1, 1)) (ht : P.underlying t = some (.slice e))
    (v vx : Value) (l m : List UInt8) (hs : a.eval s = v) (hown : w.ownsRow base e 1 v l.length (bvals l)) (hx : a.eval x = vx) (hsl : Sl w vx m)
    (hbytes : l.length + m.length ≤ 140737488355328) (hbase : base ≤ w.heap.size)
    (h : ∀ v' w', w'.ownsRow base e 1 v' (l ++ m).length (bvals (l ++ m)) → Below base w w' → wpList P ops Q rest (a.put o.dst v') w') : wpList P ops Q (o :: rest) a w := by
  obtain ⟨i0, hi, hz0, hz1, hz2⟩ := info_parts hinf
  obtain ⟨ao, cap, rfl, h2, h3, h4, h5⟩ := hsl
  cases ao with
  | none =>
    obtain ⟨rfl, rfl⟩ := h2 rfl
    refine wpList_append_own_none hgd s x t ho base e i0 1 ht hi v l.length (bvals l) hs hown hx ?_
    exact h v w (by simpa using hown) (Below.refl _ _)
  | some ad =>
    have hcells : ∀ j u, (bvals m)[j]? = some u → w.cell? (ad.add j) = some u := by
      intro j u hu
      have hj : j < m.length := by
        have := (List.getElem?_eq_some_iff.1 hu).1
        simpa [bvals] using this
      obtain ⟨b, off, e1, hc⟩ := h5 j hj
      simp only [Option.some.injEq] at e1
      subst e1
      rw [bvals_get hj] at hu
      simp only [Option.some.injEq] at hu
      subst hu
      have ea : (⟨b, off, none⟩ : Addr).add j = ⟨b, off + j, none⟩ := by
        unfold Addr.add; split <;> simp_all
      rw [ea]; exact hc
    refine wpList_append_own w hgd s x t ho base e i0 (.int .u8 0) 1 1 ht hi hz0 hz1 hz2 rfl (by decide) v l.length (bvals l) hs hown ad m.length cap (bvals m) hx (by simp [bvals]) hcells ?_ (by unfold maxLen; omega) (by omega) hbase ?_
    · intro u hu
      simp only [bvals, List.mem_map] at hu
      obtain ⟨c, _, rfl⟩ := hu
      rfl
    · intro v' w' ho' hg _
      refine h v' w' ?_ ((Below.refl _ _).grown hg hbase fun k hk => (hown.lt k hk).1)
      rw [List.length_append, bvals_append]
      exact ho'
end Go.Proofs.YtjehpijjneghpaaGreat
namespace Go.Proofs.YtjehpijjneghpaaGreat
open Go.RowKit
theorem Tryz.infoU8 : (Tryz.prog.info? 5).map (fun i => (i.zero, i.size, i.bytes)) = some (some (.int .u8 0), 1, 1) := by kernel_rfl
theorem addr_add (b off k : Nat) : (⟨b, off, none⟩ : Addr).add k = ⟨b, off + k, none⟩ := by
  unfold Addr.add; split <;> simp_all
theorem Sl.of_owns2 {w : World} {base e n : Nat} {v : Value} {l : List UInt8} (h : w.ownsRow base e 1 v n (bvals l)) (hn : l.length = n) : Sl w v l := by
  subst hn; exact Sl.of_owns h
theorem grown_trans {a b c : World} {row : Option Nat} (h : a.grownBy b row) (g : b.grownBy c row) : a.grownBy c row :=
  ⟨g.os.trans h.os, g.tape.trans h.tape, g.output.trans h.output, Nat.le_trans h.size g.size, fun k hk hr => (g.block k (Nat.lt_of_lt_of_le hk h.size) hr).trans (h.block k hk hr)⟩
theorem Qt.grown {w w' : World} (h : Qt w w') (row : Option Nat) : w.grownBy w' row := by
  obtain ⟨k, rfl⟩ := h; exact ⟨rfl, rfl, rfl, Nat.le_refl _, fun _ _ _ => rfl⟩
theorem Below.grownAny {w w' : World} (h : Below w.heap.size w w') (row : Option Nat) : w.grownBy w' row :=
  ⟨h.os, h.tape, h.output, h.size, fun k hk _ => h.block k hk⟩
theorem grown_setCell (w : World) (rb o : Nat) (u : Value) : w.grownBy (w.setCell ⟨rb, o, none⟩ u) (some rb) :=
  ⟨rfl, rfl, rfl, by simp, fun k _ hk => heap_setCell_other w ⟨rb, o, none⟩ k u (fun e => hk (by simp [e]))⟩
theorem heap_lt {w : World} {k : Nat} {o : Obj} (h : w.heap[k]? = some o) : k < w.heap.size := by
  by_cases hb : k < w.heap.size
  · exact hb
  · rw [Array.getElem?_eq_none (by omega)] at h; simp at h
theorem box_below (w : World) (o : Obj) : Below w.heap.size w (w.alloc o) := (Below.refl _ _).alloc (Nat.le_refl _) _
theorem sl_lit (w : World) (m : List UInt8) (t : TypeId) (hm : m.length ≤ maxLen) (cs : Array Value) (hcs : cs = (bvals m).toArray) : Sl (w.alloc (.cells cs t)) (.slice (some ⟨w.heap.size, 0, none⟩) m.length m.length) m := by
  subst hcs
  refine ⟨_, _, rfl, fun e => by simp at e, Nat.le_refl _, hm, fun i hi => ⟨_, _, rfl, ?_⟩⟩
  have : (w.alloc (.cells (bvals m).toArray t)).heap[w.heap.size]? = some (.cells (bvals m).toArray t (0, 0)) := heap_alloc_new _ _
  simp only [World.cell?, this, Nat.zero_add]
  simpa using bvals_get hi
theorem sl_lit_mark (w : World) (m : List UInt8) (t : TypeId) (fr : Nat × Nat) (hm : m.length ≤ maxLen) (cs : Array Value) (hcs : cs = (bvals m).toArray) : Sl (w.alloc (.cells cs t fr)) (.slice (some ⟨w.heap.size, 0, none⟩) m.length m.length) m := by
  subst hcs
  refine ⟨_, _, rfl, fun e => by simp at e, Nat.le_refl _, hm, fun i hi => ⟨_, _, rfl, ?_⟩⟩
  rw [World.cell?_alloc_mark, Nat.zero_add]
  simpa using bvals_get hi
end Go.Proofs.YtjehpijjneghpaaGreat
namespace Go.Proofs.YtjehpijjneghpaaGreat
open Go.ChangeShapes Go.WideShapes Go.ChangeAt Go.RowKit
theorem bytesU8 : Tryz.prog.bytesOf 5 = 1 := by kernel_rfl
theorem cellsU8 : Tryz.prog.cellsOf 5 = 1 := by kernel_rfl
theorem toByte {n : Int} (h : (Lit.int .u8 n).wf = true) : ((UInt8.ofNat n.toNat).toNat : Int) = n := by
  have hx : 0 ≤ n ∧ n ≤ 255 := by simpa [Lit.wf, IntKind.min, IntKind.max, IntKind.signed, IntKind.bits] using h
  rw [UInt8.toNat_ofNat_of_lt' (show n.toNat < 256 by omega)]; omega
theorem open_bytes {H : Type} {enc : TypeId × Value → H} {w : World} {base : Nat} {spare : Nat → Bool} {held : Bool} {fuel : Nat} {v : Value} {x : DataW H × List MemPlace}
    (h : DataW.trod enc Tryz.prog w base spare held fuel 30 [v] = some x) :
    ∃ l, Sl w v l ∧ ((x.1 = .nil ∧ l = []) ∨ ∃ elems sp, x.1 = .slice elems sp ∧ elems.length = l.length) := by
  rcases open_ints Tryz.underlying30 Tryz.underlying5 cellsU8 h with ⟨hcs, hx⟩ | ⟨a, len, cap, zs, hcs, _, hl, hm, hz, hx, hcell, hwz⟩
  · simp at hcs
    subst hcs hx
    exact ⟨[], Sl.nil _, .inl ⟨rfl, rfl⟩⟩
  · simp at hcs
    subst hcs hx
    have hzl : len ≤ zs.length := by split at hz <;> omega
    have hlen : ((zs.take len).map fun n => UInt8.ofNat n.toNat).length = len := by simp; omega
    refine ⟨(zs.take len).map fun n => UInt8.ofNat n.toNat, ⟨some a, cap, by rw [hlen], fun e => by simp at e, by omega, hm, ?_⟩, .inr ⟨_, _, rfl, by simp [lits]⟩⟩
    intro i hi
    rw [hlen] at hi
    obtain ⟨b, off, rfl, hc⟩ := ints_at hcell (by omega)
    refine ⟨b, off, rfl, ?_⟩
    have hi2 : i < zs.length := by omega
    rw [hc i hi2]
    simp only [List.getElem_map, List.getElem_take]
    rw [toByte (hwz _ (List.getElem_mem _))]
    simp [List.getD, hi2]
theorem i64_bounds {n : Int} (h : (Lit.int .i64 n).wf = true) : -9223372036854775808 ≤ n ∧ n ≤ 9223372036854775807 := by
  simpa [Lit.wf, IntKind.min, IntKind.max, IntKind.signed, IntKind.bits] using h
end Go.Proofs.YtjehpijjneghpaaGreat
namespace Go.Proofs.YtjehpijjneghpaaGreat
open Go.ChangeShapes Go.WideShapes Go.ChangeAt Go.RowKit Go.Deep
def At (w : World) (ao : Option Addr) (vs : List Value) : Prop :=
  ∀ i (h : i < vs.length), ∃ b off, ao = some ⟨b, off, none⟩ ∧ w.cell? ⟨b, off + i, none⟩ = some vs[i]
def Row (w : World) (v : Value) (vs : List Value) : Prop :=
  ∃ ao cap, v = .slice ao vs.length cap ∧ (ao = none → vs = [] ∧ cap = 0) ∧ vs.length ≤ cap ∧ cap ≤ maxLen ∧ At w ao vs
theorem At.at {w : World} {ao : Option Addr} {vs : List Value} (h : At w ao vs) (hl : 0 < vs.length) :
    ∃ b off, ao = some ⟨b, off, none⟩ ∧ ∀ i (h : i < vs.length), w.cell? ⟨b, off + i, none⟩ = some vs[i] := by
  obtain ⟨b, off, e, _⟩ := h 0 hl
  refine ⟨b, off, e, fun i hi => ?_⟩
  obtain ⟨b', off', e', hc⟩ := h i hi
  rw [e] at e'
  simp only [Option.some.injEq, Addr.mk.injEq] at e'
  obtain ⟨rfl, rfl, _⟩ := e'
  exact hc
theorem Row.nil (w : World) : Row w (.slice none 0 0) [] := ⟨none, 0, rfl, fun _ => ⟨rfl, rfl⟩, Nat.le_refl _, Nat.zero_le _, fun i hi => by simp at hi⟩
def Sls (w : World) (vs : List Value) (ls : List (List UInt8)) : Prop := vs.length = ls.length ∧ ∀ i (h : i < vs.length) (h' : i < ls.length), Sl w vs[i] ls[i]
end Go.Proofs.YtjehpijjneghpaaGreat
namespace Go.Proofs.YtjehpijjneghpaaGreat.Dk
open Go.RowKit Go.Maps
abbrev Dr := List (List UInt8 × Nat)
def ptrR : Value → Option (DataW Unit × List MemPlace)
  | .pointer (some ⟨b, 0, none⟩) => some (.lit (.int .i64 (b : Int)), [])
  | .pointer none => some (.nil, [])
  | _ => none
theorem ptrR_some (b : Nat) : ptrR (.pointer (some ⟨b, 0, none⟩)) = some (.lit (.int .i64 (b : Int)), []) := rfl
theorem ptrR_none : ptrR (.pointer none) = some (.nil, []) := rfl
theorem ptrR_inv {v : Value} {b : Nat} {ps : List MemPlace} (h : ptrR v = some (.lit (.int .i64 (b : Int)), ps)) : v = .pointer (some ⟨b, 0, none⟩) := by
  unfold ptrR at h
  split at h
  · simp only [Option.some.injEq, Prod.mk.injEq, DataW.lit.injEq, Lit.int.injEq, true_and] at h
    have := h.1
    have e : _ = b := Int.ofNat_inj.1 this
    rw [e]
  · simp at h
  · simp at h
theorem ptrR_inv_nil {v : Value} {ps : List MemPlace} (h : ptrR v = some (.nil, ps)) : v = .pointer none := by
  unfold ptrR at h
  split at h
  · simp at h
  · rfl
  · simp at h
def dent (p : List UInt8 × Nat) : Lit × DataW Unit := (.string p.1, .lit (.int .i64 (p.2 : Int)))
def dirD (l : Dr) : DataW Unit := .map (l.map dent)
def get (l : Dr) (n : List UInt8) : Option Nat := (l.find? fun p => p.1 == n).map (·.2)
def dins (x : List UInt8 × Nat) : Dr → Dr
  | [] => [x]
  | y :: r => if bytesBefore x.1 y.1 then x :: y :: r else y :: dins x r
def ddel (l : Dr) (n : List UInt8) : Dr := l.filter fun p => !(p.1 == n)
def dput (l : Dr) (n : List UInt8) (b : Nat) : Dr := dins (n, b) (ddel l n)
theorem insert_dent (x : List UInt8 × Nat) : ∀ l : Dr, DataW.insert (dent x) (l.map dent) = (dins x l).map dent := by
  intro l
  induction l with
  | nil => rfl
  | cons y r ih =>
    simp only [List.map_cons, DataW.insert, dins]
    have e : (dent x).1.before (dent y).1 = bytesBefore x.1 y.1 := rfl
    rw [e]
    split
    · rfl
    · rw [ih]; rfl
theorem filter_dent (l : Dr) (n : List UInt8) : (l.map dent).filter (fun p => !p.1.sameKey (.string n)) = (ddel l n).map dent := by
  unfold ddel
  rw [List.filter_map]
  rfl
theorem dirD_del (l : Dr) (n : List UInt8) : (dirD l).del (.string n) = dirD (ddel l n) := by
  show DataW.map _ = DataW.map _
  rw [filter_dent]
theorem dirD_put (l : Dr) (n : List UInt8) (b : Nat) : (dirD l).put (.string n) (.lit (.int .i64 (b : Int))) = dirD (dput l n b) := by
  show DataW.map _ = DataW.map _
  rw [filter_dent]
  exact congrArg DataW.map (insert_dent (n, b) (ddel l n))
theorem find_dent (l : Dr) (n : List UInt8) : (l.map dent).find? (fun p => p.1.sameKey (.string n)) = (l.find? fun p => p.1 == n).map dent := by
  rw [List.find?_map]
  rfl
theorem dirD_at_some {l : Dr} {n : List UInt8} {b : Nat} (h : get l n = some b) : (dirD l).atKey (.string n) .nil = .lit (.int .i64 (b : Int)) := by
  unfold get at h
  unfold dirD DataW.atKey
  simp only []
  rw [find_dent]
  cases hf : l.find? fun p => p.1 == n with
  | none => rw [hf] at h; simp at h
  | some p => rw [hf] at h; simp at h; subst h; rfl
theorem dirD_at_none {l : Dr} {n : List UInt8} (h : get l n = none) : (dirD l).atKey (.string n) .nil = .nil := by
  unfold get at h
  unfold dirD DataW.atKey
  simp only []
  rw [find_dent]
  cases hf : l.find? fun p => p.1 == n with
  | none => rfl
  | some p => rw [hf] at h; simp at h
theorem dirD_has (l : Dr) (n : List UInt8) : Maps.has (dirD l) (.string n) = (get l n).isSome := by
  unfold get
  show (l.map dent).any (fun p => p.1.sameKey (.string n)) = _
  rw [List.any_map]
  induction l with
  | nil => rfl
  | cons y r ih =>
    simp only [List.any_cons, List.find?_cons]
    have e : ((fun p : Lit × DataW Unit => p.1.sameKey (.string n)) ∘ dent) y = (y.1 == n) := rfl
    rw [e]
    cases hy : (y.1 == n)
    · simp only [Bool.false_or]; exact ih
    · rfl
theorem dirD_size (l : Dr) : Maps.size (dirD l) = l.length := by simp [Maps.size, dirD]
end Go.Proofs.YtjehpijjneghpaaGreat.Dk
namespace Go.Proofs.YtjehpijjneghpaaGreat
open Go.RowKit
structure But (X : Nat → Prop) (W W' : World) : Prop where
  os : W'.os = W.os
  tape : W'.tape = W.tape
  output : W'.output = W.output
  size : W.heap.size ≤ W'.heap.size
  block : ∀ k, k < W.heap.size → ¬ X k → W'.heap[k]? = W.heap[k]?
theorem But.trans {X : Nat → Prop} {A B C : World} (h : But X A B) (k : But X B C) : But X A C :=
  ⟨k.os.trans h.os, k.tape.trans h.tape, k.output.trans h.output, Nat.le_trans h.size k.size, fun i hi hx => (k.block i (Nat.lt_of_lt_of_le hi h.size) hx).trans (h.block i hi hx)⟩
theorem But.mono {X Y : Nat → Prop} {A B : World} (h : But X A B) (hs : ∀ k, k < A.heap.size → X k → Y k) : But Y A B :=
  ⟨h.os, h.tape, h.output, h.size, fun k hk hy => h.block k hk (fun hx => hy (hs k hk hx))⟩
theorem But.below {X : Nat → Prop} {A B : World} {n : Nat} (h : But X A B) (hn : n ≤ A.heap.size) (hX : ∀ k, X k → n ≤ k) : Below n A B :=
  ⟨h.os, h.tape, h.output, h.size, fun k hk => h.block k (Nat.lt_of_lt_of_le hk hn) (fun hx => Nat.lt_irrefl _ (Nat.lt_of_lt_of_le hk (hX k hx)))⟩
theorem But.of_below {A B : World} (h : Below A.heap.size A B) (X : Nat → Prop) : But X A B := ⟨h.os, h.tape, h.output, h.size, fun k hk _ => h.block k hk⟩
theorem But.of_grownBy {A B : World} {row : Option Nat} (h : A.grownBy B row) {X : Nat → Prop} (hX : ∀ k, row = some k → X k) : But X A B :=
  ⟨h.os, h.tape, h.output, h.size, fun k hk hx => h.block k hk (fun e => hx (hX k e.symm))⟩
theorem But.at {X : Nat → Prop} {A B : World} (h : But X A B) {k : Nat} {o : Obj} (hk : A.heap[k]? = some o) (hx : ¬ X k) : B.heap[k]? = some o :=
  (h.block k (Array.getElem?_eq_some_iff.1 hk).1 hx).trans hk
end Go.Proofs.YtjehpijjneghpaaGreat
namespace Go.Proofs.YtjehpijjneghpaaGreat.Nm
set_option linter.unusedVariables false
def plc (c : UInt8) : Bool := (decide (97 ≤ (c.toNat : Int)) && decide ((c.toNat : Int) ≤ 122)) || (decide (48 ≤ (c.toNat : Int)) && decide ((c.toNat : Int) ≤ 57))
def okc (c : UInt8) : Bool := plc c || ((c.toNat : Int) == 46) || ((c.toNat : Int) == 45)
def may (l : List UInt8) : Bool := decide (1 ≤ l.length) && decide (l.length ≤ 64) && l.all okc && plc (l.getD 0 0) && plc (l.getD (l.length - 1) 0)
def hd (d : Nat) : UInt8 := UInt8.ofNat (if d < 10 then 48 + d else 87 + d)
end Go.Proofs.YtjehpijjneghpaaGreat.Nm
namespace Go.Proofs.YtjehpijjneghpaaGreat.Nm
open Go.RowKit
set_option maxRecDepth 100000
set_option linter.unusedVariables false
theorem hide {p : Prop} (h : p) : Hid p := h
theorem plain_any (c : UInt8) (w : World) : Calls Tryz.prog 117 #[.int .u8 (c.toNat : Int)] w fun e w' => e = .returned (.bool (plc c)) ∧ w' = w := by
  by_cases h1 : 97 ≤ (c.toNat : Int) <;> by_cases h2 : (c.toNat : Int) ≤ 122 <;> by_cases h3 : 48 ≤ (c.toNat : Int) <;> by_cases h4 : (c.toNat : Int) ≤ 57
  all_goals
    go_enter Tryz.func117, Tryz.ntmps117
    go_wp2
    go_ret
    exact ⟨ret_bool (by simp [plc, h1, h2, h3, h4]), rfl⟩
theorem alnum_any (c : UInt8) (w : World) : Calls Tryz.prog 124 #[.int .u8 (c.toNat : Int)] w fun e w' => e = .returned (.bool (plc c)) ∧ w' = w := by
  by_cases h1 : 97 ≤ (c.toNat : Int) <;> by_cases h2 : (c.toNat : Int) ≤ 122 <;> by_cases h3 : 48 ≤ (c.toNat : Int) <;> by_cases h4 : (c.toNat : Int) ≤ 57
  all_goals
    go_enter Tryz.func124, Tryz.ntmps124
    go_wp2
    go_ret
    exact ⟨ret_bool (by simp [plc, h1, h2, h3, h4]), rfl⟩
theorem all_snoc (s : ByteArray) (k : Nat) (h : k < s.size) (ha : (s.data.toList.take k).all okc = true) (hc : okc s[k] = true) : (s.data.toList.take (k + 1)).all okc = true := by
  rw [List.take_succ_eq_append_getElem (by simpa using h), List.all_append, ha]
  simp only [Bool.true_and, List.all_cons, List.all_nil, Bool.and_true]
  exact hc
theorem all_not (s : ByteArray) (k : Nat) (h : k < s.size) (hc : okc s[k] = false) : may s.data.toList = false := by
  have : s.data.toList.all okc = false := by
    rw [List.all_eq_false]
    exact ⟨s[k], by simp [ByteArray.getElem_eq_getElem_data], by simp [hc]⟩
  unfold may
  rw [this]
  simp
theorem get0 (s : ByteArray) (h : 0 < s.size) : s.data.toList.getD 0 0 = s[0] := by
  rw [List.getD_eq_getElem?_getD, List.getElem?_eq_getElem (by simpa using h)]
  rfl
theorem getE (s : ByteArray) (h : 0 < s.size) : s.data.toList.getD (s.data.toList.length - 1) 0 = s[s.size - 1] := by
  rw [List.getD_eq_getElem?_getD, List.getElem?_eq_getElem (by simp; omega)]
  rfl
theorem may_all (s : ByteArray) (h1 : 0 < s.size) (h2 : s.size ≤ 64) (ha : s.data.toList.all okc = true) : may s.data.toList = (plc s[0] && plc (s[s.size - 1])) := by
  unfold may
  rw [ha, get0 s h1, getE s h1]
  have e : s.data.toList.length = s.size := by simp
  rw [e]
  simp [show 1 ≤ s.size by omega, h2]
theorem may_size (s : ByteArray) (h : s.size < 1 ∨ 64 < s.size) : may s.data.toList = false := by
  unfold may
  have e : s.data.toList.length = s.size := by simp
  rw [e]
  rcases h with h | h
  · simp [show ¬ 1 ≤ s.size by omega]
  · simp [show ¬ s.size ≤ 64 by omega]
set_option maxHeartbeats 2000000 in
theorem may_any (s : ByteArray) (w : World) (hs : s.size ≤ maxLen) : Calls Tryz.prog 104 #[.string s] w fun e w' => e = .returned (.bool (may s.data.toList)) ∧ w' = w := by
  unfold maxLen at hs
  by_cases h0 : s.size < 1
  · have i0 : (s.size : Int) < 1 := by omega
    go_enter Tryz.func104, Tryz.ntmps104
    go_wp2
    go_ret
    exact ⟨ret_bool (may_size s (.inl h0)).symm, rfl⟩
  by_cases h1 : 64 < s.size
  · have i0 : ¬ (s.size : Int) < 1 := by omega
    have i1 : (s.size : Int) > 64 := by omega
    go_enter Tryz.func104, Tryz.ntmps104
    go_wp2
    go_ret
    exact ⟨ret_bool (may_size s (.inr h1)).symm, rfl⟩
  have i0 : ¬ (s.size : Int) < 1 := by omega
  have i1 : ¬ (s.size : Int) > 64 := by omega
  go_enter Tryz.func104, Tryz.ntmps104
  go_wp2
  go_loop [14] (fun i => ∃ k : Nat, k ≤ s.size ∧ i = .int .i64 k ∧ Hid ((s.data.toList.take k).all okc = true)) (fun i => s.size - (intOf i).toNat)
  case atStart => exact ⟨0, Nat.zero_le _, rfl, rfl⟩
  case round =>
    obtain ⟨k, hk, rfl, ha⟩ := hrel
    by_cases hlt : k < s.size
    · by_cases hp : plc s[k] = true
      · go_wp2_with (go_at_call 117; refine (plain_any _ _).mono ?_; rintro e w' ⟨rfl, rfl⟩)
        go_round
        case rel => exact ⟨k + 1, by omega, by go_num, all_snoc s k hlt ha.out (by simp [okc, hp])⟩
        case measure => simp [intOf]; omega
      · replace hp : plc s[k] = false := by simpa using hp
        by_cases hd1 : (s[k].toNat : Int) = 46
        · have hd1' : ((s[k].toNat : Int) != 46) = false := by simp [hd1]
          have hok : Hid (okc s[k] = true) := by show _ = _; simp [okc, hd1]
          clear hd1
          go_wp2_with (go_at_call 117; refine (plain_any _ _).mono ?_; rintro e w' ⟨rfl, rfl⟩)
          go_round
          case rel => exact ⟨k + 1, by omega, by go_num, all_snoc s k hlt ha.out hok.out⟩
          case measure => simp [intOf]; omega
        · have hd1' : ((s[k].toNat : Int) != 46) = true := by simpa using hd1
          by_cases hd2 : (s[k].toNat : Int) = 45
          · have hd2' : ((s[k].toNat : Int) != 45) = false := by simp [hd2]
            have hok : Hid (okc s[k] = true) := by show _ = _; simp [okc, hd2]
            clear hd2 hd1
            go_wp2_with (go_at_call 117; refine (plain_any _ _).mono ?_; rintro e w' ⟨rfl, rfl⟩)
            go_round
            case rel => exact ⟨k + 1, by omega, by go_num, all_snoc s k hlt ha.out hok.out⟩
            case measure => simp [intOf]; omega
          · have hd2' : ((s[k].toNat : Int) != 45) = true := by simpa using hd2
            have hok : Hid (okc s[k] = false) := by show _ = _; simp [okc, hd2, hd1, hp]
            clear hd2 hd1
            go_wp2_with (go_at_call 117; refine (plain_any _ _).mono ?_; rintro e w' ⟨rfl, rfl⟩)
            go_ret
            exact ⟨ret_bool (all_not s k hlt hok.out).symm, rfl⟩
    · obtain rfl : k = s.size := by omega
      have hm := may_all s (by omega) (by omega) (by have := ha.out; rwa [List.take_of_length_le (by simp)] at this)
      have z0 : 0 < s.size := by omega
      cases hp0 : plc s[0] with
      | false =>
        have hm' : Hid (may s.data.toList = false) := by show _ = _; rw [hm, hp0]; rfl
        clear hm
        go_wp2_with (go_at_call 117; refine (plain_any _ _).mono ?_; rintro e w' ⟨rfl, rfl⟩)
        go_ret
        exact ⟨ret_bool (by first | exact hm'.out.symm | (rw [hm'.out])), rfl⟩
      | true =>
        have hm' : Hid (may s.data.toList = plc (s[s.size - 1])) := by show _ = _; rw [hm, hp0]; rfl
        clear hm
        go_wp2_with (go_at_call 117; refine (plain_any _ _).mono ?_; rintro e w' ⟨rfl, rfl⟩)
        go_ret
        exact ⟨ret_bool (by first | exact hm'.out.symm | (rw [hm'.out]; simp)), rfl⟩
set_option maxHeartbeats 2000000 in
theorem refMay_any (s : ByteArray) (w : World) (hs : s.size ≤ maxLen) : Calls Tryz.prog 116 #[.string s] w fun e w' => e = .returned (.bool (may s.data.toList)) ∧ w' = w := by
  unfold maxLen at hs
  by_cases h0 : s.size < 1
  · have i0 : (s.size : Int) < 1 := by omega
    go_enter Tryz.func116, Tryz.ntmps116
    go_wp2
    go_ret
    exact ⟨ret_bool (may_size s (.inl h0)).symm, rfl⟩
  by_cases h1 : 64 < s.size
  · have i0 : ¬ (s.size : Int) < 1 := by omega
    have i1 : (s.size : Int) > 64 := by omega
    go_enter Tryz.func116, Tryz.ntmps116
    go_wp2
    go_ret
    exact ⟨ret_bool (may_size s (.inr h1)).symm, rfl⟩
  have i0 : ¬ (s.size : Int) < 1 := by omega
  have i1 : ¬ (s.size : Int) > 64 := by omega
  have z0 : 0 < s.size := by omega
  have hfl : (plc s[0] && plc (s[s.size - 1])) = false → may s.data.toList = false := fun h => by
    unfold may
    rw [get0 s z0, getE s z0, Bool.and_assoc, h, Bool.and_false]
  cases hp0 : plc s[0] with
  | false =>
    have hm' : Hid (may s.data.toList = false) := hfl (by rw [hp0]; rfl)
    clear hfl
    go_enter Tryz.func116, Tryz.ntmps116
    go_wp2_with (go_at_call 124; refine (alnum_any _ _).mono ?_; rintro e w' ⟨rfl, rfl⟩)
    go_ret
    exact ⟨ret_bool hm'.out.symm, rfl⟩
  | true =>
    have hE : s[((s.size : Int) - 1).toNat]'(by omega) = s[s.size - 1] := by congr 1; omega
    cases hp1 : plc (s[s.size - 1]) with
    | false =>
      have hm' : Hid (may s.data.toList = false) := hfl (by rw [hp1]; simp)
      clear hfl
      go_enter Tryz.func116, Tryz.ntmps116
      go_wp2_with (go_at_call 124; refine (alnum_any _ _).mono ?_; rintro e w' ⟨rfl, rfl⟩)
      go_ret
      exact ⟨ret_bool hm'.out.symm, rfl⟩
    | true =>
      clear hfl
      go_enter Tryz.func116, Tryz.ntmps116
      go_wp2_with (go_at_call 124; refine (alnum_any _ _).mono ?_; rintro e w' ⟨rfl, rfl⟩)
      have hm2 : Hid (s.data.toList.all okc = true → may s.data.toList = true) := fun h => by rw [may_all s z0 (by omega) h, hp0, hp1]; rfl
      go_loop [3] (fun i => ∃ k : Nat, k ≤ s.size ∧ i = .int .i64 k ∧ Hid ((s.data.toList.take k).all okc = true)) (fun i => s.size - (intOf i).toNat)
      case atStart => exact ⟨0, Nat.zero_le _, rfl, rfl⟩
      case round =>
        obtain ⟨k, hk, rfl, ha⟩ := hrel
        clear hE hp0 hp1
        by_cases hlt : k < s.size
        · by_cases hp : plc s[k] = true
          · go_wp2_with (go_at_call 124; refine (alnum_any _ _).mono ?_; rintro e w' ⟨rfl, rfl⟩)
            go_round
            case rel => exact ⟨k + 1, by omega, by go_num, all_snoc s k hlt ha.out (by simp [okc, hp])⟩
            case measure => simp [intOf]; omega
          · replace hp : plc s[k] = false := by simpa using hp
            by_cases hd1 : (s[k].toNat : Int) = 46
            · have hd1' : ((s[k].toNat : Int) != 46) = false := by simp [hd1]
              have hok : Hid (okc s[k] = true) := by show _ = _; simp [okc, hd1]
              clear hd1
              go_wp2_with (go_at_call 124; refine (alnum_any _ _).mono ?_; rintro e w' ⟨rfl, rfl⟩)
              go_round
              case rel => exact ⟨k + 1, by omega, by go_num, all_snoc s k hlt ha.out hok.out⟩
              case measure => simp [intOf]; omega
            · have hd1' : ((s[k].toNat : Int) != 46) = true := by simpa using hd1
              by_cases hd2 : (s[k].toNat : Int) = 45
              · have hd2' : ((s[k].toNat : Int) != 45) = false := by simp [hd2]
                have hok : Hid (okc s[k] = true) := by show _ = _; simp [okc, hd2]
                clear hd2 hd1
                go_wp2_with (go_at_call 124; refine (alnum_any _ _).mono ?_; rintro e w' ⟨rfl, rfl⟩)
                go_round
                case rel => exact ⟨k + 1, by omega, by go_num, all_snoc s k hlt ha.out hok.out⟩
                case measure => simp [intOf]; omega
              · have hd2' : ((s[k].toNat : Int) != 45) = true := by simpa using hd2
                have hok : Hid (okc s[k] = false) := by show _ = _; simp [okc, hd2, hd1, hp]
                clear hd2 hd1
                go_wp2_with (go_at_call 124; refine (alnum_any _ _).mono ?_; rintro e w' ⟨rfl, rfl⟩)
                go_ret
                exact ⟨ret_bool (all_not s k hlt hok.out).symm, rfl⟩
        · obtain rfl : k = s.size := by omega
          go_wp2
          go_ret
          exact ⟨ret_bool (hm2.out (by have := ha.out; rwa [List.take_of_length_le (by simp)] at this)).symm, rfl⟩
end Go.Proofs.YtjehpijjneghpaaGreat.Nm
namespace Go.Proofs.YtjehpijjneghpaaGreat.Dk
open Go.RowKit Go.Maps
def TM : TypeId := 92
def TF : TypeId := 114
def TS : TypeId := 9
theorem keyS : Keyed Tryz.prog TS := string_keyed Tryz.underlying9
theorem undM : Tryz.prog.underlying TM = some (.map TS TF) := Tryz.underlying92
theorem zeroF (w : World) : (zeroValue TF).run Tryz.prog w = .ok (.pointer none) w := by kernel_rfl
theorem keyN {s : ByteArray} (hs : s.size ≤ maxLen) : keyOf Tryz.prog TS (.string s) = some (.string s.data.toList) 
    := WideMaps.keyOf_string_mk Tryz.underlying9 hs
def Mp (w : World) (b : Nat) (l : Dr) : Prop := w.ownsMap Tryz.prog TS ptrR b l.length (dirD l)
theorem Mp.of {w : World} {b n : Nat} {l : Dr} (h : w.ownsMap Tryz.prog TS ptrR b n (dirD l)) : Mp w b l := by
  obtain ⟨es, clock, hb, F, _, hD⟩ := h
  refine ⟨es, clock, hb, F, ?_, hD⟩
  have e1 : Maps.size (dirD l) = l.length := dirD_size l
  rw [hD] at e1
  have e2 := length_read (P := Tryz.prog) (k := TS) (R0 := ptrR) es
  simp only [Maps.size] at e1
  omega
theorem Mp.lt {w : World} {b : Nat} {l : Dr} (h : Mp w b l) : b < w.heap.size := World.ownsMap.lt h
theorem Mp.heap {w w' : World} {b : Nat} {l : Dr} (h : Mp w b l) (e : w'.heap[b]? = w.heap[b]?) : Mp w' b l := by
  obtain ⟨es, clock, hb, r⟩ := h
  exact ⟨es, clock, e.trans hb, r⟩
theorem Mp.look_some {w : World} {b p : Nat} {l : Dr} {s : ByteArray} (h : Mp w b l) (hs : s.size ≤ maxLen) (hg : get l s.data.toList = some p) : (Instr.lookup TM (.map (some b)) (.string s) true).run Tryz.prog w = .ok (.tuple #[.pointer (some ⟨p, 0, none⟩), .bool true]) w := by
  obtain ⟨v, ps, hrun, hv⟩ := h.look_ok keyS undM (zeroF w) ptrR_none (keyN hs)
  rw [dirD_at_some hg] at hv
  rw [hrun, ptrR_inv hv, dirD_has, hg]
  rfl
theorem Mp.look_none {w : World} {b : Nat} {l : Dr} {s : ByteArray} (h : Mp w b l) (hs : s.size ≤ maxLen) (hg : get l s.data.toList = none) : (Instr.lookup TM (.map (some b)) (.string s) true).run Tryz.prog w = .ok (.tuple #[.pointer none, .bool false]) w := by
  obtain ⟨v, ps, hrun, hv⟩ := h.look_ok keyS undM (zeroF w) ptrR_none (keyN hs)
  rw [dirD_at_none hg] at hv
  rw [hrun, ptrR_inv_nil hv, dirD_has, hg]
  rfl
theorem Mp.look {w : World} {b p : Nat} {l : Dr} {s : ByteArray} (h : Mp w b l) (hs : s.size ≤ maxLen) (hg : get l s.data.toList = some p) : (Instr.lookup TM (.map (some b)) (.string s) false).run Tryz.prog w = .ok (.pointer (some ⟨p, 0, none⟩)) w := by
  obtain ⟨v, ps, hrun, hv⟩ := World.ownsMap.lookup h keyS undM (zeroF w) ptrR_none (keyN hs)
  rw [dirD_at_some hg] at hv
  rw [hrun, ptrR_inv hv]
theorem Mp.len {w : World} {b : Nat} {l : Dr} (h : Mp w b l) (ty : TypeId) : (Builtin.len_ #[TM] ty #[.map (some b)]).run Tryz.prog w = .ok (.int .i64 (l.length : Int)) w := by
  have := World.ownsMap.len h undM ty
  rw [dirD_size] at this
  exact this
theorem Mp.store {w : World} {b p : Nat} {l : Dr} {s : ByteArray} (h : Mp w b l) (hs : s.size ≤ maxLen) (hl : l.length < maxLen) :
    ∃ w', (Instr.mapUpdate TM (.map (some b)) (.string s) (.pointer (some ⟨p, 0, none⟩))).run Tryz.prog w = .ok () w' ∧ Mp w' b (dput l s.data.toList p) ∧ w.mapTurned w' b := by
  obtain ⟨w', hrun, ho, ht⟩ := World.ownsMap.store h keyS undM hl (keyN hs) (ptrR_some p)
  rw [dirD_put] at ho
  exact ⟨w', hrun, Mp.of ho, ht⟩
theorem Mp.drop {w : World} {b : Nat} {l : Dr} {s : ByteArray} (h : Mp w b l) (hs : s.size ≤ maxLen) (ty : TypeId) :
    ∃ w', (Builtin.delete_ #[TM, TS] ty #[.map (some b), .string s]).run Tryz.prog w = .ok (.tuple #[]) w' ∧ Mp w' b (ddel l s.data.toList) ∧ w.mapTurned w' b := by
  obtain ⟨w', hrun, ho, ht⟩ := World.ownsMap.drop h keyS undM (keyN hs) ty
  rw [dirD_del] at ho
  exact ⟨w', hrun, Mp.of ho, ht⟩
theorem Mp.made (w : World) : Mp (w.alloc (.map #[] 0)) w.heap.size [] := Mp.of (l := []) (World.ownsMap_made w _ _ _)
end Go.Proofs.YtjehpijjneghpaaGreat.Dk
namespace Go.Proofs.YtjehpijjneghpaaGreat.Dk
open Go.RowKit Go.Maps
structure Dc where
  most : Int
  up : Bool
  fm : Option Nat
  lm : Option Nat
  pd : Value
  am : Option Nat
  c0 : Int
  c1 : Int
  c2 : Int
  c3 : Int
  c4 : Int
  c5 : Int
  c6 : Int
  c7 : Int
  c8 : Int
def dcells (x : Dc) : Array Value := #[.int .i64 x.most, .bool x.up, .map x.fm, .map x.lm, x.pd, .map x.am, .int .i64 x.c0, .int .i64 x.c1, .int .i64 x.c2, .int .i64 x.c3, .int .i64 x.c4, .int .i64 x.c5, .int .i64 x.c6, .int .i64 x.c7, .int .i64 x.c8]
def TD : TypeId := 98
def Bx (w : World) (b : Nat) (x : Dc) : Prop := w.heap[b]? = some (.cells (dcells x) TD (0, 0))
def Dp (w : World) (v : Value) (x : Option Dc) : Prop :=
  (v = .pointer none ∧ x = none) ∨ ∃ b y, v = .pointer (some ⟨b, 0, none⟩) ∧ x = some y ∧ Bx w b y
def madeD (x : Option Dc) : Bool := match x with | none => false | some y => y.fm.isSome
def upD (x : Option Dc) : Bool := match x with | none => false | some y => y.fm.isSome && y.up
theorem Bx.cells {w : World} {b : Nat} {x : Dc} (h : Bx w b x) : w.cell? ⟨b, 0, none⟩ = some (.int .i64 x.most) ∧ w.cell? ⟨b, 1, none⟩ = some (.bool x.up) ∧ w.cell? ⟨b, 2, none⟩ = some (.map x.fm) ∧ w.cell? ⟨b, 3, none⟩ = some (.map x.lm) ∧ w.cell? ⟨b, 4, none⟩ = some x.pd ∧ w.cell? ⟨b, 5, none⟩ = some (.map x.am) := by
  have e := h
  unfold Bx at e
  simp [World.cell?, e, dcells]
theorem Bx.all {w : World} {b : Nat} {x : Dc} (h : Bx w b x) : w.cell? ⟨b, 13, none⟩ = some (.int .i64 x.c7) ∧ w.cell? ⟨b, 14, none⟩ = some (.int .i64 x.c8) := by
  have e := h
  unfold Bx at e
  simp [World.cell?, e, dcells]
theorem Bx.below {A B : World} {b : Nat} {x : Dc} (h : Bx A b x) (hb : Below A.heap.size A B) : Bx B b x := (hb.block b (heap_lt h)).trans h
theorem Dp.below {A B : World} {v : Value} {x : Option Dc} (h : Dp A v x) (hb : Below A.heap.size A B) : Dp B v x := by
  rcases h with h | ⟨b, y, h1, h2, h3⟩
  · exact .inl h
  · exact .inr ⟨b, y, h1, h2, h3.below hb⟩
theorem neqM (w : World) (r : Option Nat) : (binOp .neq 92 (.map r) (.map none)).run Tryz.prog w = .ok (.bool (!r.isNone)) w := run_neq_map_nil w _ _ _ r Tryz.underlying92
theorem made_any (w : World) (v : Value) (x : Option Dc) (h : Dp w v x) : Calls Tryz.prog 79 #[v] w fun e w' => e = .returned (.bool (madeD x)) ∧ w' = w := by
  have qT := neqM
  rcases h with ⟨rfl, rfl⟩ | ⟨b, y, rfl, rfl, hb⟩
  · go_enter Tryz.func79, Tryz.ntmps79
    go_wp2_with fail
    go_ret
    exact ⟨rfl, rfl⟩
  · have h2 := hb.cells.2.2.1
    clear hb
    obtain ⟨c0, c1, fm, c3, c4, c5, c6, c7, c8, c9, c10, c11, c12, c13, c14⟩ := y
    cases fm with
    | none =>
      dsimp only at h2
      go_enter Tryz.func79, Tryz.ntmps79
      go_wp2_with fail
      go_ret
      exact ⟨rfl, rfl⟩
    | some m =>
      dsimp only at h2
      go_enter Tryz.func79, Tryz.ntmps79
      go_wp2_with fail
      go_ret
      exact ⟨rfl, rfl⟩
theorem up_any (w : World) (v : Value) (x : Option Dc) (h : Dp w v x) : Calls Tryz.prog 43 #[v] w fun e w' => e = .returned (.bool (upD x)) ∧ w' = w := by
  have hm := made_any w v x h
  rcases h with ⟨rfl, rfl⟩ | ⟨b, y, rfl, rfl, hb⟩
  · go_enter Tryz.func43, Tryz.ntmps43
    go_wp2_with (go_at_call 79; refine hm.mono ?_; rintro e w1 ⟨rfl, rfl⟩; simp only [madeD])
    go_ret
    exact ⟨rfl, rfl⟩
  · have h2 := hb.cells.2.1
    clear hb
    obtain ⟨c0, c1, fm, c3, c4, c5, c6, c7, c8, c9, c10, c11, c12, c13, c14⟩ := y
    cases fm with
    | none =>
      dsimp only at h2
      go_enter Tryz.func43, Tryz.ntmps43
      go_wp2_with (go_at_call 79; refine hm.mono ?_; rintro e w1 ⟨rfl, rfl⟩; simp only [madeD, Option.isSome_none])
      go_ret
      exact ⟨rfl, rfl⟩
    | some m =>
      dsimp only at h2
      go_enter Tryz.func43, Tryz.ntmps43
      go_wp2_with (go_at_call 79; refine hm.mono ?_; rintro e w1 ⟨rfl, rfl⟩; simp only [madeD, Option.isSome_some])
      go_ret
      exact ⟨rfl, rfl⟩
end Go.Proofs.YtjehpijjneghpaaGreat.Dk
