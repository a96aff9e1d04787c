/-
  Plain facts for the walks over package wire: lists of bytes, where a slice's bytes lie in memory. No program is named here.
-/
import Derived.WalkKit
import Derived.WalkSpells
import Derived.WalkLawsBesides
import Derived.Deep.QuietTactic
import Derived.BigQuiet
import Derived.Laws.AppendOwnNone
import Derived.Test.YtnimildpcnmjeaaGreatDoorProg
import Derived.Lib.SlBytesConst
import Derived.Test.YtnimildpcnmjeaaGreatDoorRows
import Derived.ProofKit
import Derived.OpenShut
import Derived.SizedLaws
import Derived.Deep.Slices
import Derived.Maps.OwnSet
import Derived.Maps.OwnOps
import Derived.Maps.Views
import Derived.Maps.RangeWalk
import Derived.RangeFuncNested
import Derived.RangeFuncLeaves
import Derived.Below
import Derived.Deep.RegionHeld3
import Derived.Deep.CutRange
import Derived.Deep.RegionLaw
import Derived.BigRegion
import Derived.Handy
import Derived.Laws.Externs
import Derived.Carry
import Derived.Deep.AppendLies
import Derived.Shelf.SlGeneric
import Derived.Shelf.SlIter.Nil
import Derived.Shelf.SortM.Plain
import Derived.Shelf.SortM.SortNone
import Derived.Ground.GgzProg
import Derived.Ground.SlgmProg
import Derived.Shelf.LaysM
import Derived.Shelf.Strconv.Clone
import Derived.Lib.AppendZeros
import Derived.Maps.AppendAt
import Derived.Lib.SliceRun
set_option maxRecDepth 100000
set_option maxHeartbeats 40000000
set_option linter.unusedVariables false
namespace Go.Proofs.YtnimildpcnmjeaaGreatDoor
open Go.RowKit
def Rd (w : World) (ao : Option Addr) (l : List UInt8) : Prop :=
 ∀ i (h : i < l.length), ∃ b off, ao = some ⟨b, off, none⟩ ∧ w.cell? ⟨b, off + i, none⟩ = some (.int .u8 (l[i].toNat : Int))
theorem Rd.at {w : World} {ao : Option Addr} {l : List UInt8} (h : Rd w ao l) (hl : 0 < l.length) :
    ∃ b off, ao = some ⟨b, off, none⟩ ∧ ∀ i (h : i < l.length), w.cell? ⟨b, off + i, none⟩ = some (.int .u8 (l[i].toNat : Int)) := by
 obtain ⟨b, off, e, _⟩ := h 0 hl
 refine ⟨b, off, e, fun i hi => ?_⟩
 obtain ⟨b', off', e', hc⟩ := h i hi
 rw [e] at e'
 simp only [Option.some.injEq, Addr.mk.injEq] at e'
 obtain ⟨rfl, rfl, _⟩ := e'
 exact hc
def Qt (w w' : World) : Prop := ∃ k, w' = w.drewN k
theorem Qt.refl (w : World) : Qt w w := ⟨0, rfl⟩
theorem Qt.below {w u : World} (h : Qt w u) (B : Nat) : Below B w u := by
 obtain ⟨k, rfl⟩ := h; exact below_drewN (Below.refl _ _) k
theorem ret_bool {a b : Bool} (h : a = b) : Ending.returned (.bool a) = .returned (.bool b) := by rw [h]
theorem take_snoc (l : List UInt8) (k : Nat) (h : k < l.length) : l.take (k + 1) = l.take k ++ [l[k]] := by
 rw [List.take_succ_eq_append_getElem h]
end Go.Proofs.YtnimildpcnmjeaaGreatDoor
namespace Go.Proofs.YtnimildpcnmjeaaGreatDoor
def encF : Nat → Nat → List UInt8
 | 0, _ => []
 | f + 1, n => if n < 128 then [UInt8.ofNat n] else UInt8.ofNat (n % 128 + 128) :: encF f (n / 128)
def enc (n : Nat) : List UInt8 := encF 10 n
theorem encF_more (f : Nat) : ∀ n, n < 128 ^ f → encF (f + 1) n = encF f n ∨ f = 0 := by
 induction f with
 | zero => intro n _; exact Or.inr rfl
 | succ f ih =>
  intro n hn
  left
  rw [encF]
  conv => rhs; rw [encF]
  by_cases h : n < 128
  ·rw [if_pos h, if_pos h]
  ·rw [if_neg h, if_neg h]
   have h2 : n / 128 < 128 ^ f := Nat.div_lt_of_lt_mul (by rw [Nat.pow_succ] at hn; omega)
   rcases ih _ h2 with e | e
   ·rw [e]
   ·subst e; simp at h2; omega
theorem enc_small {n : Nat} (h : n < 128) : enc n = [UInt8.ofNat n] := by
 show encF 10 n = _
 rw [encF, if_pos h]
theorem enc_big {n : Nat} (h : 128 ≤ n) (hn : n < 2 ^ 64) : enc n = UInt8.ofNat (n % 128 + 128) :: enc (n / 128) := by
 show encF 10 n = _ :: encF 10 (n / 128)
 rw [encF, if_neg (by omega)]
 congr 1
 rcases encF_more 9 (n / 128) (by omega) with e | e
 ·exact e.symm
 ·omega
theorem encF_len (f n : Nat) : (encF f n).length ≤ f := by
 induction f generalizing n with
 | zero => simp [encF]
 | succ f ih =>
  rw [encF]; split
  ·simp
  ·have := ih (n / 128); simp; omega
theorem enc_len (n : Nat) : (enc n).length ≤ 10 := encF_len 10 n
theorem enc_pos (n : Nat) : 1 ≤ (enc n).length := by
 show 1 ≤ (encF 10 n).length
 rw [encF]; split <;> simp
def bval (c : UInt8) : Value := .int .u8 (c.toNat : Int)
def bvals (l : List UInt8) : List Value := l.map bval
theorem bvals_append (l m : List UInt8) : bvals (l ++ m) = bvals l ++ bvals m := by simp [bvals]
theorem bvals_length (l : List UInt8) : (bvals l).length = l.length := by simp [bvals]
theorem or128_all : ∀ a : Fin 128, bits BinOp.or IntKind.u8 ((a.val : Nat) : Int) 128 = ((a.val + 128 : Nat) : Int) := by decide +kernel
theorem or128 (m : Nat) : bits BinOp.or IntKind.u8 ((m : Int) % 128) 128 = ((m % 128 + 128 : Nat) : Int) := by
 have h := or128_all ⟨m % 128, by omega⟩
 rw [← h]; congr 1
theorem u8_of (k : Nat) (h : k < 256) : Value.int .u8 (k : Int) = bval (UInt8.ofNat k) := by
 unfold bval
 rw [UInt8.toNat_ofNat_of_lt' (by simpa using h)]
theorem bval_big (m : Nat) : Value.int .u8 (bits BinOp.or IntKind.u8 ((m : Int) % 128) 128) = bval (UInt8.ofNat (m % 128 + 128)) := by
 rw [or128, u8_of _ (by omega)]
theorem bvals_one (l : List UInt8) (c : UInt8) : bvals l ++ [bval c] = bvals (l ++ [c]) := by simp [bvals]
end Go.Proofs.YtnimildpcnmjeaaGreatDoor
namespace Go.Proofs.YtnimildpcnmjeaaGreatDoor
open Go.RowKit
def Sl (w : World) (v : Value) (l : List UInt8) : Prop :=
 ∃ ao cap, v = .slice ao l.length cap ∧ (ao = none → l = [] ∧ cap = 0) ∧ l.length ≤ cap ∧ cap ≤ maxLen ∧ Rd w ao l
theorem lt_of_cell {w : World} {a : Addr} {v : Value} (h : w.cell? a = some v) : a.block < w.heap.size := by
 unfold World.cell? at h
 by_cases hb : a.block < w.heap.size
 ·exact hb
 ·rw [Array.getElem?_eq_none (by omega)] at h; simp at h
theorem Below.rd {w w' : World} (h : Below w.heap.size w w') {ao : Option Addr} {l : List UInt8} (g : Rd w ao l) : Rd w' ao l := by
 intro i hi
 obtain ⟨b, off, e, hc⟩ := g i hi
 exact ⟨b, off, e, by rw [h.cell (p := ⟨b, off + i, none⟩) (lt_of_cell hc)]; exact hc⟩
theorem Below.sl {w w' : World} (h : Below w.heap.size w w') {v : Value} {l : List UInt8} (g : Sl w v l) : Sl w' v l := by
 obtain ⟨ao, cap, h1, h2, h3, h4, h5⟩ := g
 exact ⟨ao, cap, h1, h2, h3, h4, Below.rd h h5⟩
theorem Qt.sl {w w' : World} (h : Qt w w') {v : Value} {l : List UInt8} (g : Sl w v l) : Sl w' v l := Below.sl (h.below _) g
theorem ownsRow_below {w w' : World} {base e n : Nat} {v : Value} {xs : List Value} (h : w.ownsRow base e 1 v n xs) (hb : Below w.heap.size w w') : w'.ownsRow base e 1 v n xs := by
 obtain ⟨h1, h2⟩ := h
 refine ⟨h1, ?_⟩
 rcases h2 with h2 | ⟨g, cap, cur, hv, hg, hh, r⟩
 ·exact Or.inl h2
 ·have hlt : g < w.heap.size := by
    by_cases hb : g < w.heap.size
    ·exact hb
    ·rw [Array.getElem?_eq_none (by omega)] at hh; simp at hh
  exact Or.inr ⟨g, cap, cur, hv, hg, by rw [hb.block g hlt]; exact hh, r⟩
theorem bvals_get {l : List UInt8} {i : Nat} (h : i < l.length) : (bvals l)[i]? = some (.int .u8 (l[i].toNat : Int)) := by
 simp [bvals, bval, h]
theorem Sl.of_owns {w : World} {base e : Nat} {v : Value} {l : List UInt8} (h : w.ownsRow base e 1 v l.length (bvals l)) : Sl w v l := by
 have h0 := h
 obtain ⟨h1, h2⟩ := h
 rcases h2 with ⟨rfl, hn⟩ | ⟨g, cap, cur, rfl, hg, hh, hn, hm, hs, ht⟩
 ·obtain rfl := List.length_eq_zero_iff.1 hn
  exact ⟨none, 0, rfl, fun _ => ⟨rfl, rfl⟩, Nat.le_refl _, Nat.zero_le _, fun i hi => by simp at hi⟩
 ·refine ⟨some ⟨g, 0, none⟩, cap, rfl, fun e => by simp at e, hn, hm, fun i hi => ⟨g, 0, rfl, ?_⟩⟩
  rw [Nat.zero_add, h0.cellAt i (by omega), bvals_get hi]
theorem Sl.nil (w : World) : Sl w (.slice none 0 0) [] := ⟨none, 0, rfl, fun _ => ⟨rfl, rfl⟩, Nat.le_refl _, Nat.zero_le _, fun i hi => by simp at hi⟩
theorem wpList_append_bytes {P : Program} {w : World} {ops : Array Oper} {rest : List Oper} {o : Oper} {a : Act} {Q : Exit → Act → World → Prop} (hgd : o.guard = none) (s x : Operand) (t : TypeId)
    (ho : o.op = .call { callee := .builtin .append, args := #[s, x], argTypes := #[t, t] })
    (base : Nat) (e : TypeId) (hinf : (P.info? e).map (fun i => (i.zero, i.size, i.bytes)) = some (some (.int .u8 0), 1, 1)) (ht : P.underlying t = some (.slice e))
    (v vx : Value) (l m : List UInt8) (hs : a.eval s = v) (hown : w.ownsRow base e 1 v l.length (bvals l)) (hx : a.eval x = vx) (hsl : Sl w vx m)
    (hbytes : l.length + m.length ≤ 140737488355328) (hbase : base ≤ w.heap.size)
    (h : ∀ v' w', w'.ownsRow base e 1 v' (l ++ m).length (bvals (l ++ m)) → Below base w w' → wpList P ops Q rest (a.put o.dst v') w') : wpList P ops Q (o :: rest) a w := by
 obtain ⟨i0, hi, hz0, hz1, hz2⟩ := info_parts hinf
 obtain ⟨ao, cap, rfl, h2, h3, h4, h5⟩ := hsl
 cases ao with
 | none =>
  obtain ⟨rfl, rfl⟩ := h2 rfl
  refine wpList_append_own_none hgd s x t ho base e i0 1 ht hi v l.length (bvals l) hs hown hx ?_
  exact h v w (by simpa using hown) (Below.refl _ _)
 | some ad =>
  have hcells : ∀ j u, (bvals m)[j]? = some u → w.cell? (ad.add j) = some u := by
   intro j u hu
   have hj : j < m.length := by
    have := (List.getElem?_eq_some_iff.1 hu).1
    simpa [bvals] using this
   obtain ⟨b, off, e1, hc⟩ := h5 j hj
   simp only [Option.some.injEq] at e1
   subst e1
   rw [bvals_get hj] at hu
   simp only [Option.some.injEq] at hu
   subst hu
   have ea : (⟨b, off, none⟩ : Addr).add j = ⟨b, off + j, none⟩ := by
    unfold Addr.add; split <;> simp_all
   rw [ea]; exact hc
  refine wpList_append_own w hgd s x t ho base e i0 (.int .u8 0) 1 1 ht hi hz0 hz1 hz2 rfl (by decide) v l.length (bvals l) hs hown ad m.length cap (bvals m) hx (by simp [bvals]) hcells ?_ (by unfold maxLen; omega) (by omega) hbase ?_
  ·intro u hu
   simp only [bvals, List.mem_map] at hu
   obtain ⟨c, _, rfl⟩ := hu
   rfl
  ·intro v' w' ho' hg _
   refine h v' w' ?_ ((Below.refl _ _).grown hg hbase fun k hk => (hown.lt k hk).1)
   rw [List.length_append, bvals_append]
   exact ho'
theorem Tryz.infoU8 : (Tryz.prog.info? 5).map (fun i => (i.zero, i.size, i.bytes)) = some (some (.int .u8 0), 1, 1) := by kernel_rfl
theorem addr_add (b off k : Nat) : (⟨b, off, none⟩ : Addr).add k = ⟨b, off + k, none⟩ := by
 unfold Addr.add; split <;> simp_all
theorem grown_trans {a b c : World} {row : Option Nat} (h : a.grownBy b row) (g : b.grownBy c row) : a.grownBy c row :=
 ⟨g.os.trans h.os, g.tape.trans h.tape, g.output.trans h.output, Nat.le_trans h.size g.size, fun k hk hr => (g.block k (Nat.lt_of_lt_of_le hk h.size) hr).trans (h.block k hk hr)⟩
theorem Qt.grown {w w' : World} (h : Qt w w') (row : Option Nat) : w.grownBy w' row := by
 obtain ⟨k, rfl⟩ := h; exact ⟨rfl, rfl, rfl, Nat.le_refl _, fun _ _ _ => rfl⟩
theorem Below.grownAny {w w' : World} (h : Below w.heap.size w w') (row : Option Nat) : w.grownBy w' row :=
 ⟨h.os, h.tape, h.output, h.size, fun k hk _ => h.block k hk⟩
theorem grown_setCell (w : World) (rb o : Nat) (u : Value) : w.grownBy (w.setCell ⟨rb, o, none⟩ u) (some rb) :=
 ⟨rfl, rfl, rfl, by simp, fun k _ hk => heap_setCell_other w ⟨rb, o, none⟩ k u (fun e => hk (by simp [e]))⟩
theorem heap_lt {w : World} {k : Nat} {o : Obj} (h : w.heap[k]? = some o) : k < w.heap.size := by
 by_cases hb : k < w.heap.size
 ·exact hb
 ·rw [Array.getElem?_eq_none (by omega)] at h; simp at h
theorem box_below (w : World) (o : Obj) : Below w.heap.size w (w.alloc o) := (Below.refl _ _).alloc (Nat.le_refl _) _
theorem below_block {w w1 w2 : World} {rb : Nat} (hb : Below w.heap.size w w1) (hg : w1.grownBy w2 (some rb)) (hr : w.heap.size ≤ rb) : Below w.heap.size w w2 :=
 hb.grown hg hb.size (fun k hk => by simp at hk; omega)
theorem sl_lit (w : World) (m : List UInt8) (t : TypeId) (hm : m.length ≤ maxLen) (cs : Array Value) (hcs : cs = (bvals m).toArray) : Sl (w.alloc (.cells cs t)) (.slice (some ⟨w.heap.size, 0, none⟩) m.length m.length) m := by
 subst hcs
 refine ⟨_, _, rfl, fun e => by simp at e, Nat.le_refl _, hm, fun i hi => ⟨_, _, rfl, ?_⟩⟩
 have : (w.alloc (.cells (bvals m).toArray t)).heap[w.heap.size]? = some (.cells (bvals m).toArray t (0, 0)) := heap_alloc_new _ _
 simp only [World.cell?, this, Nat.zero_add]
 simpa using bvals_get hi
theorem sl_lit_mark (w : World) (m : List UInt8) (t : TypeId) (fr : Nat × Nat) (hm : m.length ≤ maxLen) (cs : Array Value) (hcs : cs = (bvals m).toArray) : Sl (w.alloc (.cells cs t fr)) (.slice (some ⟨w.heap.size, 0, none⟩) m.length m.length) m := by
 subst hcs
 refine ⟨_, _, rfl, fun e => by simp at e, Nat.le_refl _, hm, fun i hi => ⟨_, _, rfl, ?_⟩⟩
 rw [World.cell?_alloc_mark, Nat.zero_add]
 simpa using bvals_get hi
end Go.Proofs.YtnimildpcnmjeaaGreatDoor
namespace Go.Proofs.YtnimildpcnmjeaaGreatDoor
open Go.ChangeShapes Go.WideShapes Go.ChangeAt Go.RowKit
theorem i64_bounds {n : Int} (h : (Lit.int .i64 n).wf = true) : -9223372036854775808 ≤ n ∧ n ≤ 9223372036854775807 := by
 simpa [Lit.wf, IntKind.min, IntKind.max, IntKind.signed, IntKind.bits] using h
end Go.Proofs.YtnimildpcnmjeaaGreatDoor
namespace Go.Proofs.YtnimildpcnmjeaaGreatDoor
open Go.ChangeShapes Go.WideShapes Go.ChangeAt Go.RowKit Go.Deep
def At (w : World) (ao : Option Addr) (vs : List Value) : Prop :=
 ∀ i (h : i < vs.length), ∃ b off, ao = some ⟨b, off, none⟩ ∧ w.cell? ⟨b, off + i, none⟩ = some vs[i]
def Row (w : World) (v : Value) (vs : List Value) : Prop :=
 ∃ ao cap, v = .slice ao vs.length cap ∧ (ao = none → vs = [] ∧ cap = 0) ∧ vs.length ≤ cap ∧ cap ≤ maxLen ∧ At w ao vs
theorem Row.nil (w : World) : Row w (.slice none 0 0) [] := ⟨none, 0, rfl, fun _ => ⟨rfl, rfl⟩, Nat.le_refl _, Nat.zero_le _, fun i hi => by simp at hi⟩
theorem Below.row {w w' : World} (h : Below w.heap.size w w') {v : Value} {vs : List Value} (g : Row w v vs) : Row w' v vs := by
 obtain ⟨ao, cap, h1, h2, h3, h4, h5⟩ := g
 refine ⟨ao, cap, h1, h2, h3, h4, fun i hi => ?_⟩
 obtain ⟨b, off, e, hc⟩ := h5 i hi
 exact ⟨b, off, e, by rw [h.cell (p := ⟨b, off + i, none⟩) (lt_of_cell hc)]; exact hc⟩
def Sls (w : World) (vs : List Value) (ls : List (List UInt8)) : Prop := vs.length = ls.length ∧ ∀ i (h : i < vs.length) (h' : i < ls.length), Sl w vs[i] ls[i]
theorem Below.sls {w w' : World} (h : Below w.heap.size w w') {vs : List Value} {ls : List (List UInt8)} (g : Sls w vs ls) : Sls w' vs ls :=
 ⟨g.1, fun i h1 h2 => Below.sl h (g.2 i h1 h2)⟩
theorem open_nums {H : Type} {enc : TypeId × Value → H} {w : World} {base : Nat} {spare : Nat → Bool} {held : Bool} {fuel t e : Nat} {k : IntKind} {v : Value} {x : DataW H × List MemPlace}
    (ht : Tryz.prog.underlying t = some (.slice e)) (he : Tryz.prog.underlying e = some (.int k)) (hc : Tryz.prog.cellsOf e = 1) (h : DataW.trod enc Tryz.prog w base spare held fuel t [v] = some x) :
    ∃ l : List Int, Row w v (l.map (Value.int k)) ∧ (∀ n ∈ l, (Lit.int k n).wf = true) ∧ ((x.1 = .nil ∧ l = []) ∨ ∃ elems sp, x.1 = .slice elems sp ∧ elems.length = l.length) := by
 rcases open_ints ht he hc h with ⟨hcs, hx⟩ | ⟨a, len, cap, zs, hcs, _, hl, hm, hz, hx, hcell, hwz⟩
 ·simp at hcs
  subst hcs hx
  exact ⟨[], Row.nil _, fun n hn => by simp at hn, .inl ⟨rfl, rfl⟩⟩
 ·simp at hcs
  subst hcs hx
  have hzl : len ≤ zs.length := by split at hz <;> omega
  have hlen : ((zs.take len).map (Value.int k)).length = len := by simp; omega
  refine ⟨zs.take len, ⟨some a, cap, by rw [hlen], fun e => by simp at e, by omega, hm, ?_⟩, fun n hn => hwz n (List.mem_of_mem_take hn), .inr ⟨_, _, rfl, by simp [lits]⟩⟩
  intro i hi
  rw [hlen] at hi
  obtain ⟨b, off, rfl, hc⟩ := ints_at hcell (by omega)
  refine ⟨b, off, rfl, ?_⟩
  have hi2 : i < zs.length := by omega
  rw [hc i hi2]
  simp [List.getD, hi2]
end Go.Proofs.YtnimildpcnmjeaaGreatDoor
namespace Go.Proofs.YtnimildpcnmjeaaGreatDoor.Dk
open Go.RowKit Go.Maps
abbrev Dr := List (List UInt8 × Nat)
def ptrR : Value → Option (DataW Unit × List MemPlace)
 | .pointer (some ⟨b, 0, none⟩) => some (.lit (.int .i64 (b : Int)), [])
 | .pointer none => some (.nil, [])
 | _ => none
theorem ptrR_some (b : Nat) : ptrR (.pointer (some ⟨b, 0, none⟩)) = some (.lit (.int .i64 (b : Int)), []) := rfl
theorem ptrR_none : ptrR (.pointer none) = some (.nil, []) := rfl
theorem ptrR_inv {v : Value} {b : Nat} {ps : List MemPlace} (h : ptrR v = some (.lit (.int .i64 (b : Int)), ps)) : v = .pointer (some ⟨b, 0, none⟩) := by
 unfold ptrR at h
 split at h
 ·simp only [Option.some.injEq, Prod.mk.injEq, DataW.lit.injEq, Lit.int.injEq, true_and] at h
  have := h.1
  have e : _ = b := Int.ofNat_inj.1 this
  rw [e]
 ·simp at h
 ·simp at h
theorem ptrR_inv_nil {v : Value} {ps : List MemPlace} (h : ptrR v = some (.nil, ps)) : v = .pointer none := by
 unfold ptrR at h
 split at h
 ·simp at h
 ·rfl
 ·simp at h
def dent (p : List UInt8 × Nat) : Lit × DataW Unit := (.string p.1, .lit (.int .i64 (p.2 : Int)))
def dirD (l : Dr) : DataW Unit := .map (l.map dent)
def get (l : Dr) (n : List UInt8) : Option Nat := (l.find? fun p => p.1 == n).map (·.2)
def dins (x : List UInt8 × Nat) : Dr → Dr
 | [] => [x]
 | y :: r => if bytesBefore x.1 y.1 then x :: y :: r else y :: dins x r
def ddel (l : Dr) (n : List UInt8) : Dr := l.filter fun p => !(p.1 == n)
def dput (l : Dr) (n : List UInt8) (b : Nat) : Dr := dins (n, b) (ddel l n)
theorem insert_dent (x : List UInt8 × Nat) : ∀ l : Dr, DataW.insert (dent x) (l.map dent) = (dins x l).map dent := by
 intro l
 induction l with
 | nil => rfl
 | cons y r ih =>
  simp only [List.map_cons, DataW.insert, dins]
  have e : (dent x).1.before (dent y).1 = bytesBefore x.1 y.1 := rfl
  rw [e]
  split
  ·rfl
  ·rw [ih]; rfl
theorem filter_dent (l : Dr) (n : List UInt8) : (l.map dent).filter (fun p => !p.1.sameKey (.string n)) = (ddel l n).map dent := by
 unfold ddel
 rw [List.filter_map]
 rfl
theorem dirD_del (l : Dr) (n : List UInt8) : (dirD l).del (.string n) = dirD (ddel l n) := by
 show DataW.map _ = DataW.map _
 rw [filter_dent]
theorem dirD_put (l : Dr) (n : List UInt8) (b : Nat) : (dirD l).put (.string n) (.lit (.int .i64 (b : Int))) = dirD (dput l n b) := by
 show DataW.map _ = DataW.map _
 rw [filter_dent]
 exact congrArg DataW.map (insert_dent (n, b) (ddel l n))
theorem find_dent (l : Dr) (n : List UInt8) : (l.map dent).find? (fun p => p.1.sameKey (.string n)) = (l.find? fun p => p.1 == n).map dent := by
 rw [List.find?_map]
 rfl
theorem dirD_at_some {l : Dr} {n : List UInt8} {b : Nat} (h : get l n = some b) : (dirD l).atKey (.string n) .nil = .lit (.int .i64 (b : Int)) := by
 unfold get at h
 unfold dirD DataW.atKey
 simp only []
 rw [find_dent]
 cases hf : l.find? fun p => p.1 == n with
 | none => rw [hf] at h; simp at h
 | some p => rw [hf] at h; simp at h; subst h; rfl
theorem dirD_at_none {l : Dr} {n : List UInt8} (h : get l n = none) : (dirD l).atKey (.string n) .nil = .nil := by
 unfold get at h
 unfold dirD DataW.atKey
 simp only []
 rw [find_dent]
 cases hf : l.find? fun p => p.1 == n with
 | none => rfl
 | some p => rw [hf] at h; simp at h
theorem dirD_has (l : Dr) (n : List UInt8) : Maps.has (dirD l) (.string n) = (get l n).isSome := by
 unfold get
 show (l.map dent).any (fun p => p.1.sameKey (.string n)) = _
 rw [List.any_map]
 induction l with
 | nil => rfl
 | cons y r ih =>
  simp only [List.any_cons, List.find?_cons]
  have e : ((fun p : Lit × DataW Unit => p.1.sameKey (.string n)) ∘ dent) y = (y.1 == n) := rfl
  rw [e]
  cases hy : (y.1 == n)
  ·simp only [Bool.false_or]; exact ih
  ·rfl
theorem dirD_size (l : Dr) : Maps.size (dirD l) = l.length := by simp [Maps.size, dirD]
end Go.Proofs.YtnimildpcnmjeaaGreatDoor.Dk
namespace Go.Proofs.YtnimildpcnmjeaaGreatDoor
open Go.RowKit
structure But (X : Nat → Prop) (W W' : World) : Prop where
 os : W'.os = W.os
 tape : W'.tape = W.tape
 output : W'.output = W.output
 size : W.heap.size ≤ W'.heap.size
 block : ∀ k, k < W.heap.size → ¬ X k → W'.heap[k]? = W.heap[k]?
theorem But.refl (X : Nat → Prop) (W : World) : But X W W := ⟨rfl, rfl, rfl, Nat.le_refl _, fun _ _ _ => rfl⟩
theorem But.trans {X : Nat → Prop} {A B C : World} (h : But X A B) (k : But X B C) : But X A C :=
 ⟨k.os.trans h.os, k.tape.trans h.tape, k.output.trans h.output, Nat.le_trans h.size k.size, fun i hi hx => (k.block i (Nat.lt_of_lt_of_le hi h.size) hx).trans (h.block i hi hx)⟩
theorem But.mono {X Y : Nat → Prop} {A B : World} (h : But X A B) (hs : ∀ k, k < A.heap.size → X k → Y k) : But Y A B :=
 ⟨h.os, h.tape, h.output, h.size, fun k hk hy => h.block k hk (fun hx => hy (hs k hk hx))⟩
theorem But.below {X : Nat → Prop} {A B : World} {n : Nat} (h : But X A B) (hn : n ≤ A.heap.size) (hX : ∀ k, X k → n ≤ k) : Below n A B :=
 ⟨h.os, h.tape, h.output, h.size, fun k hk => h.block k (Nat.lt_of_lt_of_le hk hn) (fun hx => Nat.lt_irrefl _ (Nat.lt_of_lt_of_le hk (hX k hx)))⟩
theorem But.of_below {A B : World} (h : Below A.heap.size A B) (X : Nat → Prop) : But X A B := ⟨h.os, h.tape, h.output, h.size, fun k hk _ => h.block k hk⟩
theorem But.of_grownBy {A B : World} {row : Option Nat} (h : A.grownBy B row) {X : Nat → Prop} (hX : ∀ k, row = some k → X k) : But X A B :=
 ⟨h.os, h.tape, h.output, h.size, fun k hk hx => h.block k hk (fun e => hx (hX k e.symm))⟩
theorem But.at {X : Nat → Prop} {A B : World} (h : But X A B) {k : Nat} {o : Obj} (hk : A.heap[k]? = some o) (hx : ¬ X k) : B.heap[k]? = some o :=
 (h.block k (Array.getElem?_eq_some_iff.1 hk).1 hx).trans hk
end Go.Proofs.YtnimildpcnmjeaaGreatDoor
namespace Go.Proofs.YtnimildpcnmjeaaGreatDoor.Nm
def plc (c : UInt8) : Bool := (decide (97 ≤ (c.toNat : Int)) && decide ((c.toNat : Int) ≤ 122)) || (decide (48 ≤ (c.toNat : Int)) && decide ((c.toNat : Int) ≤ 57))
def okc (c : UInt8) : Bool := plc c || ((c.toNat : Int) == 46) || ((c.toNat : Int) == 45)
def may (l : List UInt8) : Bool := decide (1 ≤ l.length) && decide (l.length ≤ 64) && l.all okc && plc (l.getD 0 0) && plc (l.getD (l.length - 1) 0)
def hd (d : Nat) : UInt8 := UInt8.ofNat (if d < 10 then 48 + d else 87 + d)
def hexk : Nat → Nat → List UInt8
 | 0, _ => []
 | k + 1, n => hexk k (n / 16) ++ [hd (n % 16)]
def dgv (c : UInt8) : Option Nat := if 48 ≤ c.toNat ∧ c.toNat ≤ 57 then some (c.toNat - 48) else if 97 ≤ c.toNat ∧ c.toNat ≤ 102 then some (c.toNat - 87) else none
def rdp (l : List UInt8) : Option Nat := l.foldl (fun a c => a.bind fun n => (dgv c).map fun d => n * 16 + d) (some 0)
theorem rdp_snoc (l : List UInt8) (c : UInt8) : rdp (l ++ [c]) = (rdp l).bind fun n => (dgv c).map fun d => n * 16 + d := by
 unfold rdp; rw [List.foldl_append]; rfl
theorem hd_nat {d : Nat} (h : d < 16) : (hd d).toNat = if d < 10 then 48 + d else 87 + d := by
 unfold hd
 rw [UInt8.toNat_ofNat_of_lt']
 show _ < 256
 split <;> omega
theorem dgv_hd {d : Nat} (h : d < 16) : dgv (hd d) = some d := by
 unfold dgv
 rw [hd_nat h]
 by_cases h1 : d < 10
 ·simp only [h1, if_true]
  rw [if_pos (by omega)]
  congr 1
  omega
 ·simp only [h1, if_false]
  rw [if_neg (by omega), if_pos (by omega)]
  congr 1
  omega
theorem hexk_len (k n : Nat) : (hexk k n).length = k := by
 induction k generalizing n with
 | zero => rfl
 | succ k ih => simp [hexk, ih]
theorem rdp_hexk (k n : Nat) : rdp (hexk k n) = some (n % 16 ^ k) := by
 induction k generalizing n with
 | zero => simp [hexk, rdp, Nat.mod_one]
 | succ k ih =>
  rw [hexk, rdp_snoc, ih, dgv_hd (Nat.mod_lt _ (by omega))]
  simp only [Option.bind_some, Option.map_some]
  congr 1
  rw [Nat.pow_succ, Nat.mul_comm (16 ^ k) 16, Nat.mod_mul]
  omega
def segL (n : Nat) : List UInt8 := [115, 101, 103, 45] ++ hexk 16 n ++ [46, 108, 111, 103]
def numB (l : List UInt8) : Nat :=
 if l.length = 24 ∧ l.take 4 = [115, 101, 103, 45] ∧ l.drop 20 = [46, 108, 111, 103] then
  match rdp ((l.drop 4).take 16) with
  | some n => if n < 9223372036854775808 then n else 0
  | none => 0
 else 0
theorem segL_len (n : Nat) : (segL n).length = 24 := by simp [segL, hexk_len]
theorem segL_mid (n : Nat) : ((segL n).drop 4).take 16 = hexk 16 n := by
 unfold segL
 rw [List.append_assoc, List.drop_append_of_le_length (by simp)]
 simp only [List.drop_succ_cons, List.drop_zero, List.nil_append]
 rw [List.take_append_of_le_length (by rw [hexk_len]; omega), List.take_of_length_le (by rw [hexk_len]; omega)]
theorem numB_seg {n : Nat} (h : n < 9223372036854775808) : numB (segL n) = n := by
 unfold numB
 have hd4 : (segL n).take 4 = [115, 101, 103, 45] := by simp [segL]
 have hd20 : (segL n).drop 20 = [46, 108, 111, 103] := by
  unfold segL
  rw [List.drop_append, List.drop_of_length_le (by simp [hexk_len])]
  simp [hexk_len]
 rw [if_pos ⟨segL_len n, hd4, hd20⟩, segL_mid, rdp_hexk]
 simp only
 rw [Nat.mod_eq_of_lt (by omega), if_pos h]
theorem segL_inj {a b : Nat} (ha : a < 9223372036854775808) (hb : b < 9223372036854775808) (h : segL a = segL b) : a = b := by
 rw [← numB_seg ha, h, numB_seg hb]
theorem hd_plc {d : Nat} (h : d < 16) : plc (hd d) = true := by
 unfold plc
 rw [hd_nat h]
 split <;> simp <;> omega
theorem hexk_plc (k n : Nat) : ∀ c ∈ hexk k n, plc c = true := by
 induction k generalizing n with
 | zero => simp [hexk]
 | succ k ih =>
  intro c hc
  rw [hexk, List.mem_append] at hc
  rcases hc with hc | hc
  ·exact ih _ c hc
  ·rw [List.mem_singleton] at hc
   rw [hc]
   exact hd_plc (Nat.mod_lt _ (by omega))
theorem may_seg (n : Nat) : may (segL n) = true := by
 unfold may
 have h1 : (segL n).all okc = true := by
  rw [List.all_eq_true]
  intro c hc
  unfold segL at hc
  simp only [List.mem_append] at hc
  rcases hc with (hc | hc) | hc
  ·simp only [List.mem_cons, List.not_mem_nil, or_false] at hc
   rcases hc with rfl | rfl | rfl | rfl <;> decide
  ·unfold okc; rw [hexk_plc _ _ c hc]; rfl
  ·simp only [List.mem_cons, List.not_mem_nil, or_false] at hc
   rcases hc with rfl | rfl | rfl | rfl <;> decide
 have h2 : (segL n).getD 0 0 = 115 := by simp [segL]
 have h3 : (segL n).getD 23 0 = 103 := by
  unfold segL
  rw [List.getD_eq_getElem?_getD, List.getElem?_append_right (by simp [hexk_len])]
  simp [hexk_len]
 rw [h1, segL_len, h2, h3]
 decide
def digs (n : Nat) : List UInt8 := if h : n < 16 then [hd n] else digs (n / 16) ++ [hd (n % 16)]
termination_by n
decreasing_by omega
theorem digs_small {n : Nat} (h : n < 16) : digs n = [hd n] := by rw [digs, dif_pos h]
theorem digs_more {n : Nat} (h : ¬ n < 16) : digs n = digs (n / 16) ++ [hd (n % 16)] := by rw [digs, dif_neg h]
theorem hexk_zero (k : Nat) : hexk k 0 = List.replicate k 48 := by
 induction k with
 | zero => rfl
 | succ k ih => rw [hexk, Nat.zero_div, ih, Nat.zero_mod, List.replicate_succ']; rfl
theorem digs_hexk (k : Nat) : ∀ n, n < 16 ^ (k + 1) → (digs n).length ≤ k + 1 ∧ List.replicate (k + 1 - (digs n).length) 48 ++ digs n = hexk (k + 1) n := by
 induction k with
 | zero =>
  intro n hn
  have hn' : n < 16 := by simpa using hn
  rw [digs_small hn']
  refine ⟨by simp, ?_⟩
  simp [hexk, Nat.mod_eq_of_lt hn']
 | succ k ih =>
  intro n hn
  by_cases h : n < 16
  ·rw [digs_small h]
   refine ⟨by simp, ?_⟩
   rw [hexk, Nat.div_eq_of_lt h, Nat.mod_eq_of_lt h, hexk_zero]
   simp
  ·rw [digs_more h]
   obtain ⟨h1, h2⟩ := ih (n / 16) (by rw [Nat.pow_succ] at hn; exact Nat.div_lt_of_lt_mul (by rw [Nat.mul_comm]; exact hn))
   refine ⟨by simp; omega, ?_⟩
   rw [hexk, ← h2]
   simp only [List.length_append, List.length_cons, List.length_nil, ← List.append_assoc]
   congr 2
   congr 1
   omega
theorem digs_seg {n : Nat} (h : n < 9223372036854775808) : (digs n).length ≤ 16 ∧ [115, 101, 103, 45] ++ List.replicate (16 - (digs n).length) 48 ++ digs n ++ [46, 108, 111, 103] = segL n := by
 obtain ⟨h1, h2⟩ := digs_hexk 15 n (by omega)
 refine ⟨h1, ?_⟩
 rw [segL, ← h2]
 simp
theorem digs_pos (n : Nat) : 1 ≤ (digs n).length := by
 by_cases h : n < 16
 ·rw [digs_small h]; simp
 ·rw [digs_more h]; simp
end Go.Proofs.YtnimildpcnmjeaaGreatDoor.Nm
namespace Go.Proofs.YtnimildpcnmjeaaGreatDoor.Nm
open Go.RowKit
set_option maxRecDepth 100000
theorem hide {p : Prop} (h : p) : Hid p := h
theorem plain_any (c : UInt8) (w : World) : Calls Tryz.prog 146 #[.int .u8 (c.toNat : Int)] w fun e w' => e = .returned (.bool (plc c)) ∧ w' = w := by
 by_cases h1 : 97 ≤ (c.toNat : Int) <;> by_cases h2 : (c.toNat : Int) ≤ 122 <;> by_cases h3 : 48 ≤ (c.toNat : Int) <;> by_cases h4 : (c.toNat : Int) ≤ 57
 all_goals
  go_enter Tryz.func146, Tryz.ntmps146
  go_wp2
  go_ret
  exact ⟨ret_bool (by simp [plc, h1, h2, h3, h4]), rfl⟩
theorem all_snoc (s : ByteArray) (k : Nat) (h : k < s.size) (ha : (s.data.toList.take k).all okc = true) (hc : okc s[k] = true) : (s.data.toList.take (k + 1)).all okc = true := by
 rw [List.take_succ_eq_append_getElem (by simpa using h), List.all_append, ha]
 simp only [Bool.true_and, List.all_cons, List.all_nil, Bool.and_true]
 exact hc
theorem all_not (s : ByteArray) (k : Nat) (h : k < s.size) (hc : okc s[k] = false) : may s.data.toList = false := by
 have : s.data.toList.all okc = false := by
  rw [List.all_eq_false]
  exact ⟨s[k], by simp [ByteArray.getElem_eq_getElem_data], by simp [hc]⟩
 unfold may
 rw [this]
 simp
theorem get0 (s : ByteArray) (h : 0 < s.size) : s.data.toList.getD 0 0 = s[0] := by
 rw [List.getD_eq_getElem?_getD, List.getElem?_eq_getElem (by simpa using h)]
 rfl
theorem getE (s : ByteArray) (h : 0 < s.size) : s.data.toList.getD (s.data.toList.length - 1) 0 = s[s.size - 1] := by
 rw [List.getD_eq_getElem?_getD, List.getElem?_eq_getElem (by simp; omega)]
 rfl
theorem may_all (s : ByteArray) (h1 : 0 < s.size) (h2 : s.size ≤ 64) (ha : s.data.toList.all okc = true) : may s.data.toList = (plc s[0] && plc (s[s.size - 1])) := by
 unfold may
 rw [ha, get0 s h1, getE s h1]
 have e : s.data.toList.length = s.size := by simp
 rw [e]
 simp [show 1 ≤ s.size by omega, h2]
theorem may_size (s : ByteArray) (h : s.size < 1 ∨ 64 < s.size) : may s.data.toList = false := by
 unfold may
 have e : s.data.toList.length = s.size := by simp
 rw [e]
 rcases h with h | h
 ·simp [show ¬ 1 ≤ s.size by omega]
 ·simp [show ¬ s.size ≤ 64 by omega]
theorem may_any (s : ByteArray) (w : World) (hs : s.size ≤ maxLen) : Calls Tryz.prog 100 #[.string s] w fun e w' => e = .returned (.bool (may s.data.toList)) ∧ w' = w := by
 unfold maxLen at hs
 by_cases h0 : s.size < 1
 ·have i0 : (s.size : Int) < 1 := by omega
  go_enter Tryz.func100, Tryz.ntmps100
  go_wp2
  go_ret
  exact ⟨ret_bool (may_size s (.inl h0)).symm, rfl⟩
 by_cases h1 : 64 < s.size
 ·have i0 : ¬ (s.size : Int) < 1 := by omega
  have i1 : (s.size : Int) > 64 := by omega
  go_enter Tryz.func100, Tryz.ntmps100
  go_wp2
  go_ret
  exact ⟨ret_bool (may_size s (.inr h1)).symm, rfl⟩
 have i0 : ¬ (s.size : Int) < 1 := by omega
 have i1 : ¬ (s.size : Int) > 64 := by omega
 go_enter Tryz.func100, Tryz.ntmps100
 go_wp2
 go_loop [14] (fun i => ∃ k : Nat, k ≤ s.size ∧ i = .int .i64 k ∧ Hid ((s.data.toList.take k).all okc = true)) (fun i => s.size - (intOf i).toNat)
 case atStart => exact ⟨0, Nat.zero_le _, rfl, rfl⟩
 case round =>
  obtain ⟨k, hk, rfl, ha⟩ := hrel
  by_cases hlt : k < s.size
  ·by_cases hp : plc s[k] = true
   ·go_wp2_with (go_at_call 146; refine (plain_any _ _).mono ?_; rintro e w' ⟨rfl, rfl⟩)
    go_round
    case rel => exact ⟨k + 1, by omega, by go_num, all_snoc s k hlt ha.out (by simp [okc, hp])⟩
    case measure => simp [intOf]; omega
   ·replace hp : plc s[k] = false := by simpa using hp
    by_cases hd1 : (s[k].toNat : Int) = 46
    ·have hd1' : ((s[k].toNat : Int) != 46) = false := by simp [hd1]
     have hok : Hid (okc s[k] = true) := by show _ = _; simp [okc, hd1]
     clear hd1
     go_wp2_with (go_at_call 146; refine (plain_any _ _).mono ?_; rintro e w' ⟨rfl, rfl⟩)
     go_round
     case rel => exact ⟨k + 1, by omega, by go_num, all_snoc s k hlt ha.out hok.out⟩
     case measure => simp [intOf]; omega
    ·have hd1' : ((s[k].toNat : Int) != 46) = true := by simpa using hd1
     by_cases hd2 : (s[k].toNat : Int) = 45
     ·have hd2' : ((s[k].toNat : Int) != 45) = false := by simp [hd2]
      have hok : Hid (okc s[k] = true) := by show _ = _; simp [okc, hd2]
      clear hd2 hd1
      go_wp2_with (go_at_call 146; refine (plain_any _ _).mono ?_; rintro e w' ⟨rfl, rfl⟩)
      go_round
      case rel => exact ⟨k + 1, by omega, by go_num, all_snoc s k hlt ha.out hok.out⟩
      case measure => simp [intOf]; omega
     ·have hd2' : ((s[k].toNat : Int) != 45) = true := by simpa using hd2
      have hok : Hid (okc s[k] = false) := by show _ = _; simp [okc, hd2, hd1, hp]
      clear hd2 hd1
      go_wp2_with (go_at_call 146; refine (plain_any _ _).mono ?_; rintro e w' ⟨rfl, rfl⟩)
      go_ret
      exact ⟨ret_bool (all_not s k hlt hok.out).symm, rfl⟩
  ·obtain rfl : k = s.size := by omega
   have hm := may_all s (by omega) (by omega) (by have := ha.out; rwa [List.take_of_length_le (by simp)] at this)
   have z0 : 0 < s.size := by omega
   cases hp0 : plc s[0] with
   | false =>
    have hm' : Hid (may s.data.toList = false) := by show _ = _; rw [hm, hp0]; rfl
    clear hm
    go_wp2_with (go_at_call 146; refine (plain_any _ _).mono ?_; rintro e w' ⟨rfl, rfl⟩)
    go_ret
    exact ⟨ret_bool (by first | exact hm'.out.symm | (rw [hm'.out])), rfl⟩
   | true =>
    have hm' : Hid (may s.data.toList = plc (s[s.size - 1])) := by show _ = _; rw [hm, hp0]; rfl
    clear hm
    go_wp2_with (go_at_call 146; refine (plain_any _ _).mono ?_; rintro e w' ⟨rfl, rfl⟩)
    go_ret
    exact ⟨ret_bool (by first | exact hm'.out.symm | (rw [hm'.out]; simp)), rfl⟩
end Go.Proofs.YtnimildpcnmjeaaGreatDoor.Nm
namespace Go.Proofs.YtnimildpcnmjeaaGreatDoor.Dk
open Go.RowKit Go.Maps
def TM : TypeId := 60
def TF : TypeId := 152
def TS : TypeId := 9
theorem keyS : Keyed Tryz.prog TS := string_keyed Tryz.underlying9
theorem undM : Tryz.prog.underlying TM = some (.map TS TF) := Tryz.underlying60
theorem zeroF (w : World) : (zeroValue TF).run Tryz.prog w = .ok (.pointer none) w := by kernel_rfl
theorem keyN {s : ByteArray} (hs : s.size ≤ maxLen) : keyOf Tryz.prog TS (.string s) = some (.string s.data.toList) 
    := WideMaps.keyOf_string_mk Tryz.underlying9 hs
def Mp (w : World) (b : Nat) (l : Dr) : Prop := w.ownsMap Tryz.prog TS ptrR b l.length (dirD l)
theorem Mp.of {w : World} {b n : Nat} {l : Dr} (h : w.ownsMap Tryz.prog TS ptrR b n (dirD l)) : Mp w b l := by
 obtain ⟨es, clock, hb, F, _, hD⟩ := h
 refine ⟨es, clock, hb, F, ?_, hD⟩
 have e1 : Maps.size (dirD l) = l.length := dirD_size l
 rw [hD] at e1
 have e2 := length_read (P := Tryz.prog) (k := TS) (R0 := ptrR) es
 simp only [Maps.size] at e1
 omega
theorem Mp.lt {w : World} {b : Nat} {l : Dr} (h : Mp w b l) : b < w.heap.size := World.ownsMap.lt h
theorem Mp.heap {w w' : World} {b : Nat} {l : Dr} (h : Mp w b l) (e : w'.heap[b]? = w.heap[b]?) : Mp w' b l := by
 obtain ⟨es, clock, hb, r⟩ := h
 exact ⟨es, clock, e.trans hb, r⟩
theorem Mp.look_some {w : World} {b p : Nat} {l : Dr} {s : ByteArray} (h : Mp w b l) (hs : s.size ≤ maxLen) (hg : get l s.data.toList = some p) : (Instr.lookup TM (.map (some b)) (.string s) true).run Tryz.prog w = .ok (.tuple #[.pointer (some ⟨p, 0, none⟩), .bool true]) w := by
 obtain ⟨v, ps, hrun, hv⟩ := h.look_ok keyS undM (zeroF w) ptrR_none (keyN hs)
 rw [dirD_at_some hg] at hv
 rw [hrun, ptrR_inv hv, dirD_has, hg]
 rfl
theorem Mp.look_none {w : World} {b : Nat} {l : Dr} {s : ByteArray} (h : Mp w b l) (hs : s.size ≤ maxLen) (hg : get l s.data.toList = none) : (Instr.lookup TM (.map (some b)) (.string s) true).run Tryz.prog w = .ok (.tuple #[.pointer none, .bool false]) w := by
 obtain ⟨v, ps, hrun, hv⟩ := h.look_ok keyS undM (zeroF w) ptrR_none (keyN hs)
 rw [dirD_at_none hg] at hv
 rw [hrun, ptrR_inv_nil hv, dirD_has, hg]
 rfl
theorem Mp.look {w : World} {b p : Nat} {l : Dr} {s : ByteArray} (h : Mp w b l) (hs : s.size ≤ maxLen) (hg : get l s.data.toList = some p) : (Instr.lookup TM (.map (some b)) (.string s) false).run Tryz.prog w = .ok (.pointer (some ⟨p, 0, none⟩)) w := by
 obtain ⟨v, ps, hrun, hv⟩ := World.ownsMap.lookup h keyS undM (zeroF w) ptrR_none (keyN hs)
 rw [dirD_at_some hg] at hv
 rw [hrun, ptrR_inv hv]
theorem Mp.len {w : World} {b : Nat} {l : Dr} (h : Mp w b l) (ty : TypeId) : (Builtin.len_ #[TM] ty #[.map (some b)]).run Tryz.prog w = .ok (.int .i64 (l.length : Int)) w := by
 have := World.ownsMap.len h undM ty
 rw [dirD_size] at this
 exact this
theorem Mp.store {w : World} {b p : Nat} {l : Dr} {s : ByteArray} (h : Mp w b l) (hs : s.size ≤ maxLen) (hl : l.length < maxLen) :
    ∃ w', (Instr.mapUpdate TM (.map (some b)) (.string s) (.pointer (some ⟨p, 0, none⟩))).run Tryz.prog w = .ok () w' ∧ Mp w' b (dput l s.data.toList p) ∧ w.mapTurned w' b := by
 obtain ⟨w', hrun, ho, ht⟩ := World.ownsMap.store h keyS undM hl (keyN hs) (ptrR_some p)
 rw [dirD_put] at ho
 exact ⟨w', hrun, Mp.of ho, ht⟩
theorem Mp.drop {w : World} {b : Nat} {l : Dr} {s : ByteArray} (h : Mp w b l) (hs : s.size ≤ maxLen) (ty : TypeId) :
    ∃ w', (Builtin.delete_ #[TM, TS] ty #[.map (some b), .string s]).run Tryz.prog w = .ok (.tuple #[]) w' ∧ Mp w' b (ddel l s.data.toList) ∧ w.mapTurned w' b := by
 obtain ⟨w', hrun, ho, ht⟩ := World.ownsMap.drop h keyS undM (keyN hs) ty
 rw [dirD_del] at ho
 exact ⟨w', hrun, Mp.of ho, ht⟩
theorem Mp.made (w : World) : Mp (w.alloc (.map #[] 0)) w.heap.size [] := Mp.of (l := []) (World.ownsMap_made w _ _ _)
structure Dc where
 most : Int
 up : Bool
 fm : Option Nat
 lm : Option Nat
 pd : Value
 am : Option Nat
 c0 : Int
 c1 : Int
 c2 : Int
 c3 : Int
 c4 : Int
 c5 : Int
 c6 : Int
 c7 : Int
 c8 : Int
def dcells (x : Dc) : Array Value := #[.int .i64 x.most, .bool x.up, .map x.fm, .map x.lm, x.pd, .map x.am, .int .i64 x.c0, .int .i64 x.c1, .int .i64 x.c2, .int .i64 x.c3, .int .i64 x.c4, .int .i64 x.c5, .int .i64 x.c6, .int .i64 x.c7, .int .i64 x.c8]
def TD : TypeId := 64
def Bx (w : World) (b : Nat) (x : Dc) : Prop := w.heap[b]? = some (.cells (dcells x) TD (0, 0))
def Dp (w : World) (v : Value) (x : Option Dc) : Prop :=
 (v = .pointer none ∧ x = none) ∨ ∃ b y, v = .pointer (some ⟨b, 0, none⟩) ∧ x = some y ∧ Bx w b y
def madeD (x : Option Dc) : Bool := match x with | none => false | some y => y.fm.isSome
def upD (x : Option Dc) : Bool := match x with | none => false | some y => y.fm.isSome && y.up
theorem Bx.cells {w : World} {b : Nat} {x : Dc} (h : Bx w b x) : w.cell? ⟨b, 0, none⟩ = some (.int .i64 x.most) ∧ w.cell? ⟨b, 1, none⟩ = some (.bool x.up) ∧ w.cell? ⟨b, 2, none⟩ = some (.map x.fm) ∧ w.cell? ⟨b, 3, none⟩ = some (.map x.lm) ∧ w.cell? ⟨b, 4, none⟩ = some x.pd ∧ w.cell? ⟨b, 5, none⟩ = some (.map x.am) := by
 have e := h
 unfold Bx at e
 simp [World.cell?, e, dcells]
theorem Bx.all {w : World} {b : Nat} {x : Dc} (h : Bx w b x) : w.cell? ⟨b, 13, none⟩ = some (.int .i64 x.c7) ∧ w.cell? ⟨b, 14, none⟩ = some (.int .i64 x.c8) := by
 have e := h
 unfold Bx at e
 simp [World.cell?, e, dcells]
theorem Bx.below {A B : World} {b : Nat} {x : Dc} (h : Bx A b x) (hb : Below A.heap.size A B) : Bx B b x := (hb.block b (heap_lt h)).trans h
theorem Dp.below {A B : World} {v : Value} {x : Option Dc} (h : Dp A v x) (hb : Below A.heap.size A B) : Dp B v x := by
 rcases h with h | ⟨b, y, h1, h2, h3⟩
 ·exact .inl h
 ·exact .inr ⟨b, y, h1, h2, h3.below hb⟩
theorem neqM (w : World) (r : Option Nat) : (binOp .neq 60 (.map r) (.map none)).run Tryz.prog w = .ok (.bool (!r.isNone)) w := run_neq_map_nil w _ _ _ r Tryz.underlying60
theorem made_any (w : World) (v : Value) (x : Option Dc) (h : Dp w v x) : Calls Tryz.prog 145 #[v] w fun e w' => e = .returned (.bool (madeD x)) ∧ w' = w := by
 have qT := neqM
 rcases h with ⟨rfl, rfl⟩ | ⟨b, y, rfl, rfl, hb⟩
 ·go_enter Tryz.func145, Tryz.ntmps145
  go_wp2_with fail
  go_ret
  exact ⟨rfl, rfl⟩
 ·have h2 := hb.cells.2.2.1
  clear hb
  obtain ⟨c0, c1, fm, c3, c4, c5, c6, c7, c8, c9, c10, c11, c12, c13, c14⟩ := y
  cases fm with
  | none =>
   dsimp only at h2
   go_enter Tryz.func145, Tryz.ntmps145
   go_wp2_with fail
   go_ret
   exact ⟨rfl, rfl⟩
  | some m =>
   dsimp only at h2
   go_enter Tryz.func145, Tryz.ntmps145
   go_wp2_with fail
   go_ret
   exact ⟨rfl, rfl⟩
theorem up_any (w : World) (v : Value) (x : Option Dc) (h : Dp w v x) : Calls Tryz.prog 99 #[v] w fun e w' => e = .returned (.bool (upD x)) ∧ w' = w := by
 have hm := made_any w v x h
 rcases h with ⟨rfl, rfl⟩ | ⟨b, y, rfl, rfl, hb⟩
 ·go_enter Tryz.func99, Tryz.ntmps99
  go_wp2_with (go_at_call 145; refine hm.mono ?_; rintro e w1 ⟨rfl, rfl⟩; simp only [madeD])
  go_ret
  exact ⟨rfl, rfl⟩
 ·have h2 := hb.cells.2.1
  clear hb
  obtain ⟨c0, c1, fm, c3, c4, c5, c6, c7, c8, c9, c10, c11, c12, c13, c14⟩ := y
  cases fm with
  | none =>
   dsimp only at h2
   go_enter Tryz.func99, Tryz.ntmps99
   go_wp2_with (go_at_call 145; refine hm.mono ?_; rintro e w1 ⟨rfl, rfl⟩; simp only [madeD, Option.isSome_none])
   go_ret
   exact ⟨rfl, rfl⟩
  | some m =>
   dsimp only at h2
   go_enter Tryz.func99, Tryz.ntmps99
   go_wp2_with (go_at_call 145; refine hm.mono ?_; rintro e w1 ⟨rfl, rfl⟩; simp only [madeD, Option.isSome_some])
   go_ret
   exact ⟨rfl, rfl⟩
end Go.Proofs.YtnimildpcnmjeaaGreatDoor.Dk
namespace Go.Proofs.YtnimildpcnmjeaaGreatDoor.Dk
open Go.RowKit Go.Maps Go.Proofs.YtnimildpcnmjeaaGreatDoor.Nm
def refF (x : Option Dc) (L : List ByteArray) : Int := if upD x then (if L.all (fun s => may s.data.toList) then 0 else 24) else 22
theorem all_take {L : List ByteArray} {k : Nat} (hk : k < L.length) (h : (L.take k).all (fun s => may s.data.toList) = true) (h2 : may L[k].data.toList = true) : (L.take (k + 1)).all (fun s => may s.data.toList) = true := by
 rw [List.take_succ_eq_append_getElem hk, List.all_append, h]
 simp [h2]
theorem all_no {L : List ByteArray} {k : Nat} (hk : k < L.length) (h2 : may L[k].data.toList = false) : L.all (fun s => may s.data.toList) = false := by
 cases h : L.all (fun s => may s.data.toList) with
 | false => rfl
 | true => rw [List.all_eq_true] at h; have := h _ (List.getElem_mem hk); rw [h2] at this; exact absurd this (by simp)
theorem refuse_any (w : World) (d v : Value) (x : Option Dc) (L : List ByteArray) (h : Dp w d x) (hv : Row w v (L.map Value.string)) (hl : ∀ s ∈ L, s.size ≤ maxLen) :
    Calls Tryz.prog 61 #[d, v] w fun e w' => e = .returned (.int .i64 (refF x L)) ∧ w' = w := by
 have hu := up_any w d x h
 obtain ⟨ao, cap, rfl, _, h1, h2, h3⟩ := hv
 rw [List.length_map] at *
 obtain ⟨N, hN⟩ : ∃ N, Hid (L.length = N) := ⟨_, rfl⟩
 rw [hN.out] at h1 ⊢
 have i9 : (N : Int) ≤ 9223372036854775807 := by unfold maxLen at h2; omega
 clear h
 cases hx : upD x with
 | false =>
  rw [hx] at hu
  have hE : Hid (refF x L = 22) := by show _ = _; simp [refF, hx]
  rw [hE.out]
  clear h3 hl hx hE
  go_enter Tryz.func61, Tryz.ntmps61
  go_wp2_with (go_at_call 99; refine hu.mono ?_; rintro e w1 ⟨rfl, e1⟩; subst w1)
  go_ret
  exact ⟨rfl, rfl⟩
 | true =>
  rw [hx] at hu
  obtain ⟨E, hG⟩ : ∃ E, refF x L = E := ⟨_, rfl⟩
  have hE : Hid (E = if L.all (fun s => may s.data.toList) then 0 else 24) := by show _ = _; rw [← hG]; simp [refF, hx]
  rw [hG]
  replace h3 := hide h3
  replace hl := hide hl
  clear hx h2 hG
  go_enter Tryz.func61, Tryz.ntmps61
  go_wp2_with (go_at_call 99; refine hu.mono ?_; rintro e w1 ⟨rfl, e1⟩; subst w1)
  go_loop [12] (fun i => ∃ k : Nat, k ≤ N ∧ i = .int .i64 k ∧ Hid ((L.take k).all (fun s => may s.data.toList) = true)) (fun i => N - (intOf i).toNat)
  case atStart => exact ⟨0, Nat.zero_le _, rfl, rfl⟩
  case round =>
   obtain ⟨k, hk, rfl, ha⟩ := hrel
   by_cases hlt : k < N
   ·have i1 : (k : Int) < (N : Int) := by omega
    have hkl : k < L.length := by rw [hN.out]; exact hlt
    obtain ⟨b, off, rfl, hc⟩ := h3.out k (by rw [List.length_map]; exact hkl)
    have hcell : w.cell? ⟨b, off + k, none⟩ = some (.string L[k]) := by rw [hc, List.getElem_map]
    have hm := may_any L[k] w (hl.out _ (List.getElem_mem hkl))
    have hA := hide (all_take hkl ha.out)
    have hB := hide (all_no hkl)
    clear hc h3
    generalize L[k] = s at *
    cases hmx : may s.data.toList with
    | true =>
     rw [hmx] at hm
     replace hA := hide (hA.out hmx)
     clear hB hmx
     go_wp2_with (go_at_call 100; refine hm.mono ?_; rintro e w' ⟨rfl, e1⟩; subst w')
     go_round
     case rel => exact ⟨k + 1, by omega, by go_num, hA.out⟩
     case measure => simp [intOf]; omega
    | false =>
     rw [hmx] at hm
     replace hB := hide (hB.out hmx)
     clear hA hmx
     go_wp2_with (go_at_call 100; refine hm.mono ?_; rintro e w' ⟨rfl, e1⟩; subst w')
     go_ret
     exact ⟨by rw [hE.out, hB.out]; rfl, rfl⟩
   ·have i1 : ¬ (k : Int) < (N : Int) := by omega
    have hA : Hid (L.all (fun s => may s.data.toList) = true) := by
     have := ha.out
     rwa [List.take_of_length_le (by rw [hN.out]; omega)] at this
    clear h3
    go_wp2_with fail
    go_ret
    exact ⟨by rw [hE.out, hA.out]; rfl, rfl⟩
def findF (x : Option Dc) (l : Dr) (s : ByteArray) : Value × Int :=
 if refF x [s] = 0 then (match get l s.data.toList with | some p => (.pointer (some ⟨p, 0, none⟩), 0) | none => (.pointer none, 6)) else (.pointer none, refF x [s])
theorem row1 (w : World) (s : ByteArray) (T : TypeId) (z : Nat × Nat) : Row (w.alloc (.cells #[.string s] T z)) (.slice (some ⟨w.heap.size, 0, none⟩) 1 1) ([s].map Value.string) := by
 refine ⟨_, 1, rfl, fun e => by simp at e, Nat.le_refl _, by decide, fun i hi => ?_⟩
 obtain rfl : i = 0 := by simp at hi; omega
 refine ⟨_, _, rfl, ?_⟩
 unfold World.cell?
 simp only [Nat.zero_add, heap_alloc_new]
 rfl
theorem row0 (w : World) : Row w (.slice none 0 0) (([] : List ByteArray).map Value.string) := Row.nil w
theorem find_any (w : World) (d : Value) (x : Option Dc) (l : Dr) (s : ByteArray) (h : Dp w d x) (hs : s.size ≤ maxLen) (hl : ∀ y m, x = some y → y.fm = some m → Mp w m l) :
    Calls Tryz.prog 89 #[d, .string s] w fun e w' => e = .returned (.tuple #[(findF x l s).1, .int .i64 (findF x l s).2]) ∧ Below w.heap.size w w' := by
 have hr := refuse_any (w.alloc (.cells #[.string s] 9)) d _ x [s] (h.below ((Below.refl _ w).alloc (Nat.le_refl _) _)) (row1 w s _ _) (by simpa using hs)
 have hB := hide ((Below.refl _ w).alloc (Nat.le_refl _) (.cells #[.string s] 9))
 by_cases h0 : refF x [s] = 0
 ·rw [h0] at hr
  rcases h with ⟨rfl, rfl⟩ | ⟨b, y, rfl, rfl, hb⟩
  ·exact absurd h0 (by simp [refF, upD])
  ·have h2 := hb.cells.2.2.1
   cases hf : y.fm with
   | none => exact absurd h0 (by simp [refF, upD, hf])
   | some m =>
    rw [hf] at h2
    have hm := hl y m rfl hf
    have hm2 : Mp (w.alloc (.cells #[.string s] 9)) m l := hm.heap (Below.heap_alloc _ _ _ hm.lt)
    have h3 : (w.alloc (.cells #[.string s] 9)).cell? ⟨b, 2, none⟩ = some (.map (some m)) := by rw [hB.out.cell (p := ⟨b, 2, none⟩) (lt_of_cell h2)]; exact h2
    obtain ⟨E, hE⟩ : ∃ E, Hid (findF (some y) l s = E) := ⟨_, rfl⟩
    rw [hE.out]
    cases hg : get l s.data.toList with
    | none =>
     have hK : Hid (E = (.pointer none, 6)) := by show _ = _; rw [← hE.out]; simp [findF, h0, hg]
     have hL := hm2.look_none hs hg
     unfold TM at hL
     clear hm hm2 hl hf hg h0 hb h2 hE
     go_enter Tryz.func89, Tryz.ntmps89
     go_wp2_with (go_at_call 61; refine hr.mono ?_; rintro e w1 ⟨rfl, e1⟩; subst w1)
     go_ret2
     exact ⟨by rw [hK.out]; rfl, hB.out⟩
    | some p =>
     have hK : Hid (E = (.pointer (some ⟨p, 0, none⟩), 0)) := by show _ = _; rw [← hE.out]; simp [findF, h0, hg]
     have hL := hm2.look_some hs hg
     unfold TM at hL
     clear hm hm2 hl hf hg h0 hb h2 hE
     go_enter Tryz.func89, Tryz.ntmps89
     go_wp2_with (go_at_call 61; refine hr.mono ?_; rintro e w1 ⟨rfl, e1⟩; subst w1)
     go_ret2
     exact ⟨by rw [hK.out]; rfl, hB.out⟩
 ·obtain ⟨E, hE⟩ : ∃ E, Hid (findF x l s = E) := ⟨_, rfl⟩
  obtain ⟨r, hR⟩ : ∃ r, refF x [s] = r := ⟨_, rfl⟩
  have hK : Hid (E = (.pointer none, r)) := by show _ = _; rw [← hE.out, ← hR]; simp [findF, h0]
  rw [hE.out]
  rw [hR] at hr h0
  have h0' : (r != 0) = true := by simpa using h0
  clear hE hl h hR h0
  go_enter Tryz.func89, Tryz.ntmps89
  go_wp2_with (go_at_call 61; refine hr.mono ?_; rintro e w1 ⟨rfl, e1⟩; subst w1)
  go_ret2
  exact ⟨by rw [hK.out]; rfl, hB.out⟩
end Go.Proofs.YtnimildpcnmjeaaGreatDoor.Dk
namespace Go.Proofs.YtnimildpcnmjeaaGreatDoor.Dk
open Go.RowKit Go.Maps
abbrev Ft := Int × Int × Int
def fv (f : Ft) : Value := .agg #[.int .i64 f.1, .int .i64 f.2.1, .int .i64 f.2.2]
def fd (f : Ft) : DataW Unit := .agg [.lit (.int .i64 f.1), .lit (.int .i64 f.2.1), .lit (.int .i64 f.2.2)]
def faultR : Value → Option (DataW Unit × List MemPlace)
 | .agg ⟨[.int .i64 a, .int .i64 k, .int .i64 p]⟩ => some (fd (a, k, p), [])
 | _ => none
theorem faultR_fv (f : Ft) : faultR (fv f) = some (fd f, []) := rfl
theorem faultR_inv {v : Value} {f : Ft} {ps : List MemPlace} (h : faultR v = some (fd f, ps)) : v = fv f := by
 unfold faultR at h
 split at h
 ·rename_i a k p
  simp [fd] at h
  obtain ⟨⟨h1, h2, h3⟩, _⟩ := h
  subst h1 h2 h3
  rfl
 ·simp at h
abbrev Ar := List (Int × Ft)
def aent (p : Int × Ft) : Lit × DataW Unit := (.int .i64 p.1, fd p.2)
def armD (l : Ar) : DataW Unit := .map (l.map aent)
def aget (l : Ar) (n : Int) : Option Ft := (l.find? fun p => p.1 == n).map (·.2)
def adel (l : Ar) (n : Int) : Ar := l.filter fun p => !(p.1 == n)
theorem same_aent (n : Int) (p : Int × Ft) : (aent p).1.sameKey (.int .i64 n) = (p.1 == n) := by
 unfold aent Lit.sameKey
 simp
 rfl
theorem filter_aent (l : Ar) (n : Int) : (l.map aent).filter (fun p => !p.1.sameKey (.int .i64 n)) = (adel l n).map aent := by
 unfold adel
 rw [List.filter_map]
 congr 1
 apply List.filter_congr
 intro p _
 simp only [Function.comp, same_aent]
theorem armD_del (l : Ar) (n : Int) : (armD l).del (.int .i64 n) = armD (adel l n) := by
 show DataW.map _ = DataW.map _
 rw [filter_aent]
theorem find_aent (l : Ar) (n : Int) : (l.map aent).find? (fun p => p.1.sameKey (.int .i64 n)) = (l.find? fun p => p.1 == n).map aent := by
 rw [List.find?_map]
 have : ((fun p : Lit × DataW Unit => p.1.sameKey (.int .i64 n)) ∘ aent) = fun p => p.1 == n := funext fun p => same_aent n p
 rw [this]
def zf : Ft := (0, 0, 0)
theorem armD_at (l : Ar) (n : Int) : (armD l).atKey (.int .i64 n) (fd zf) = fd ((aget l n).getD zf) := by
 unfold armD DataW.atKey aget
 simp only []
 rw [find_aent]
 cases l.find? fun p => p.1 == n with
 | none => rfl
 | some p => rfl
theorem armD_size (l : Ar) : Maps.size (armD l) = l.length := by simp [Maps.size, armD]
def TA : TypeId := 62
def TI : TypeId := 2
theorem keyI : Keyed Tryz.prog TI := int_keyed Tryz.underlying2
theorem undA : Tryz.prog.underlying TA = some (.map TI 126) := Tryz.underlying62
theorem zeroFt (w : World) : (zeroValue 126).run Tryz.prog w = .ok (fv zf) w := by kernel_rfl
theorem keyNum {n : Int} (h0 : -9223372036854775808 ≤ n) (h1 : n ≤ 9223372036854775807) : keyOf Tryz.prog TI (.int .i64 n) = some (.int .i64 n) :=
 keyOf_int_mk Tryz.underlying2 (by have e1 : IntKind.i64.min = -9223372036854775808 := rfl; have e2 : IntKind.i64.max = 9223372036854775807 := rfl; simp [Lit.wf, e1, e2]; omega)
def Am (w : World) (b : Nat) (l : Ar) : Prop := w.ownsMap Tryz.prog TI faultR b l.length (armD l)
theorem Am.of {w : World} {b n : Nat} {l : Ar} (h : w.ownsMap Tryz.prog TI faultR b n (armD l)) : Am w b l := by
 obtain ⟨es, clock, hb, F, _, hD⟩ := h
 refine ⟨es, clock, hb, F, ?_, hD⟩
 have e1 : Maps.size (armD l) = l.length := armD_size l
 rw [hD] at e1
 have e2 := length_read (P := Tryz.prog) (k := TI) (R0 := faultR) es
 simp only [Maps.size] at e1
 omega
theorem Am.lt {w : World} {b : Nat} {l : Ar} (h : Am w b l) : b < w.heap.size := World.ownsMap.lt h
theorem Am.heap {w w' : World} {b : Nat} {l : Ar} (h : Am w b l) (e : w'.heap[b]? = w.heap[b]?) : Am w' b l := by
 obtain ⟨es, clock, hb, r⟩ := h
 exact ⟨es, clock, e.trans hb, r⟩
theorem Am.look {w : World} {b : Nat} {l : Ar} {n : Int} (h : Am w b l) (h0 : -9223372036854775808 ≤ n) (h1 : n ≤ 9223372036854775807) : (Instr.lookup TA (.map (some b)) (.int .i64 n) false).run Tryz.prog w = .ok (fv ((aget l n).getD zf)) w := by
 obtain ⟨v, ps, hrun, hv⟩ := World.ownsMap.lookup h keyI undA (zeroFt w) (faultR_fv zf) (keyNum h0 h1)
 rw [armD_at] at hv
 rw [hrun, faultR_inv hv]
theorem look_nilA (w : World) {n : Int} (h0 : -9223372036854775808 ≤ n) (h1 : n ≤ 9223372036854775807) : (Instr.lookup TA (.map none) (.int .i64 n) false).run Tryz.prog w = .ok (fv zf) w :=
 Maps.look_nil false keyI undA (zeroFt w) (keyNum h0 h1)
theorem drop_nilA (w : World) {n : Int} (h0 : -9223372036854775808 ≤ n) (h1 : n ≤ 9223372036854775807) (ty : TypeId) : (Builtin.delete_ #[TA, TI] ty #[.map none, .int .i64 n]).run Tryz.prog w = .ok (.tuple #[]) w :=
 Maps.drop_nil keyI undA (keyNum h0 h1) ty
theorem Am.drop {w : World} {b : Nat} {l : Ar} {n : Int} (h : Am w b l) (h0 : -9223372036854775808 ≤ n) (h1 : n ≤ 9223372036854775807) (ty : TypeId) :
    ∃ w', (Builtin.delete_ #[TA, TI] ty #[.map (some b), .int .i64 n]).run Tryz.prog w = .ok (.tuple #[]) w' ∧ Am w' b (adel l n) ∧ w.mapTurned w' b := by
 obtain ⟨w', hrun, ho, ht⟩ := World.ownsMap.drop h keyI undA (keyNum h0 h1) ty
 rw [armD_del] at ho
 exact ⟨w', hrun, Am.of ho, ht⟩
theorem turned_but {w w' : World} {b : Nat} (h : w.mapTurned w' b) : But (fun k => k = b) w w' := But.of_grownBy h.grown fun k e => by cases e; rfl
end Go.Proofs.YtnimildpcnmjeaaGreatDoor.Dk
namespace Go.Proofs.YtnimildpcnmjeaaGreatDoor.Dk
open Go.RowKit Go.Maps Go.Proofs.YtnimildpcnmjeaaGreatDoor.Nm
structure Sb (w u : World) (b rb : Nat) (cs : Array Value) (am : Option Nat) (al : Ar) (f : Ft) : Prop where
 box : u.heap[b]? = some (.cells cs TD (0, 0))
 ans : u.heap[rb]? = some (.cells #[.int .i64 f.1, .int .i64 f.2.1, .int .i64 f.2.2] 126 (0, 0))
 arm : ∀ m, am = some m → Am u m al
 but : But (fun k => k = b ∨ am = some k) w u
 lo : w.heap.size ≤ rb
theorem Sb.ne {w u : World} {b rb : Nat} {cs : Array Value} {am : Option Nat} {al : Ar} {f : Ft} (h : Sb w u b rb cs am al f) : b ≠ rb := by
 intro e
 have h1 := h.box
 rw [e, h.ans] at h1
 simp [TD] at h1
theorem Am.setCell {u : World} {m : Nat} {al : Ar} (h : Am u m al) {b j : Nat} {v : Value} (hb : b ≠ m) : Am (u.setCell ⟨b, j, none⟩ v) m al := h.heap ((grown_setCell u b j v).block m h.lt (by simpa using fun e => hb e.symm))
theorem Am.ne {u : World} {m b : Nat} {al : Ar} {cs : Array Value} {T : TypeId} {z : Nat × Nat} (h : Am u m al) (hb : u.heap[b]? = some (.cells cs T z)) : b ≠ m := by
 rintro rfl
 obtain ⟨es, clock, h, _⟩ := h
 rw [hb] at h
 cases h
theorem Sb.set {w u : World} {b rb : Nat} {cs : Array Value} {am : Option Nat} {al : Ar} {f : Ft} (h : Sb w u b rb cs am al f) (j : Nat) (v : Value) : Sb w (u.setCell ⟨b, j, none⟩ v) b rb (cs.setIfInBounds j v) am al f := by
 have g := grown_setCell u b j v
 refine ⟨heap_setCell_same _ _ _ _ _ _ h.box, ?_, fun m e => ((h.arm m e)).setCell ((h.arm m e).ne h.box), h.but.trans (But.of_grownBy g fun k e => by cases e; exact .inl rfl), h.lo⟩
 rw [g.block rb (heap_lt h.ans) (by simpa using fun e => h.ne e.symm)]
 exact h.ans
theorem Sb.start {w : World} {b : Nat} {cs : Array Value} {am : Option Nat} {al : Ar} (hb : w.heap[b]? = some (.cells cs TD (0, 0))) (hm : ∀ m, am = some m → Am w m al) :
    Sb w (w.alloc (.cells #[.int .i64 0, .int .i64 0, .int .i64 0] 126)) b w.heap.size cs am al zf := by
 have hB := (Below.refl _ w).alloc (Nat.le_refl _) (.cells #[.int .i64 0, .int .i64 0, .int .i64 0] 126)
 exact ⟨(hB.block b (heap_lt hb)).trans hb, heap_alloc_new _ _, fun m e => (hm m e).heap (hB.block m (hm m e).lt), But.of_below hB _, Nat.le_refl _⟩
theorem Sb.more {w u u' : World} {b rb : Nat} {cs : Array Value} {am : Option Nat} {al : Ar} {f : Ft} (h : Sb w u b rb cs am al f) (hB : Below u.heap.size u u') : Sb w u' b rb cs am al f :=
 ⟨(hB.block b (heap_lt h.box)).trans h.box, (hB.block rb (heap_lt h.ans)).trans h.ans, fun m e => (h.arm m e).heap (hB.block m (h.arm m e).lt), h.but.trans (But.of_below hB _), h.lo⟩
theorem Sb.cell {w u : World} {b rb : Nat} {cs : Array Value} {am : Option Nat} {al : Ar} {f : Ft} (h : Sb w u b rb cs am al f) (i : Nat) : u.cell? ⟨b, i, none⟩ = cs[i]? := by simp [World.cell?, h.box]
theorem Sb.frozen {w u : World} {b rb : Nat} {cs : Array Value} {am : Option Nat} {al : Ar} {f : Ft} (h : Sb w u b rb cs am al f) (i : Nat) : u.frozen? ⟨b, i, none⟩ = false := by simp [World.frozen?, h.box]
theorem Sb.put {w u : World} {b rb : Nat} {cs : Array Value} {am : Option Nat} {al : Ar} {g : Ft} (h : Sb w u b rb cs am al g) (f : Ft) :
    Sb w (((u.setCell ⟨rb, 0, none⟩ (.int .i64 f.1)).setCell ⟨rb, 1, none⟩ (.int .i64 f.2.1)).setCell ⟨rb, 2, none⟩ (.int .i64 f.2.2)) b rb cs am al f := by
 have g0 := grown_setCell u rb 0 (.int .i64 f.1)
 have g1 := grown_setCell (u.setCell ⟨rb, 0, none⟩ (.int .i64 f.1)) rb 1 (.int .i64 f.2.1)
 have g2 := grown_setCell ((u.setCell ⟨rb, 0, none⟩ (.int .i64 f.1)).setCell ⟨rb, 1, none⟩ (.int .i64 f.2.1)) rb 2 (.int .i64 f.2.2)
 have B := ((But.of_grownBy (X := fun k => k = rb) g0 fun k e => by cases e; rfl).trans (But.of_grownBy g1 fun k e => by cases e; rfl)).trans (But.of_grownBy g2 fun k e => by cases e; rfl)
 have z0 := heap_setCell_same u rb 0 _ _ (.int .i64 f.1) h.ans
 have z1 := heap_setCell_same _ rb 1 _ _ (.int .i64 f.2.1) z0
 have z2 := heap_setCell_same _ rb 2 _ _ (.int .i64 f.2.2) z1
 refine ⟨B.at h.box h.ne, by simpa using z2, fun m e => (h.arm m e).heap (B.block m (h.arm m e).lt (fun q => (h.arm m e).ne h.ans q.symm)), ?_, h.lo⟩
 have lo := h.lo
 exact ⟨B.os.trans h.but.os, B.tape.trans h.but.tape, B.output.trans h.but.output, Nat.le_trans h.but.size B.size, fun k hk hx => (B.block k (Nat.lt_of_lt_of_le hk h.but.size) (by omega)).trans (h.but.block k hk hx)⟩
theorem cells3 {w : World} {b : Nat} {a0 a1 a2 : Value} {T : TypeId} {z : Nat × Nat} (h : w.heap[b]? = some (.cells #[a0, a1, a2] T z)) : w.cell? ⟨b, 0, none⟩ = some a0 ∧ w.cell? ⟨b, 1, none⟩ = some a1 ∧ w.cell? ⟨b, 2, none⟩ = some a2 := by simp [World.cell?, h]
theorem frozen3 {w : World} {b : Nat} {a0 a1 a2 : Value} {T : TypeId} (h : w.heap[b]? = some (.cells #[a0, a1, a2] T (0, 0))) : w.frozen? ⟨b, 0, none⟩ = false ∧ w.frozen? ⟨b, 1, none⟩ = false ∧ w.frozen? ⟨b, 2, none⟩ = false := by simp [World.frozen?, h]
theorem begin_gen (w : World) (b j : Nat) (cs : Array Value) (c a : Int) (am : Option Nat) (al : Ar) (hb : w.heap[b]? = some (.cells cs TD (0, 0))) (hz : cs.size = 15) (hj : j < 7)
    (h1 : cs[6 + j]? = some (.int .i64 c)) (h2 : cs[13]? = some (.int .i64 a)) (h3 : cs[5]? = some (.map am)) (hm : ∀ m, am = some m → Am w m al) (hn : am = none → al = [])
    (c0 : 0 ≤ c) (c1 : c < 4611686018427387904) (a0 : 0 ≤ a) (a1 : a < 4611686018427387904) :
    Calls Tryz.prog 64 #[.pointer (some ⟨b, 0, none⟩), .pointer (some ⟨b, 6 + j, none⟩)] w fun e w' => e = .returned (fv ((aget al (a + 1)).getD zf)) ∧
     w'.heap[b]? = some (.cells ((cs.setIfInBounds (6 + j) (.int .i64 (c + 1))).setIfInBounds 13 (.int .i64 (a + 1))) TD (0, 0)) ∧ (∀ m, am = some m → Am w' m (adel al (a + 1))) ∧ But (fun k => k = b ∨ am = some k) w w' := by
 obtain ⟨f, hf⟩ : ∃ f, Hid ((aget al (a + 1)).getD zf = f) := ⟨_, rfl⟩
 rw [hf.out]
 have S0 := hide (Sb.start (am := am) hb hm)
 obtain ⟨u0, hu0⟩ : ∃ u0, Hid (w.alloc (.cells #[.int .i64 0, .int .i64 0, .int .i64 0] 126) = u0) := ⟨_, rfl⟩
 rw [hu0.out] at S0
 have k1 : u0.cell? ⟨b, 6 + j, none⟩ = some (.int .i64 c) := (S0.out.cell _).trans h1
 have k2 := S0.out.frozen (6 + j)
 replace hm := hide hm
 replace hb := hide hb
 replace hn := hide hn
 clear h1
 go_enter Tryz.func64, Tryz.ntmps64
 go_upto_region 1 with fail
 rw [hu0.out]
 go_upto_region 2 with fail
 have S1 := hide (S0.out.set (6 + j) (.int .i64 (c + 1)))
 generalize u0.setCell ⟨b, 6 + j, none⟩ (.int .i64 (c + 1)) = u1 at *
 obtain ⟨cs1, hc1⟩ : ∃ cs1, Hid (cs.setIfInBounds (6 + j) (.int .i64 (c + 1)) = cs1) := ⟨_, rfl⟩
 rw [hc1.out] at S1
 have g2 : cs1[13]? = some (.int .i64 a) := by rw [← hc1.out, Array.getElem?_setIfInBounds_ne (by omega)]; exact h2
 have g3 : cs1[5]? = some (.map am) := by rw [← hc1.out, Array.getElem?_setIfInBounds_ne (by omega)]; exact h3
 have g4 : cs1.size = 15 := by rw [← hc1.out]; simpa using hz
 have l1 : u1.cell? ⟨b, 13, none⟩ = some (.int .i64 a) := (S1.out.cell _).trans g2
 have l2 := S1.out.frozen 13
 clear k1 k2 S0 hu0 h2 h3 hz
 go_upto_region 3 with fail
 have S2 := hide (S1.out.set 13 (.int .i64 (a + 1)))
 generalize u1.setCell ⟨b, 13, none⟩ (.int .i64 (a + 1)) = u2 at *
 obtain ⟨cs2, hc2⟩ : ∃ cs2, Hid (cs1.setIfInBounds 13 (.int .i64 (a + 1)) = cs2) := ⟨_, rfl⟩
 rw [hc2.out] at S2
 have g5 : cs2[13]? = some (.int .i64 (a + 1)) := by rw [← hc2.out, Array.getElem?_setIfInBounds_self_of_lt (by omega)]
 have g6 : cs2[5]? = some (.map am) := by rw [← hc2.out, Array.getElem?_setIfInBounds_ne (by omega)]; exact g3
 have m1 : u2.cell? ⟨b, 13, none⟩ = some (.int .i64 (a + 1)) := (S2.out.cell _).trans g5
 have m2 : u2.cell? ⟨b, 5, none⟩ = some (.map am) := (S2.out.cell _).trans g6
 clear l1 l2 S1 g2 g3 g4
 have hG : ∀ q : World, (∀ m, am = some m → Am q m al) → (Instr.lookup 62 (.map am) (.int .i64 (a + 1)) false).run Tryz.prog q = .ok (.agg #[.int .i64 f.1, .int .i64 f.2.1, .int .i64 f.2.2]) q := by
  intro q hq
  cases am with
  | none => have := look_nilA q (n := a + 1) (by omega) (by omega); have hq := hf.out; rw [hn.out rfl] at hq; simp [aget] at hq; rw [← hq]; exact this
  | some m => have := (hq m rfl).look (n := a + 1) (by omega) (by omega); rw [hf.out] at this; exact this
 have L1 := hG u2.drew fun m e => S2.out.arm m e
 have L2 := hG (u2.alloc (.cells #[.int .i64 0, .int .i64 0, .int .i64 0] 126)).drew fun m e => (S2.out.arm m e).heap (by show (u2.alloc _).heap[m]? = _; exact Below.heap_alloc _ _ _ (S2.out.arm m e).lt)
 have n1 : (u2.alloc (.cells #[.int .i64 0, .int .i64 0, .int .i64 0] 126)).cell? ⟨b, 13, none⟩ = some (.int .i64 (a + 1)) := by rw [((Below.refl _ u2).alloc (Nat.le_refl _) _).cell (p := ⟨b, 13, none⟩) (lt_of_cell m1)]; exact m1
 have n2 : (u2.alloc (.cells #[.int .i64 0, .int .i64 0, .int .i64 0] 126)).cell? ⟨b, 5, none⟩ = some (.map am) := by rw [((Below.refl _ u2).alloc (Nat.le_refl _) _).cell (p := ⟨b, 5, none⟩) (lt_of_cell m2)]; exact m2
 replace hG := hide hG
 go_upto_region 3 with fail
 go_region
 all_goals
  have S3 : Hid (Sb w (u2.alloc (.cells #[.int .i64 f.1, .int .i64 f.2.1, .int .i64 f.2.2] 126)).drew b w.heap.size cs2 am al zf) := S2.out.more (((Below.refl _ u2).alloc (Nat.le_refl _) _).drew)
  have F3 : Hid ((u2.alloc (.cells #[.int .i64 f.1, .int .i64 f.2.1, .int .i64 f.2.2] 126)).drew.heap[u2.heap.size]? = some (.cells #[.int .i64 f.1, .int .i64 f.2.1, .int .i64 f.2.2] 126 (0, 0))) := heap_alloc_new u2 _
  have Z3 : Hid (w.heap.size < u2.heap.size) := heap_lt S2.out.ans
  generalize (u2.alloc (.cells #[.int .i64 f.1, .int .i64 f.2.1, .int .i64 f.2.2] 126)).drew = u3 at *
  have m3 : u3.cell? ⟨b, 13, none⟩ = some (.int .i64 (a + 1)) := (S3.out.cell _).trans g5
  have m4 : u3.cell? ⟨b, 5, none⟩ = some (.map am) := (S3.out.cell _).trans g6
  clear L1 L2 n1 n2 m1 m2 hG S2 g5 g6
  obtain ⟨u4, hD, S4, F4⟩ : ∃ u4, (Builtin.delete_ #[62, 2] 0 #[.map am, .int .i64 (a + 1)]).run Tryz.prog u3.drew = .ok (.tuple #[]) u4 ∧ Hid (Sb w u4 b w.heap.size cs2 am (adel al (a + 1)) zf) ∧ Hid (u4.heap[u2.heap.size]? = some (.cells #[.int .i64 f.1, .int .i64 f.2.1, .int .i64 f.2.2] 126 (0, 0))) := by
   cases am with
   | none => exact ⟨u3.drew, drop_nilA u3.drew (by omega) (by omega) 0, by have q := S3.out.more (Below.refl _ u3).drew; rw [hn.out rfl] at q ⊢; exact q, F3.out⟩
   | some m =>
    have hA : Am u3.drew m al := S3.out.arm m rfl
    obtain ⟨u4, hr, h4, ht⟩ := hA.drop (n := a + 1) (by omega) (by omega) 0
    refine ⟨u4, hr, ⟨?_, ?_, fun m' e => by cases e; exact h4, ?_, S3.out.lo⟩, ?_⟩
    ·exact (turned_but ht).at (k := b) S3.out.box ((S3.out.arm m rfl).ne S3.out.box)
    ·exact (turned_but ht).at (k := w.heap.size) S3.out.ans ((S3.out.arm m rfl).ne S3.out.ans)
    ·exact (S3.out.more (Below.refl _ u3).drew).but.trans ((turned_but ht).mono fun k _ e => .inr (by rw [e]))
    ·exact (turned_but ht).at (k := u2.heap.size) F3.out ((S3.out.arm m rfl).ne F3.out)
  go_upto_region 4 with fail
  go_region
  obtain ⟨x0, x1, x2⟩ := cells3 F4.out
  obtain ⟨y0, y1, y2⟩ := cells3 S4.out.ans
  obtain ⟨r0, r1, r2⟩ := frozen3 S4.out.ans
  go_wp2_with fail
  have S5 := hide (S4.out.put f)
  generalize ((u4.setCell ⟨w.heap.size, 0, none⟩ (.int .i64 f.1)).setCell ⟨w.heap.size, 1, none⟩ (.int .i64 f.2.1)).setCell ⟨w.heap.size, 2, none⟩ (.int .i64 f.2.2) = u5 at *
  clear x0 x1 x2 y0 y1 y2 r0 r1 r2 S4 F4
  obtain ⟨x0, x1, x2⟩ := cells3 S5.out.ans
  refine bodyPost_ret (v := fv f) (by simp [results, Tryz.results64, go_sem, x0, x1, x2]; try rfl) rfl ?_
  exact ⟨rfl, by rw [hc1.out, hc2.out]; exact S5.out.box, S5.out.arm, S5.out.but⟩
def strF (k : Int) : Int := if k = 1 then 20 else if k = 2 then 21 else if k = 3 then 22 else 0
def strC (k : Int) (cs : Array Value) : Array Value := if k = 3 then cs.setIfInBounds 1 (.bool false) else cs
theorem strike_any (w : World) (b : Nat) (cs : Array Value) (f : Ft) (hb : w.heap[b]? = some (.cells cs TD (0, 0))) (h1 : ∃ u, cs[1]? = some u) (hk : f.2.1 ≠ 4) :
    Calls Tryz.prog 103 #[.pointer (some ⟨b, 0, none⟩), fv f] w fun e w' => e = .returned (.int .i64 (strF f.2.1)) ∧ w'.heap[b]? = some (.cells (strC f.2.1 cs) TD (0, 0)) ∧ But (fun k => k = b) w w' := by
 obtain ⟨a, k, p⟩ := f
 obtain ⟨u, h1⟩ := h1
 dsimp only at hk ⊢
 have hB := hide ((Below.refl _ w).alloc (Nat.le_refl _) (.cells #[.int .i64 a, .int .i64 k, .int .i64 p] 126))
 have hN : Hid ((w.alloc (.cells #[.int .i64 a, .int .i64 k, .int .i64 p] 126)).heap[w.heap.size]? = some (.cells #[.int .i64 a, .int .i64 k, .int .i64 p] 126 (0, 0))) := heap_alloc_new _ _
 obtain ⟨w1, hw1⟩ : ∃ w1, Hid (w.alloc (.cells #[.int .i64 a, .int .i64 k, .int .i64 p] 126) = w1) := ⟨_, rfl⟩
 rw [hw1.out] at hB hN
 have hb1 : w1.heap[b]? = some (.cells cs TD (0, 0)) := (hB.out.block b (heap_lt hb)).trans hb
 obtain ⟨x0, x1, x2⟩ := cells3 hN.out
 have y1 : w1.cell? ⟨b, 1, none⟩ = some u := by simp [World.cell?, hb1, h1]
 have y2 : w1.frozen? ⟨b, 1, none⟩ = false := by simp [World.frozen?, hb1]
 have hG := hide (But.of_grownBy (X := fun k => k = b) (grown_setCell w1 b 1 (.bool false)) fun k e => by cases e; rfl)
 have hC := hide (heap_setCell_same w1 b 1 _ _ (.bool false) hb1)
 replace hb1 := hide hb1
 unfold fv
 dsimp only
 obtain ⟨E, hE⟩ : ∃ E, Hid (strF k = E) := ⟨_, rfl⟩
 obtain ⟨C, hC0⟩ : ∃ C, Hid (strC k cs = C) := ⟨_, rfl⟩
 rw [hE.out, hC0.out]
 clear hb h1
 by_cases k1 : k = 1
 ·subst k1
  go_enter Tryz.func103, Tryz.ntmps103
  go_upto_region 1 with fail
  rw [hw1.out]
  go_wp2_with fail
  go_ret
  exact ⟨by rw [← hE.out]; rfl, by rw [← hC0.out]; exact hb1.out, But.of_below hB.out _⟩
 have k1' : (k == 1) = false := by simpa using k1
 by_cases k2 : k = 2
 ·subst k2
  go_enter Tryz.func103, Tryz.ntmps103
  go_upto_region 1 with fail
  rw [hw1.out]
  go_wp2_with fail
  go_ret
  exact ⟨by rw [← hE.out]; rfl, by rw [← hC0.out]; exact hb1.out, But.of_below hB.out _⟩
 have k2' : (k == 2) = false := by simpa using k2
 by_cases k3 : k = 3
 ·subst k3
  go_enter Tryz.func103, Tryz.ntmps103
  go_upto_region 1 with fail
  rw [hw1.out]
  go_wp2_with fail
  go_ret
  exact ⟨by rw [← hE.out]; rfl, by rw [← hC0.out]; exact hC.out, (But.of_below hB.out _).trans hG.out⟩
 have k3' : (k == 3) = false := by simpa using k3
 have k4' : (k == 4) = false := by simpa using hk
 have e1 : Hid (E = 0) := by show _ = _; rw [← hE.out]; simp [strF, k1, k2, k3]
 have e2 : Hid (C = cs) := by show _ = _; rw [← hC0.out]; simp [strC, k3]
 clear hE hC0
 go_enter Tryz.func103, Tryz.ntmps103
 go_upto_region 1 with fail
 rw [hw1.out]
 go_wp2_with fail
 go_ret
 exact ⟨by rw [e1.out]; rfl, by rw [e2.out]; exact hb1.out, But.of_below hB.out _⟩
def strR (k : Int) : Int := if k = 2 then 0 else strF k
theorem strikeRoomless_any (w : World) (b : Nat) (cs : Array Value) (f : Ft) (hb : w.heap[b]? = some (.cells cs TD (0, 0))) (h1 : ∃ u, cs[1]? = some u) (hk : f.2.1 ≠ 4) :
    Calls Tryz.prog 63 #[.pointer (some ⟨b, 0, none⟩), fv f] w fun e w' => e = .returned (.int .i64 (strR f.2.1)) ∧ w'.heap[b]? = some (.cells (strC f.2.1 cs) TD (0, 0)) ∧ But (fun k => k = b) w w' := by
 have hB := hide ((Below.refl _ w).alloc (Nat.le_refl _) (.cells #[.int .i64 f.1, .int .i64 f.2.1, .int .i64 f.2.2] 126))
 have hN : Hid ((w.alloc (.cells #[.int .i64 f.1, .int .i64 f.2.1, .int .i64 f.2.2] 126)).heap[w.heap.size]? = some (.cells #[.int .i64 f.1, .int .i64 f.2.1, .int .i64 f.2.2] 126 (0, 0))) := heap_alloc_new _ _
 obtain ⟨w1, hw1⟩ : ∃ w1, Hid (w.alloc (.cells #[.int .i64 f.1, .int .i64 f.2.1, .int .i64 f.2.2] 126) = w1) := ⟨_, rfl⟩
 rw [hw1.out] at hB hN
 have hb1 : w1.heap[b]? = some (.cells cs TD (0, 0)) := (hB.out.block b (heap_lt hb)).trans hb
 have hS := strike_any w1 b cs f hb1 h1 hk
 unfold fv at hS ⊢
 obtain ⟨a, k, p⟩ := f
 dsimp only at *
 obtain ⟨x0, x1, x2⟩ := cells3 hN.out
 replace hb1 := hide hb1
 by_cases k2 : k = 2
 ·subst k2
  clear hS hb
  go_enter Tryz.func63, Tryz.ntmps63
  go_upto_region 1 with fail
  rw [hw1.out]
  go_wp2_with fail
  go_ret
  exact ⟨rfl, hb1.out, But.of_below hB.out _⟩
 have k2' : (k == 2) = false := by simpa using k2
 obtain ⟨E, hE⟩ : ∃ E, Hid (strF k = E) := ⟨_, rfl⟩
 have hR : Hid (strR k = E) := by show _ = _; rw [← hE.out]; simp [strR, k2]
 rw [hR.out]
 rw [hE.out] at hS
 clear hb
 go_enter Tryz.func63, Tryz.ntmps63
 go_upto_region 1 with fail
 rw [hw1.out]
 go_wp2_with (go_at_call 103; refine hS.mono ?_; rintro e w2 ⟨rfl, hc, hbt⟩; replace hc := hide hc; replace hbt := hide hbt)
 go_ret
 exact ⟨rfl, hc.out, (But.of_below hB.out _).trans hbt.out⟩
theorem eqlM (w : World) (r : Option Nat) : (binOp .eql 60 (.map r) (.map none)).run Tryz.prog w = .ok (.bool r.isNone) w := run_eql_map_nil w _ _ _ r Tryz.underlying60
theorem run_clone {r : Nat} {es : Array MapEntry} {clock : Nat} (w : World) (t : TypeId) (hb : w.heap[r]? = some (.map es clock)) :
    (callFunc 150 #[.iface t (.map (some r))]).run Tryz.prog w = .ok (.value (.iface t (.map (some w.heap.size)))) (w.alloc (.map es clock)) := by
 have e : Extern.MapsClone.clone #[.iface t (.map (some r))] = (getObj r >>= fun o => match o with
     | .map entries clock => (newObj (.map entries clock) >>= fun n => pure (.iface t (.map (some n))))
     | _ => stuck "maps.clone: a map expected") := rfl
 rw [run_callFunc_extern Tryz.func150 (by kernel_rfl) (by kernel_rfl) (by kernel_rfl) (e := Extern.MapsClone.clone) (by kernel_rfl), e]
 simp [MapKept.run_getObj_map hb, Result.andThen, go_sem]
theorem run_assertM (w : World) (t xT k e : TypeId) (v : Value) (h : Tryz.prog.underlying t = some (.map k e)) : (Instr.typeAssert (.iface t v) xT t false).run Tryz.prog w = .ok v w := by
 simp [Instr.typeAssert, run_underlying h, go_sem, Result.andThen]
theorem clone_mp (w : World) (m : Nat) (l : Dr) (h : Mp w m l) : Calls Tryz.prog 104 #[.map (some m)] w fun e w' => e = .returned (.map (some w.heap.size)) ∧ Mp w' w.heap.size l ∧ Below w.heap.size w w' := by
 have qT := eqlM
 obtain ⟨es, clock, hb, F, hs, hD⟩ := h
 have hE := run_clone w 60 hb
 have hA := run_assertM (w.alloc (.map es clock)) 60 20 _ _ (.map (some w.heap.size)) Tryz.underlying60
 have hB := hide ((Below.refl _ w).alloc (Nat.le_refl _) (.map es clock))
 have hM : Hid (Mp (w.alloc (.map es clock)) w.heap.size l) := ⟨es, clock, heap_alloc_new _ _, F, hs, hD⟩
 clear hb F hs hD
 go_enter Tryz.func104, Tryz.ntmps104
 go_wp2_with fail
 go_ret
 exact ⟨rfl, hM.out, hB.out⟩
theorem Mp.ne {u : World} {m b : Nat} {l : Dr} {cs : Array Value} {T : TypeId} {z : Nat × Nat} (h : Mp u m l) (hb : u.heap[b]? = some (.cells cs T z)) : b ≠ m := by
 rintro rfl
 obtain ⟨es, clock, h, _⟩ := h
 rw [hb] at h
 cases h
theorem Mp.but {X : Nat → Prop} {A B : World} {m : Nat} {l : Dr} (h : Mp A m l) (hb : But X A B) (hx : ¬ X m) : Mp B m l := h.heap (hb.block m h.lt hx)
theorem Am.but {X : Nat → Prop} {A B : World} {m : Nat} {l : Ar} (h : Am A m l) (hb : But X A B) (hx : ¬ X m) : Am B m l := h.heap (hb.block m h.lt hx)
def newC (most : Int) (f g : Nat) : Array Value := dcells ⟨most, true, some f, some g, .slice none 0 0, none, 0, 0, 0, 0, 0, 0, 0, 0, 0⟩
theorem new_any (w : World) (most : Int) (h0 : -9223372036854775808 ≤ most) (h1 : most ≤ 9223372036854775807) :
    Calls Tryz.prog 6 #[.int .i64 most] w fun e w' => Below w.heap.size w w' ∧ ((¬ (0 ≤ most ∧ most ≤ 16777216) ∧ e = .returned (.pointer none) ∧ w' = w) ∨
     (0 ≤ most ∧ most ≤ 16777216 ∧ e = .returned (.pointer (some ⟨w.heap.size + 2, 0, none⟩)) ∧ w'.heap[w.heap.size + 2]? = some (.cells (newC most w.heap.size (w.heap.size + 1)) TD (0, 0)) ∧ Mp w' w.heap.size [] ∧ Mp w' (w.heap.size + 1) [])) := by
 by_cases h2 : 0 ≤ most ∧ most ≤ 16777216
 ·obtain ⟨g1, g2⟩ := h2
  have hmm := @run_makeMap Tryz.prog
  have n1 : ¬ most < 0 := by omega
  have n2 : ¬ 16777216 < most := by omega
  obtain ⟨u, hu⟩ : ∃ u, Hid (((w.alloc (.map #[] 0)).alloc (.map #[] 0)).alloc (.cells (newC most w.heap.size (w.heap.size + 1)) TD) = u) := ⟨_, rfl⟩
  have hB1 := (Below.refl _ w).alloc (Nat.le_refl _) (.map #[] 0)
  have hB2 := (Below.refl _ (w.alloc (.map #[] 0))).alloc (Nat.le_refl _) (.map #[] 0)
  have hB3 := (Below.refl _ ((w.alloc (.map #[] 0)).alloc (.map #[] 0))).alloc (Nat.le_refl _) (.cells (newC most w.heap.size (w.heap.size + 1)) TD)
  have m1 := Mp.made w
  have m2 := Mp.made (w.alloc (.map #[] 0))
  have n3 := heap_alloc_new ((w.alloc (.map #[] 0)).alloc (.map #[] 0)) (.cells (newC most w.heap.size (w.heap.size + 1)) TD)
  have e1 : (w.alloc (.map #[] 0)).heap.size = w.heap.size + 1 := by simp
  have e2 : ((w.alloc (.map #[] 0)).alloc (.map #[] 0)).heap.size = w.heap.size + 2 := by simp
  rw [e1] at m2
  rw [e2, hu.out] at n3
  have k1 : Mp u w.heap.size [] := by rw [← hu.out]; exact (m1.heap (hB2.block _ (by omega))).heap (hB3.block _ (by omega))
  have k2 : Mp u (w.heap.size + 1) [] := by rw [← hu.out]; exact m2.heap (hB3.block _ (by omega))
  have k3 : Below w.heap.size w u := by rw [← hu.out]; exact (hB1.trans (hB2.mono (by omega))).trans (hB3.mono (by omega))
  have K := hide (And.intro n3 (And.intro k1 (And.intro k2 k3)))
  clear n3 k1 k2 k3 m1 m2 hB1 hB2 hB3 e1 e2
  go_enter Tryz.func6, Tryz.ntmps6
  go_wp2_with fail
  go_ret
  obtain ⟨k0, k1, k2, k3⟩ := K.out
  rw [← hu.out] at k0 k1 k2 k3
  exact ⟨k3, rfl, k0, k1, k2⟩
 ·go_enter Tryz.func6, Tryz.ntmps6
  by_cases g1 : most < 0
  ·go_wp2_with fail
   go_ret
   exact ⟨Below.refl _ _, by first | exact .inl ⟨h2, rfl, rfl⟩ | exact .inl ⟨rfl, rfl⟩ | exact .inl rfl⟩
  ·have g2 : 16777216 < most := by omega
   go_wp2_with fail
   go_ret
   exact ⟨Below.refl _ _, by first | exact .inl ⟨h2, rfl, rfl⟩ | exact .inl ⟨rfl, rfl⟩ | exact .inl rfl⟩
theorem settle_any (w : World) (b m : Nat) (cs : Array Value) (l : Dr) (hb : w.heap[b]? = some (.cells cs TD (0, 0))) (hz : cs.size = 15) (h2 : cs[2]? = some (.map (some m))) (hm : Mp w m l) :
    Calls Tryz.prog 65 #[.pointer (some ⟨b, 0, none⟩)] w fun e w' => e = .returned (.tuple #[]) ∧ ∃ m', w.heap.size ≤ m' ∧ Mp w' m' l ∧
     w'.heap[b]? = some (.cells ((cs.setIfInBounds 3 (.map (some m'))).setIfInBounds 4 (.slice none 0 0)) TD (0, 0)) ∧ But (fun k => k = b) w w' := by
 have c2 : w.cell? ⟨b, 2, none⟩ = some (.map (some m)) := by simp [World.cell?, hb, h2]
 have hC := clone_mp w m l hm
 replace hb := hide hb
 clear hm
 go_enter Tryz.func65, Tryz.ntmps65
 go_wp2_with (go_at_call 104; refine hC.mono ?_; rintro e w1 ⟨rfl, M1, B1⟩; replace M1 := hide M1; replace B1 := hide B1; have b1 : Hid (w1.heap[b]? = some (.cells cs TD (0, 0))) := (B1.out.block b (heap_lt hb.out)).trans hb.out; have d3 : w1.cell? ⟨b, 3, none⟩ = some (cs.getD 3 undef) := (by simp [World.cell?, b1.out, hz]); have f3 : w1.frozen? ⟨b, 3, none⟩ = false := (by simp [World.frozen?, b1.out]); have b2 := hide (heap_setCell_same w1 b 3 _ _ (.map (some w.heap.size)) b1.out); have d4 : (w1.setCell ⟨b, 3, none⟩ (.map (some w.heap.size))).cell? ⟨b, 4, none⟩ = some (cs.getD 4 undef) := (by simp [World.cell?, b2.out, hz]); have f4 : (w1.setCell ⟨b, 3, none⟩ (.map (some w.heap.size))).frozen? ⟨b, 4, none⟩ = false := (by simp [World.frozen?, b2.out]))
 have b3 := hide (heap_setCell_same _ b 4 _ _ (.slice none 0 0) b2.out)
 have g3 := But.of_grownBy (X := fun k => k = b) (grown_setCell w1 b 3 (.map (some w.heap.size))) fun k e => by cases e; rfl
 have g4 := But.of_grownBy (X := fun k => k = b) (grown_setCell (w1.setCell ⟨b, 3, none⟩ (.map (some w.heap.size))) b 4 (.slice none 0 0)) fun k e => by cases e; rfl
 go_end0
 exact ⟨rfl, w.heap.size, Nat.le_refl _, (M1.out.but (g3.trans g4) (fun e => M1.out.ne b1.out e.symm)), b3.out, (But.of_below B1.out _).trans (g3.trans g4)⟩
inductive Ch where
 | cr (n : ByteArray) (p : Nat)
 | rn (f t : ByteArray)
 | rm (n : ByteArray)
def Ch.val : Ch → Value
 | .cr n p => .agg #[.string n, .pointer (some ⟨p, 0, none⟩)]
 | .rn f t => .agg #[.string f, .string t]
 | .rm n => .agg #[.string n]
def Ch.ty : Ch → TypeId
 | .cr _ _ => 250
 | .rn _ _ => 259
 | .rm _ => 183
def Ch.ok : Ch → Prop
 | .cr n _ => n.size ≤ maxLen
 | .rn f t => f.size ≤ maxLen ∧ t.size ≤ maxLen
 | .rm n => n.size ≤ maxLen
def Ch.run (l : Dr) : Ch → Dr
 | .cr n p => dput l n.data.toList p
 | .rn f t => match get l f.data.toList with | some p => ddel (dput l t.data.toList p) f.data.toList | none => l
 | .rm n => ddel l n.data.toList
theorem doC_any (w : World) (m : Nat) (l : Dr) (n : ByteArray) (p : Nat) (hm : Mp w m l) (hn : n.size ≤ maxLen) (hl : l.length < maxLen) :
    Calls Tryz.prog 276 #[.agg #[.string n, .pointer (some ⟨p, 0, none⟩)], .map (some m)] w fun e w' => e = .returned (.tuple #[]) ∧ Mp w' m (dput l n.data.toList p) ∧ But (fun k => k = m) w w' := by
 have hB := hide ((Below.refl _ w).alloc (Nat.le_refl _) (.cells #[.string n, .pointer (some ⟨p, 0, none⟩)] 250))
 have m1 : Mp (w.alloc (.cells #[.string n, .pointer (some ⟨p, 0, none⟩)] 250)) m l := hm.heap (hB.out.block m hm.lt)
 obtain ⟨w2, hU, m2, ht⟩ := m1.store (s := n) (p := p) hn hl
 unfold TM at hU
 have k2 := hide (turned_but ht)
 replace m2 := hide m2
 clear m1 ht hm
 go_enter Tryz.func276, Tryz.ntmps276
 go_wp2_with fail
 go_end0
 exact ⟨rfl, m2.out, (But.of_below hB.out _).trans k2.out⟩
theorem doX_any (w : World) (m : Nat) (l : Dr) (n : ByteArray) (hm : Mp w m l) (hn : n.size ≤ maxLen) :
    Calls Tryz.prog 274 #[.agg #[.string n], .map (some m)] w fun e w' => e = .returned (.tuple #[]) ∧ Mp w' m (ddel l n.data.toList) ∧ But (fun k => k = m) w w' := by
 have hB := hide ((Below.refl _ w).alloc (Nat.le_refl _) (.cells #[.string n] 183))
 have m1 : Mp (w.alloc (.cells #[.string n] 183)) m l := hm.heap (hB.out.block m hm.lt)
 obtain ⟨w2, hU, m2, ht⟩ := m1.drop (s := n) hn 0
 unfold TM TS at hU
 have k2 := hide (turned_but ht)
 replace m2 := hide m2
 clear m1 ht hm
 go_enter Tryz.func274, Tryz.ntmps274
 go_wp2_with fail
 go_end0
 exact ⟨rfl, m2.out, (But.of_below hB.out _).trans k2.out⟩
theorem doN_any (w : World) (m p : Nat) (l : Dr) (f t : ByteArray) (hm : Mp w m l) (hf : f.size ≤ maxLen) (ht : t.size ≤ maxLen) (hl : l.length < maxLen) (hg : get l f.data.toList = some p) :
    Calls Tryz.prog 278 #[.agg #[.string f, .string t], .map (some m)] w fun e w' => e = .returned (.tuple #[]) ∧ Mp w' m (ddel (dput l t.data.toList p) f.data.toList) ∧ But (fun k => k = m) w w' := by
 have hB := hide ((Below.refl _ w).alloc (Nat.le_refl _) (.cells #[.string f, .string t] 259))
 have hN := hide (heap_alloc_new w (.cells #[.string f, .string t] 259))
 obtain ⟨w1, hw1⟩ : ∃ w1, Hid (w.alloc (.cells #[.string f, .string t] 259) = w1) := ⟨_, rfl⟩
 rw [hw1.out] at hB hN
 have m1 : Mp w1 m l := hm.heap (hB.out.block m hm.lt)
 have hL := m1.look hf hg
 obtain ⟨w2, hU, m2, t2⟩ := m1.store (s := t) (p := p) ht hl
 have n2 : w2.heap[w.heap.size]? = some (.cells #[.string f, .string t] 259) := (turned_but t2).at hN.out (m1.ne hN.out)
 obtain ⟨w3, hD, m3, t3⟩ := m2.drop (s := f) hf 0
 have x0 : w1.cell? ⟨w.heap.size, 0, none⟩ = some (.string f) := by simp [World.cell?, hN.out]
 have x1 : w1.cell? ⟨w.heap.size, 1, none⟩ = some (.string t) := by simp [World.cell?, hN.out]
 have y0 : w2.cell? ⟨w.heap.size, 0, none⟩ = some (.string f) := by simp [World.cell?, n2]
 have K := hide (((But.of_below hB.out (fun k => k = m)).trans (turned_but t2)).trans (turned_but t3))
 replace m3 := hide m3
 unfold TM at hL hU hD
 unfold TS at hD
 clear m1 m2 t2 t3 n2 hm hg
 go_enter Tryz.func278, Tryz.ntmps278
 go_upto_region 1 with fail
 rw [hw1.out]
 go_wp2_with fail
 go_end0
 exact ⟨rfl, m3.out, K.out⟩
def Ch.fn : Ch → Nat
 | .cr _ _ => 276
 | .rn _ _ => 278
 | .rm _ => 274
def Ch.can (l : Dr) : Ch → Prop
 | .rn f _ => (get l f.data.toList).isSome = true
 | _ => True
theorem do_any (w : World) (m : Nat) (l : Dr) (c : Ch) (hm : Mp w m l) (hc : c.ok) (hk : c.can l) (hl : l.length < maxLen) :
    Calls Tryz.prog c.fn #[c.val, .map (some m)] w fun e w' => e = .returned (.tuple #[]) ∧ Mp w' m (c.run l) ∧ But (fun k => k = m) w w' := by
 cases c with
 | cr n p => exact doC_any w m l n p hm hc hl
 | rm n => exact doX_any w m l n hm hc
 | rn f t =>
  obtain ⟨p, hp⟩ := Option.isSome_iff_exists.1 (show (get l f.data.toList).isSome = true from hk)
  have := doN_any w m p l f t hm hc.1 hc.2 hl hp
  simp only [Ch.run, hp]
  exact this
def Ch.iface (c : Ch) : Value := .iface c.ty c.val
def Cans : Dr → List Ch → Prop
 | _, [] => True
 | l, c :: r => c.can l ∧ Cans (c.run l) r
def runs (l : Dr) (P : List Ch) : Dr := P.foldl Ch.run l
theorem runs_snoc (l : Dr) (P : List Ch) (c : Ch) : runs l (P ++ [c]) = c.run (runs l P) := by simp [runs]
theorem dins_len (x : List UInt8 × Nat) (l : Dr) : (dins x l).length = l.length + 1 := by
 induction l with
 | nil => rfl
 | cons y r ih => unfold dins; split <;> simp [ih]
theorem run_len (l : Dr) (c : Ch) : (c.run l).length ≤ l.length + 1 := by
 have hd : ∀ (l : Dr) n, (ddel l n).length ≤ l.length := fun l n => List.length_filter_le _ _
 have hp : ∀ (l : Dr) n p, (dput l n p).length ≤ l.length + 1 := fun l n p => by have := hd l n; rw [dput, dins_len]; omega
 cases c with
 | cr n p => exact hp _ _ _
 | rm n => exact Nat.le_trans (hd _ _) (by omega)
 | rn f t =>
  show List.length (match get l f.data.toList with | some p => ddel (dput l t.data.toList p) f.data.toList | none => l) ≤ _
  split
  ·exact Nat.le_trans (hd _ _) (hp _ _ _)
  ·omega
theorem runs_len (l : Dr) (P : List Ch) : (runs l P).length ≤ l.length + P.length := by
 induction P generalizing l with
 | nil => simp [runs]
 | cons c r ih => have := ih (c.run l); have := run_len l c; simp only [runs, List.foldl_cons, List.length_cons] at *; omega
theorem disp_any (c : Ch) : (∀ q, (method 447 c.ty c.val "flume/disk.do").run Tryz.prog q = .ok (c.fn, c.val) q) ∧ (∀ a q, (callFunc c.fn a).run Tryz.prog q = .ok (.enter c.fn a) q) := by
 cases c with
 | cr n p => exact ⟨fun q => by kernel_rfl, fun a q => by kernel_rfl⟩
 | rn f t => exact ⟨fun q => by kernel_rfl, fun a q => by kernel_rfl⟩
 | rm n => exact ⟨fun q => by kernel_rfl, fun a q => by kernel_rfl⟩
def Pd (w : World) (v : Value) (P : List Ch) : Prop := w.ownsRow 0 237 1 v P.length (P.map Ch.iface)
theorem Pd.nil (w : World) : Pd w (.slice none 0 0) [] := World.ownsRow_nil _ _ _ _
theorem Pd.no {w : World} {v : Value} {P : List Ch} {b : Nat} {cs : Array Value} {T : TypeId} {fz : Nat × Nat} (h : Pd w v P) (hb : w.heap[b]? = some (.cells cs T fz)) (hT : T ≠ 237) : v.ownBlock ≠ some b := fun e1 => by
 rcases h.2 with ⟨rfl, _⟩ | ⟨g, cap, cur, rfl, hg, hh, r⟩
 ·simp [Value.ownBlock] at e1
 ·simp [Value.ownBlock] at e1
  subst e1
  rw [hb] at hh
  simp at hh
  exact hT hh.2.1
theorem Pd.noM {w : World} {v : Value} {P : List Ch} {m : Nat} {l : Dr} (h : Pd w v P) (hm : Mp w m l) : v.ownBlock ≠ some m := fun e1 => by
 rcases h.2 with ⟨rfl, _⟩ | ⟨g, cap, cur, rfl, hg, hh, r⟩
 ·simp [Value.ownBlock] at e1
 ·simp [Value.ownBlock] at e1
  subst e1
  obtain ⟨es, clock, hb, _⟩ := hm
  rw [hb] at hh
  cases hh
theorem Pd.but {X : Nat → Prop} {A B : World} {v : Value} {P : List Ch} (h : Pd A v P) (hb : But X A B) (hx : ∀ k, v.ownBlock = some k → ¬ X k) : Pd B v P := by
 refine ⟨h.1, ?_⟩
 rcases h.2 with h | ⟨g, cap, cur, rfl, hg, hh, r⟩
 ·exact .inl h
 ·exact .inr ⟨g, cap, cur, rfl, hg, hb.at hh (hx g rfl), r⟩
theorem Pd.row {w : World} {v : Value} {P : List Ch} (h : Pd w v P) : Row w v (P.map Ch.iface) := by
 have h0 := h
 rcases h.2 with ⟨rfl, e⟩ | ⟨g, cap, cur, rfl, hg, hh, a, b, c⟩
 ·have : P = [] := List.length_eq_zero_iff.1 e
  subst this
  exact Row.nil w
 ·refine ⟨some ⟨g, 0, none⟩, cap, by rw [List.length_map], fun e => by simp at e, by rw [List.length_map]; exact a, b, fun i hi => ?_⟩
  have q := World.ownsRow.cells h0 (g := g) rfl i _ (List.getElem?_eq_getElem hi)
  exact ⟨g, 0, rfl, by rw [addr_add] at q; exact q⟩
theorem Pd.lt {w : World} {v : Value} {P : List Ch} (h : Pd w v P) : ∀ k, v.ownBlock = some k → k < w.heap.size := fun k hk => (World.ownsRow.lt h k hk).2
theorem infoCh : (Tryz.prog.info? 237).map (fun i => (i.zero, i.size, i.bytes)) = some (some .nilIface, 1, 16) := by kernel_rfl
theorem infoCh2 : ∃ i, Tryz.prog.info? 237 = some i ∧ i.zero = some .nilIface ∧ i.size = 1 ∧ i.bytes = 16 := by
 have h := infoCh
 cases hq : Tryz.prog.info? 237 with
 | none => rw [hq] at h; cases h
 | some i => rw [hq] at h; simp only [Option.map_some, Option.some.injEq, Prod.mk.injEq] at h; exact ⟨i, rfl, h.1, h.2.1, h.2.2⟩
theorem ahead_any (c : Ch) : ∀ q, (nilAhead 447 c.ty c.val "flume/disk.do").run Tryz.prog q = .ok (some false) q := by
 cases c with
 | cr n p => exact fun q => by kernel_rfl
 | rn f t => exact fun q => by kernel_rfl
 | rm n => exact fun q => by kernel_rfl
theorem grownAt {w3 w4 : World} {b : Nat} {o o' : Obj} {r : Option Nat} (hb : w3.heap[b]? = some o) (hg : (w3.alloc o').grownBy w4 r) (hr : r ≠ some b) : w4.heap[b]? = some o := by
 rw [hg.block b (by have := heap_lt hb; simp; omega) (fun e => hr e.symm)]
 exact (Below.heap_alloc _ _ _ (heap_lt hb)).trans hb
theorem change_any (w : World) (b m : Nat) (cs : Array Value) (l : Dr) (P : List Ch) (pd : Value) (c : Ch) (hb : w.heap[b]? = some (.cells cs TD (0, 0))) (h2 : cs[2]? = some (.map (some m))) (h4 : cs[4]? = some pd)
    (hm : Mp w m l) (hp : Pd w pd P) (hc : c.ok) (hk : c.can l) (hl : l.length < maxLen) (hP : P.length < 1000000000) :
    Calls Tryz.prog 113 #[.pointer (some ⟨b, 0, none⟩), c.iface] w fun e w' => e = .returned (.tuple #[]) ∧ Mp w' m (c.run l) ∧ ∃ pd', Pd w' pd' (P ++ [c]) ∧ w'.heap[b]? = some (.cells (cs.setIfInBounds 4 pd') TD (0, 0)) ∧
     But (fun k => k = b ∨ k = m ∨ pd.ownBlock = some k) w w' ∧ (∀ k, pd'.ownBlock = some k → pd.ownBlock = some k ∨ w.heap.size ≤ k) := by
 have c2 : w.cell? ⟨b, 2, none⟩ = some (.map (some m)) := by simp [World.cell?, hb, h2]
 have hD := do_any w.drew m l c hm hc hk hl
 obtain ⟨d1, d2⟩ := disp_any c
 have d3 := ahead_any c
 have hne := hide (hm.ne hb)
 have hnp := hide (hp.no hb (by decide))
 have hnm := hide (hp.noM hm)
 have KC : Hid (∀ q, But (fun k => k = m) w.drew q → q.cell? ⟨b, 2, none⟩ = some (.map (some m))) := by
  intro q B3
  have q1 := B3.at (k := b) hb hne.out
  simp [World.cell?, q1, h2]
 rw [show c.iface = .iface c.ty c.val from rfl]
 obtain ⟨ci, hci⟩ : ∃ ci, Hid (c.iface = ci) := ⟨_, rfl⟩
 have hci2 : Hid (Value.iface c.ty c.val = ci) := hci.out
 replace hb := hide hb
 replace hp := hide hp
 replace hm := hide hm
 obtain ⟨r, hr⟩ : ∃ r, Hid (c.run l = r) := ⟨_, rfl⟩
 rw [hr.out] at hD ⊢
 generalize hfn : c.fn = f at *
 generalize hty : c.ty = T at *
 generalize hvl : c.val = u at *
 replace hD := hide hD
 replace hty := hide hty
 replace hvl := hide hvl
 clear hfn hk hc
 go_enter Tryz.func113, Tryz.ntmps113
 go_upto_region 0 with fail
 go_region_held3 (fun q => q.cell? ⟨b, 2, none⟩ = some (.map (some m)))
  (first | exact c2 | assumption | exact KC.out _ (Hid.out (by assumption)) | fail)
  (first | (refine hD.out.mono ?_; rintro e w3 ⟨rfl, M3, B3⟩; replace M3 := hide M3; replace B3 := hide B3) | fail)
 have hb3 : Hid (w3.heap[b]? = some (.cells cs TD (0, 0))) := B3.out.at (k := b) hb.out hne.out
 have hp3 : Hid (Pd w3 pd P) := hp.out.but (A := w.drew) B3.out (fun k hk e => hnm.out (by rw [← e]; exact hk))
 have hW3 := hide (((But.of_below ((Below.refl _ w).drew) (fun k => k = m)).trans B3.out))
 have c4 : w3.cell? ⟨b, 4, none⟩ = some pd := by simp [World.cell?, hb3.out, h4]
 clear d1 d2 d3 hD KC c2 h2
 obtain ⟨i0, hi, hz0, hz1, hz2⟩ : ∃ i, Tryz.prog.info? 237 = some i ∧ i.zero = some .nilIface ∧ i.size = 1 ∧ i.bytes = 16 := infoCh2
 replace hi := hide hi
 go_wp2_with (first
  | (at_builtin; refine wpList_append_lies _ rfl (.tmp 17) (.tmp 19) 61 rfl 0 237 i0 .nilIface 1 16 Tryz.underlying61 hi.out hz0 hz1 hz2 rfl (by decide) pd P.length (P.map Ch.iface) rfl (World.ownsRow.alloc hp3.out _) ⟨w3.heap.size, 0, none⟩ 1 1 [.iface T u] rfl rfl (cell_one_new _ _ _) (by simp [Value.oneCell']) (by decide) (by unfold maxLen; omega) (by omega) (Nat.zero_le _) (w3.heap.size + 1) (by simp) ?_; intro g2 cap2 w4 ho4 g4 hat hlt4; have hb4 : Hid (w4.heap[b]? = some (.cells cs TD (0, 0))) := hide (grownAt hb3.out g4 hnp.out); have f1 : w4.cell? ⟨b, 4, none⟩ = some pd := (by simp [World.cell?, hb4.out, h4]); have f2 : w4.frozen? ⟨b, 4, none⟩ = false := (by simp [World.frozen?, hb4.out]); replace ho4 := hide ho4; replace g4 := hide g4; replace hat := hide hat)
  | fail)
 go_end0
 have e1 : T = c.ty ∧ u = c.val := ⟨hty.out.symm, hvl.out.symm⟩
 have G4 : But (fun k => pd.ownBlock = some k) w3 w4 := (But.of_below ((Below.refl _ w3).alloc (Nat.le_refl _) _) _).trans (But.of_grownBy g4.out fun k e => e)
 have G5 : But (fun k => k = b) w4 (w4.setCell ⟨b, 4, none⟩ (.slice (some ⟨g2, 0, none⟩) (P.length + 1) cap2)) := But.of_grownBy (grown_setCell _ _ _ _) fun k e => by cases e; rfl
 have p4 : Pd w4 (.slice (some ⟨g2, 0, none⟩) (P.length + 1) cap2) (P ++ [c]) := by
  unfold Pd
  rw [List.length_append, List.map_append]
  have q := ho4.out
  rw [e1.1, e1.2] at q
  exact q
 refine ⟨rfl, ?_, _, p4.but G5 (fun k hk e => p4.no hb4.out (by decide) (by rw [← e]; exact hk)), heap_setCell_same _ _ _ _ _ _ hb4.out, ?_, ?_⟩
 ·have q1 := M3.out.but G4 (fun e => hp3.out.noM M3.out e)
  exact q1.but G5 (fun e => hne.out e.symm)
 ·exact ((hW3.out.mono fun k _ e => .inr (.inl e)).trans (G4.mono fun k _ e => .inr (.inr e))).trans (G5.mono fun k _ e => .inl e)
 ·intro k hk
  simp only [Value.ownBlock, Option.some.injEq] at hk
  subst hk
  rcases hat.out with e | e
  ·exact .inl e
  ·right
   have := hW3.out.size
   omega
structure Dk (w : World) (b : Nat) (x : Dc) (f g : Nat) (l l2 : Dr) (P : List Ch) (al : Ar) : Prop where
 box : Bx w b x
 fm : x.fm = some f
 lm : x.lm = some g
 mf : Mp w f l
 mg : Mp w g l2
 fg : f ≠ g
 pd : Pd w x.pd P
 am : ∀ m, x.am = some m → Am w m al ∧ m ≠ f ∧ m ≠ g
 an : x.am = none → al = []
 run : l = runs l2 P
 can : Cans l2 P
 ok : ∀ c ∈ P, c.ok
 c0 : 0 ≤ x.c0 ∧ 0 ≤ x.c1 ∧ 0 ≤ x.c2 ∧ 0 ≤ x.c3 ∧ 0 ≤ x.c4 ∧ 0 ≤ x.c5 ∧ 0 ≤ x.c6 ∧ 0 ≤ x.c7
 c1 : x.c0 ≤ x.c7 ∧ x.c1 ≤ x.c7 ∧ x.c2 ≤ x.c7 ∧ x.c3 ≤ x.c7 ∧ x.c4 ≤ x.c7 ∧ x.c5 ≤ x.c7 ∧ x.c6 ≤ x.c7
def Own (b : Nat) (x : Dc) (k : Nat) : Prop := k = b ∨ x.fm = some k ∨ x.lm = some k ∨ x.pd.ownBlock = some k ∨ x.am = some k
def inc (x : Dc) : Nat → Dc
 | 0 => { x with c0 := x.c0 + 1, c7 := x.c7 + 1 }
 | 1 => { x with c1 := x.c1 + 1, c7 := x.c7 + 1 }
 | 2 => { x with c2 := x.c2 + 1, c7 := x.c7 + 1 }
 | 3 => { x with c3 := x.c3 + 1, c7 := x.c7 + 1 }
 | 4 => { x with c4 := x.c4 + 1, c7 := x.c7 + 1 }
 | 5 => { x with c5 := x.c5 + 1, c7 := x.c7 + 1 }
 | _ => { x with c6 := x.c6 + 1, c7 := x.c7 + 1 }
def cnt (x : Dc) : Nat → Int
 | 0 => x.c0 | 1 => x.c1 | 2 => x.c2 | 3 => x.c3 | 4 => x.c4 | 5 => x.c5 | _ => x.c6
theorem inc_cells (x : Dc) : ∀ j, j < 7 → ((dcells x).setIfInBounds (6 + j) (.int .i64 (cnt x j + 1))).setIfInBounds 13 (.int .i64 (x.c7 + 1)) = dcells (inc x j) := by
 intro j hj
 match j with
 | 0 => rfl
 | 1 => rfl
 | 2 => rfl
 | 3 => rfl
 | 4 => rfl
 | 5 => rfl
 | 6 => rfl
 | j + 7 => omega
theorem cnt_cell (x : Dc) : ∀ j, j < 7 → (dcells x)[6 + j]? = some (.int .i64 (cnt x j)) := by
 intro j hj
 match j with
 | 0 => rfl
 | 1 => rfl
 | 2 => rfl
 | 3 => rfl
 | 4 => rfl
 | 5 => rfl
 | 6 => rfl
 | j + 7 => omega
theorem inc_rest (x : Dc) (j : Nat) : (inc x j).most = x.most ∧ (inc x j).up = x.up ∧ (inc x j).fm = x.fm ∧ (inc x j).lm = x.lm ∧ (inc x j).pd = x.pd ∧ (inc x j).am = x.am ∧ (inc x j).c7 = x.c7 + 1 ∧ (inc x j).c8 = x.c8 := by
 unfold inc
 split <;> exact ⟨rfl, rfl, rfl, rfl, rfl, rfl, rfl, rfl⟩
theorem cnt_all {w : World} {b : Nat} {x : Dc} {f g : Nat} {l l2 : Dr} {P : List Ch} {al : Ar} (h : Dk w b x f g l l2 P al) (j : Nat) : 0 ≤ cnt x j ∧ cnt x j ≤ x.c7 ∧ 0 ≤ x.c7 := by
 have h0 := h.c0
 have h1 := h.c1
 unfold cnt
 split <;> omega
theorem inc_ok {x : Dc} (h0 : 0 ≤ x.c0 ∧ 0 ≤ x.c1 ∧ 0 ≤ x.c2 ∧ 0 ≤ x.c3 ∧ 0 ≤ x.c4 ∧ 0 ≤ x.c5 ∧ 0 ≤ x.c6 ∧ 0 ≤ x.c7) (h1 : x.c0 ≤ x.c7 ∧ x.c1 ≤ x.c7 ∧ x.c2 ≤ x.c7 ∧ x.c3 ≤ x.c7 ∧ x.c4 ≤ x.c7 ∧ x.c5 ≤ x.c7 ∧ x.c6 ≤ x.c7) (j : Nat) :
    (0 ≤ (inc x j).c0 ∧ 0 ≤ (inc x j).c1 ∧ 0 ≤ (inc x j).c2 ∧ 0 ≤ (inc x j).c3 ∧ 0 ≤ (inc x j).c4 ∧ 0 ≤ (inc x j).c5 ∧ 0 ≤ (inc x j).c6 ∧ 0 ≤ (inc x j).c7) ∧
    ((inc x j).c0 ≤ (inc x j).c7 ∧ (inc x j).c1 ≤ (inc x j).c7 ∧ (inc x j).c2 ≤ (inc x j).c7 ∧ (inc x j).c3 ≤ (inc x j).c7 ∧ (inc x j).c4 ≤ (inc x j).c7 ∧ (inc x j).c5 ≤ (inc x j).c7 ∧ (inc x j).c6 ≤ (inc x j).c7) := by
 unfold inc
 split <;> (dsimp only; omega)
theorem Dk.cells {w : World} {b : Nat} {x : Dc} {f g : Nat} {l l2 : Dr} {P : List Ch} {al : Ar} (h : Dk w b x f g l l2 P al) : w.heap[b]? = some (.cells (dcells x) TD (0, 0)) := h.box
theorem Dk.but {X : Nat → Prop} {A B : World} {b : Nat} {x : Dc} {f g : Nat} {l l2 : Dr} {P : List Ch} {al : Ar} (h : Dk A b x f g l l2 P al) (hb : But X A B) (hx : ∀ k, Own b x k → ¬ X k) : Dk B b x f g l l2 P al :=
 ⟨hb.at h.box (hx b (.inl rfl)), h.fm, h.lm, h.mf.but hb (hx f (.inr (.inl h.fm))), h.mg.but hb (hx g (.inr (.inr (.inl h.lm)))), h.fg, h.pd.but hb (fun k hk => hx k (.inr (.inr (.inr (.inl hk))))),
  fun m e => ⟨(h.am m e).1.but hb (hx m (.inr (.inr (.inr (.inr e))))), (h.am m e).2⟩, h.an, h.run, h.can, h.ok, h.c0, h.c1⟩
theorem Dk.below {A B : World} {b : Nat} {x : Dc} {f g : Nat} {l l2 : Dr} {P : List Ch} {al : Ar} (h : Dk A b x f g l l2 P al) (hb : Below A.heap.size A B) : Dk B b x f g l l2 P al := h.but (But.of_below hb fun _ => False) fun _ _ c => c
theorem Dk.lt {w : World} {b : Nat} {x : Dc} {f g : Nat} {l l2 : Dr} {P : List Ch} {al : Ar} (h : Dk w b x f g l l2 P al) : ∀ k, Own b x k → k < w.heap.size := by
 rintro k (rfl | e | e | e | e)
 ·exact heap_lt h.box
 ·rw [h.fm] at e; cases e; exact h.mf.lt
 ·rw [h.lm] at e; cases e; exact h.mg.lt
 ·exact h.pd.lt k e
 ·exact (h.am k e).1.lt
theorem Dk.dp {w : World} {b : Nat} {x : Dc} {f g : Nat} {l l2 : Dr} {P : List Ch} {al : Ar} (h : Dk w b x f g l l2 P al) : Dp w (.pointer (some ⟨b, 0, none⟩)) (some x) := .inr ⟨b, x, rfl, rfl, h.box⟩
theorem begin_any (w : World) (b : Nat) (x : Dc) (f g : Nat) (l l2 : Dr) (P : List Ch) (al : Ar) (j : Nat) (hj : j < 7) (h : Dk w b x f g l l2 P al) (hc : x.c7 < 4611686018427387904) :
    Calls Tryz.prog 64 #[.pointer (some ⟨b, 0, none⟩), .pointer (some ⟨b, 6 + j, none⟩)] w fun e w' => e = .returned (fv ((aget al (x.c7 + 1)).getD zf)) ∧ Dk w' b (inc x j) f g l l2 P (adel al (x.c7 + 1)) ∧ But (Own b x) w w' := by
 obtain ⟨q0, q1, q2⟩ := cnt_all h j
 refine (begin_gen w b j (dcells x) (cnt x j) x.c7 x.am al h.box rfl hj (cnt_cell x j hj) rfl rfl (fun m e => (h.am m e).1) h.an q0 (by omega) q2 hc).mono ?_
 rintro e w' ⟨rfl, hb, hm, hB⟩
 rw [inc_cells x j hj] at hb
 obtain ⟨e1, e2, e3, e4, e5, e6, e7, e8⟩ := inc_rest x j
 obtain ⟨k0, k1⟩ := inc_ok h.c0 h.c1 j
 refine ⟨rfl, ⟨hb, by rw [e3]; exact h.fm, by rw [e4]; exact h.lm, ?_, ?_, h.fg, ?_, ?_, ?_, h.run, h.can, h.ok, k0, k1⟩, hB.mono ?_⟩
 ·refine h.mf.but hB ?_
  rintro (c | c)
  ·exact h.mf.ne h.box c.symm
  ·exact (h.am f c).2.1 rfl
 ·refine h.mg.but hB ?_
  rintro (c | c)
  ·exact h.mg.ne h.box c.symm
  ·exact (h.am g c).2.2 rfl
 ·rw [e5]
  refine h.pd.but hB fun k hk => ?_
  rintro (c | c)
  ·exact h.pd.no h.box (by decide) (by rw [← c]; exact hk)
  ·rcases h.pd.2 with ⟨q, _⟩ | ⟨g', cap, cur, q, hg, hh, r⟩
   ·rw [q] at hk; simp [Value.ownBlock] at hk
   ·rw [q] at hk; simp [Value.ownBlock] at hk; subst hk; exact (h.am _ c).1.ne hh rfl
 ·rw [e6]
  exact fun m e => ⟨hm m e, (h.am m e).2⟩
 ·rw [e6]
  intro e
  rw [h.an e]
  rfl
 ·rintro k _ (c | c)
  ·exact .inl c
  ·exact .inr (.inr (.inr (.inr c)))
def strX (k : Int) (x : Dc) : Dc := if k = 3 then { x with up := false } else x
theorem str_cells (k : Int) (x : Dc) : strC k (dcells x) = dcells (strX k x) := by
 unfold strC strX
 split <;> rfl
theorem strX_rest (k : Int) (x : Dc) : (strX k x).fm = x.fm ∧ (strX k x).lm = x.lm ∧ (strX k x).pd = x.pd ∧ (strX k x).am = x.am ∧ (strX k x).c0 = x.c0 ∧ (strX k x).c1 = x.c1 ∧ (strX k x).c2 = x.c2 ∧ (strX k x).c3 = x.c3 ∧ (strX k x).c4 = x.c4 ∧ (strX k x).c5 = x.c5 ∧ (strX k x).c6 = x.c6 ∧ (strX k x).c7 = x.c7 := by
 unfold strX
 split <;> exact ⟨rfl, rfl, rfl, rfl, rfl, rfl, rfl, rfl, rfl, rfl, rfl, rfl⟩
theorem Dk.noB {w : World} {b : Nat} {x : Dc} {f g : Nat} {l l2 : Dr} {P : List Ch} {al : Ar} (h : Dk w b x f g l l2 P al) : f ≠ b ∧ g ≠ b ∧ (∀ m, x.am = some m → m ≠ b) ∧ (∀ k, x.pd.ownBlock = some k → k ≠ b) :=
 ⟨fun e => h.mf.ne h.box e.symm, fun e => h.mg.ne h.box e.symm, fun m e c => (h.am m e).1.ne h.box c.symm, fun k e c => h.pd.no h.box (by decide) (by rw [← c]; exact e)⟩
theorem Dk.noP {w : World} {b : Nat} {x : Dc} {f g : Nat} {l l2 : Dr} {P : List Ch} {al : Ar} (h : Dk w b x f g l l2 P al) : ∀ k, x.pd.ownBlock = some k → k ≠ f ∧ k ≠ g ∧ x.am ≠ some k := by
 intro k hk
 refine ⟨fun e => h.pd.noM h.mf (by rw [← e]; exact hk), fun e => h.pd.noM h.mg (by rw [← e]; exact hk), fun c => ?_⟩
 rcases h.pd.2 with ⟨q, _⟩ | ⟨g', cap, cur, q, hg, hh, r⟩
 ·rw [q] at hk; simp [Value.ownBlock] at hk
 ·rw [q] at hk; simp [Value.ownBlock] at hk; subst hk; exact (h.am _ c).1.ne hh rfl
theorem Dk.strX {w w' : World} {b : Nat} {x : Dc} {f g : Nat} {l l2 : Dr} {P : List Ch} {al : Ar} (h : Dk w b x f g l l2 P al) (k : Int) (hc : w'.heap[b]? = some (.cells (strC k (dcells x)) TD (0, 0))) (hB : But (fun k => k = b) w w') : Dk w' b (strX k x) f g l l2 P al := by
 rw [str_cells] at hc
 obtain ⟨e3, e4, e5, e6, r⟩ := strX_rest k x
 obtain ⟨r0, r1, r2, r3, r4, r5, r6, r7⟩ := r
 obtain ⟨n1, n2, n3, n4⟩ := h.noB
 refine ⟨hc, by rw [e3]; exact h.fm, by rw [e4]; exact h.lm, h.mf.but hB n1, h.mg.but hB n2, h.fg, by rw [e5]; exact h.pd.but hB n4, ?_, by rw [e6]; exact h.an, h.run, h.can, h.ok, by rw [r0, r1, r2, r3, r4, r5, r6, r7]; exact h.c0, by rw [r0, r1, r2, r3, r4, r5, r6, r7]; exact h.c1⟩
 rw [e6]
 exact fun m e => ⟨(h.am m e).1.but hB (n3 m e), (h.am m e).2⟩
theorem dk_strike (w : World) (b : Nat) (x : Dc) (f g : Nat) (l l2 : Dr) (P : List Ch) (al : Ar) (t : Ft) (h : Dk w b x f g l l2 P al) (hk : t.2.1 ≠ 4) :
    Calls Tryz.prog 103 #[.pointer (some ⟨b, 0, none⟩), fv t] w fun e w' => e = .returned (.int .i64 (strF t.2.1)) ∧ Dk w' b (strX t.2.1 x) f g l l2 P al ∧ But (fun k => k = b) w w' :=
 (strike_any w b (dcells x) t h.box ⟨_, rfl⟩ hk).mono fun _ _ ⟨he, hc, hB⟩ => ⟨he, h.strX _ hc hB, hB⟩
theorem dk_strikeR (w : World) (b : Nat) (x : Dc) (f g : Nat) (l l2 : Dr) (P : List Ch) (al : Ar) (t : Ft) (h : Dk w b x f g l l2 P al) (hk : t.2.1 ≠ 4) :
    Calls Tryz.prog 63 #[.pointer (some ⟨b, 0, none⟩), fv t] w fun e w' => e = .returned (.int .i64 (strR t.2.1)) ∧ Dk w' b (strX t.2.1 x) f g l l2 P al ∧ But (fun k => k = b) w w' :=
 (strikeRoomless_any w b (dcells x) t h.box ⟨_, rfl⟩ hk).mono fun _ _ ⟨he, hc, hB⟩ => ⟨he, h.strX _ hc hB, hB⟩
theorem dk_settle (w : World) (b : Nat) (x : Dc) (f g : Nat) (l l2 : Dr) (P : List Ch) (al : Ar) (h : Dk w b x f g l l2 P al) :
    Calls Tryz.prog 65 #[.pointer (some ⟨b, 0, none⟩)] w fun e w' => e = .returned (.tuple #[]) ∧ ∃ g', w.heap.size ≤ g' ∧ Dk w' b { x with lm := some g', pd := .slice none 0 0 } f g' l l [] al ∧ But (fun k => k = b) w w' := by
 refine (settle_any w b f (dcells x) l h.box rfl (by rw [← h.fm]; rfl) h.mf).mono ?_
 rintro e w' ⟨rfl, g', hg, mg, hc, hB⟩
 obtain ⟨n1, n2, n3, n4⟩ := h.noB
 refine ⟨rfl, g', hg, ⟨hc, h.fm, rfl, h.mf.but hB n1, mg, ?_, Pd.nil _, ?_, h.an, rfl, trivial, by simp, h.c0, h.c1⟩, hB⟩
 ·have := h.mf.lt; omega
 ·intro m e
  refine ⟨(h.am m e).1.but hB (n3 m e), (h.am m e).2.1, ?_⟩
  have := (h.am m e).1.lt
  omega
theorem cans_snoc {l : Dr} {P : List Ch} {c : Ch} (h : Cans l P) (hc : c.can (runs l P)) : Cans l (P ++ [c]) := by
 induction P generalizing l with
 | nil => exact ⟨hc, trivial⟩
 | cons d r ih => exact ⟨h.1, ih h.2 (by simpa [runs] using hc)⟩
theorem dk_change (w : World) (b : Nat) (x : Dc) (f g : Nat) (l l2 : Dr) (P : List Ch) (al : Ar) (c : Ch) (h : Dk w b x f g l l2 P al) (hc : c.ok) (hk : c.can l) (hl : l.length < maxLen) (hP : P.length < 1000000000) :
    Calls Tryz.prog 113 #[.pointer (some ⟨b, 0, none⟩), c.iface] w fun e w' => e = .returned (.tuple #[]) ∧ ∃ pd', Dk w' b { x with pd := pd' } f g (c.run l) l2 (P ++ [c]) al ∧ But (Own b x) w w' ∧ (∀ k, pd'.ownBlock = some k → x.pd.ownBlock = some k ∨ w.heap.size ≤ k) := by
 refine (change_any w b f (dcells x) l P x.pd c h.box (by rw [← h.fm]; rfl) rfl h.mf h.pd hc hk hl hP).mono ?_
 rintro e w' ⟨rfl, mf, pd', hp, hb, hB, ho⟩
 obtain ⟨n1, n2, n3, n4⟩ := h.noB
 refine ⟨rfl, pd', ⟨hb, h.fm, h.lm, mf, ?_, h.fg, hp, ?_, h.an, by rw [runs_snoc, ← h.run], cans_snoc h.can (by rw [← h.run]; exact hk), ?_, h.c0, h.c1⟩, hB.mono ?_, ho⟩
 ·refine h.mg.but hB ?_
  rintro (q | q | q)
  ·exact n2 q
  ·exact h.fg q.symm
  ·exact (h.noP g q).2.1 rfl
 ·intro m e
  refine ⟨(h.am m e).1.but hB ?_, (h.am m e).2⟩
  rintro (q | q | q)
  ·exact n3 m e q
  ·exact (h.am m e).2.1 q
  ·exact (h.noP m q).2.2 e
 ·intro d hd
  rcases List.mem_append.1 hd with q | q
  ·exact h.ok d q
  ·rw [List.mem_singleton.1 q]; exact hc
 ·rintro k _ (q | q | q)
  ·exact .inl q
  ·rw [q]; exact .inr (.inl h.fm)
  ·exact .inr (.inr (.inr (.inl q)))
def nextF (x : Dc) (al : Ar) : Ft := (aget al (x.c7 + 1)).getD zf
structure Stp (w w' : World) (b : Nat) (x x' : Dc) : Prop where
 but : But (Own b x) w w'
 own : ∀ k, Own b x' k → Own b x k ∨ w.heap.size ≤ k
theorem Stp.of_below {w w' : World} {b : Nat} {x : Dc} (h : Below w.heap.size w w') : Stp w w' b x x := ⟨But.of_below h _, fun _ q => .inl q⟩
theorem Stp.trans {w u w' : World} {b : Nat} {x y z : Dc} (h : Stp w u b x y) (k : Stp u w' b y z) : Stp w w' b x z := by
 refine ⟨⟨k.but.os.trans h.but.os, k.but.tape.trans h.but.tape, k.but.output.trans h.but.output, Nat.le_trans h.but.size k.but.size, fun i hi hx => ?_⟩, fun i hi => ?_⟩
 ·rw [k.but.block i (Nat.lt_of_lt_of_le hi h.but.size) (fun c => ?_)]
  ·exact h.but.block i hi hx
  ·rcases h.own i c with q | q
   ·exact hx q
   ·omega
 ·rcases k.own i hi with q | q
  ·exact h.own i q
  ·exact .inr (Nat.le_trans h.but.size q)
theorem own_inc {b : Nat} {x : Dc} {j k : Nat} : Own b (inc x j) k ↔ Own b x k := by
 obtain ⟨e1, e2, e3, e4, e5, e6, e7, e8⟩ := inc_rest x j
 unfold Own
 rw [e3, e4, e5, e6]
theorem own_strX {b : Nat} {x : Dc} {t : Int} {k : Nat} : Own b (strX t x) k ↔ Own b x k := by
 obtain ⟨e3, e4, e5, e6, _⟩ := strX_rest t x
 unfold Own
 rw [e3, e4, e5, e6]
theorem Stp.inc {w w' : World} {b : Nat} {x : Dc} {j : Nat} (h : But (Own b x) w w') : Stp w w' b x (inc x j) := ⟨h, fun _ q => .inl (own_inc.1 q)⟩
theorem Stp.strX {w w' : World} {b : Nat} {x : Dc} {t : Int} (h : But (fun k => k = b) w w') : Stp w w' b x (strX t x) := ⟨h.mono fun _ _ e => .inl e, fun _ q => .inl (own_strX.1 q)⟩
theorem Stp.settle {w w' : World} {b g' : Nat} {x : Dc} (h : But (fun k => k = b) w w') (hg : w.heap.size ≤ g') : Stp w w' b x { x with lm := some g', pd := .slice none 0 0 } := by
 refine ⟨h.mono fun _ _ e => .inl e, ?_⟩
 rintro k (q | q | q | q | q)
 ·exact .inl (.inl q)
 ·exact .inl (.inr (.inl q))
 ·simp at q; subst q; exact .inr hg
 ·simp [Value.ownBlock] at q
 ·exact .inl (.inr (.inr (.inr (.inr q))))
theorem Stp.change {w w' : World} {b : Nat} {x : Dc} {pd : Value} (h : But (Own b x) w w') (ho : ∀ k, pd.ownBlock = some k → x.pd.ownBlock = some k ∨ w.heap.size ≤ k) : Stp w w' b x { x with pd := pd } := by
 refine ⟨h, ?_⟩
 rintro k (q | q | q | q | q)
 ·exact .inl (.inl q)
 ·exact .inl (.inr (.inl q))
 ·exact .inl (.inr (.inr (.inl q)))
 ·rcases ho k q with r | r
  ·exact .inl (.inr (.inr (.inr (.inl r))))
  ·exact .inr r
 ·exact .inl (.inr (.inr (.inr (.inr q))))
theorem syncDir_any (w : World) (b : Nat) (x : Dc) (f g : Nat) (l l2 : Dr) (P : List Ch) (al : Ar) (h : Dk w b x f g l l2 P al) (hc : x.c7 < 4611686018427387904) (hk : (nextF x al).2.1 ≠ 4) :
    Calls Tryz.prog 42 #[.pointer (some ⟨b, 0, none⟩)] w fun e w' =>
     (refF (some x) [] ≠ 0 ∧ e = .returned (.int .i64 (refF (some x) [])) ∧ Dk w' b x f g l l2 P al ∧ Stp w w' b x x) ∨
     (refF (some x) [] = 0 ∧ e = .returned (.int .i64 (strR (nextF x al).2.1)) ∧ ((strR (nextF x al).2.1 ≠ 0 ∧ Dk w' b (strX (nextF x al).2.1 (inc x 6)) f g l l2 P (adel al (x.c7 + 1)) ∧ Stp w w' b x (strX (nextF x al).2.1 (inc x 6))) ∨
      (strR (nextF x al).2.1 = 0 ∧ ∃ g', Dk w' b { strX (nextF x al).2.1 (inc x 6) with lm := some g', pd := .slice none 0 0 } f g' l l [] (adel al (x.c7 + 1)) ∧ Stp w w' b x { strX (nextF x al).2.1 (inc x 6) with lm := some g', pd := .slice none 0 0 }))) := by
 have hr := refuse_any w _ _ (some x) [] h.dp (row0 w) (by simp)
 obtain ⟨r, hR⟩ : ∃ r, Hid (refF (some x) [] = r) := ⟨_, rfl⟩
 rw [hR.out] at hr ⊢
 have H := hide h
 by_cases r0 : r = 0
 ·subst r0
  have hb := begin_any w b x f g l l2 P al 6 (by omega) h hc
  rw [show (aget al (x.c7 + 1)).getD zf = nextF x al from rfl] at hb
  generalize nextF x al = t at *
  have hS : Hid (∀ u, Dk u b (inc x 6) f g l l2 P (adel al (x.c7 + 1)) → _) := fun u hu => dk_strikeR u b (inc x 6) f g l l2 P (adel al (x.c7 + 1)) t hu hk
  obtain ⟨s, hs⟩ : ∃ s, Hid (strR t.2.1 = s) := ⟨_, rfl⟩
  rw [hs.out] at hS ⊢
  by_cases s0 : s = 0
  ·subst s0
   have hT : Hid (∀ u, Dk u b (strX t.2.1 (inc x 6)) f g l l2 P (adel al (x.c7 + 1)) → _) := fun u hu => dk_settle u b _ f g l l2 P _ hu
   clear h hk
   generalize hX : strX t.2.1 (inc x 6) = y at *
   replace hX := hide hX
   go_enter Tryz.func42, Tryz.ntmps42
   go_wp2_with (first
    | (go_at_call 61; refine hr.mono ?_; rintro e w1 ⟨rfl, e1⟩; subst w1)
    | (go_at_call 64; refine hb.mono ?_; rintro e w1 ⟨rfl, D1, B1⟩; replace D1 := hide D1; replace B1 := hide B1)
    | (go_at_call 63; refine (hS.out _ D1.out).mono ?_; rintro e w2 ⟨rfl, D2, B2⟩; replace D2 := hide D2; replace B2 := hide B2)
    | (go_at_call 65; refine (hT.out _ D2.out).mono ?_; rintro e w3 ⟨rfl, g', hg, D3, B3⟩; replace D3 := hide D3; replace B3 := hide B3; replace hg := hide hg))
   go_ret
   have T2 : Stp w1 w2 b (inc x 6) y := by rw [← hX.out]; exact Stp.strX B2.out
   exact .inr ⟨by trivial, rfl, .inr ⟨by trivial, g', D3.out, ((Stp.inc B1.out).trans T2).trans (Stp.settle B3.out hg.out)⟩⟩
  ·have s0' : (s != 0) = true := by simpa using s0
   clear h hk
   generalize hX : strX t.2.1 (inc x 6) = y at *
   replace hX := hide hX
   replace s0 := hide s0
   go_enter Tryz.func42, Tryz.ntmps42
   go_wp2_with (first
    | (go_at_call 61; refine hr.mono ?_; rintro e w1 ⟨rfl, e1⟩; subst w1)
    | (go_at_call 64; refine hb.mono ?_; rintro e w1 ⟨rfl, D1, B1⟩; replace D1 := hide D1; replace B1 := hide B1)
    | (go_at_call 63; refine (hS.out _ D1.out).mono ?_; rintro e w2 ⟨rfl, D2, B2⟩; replace D2 := hide D2; replace B2 := hide B2))
   go_ret
   have T2 : Stp w1 w2 b (inc x 6) y := by rw [← hX.out]; exact Stp.strX B2.out
   exact .inr ⟨by trivial, rfl, .inl ⟨s0.out, D2.out, (Stp.inc B1.out).trans T2⟩⟩
 ·have r0' : (r != 0) = true := by simpa using r0
  replace r0 := hide r0
  clear h hk hR
  go_enter Tryz.func42, Tryz.ntmps42
  go_wp2_with (go_at_call 61; refine hr.mono ?_; rintro e w1 ⟨rfl, e1⟩; subst w1)
  go_ret
  exact .inl ⟨r0.out, rfl, H.out, Stp.of_below (Below.refl _ _)⟩
end Go.Proofs.YtnimildpcnmjeaaGreatDoor.Dk
namespace Go.Proofs
open Go.Shelf
def Tryz.keys102_ren : Go.Shelf.Ren := ⟨fun | 7 => 102 | 10 => 149 | n => n, fun | 23 => 60 | 26 => 9 | 3 => 152 | 28 => 166 | 0 => 0 | 27 => 165 | 33 => 137 | 4 => 4 | n => n, fun | n => n⟩
theorem Tryz.keys102 : Go.Proofs.SlLaysZ.n7 Tryz.prog Tryz.keys102_ren := {
 mixed := by kernel_rfl
 f7 := ⟨Tryz.f102.name, by decide, Tryz.func102.trans (congrArg some (by kernel_rfl))⟩
 f10 := ⟨Tryz.f149.name, by decide, Tryz.func149.trans (congrArg some (by kernel_rfl))⟩
 t0 := Tryz.underlying0
 a0 := Tryz.isAgg0
 z0 := Tryz.sizeOf0
 v0 := Tryz.zeroValue0
 t4 := Tryz.underlying4
 a4 := Tryz.isAgg4
 z4 := Tryz.sizeOf4
 v4 := Tryz.zeroValue4
 t23 := Tryz.underlying60
 a23 := Tryz.isAgg60
 z23 := Tryz.sizeOf60
 v23 := Tryz.zeroValue60
 t26 := Tryz.underlying9
 a26 := Tryz.isAgg9
 z26 := Tryz.sizeOf9
 v26 := Tryz.zeroValue9
 t27 := Tryz.underlying165
 a27 := Tryz.isAgg165
 z27 := Tryz.sizeOf165
 v27 := Tryz.zeroValue165
 t28 := Tryz.underlying166
 a28 := Tryz.isAgg166
 z28 := Tryz.sizeOf166
 v28 := Tryz.zeroValue166
 t33 := Tryz.underlying137
 a33 := Tryz.isAgg137
 z33 := Tryz.sizeOf137
 v33 := Tryz.zeroValue137 }
def Tryz.sorted101_ren : Go.Shelf.Ren := ⟨fun | 6 => 101 | 8 => 147 | 9 => 148 | 11 => 189 | 13 => 191 | 12 => 190 | 23 => 223 | 24 => 224 | 14 => 214 | 15 => 215 | 16 => 216 | 17 => 217 | 18 => 218 | 19 => 219 | 20 => 220 | 21 => 221 | 22 => 222 | 25 => 239 | 26 => 240 | 27 => 241 | 28 => 242 | 29 => 243 | 30 => 244 | 31 => 252 | n => n, fun | 26 => 9 | 28 => 166 | 24 => 70 | 0 => 0 | 3 => 3 | 37 => 262 | 48 => 49 | 50 => 226 | 4 => 4 | 40 => 295 | 39 => 294 | 45 => 89 | 5 => 5 | 9 => 9 | 51 => 316 | 55 => 319 | 57 => 327 | 58 => 328 | 33 => 137 | n => n, fun | n => n⟩
theorem Tryz.sorted101 : Go.Proofs.SlLaysZ.n6 Tryz.prog Tryz.sorted101_ren := {
 mixed := by kernel_rfl
 f6 := ⟨Tryz.f101.name, by decide, Tryz.func101.trans (congrArg some (by kernel_rfl))⟩
 f8 := ⟨Tryz.f147.name, by decide, Tryz.func147.trans (congrArg some (by kernel_rfl))⟩
 f11 := ⟨Tryz.f189.name, by decide, Tryz.func189.trans (congrArg some (by kernel_rfl))⟩
 t0 := Tryz.underlying0
 a0 := Tryz.isAgg0
 z0 := Tryz.sizeOf0
 v0 := Tryz.zeroValue0
 t24 := Tryz.underlying70
 a24 := Tryz.isAgg70
 z24 := Tryz.sizeOf70
 v24 := Tryz.zeroValue70
 t26 := Tryz.underlying9
 a26 := Tryz.isAgg9
 z26 := Tryz.sizeOf9
 v26 := Tryz.zeroValue9
 t28 := Tryz.underlying166
 a28 := Tryz.isAgg166
 z28 := Tryz.sizeOf166
 v28 := Tryz.zeroValue166
 i26 := by kernel_rfl }
def Tryz.sort148_ren : Go.Shelf.Ren := ⟨fun | 6 => 148 | 8 => 191 | 9 => 190 | 19 => 223 | 20 => 224 | 21 => 214 | 22 => 215 | 23 => 216 | 24 => 217 | 25 => 218 | 26 => 219 | 27 => 220 | 28 => 221 | 29 => 222 | 36 => 239 | 31 => 240 | 32 => 241 | 37 => 242 | 38 => 243 | 39 => 244 | 41 => 252 | n => n, fun | 27 => 70 | 29 => 9 | 3 => 3 | 32 => 262 | 26 => 70 | 0 => 0 | 44 => 49 | 46 => 226 | 4 => 4 | 36 => 295 | 35 => 294 | 41 => 89 | 5 => 5 | 9 => 9 | 53 => 316 | 57 => 319 | 63 => 327 | 64 => 328 | n => n, fun | n => n⟩
theorem Tryz.sort148 : Go.Proofs.SlLaysM.n6 Tryz.prog Tryz.sort148_ren := {
 mixed := by kernel_rfl
 f6 := ⟨Tryz.f148.name, by decide, Tryz.func148.trans (congrArg some (by kernel_rfl))⟩
 f8 := Tryz.func191.trans (congrArg some (by kernel_rfl))
 f9 := ⟨Tryz.f190.name, by decide, Tryz.func190.trans (congrArg some (by kernel_rfl))⟩
 f19 := Tryz.func223.trans (congrArg some (by kernel_rfl))
 f20 := Tryz.func224.trans (congrArg some (by kernel_rfl))
 f21 := ⟨Tryz.f214.name, by decide, Tryz.func214.trans (congrArg some (by kernel_rfl))⟩
 f22 := ⟨Tryz.f215.name, by decide, Tryz.func215.trans (congrArg some (by kernel_rfl))⟩
 f23 := ⟨Tryz.f216.name, by decide, Tryz.func216.trans (congrArg some (by kernel_rfl))⟩
 f24 := ⟨Tryz.f217.name, by decide, Tryz.func217.trans (congrArg some (by kernel_rfl))⟩
 f25 := ⟨Tryz.f218.name, by decide, Tryz.func218.trans (congrArg some (by kernel_rfl))⟩
 f26 := ⟨Tryz.f219.name, by decide, Tryz.func219.trans (congrArg some (by kernel_rfl))⟩
 f27 := ⟨Tryz.f220.name, by decide, Tryz.func220.trans (congrArg some (by kernel_rfl))⟩
 f28 := ⟨Tryz.f221.name, by decide, Tryz.func221.trans (congrArg some (by kernel_rfl))⟩
 f29 := ⟨Tryz.f222.name, by decide, Tryz.func222.trans (congrArg some (by kernel_rfl))⟩
 f31 := Tryz.func240.trans (congrArg some (by kernel_rfl))
 f32 := Tryz.func241.trans (congrArg some (by kernel_rfl))
 f36 := ⟨Tryz.f239.name, by decide, Tryz.func239.trans (congrArg some (by kernel_rfl))⟩
 f37 := ⟨Tryz.f242.name, by decide, Tryz.func242.trans (congrArg some (by kernel_rfl))⟩
 f38 := ⟨Tryz.f243.name, by decide, Tryz.func243.trans (congrArg some (by kernel_rfl))⟩
 f39 := ⟨Tryz.f244.name, by decide, Tryz.func244.trans (congrArg some (by kernel_rfl))⟩
 f41 := ⟨Tryz.f252.name, by decide, Tryz.func252.trans (congrArg some (by kernel_rfl))⟩
 t0 := Tryz.underlying0
 a0 := Tryz.isAgg0
 z0 := Tryz.sizeOf0
 v0 := Tryz.zeroValue0
 t3 := Tryz.underlying3
 a3 := Tryz.isAgg3
 z3 := Tryz.sizeOf3
 v3 := Tryz.zeroValue3
 t4 := Tryz.underlying4
 a4 := Tryz.isAgg4
 z4 := Tryz.sizeOf4
 v4 := Tryz.zeroValue4
 t5 := Tryz.underlying5
 a5 := Tryz.isAgg5
 z5 := Tryz.sizeOf5
 v5 := Tryz.zeroValue5
 t9 := Tryz.underlying9
 a9 := Tryz.isAgg9
 z9 := Tryz.sizeOf9
 v9 := Tryz.zeroValue9
 t26 := Tryz.underlying70
 a26 := Tryz.isAgg70
 z26 := Tryz.sizeOf70
 v26 := Tryz.zeroValue70
 t27 := Tryz.underlying70
 a27 := Tryz.isAgg70
 z27 := Tryz.sizeOf70
 v27 := Tryz.zeroValue70
 t29 := Tryz.underlying9
 a29 := Tryz.isAgg9
 z29 := Tryz.sizeOf9
 v29 := Tryz.zeroValue9
 t32 := Tryz.underlying262
 a32 := Tryz.isAgg262
 z32 := Tryz.sizeOf262
 v32 := Tryz.zeroValue262
 t35 := Tryz.underlying294
 a35 := Tryz.isAgg294
 z35 := Tryz.sizeOf294
 v35 := Tryz.zeroValue294
 t36 := Tryz.underlying295
 a36 := Tryz.isAgg295
 z36 := Tryz.sizeOf295
 v36 := Tryz.zeroValue295
 t41 := Tryz.underlying89
 a41 := Tryz.isAgg89
 z41 := Tryz.sizeOf89
 v41 := Tryz.zeroValue89
 t44 := Tryz.underlying49
 a44 := Tryz.isAgg49
 z44 := Tryz.sizeOf49
 v44 := Tryz.zeroValue49
 t46 := Tryz.underlying226
 a46 := Tryz.isAgg226
 z46 := Tryz.sizeOf226
 v46 := Tryz.zeroValue226
 t53 := Tryz.underlying316
 a53 := Tryz.isAgg316
 z53 := Tryz.sizeOf316
 v53 := Tryz.zeroValue316
 t57 := Tryz.underlying319
 a57 := Tryz.isAgg319
 z57 := Tryz.sizeOf319
 v57 := Tryz.zeroValue319
 t63 := Tryz.underlying327
 a63 := Tryz.isAgg327
 z63 := Tryz.sizeOf327
 v63 := Tryz.zeroValue327
 t64 := Tryz.underlying328
 a64 := Tryz.isAgg328
 z64 := Tryz.sizeOf328
 v64 := Tryz.zeroValue328 }
end Go.Proofs
namespace Go.Proofs.YtnimildpcnmjeaaGreatDoor.Dk
open Go.RowKit Go.Maps Go.Sort Go.Shelf Go.Proofs.YtnimildpcnmjeaaGreatDoor.Nm
theorem sorts_any (m : Nat) : AnyZ.SortsIn Tryz.prog Tryz.sorted101_ren Fence.wide m :=
 ⟨fun blk off cap ss W hH hblk hsz => callsIn_wide.2 (AnyM.slices_Sort_string Tryz.sort148 blk off cap ss W hH hblk hsz),
  fun p cap W => callsIn_wide.2 (AnyM.slices_Sort_string_none Tryz.sort148 p cap W)⟩
theorem keys_any (mb : Option Nat) (W : World) : CallsIn Fence.wide 5 Tryz.prog 102 #[.map mb] W fun e w' => e = .returned (.func (.func 149) #[] #[.pointer (some ⟨W.heap.size, 0, none⟩)]) ∧ w' = W.alloc (.cells #[.map mb] 60) :=
 AnyZ.keys_in Tryz.keys102 Fence.wide 5 trivial rfl mb W
theorem sorted_any (b : Nat) (l : Dr) (w : World) (h : Mp w b l) (hl : l.length ≤ 1000000000) :
    CallsIn Fence.wide 5 Tryz.prog 101 #[.func (.func 149) #[] #[.pointer (some ⟨w.heap.size, 0, none⟩)]] (w.alloc (.cells #[.map (some b)] 60)) fun e w' => ∃ (v : Value) (ss : List (List UInt8)), e = .returned v ∧ ss.Perm (strKeys (dirD l)) ∧
     w'.ownsRow (w.alloc (.cells #[.map (some b)] 60)).heap.size 9 1 v ss.length ((ss.mergeSort (fun x y => decide (x ≤ y))).map encStr) ∧ (v = .slice none 0 0 ↔ ss = []) ∧ Below (w.alloc (.cells #[.map (some b)] 60)).heap.size (w.alloc (.cells #[.map (some b)] 60)) w' := by
 have hbl := h.lt
 have hown : w.ownsMap Tryz.prog 9 ptrR b l.length (dirD l) := h
 have hsz : Maps.size (dirD l) = l.length := dirD_size l
 have hseq : SeqGives Fence.wide 2 Tryz.prog 149 #[.pointer (some ⟨w.heap.size, 0, none⟩)] encStr (fun ss => ss.Perm (strKeys (dirD l))) (Maps.size (dirD l)) (w.alloc (.cells #[.map (some b)] 60)) :=
  AnyZ.keys_gives (ρ := Tryz.keys102_ren) { Tryz.keys102 with } Fence.wide _ trivial rfl (by omega) w.heap.size b l.length (dirD l) _ (by simp) (by simp) (by
   obtain ⟨es, clock, hb, Ft, hs, hD⟩ := hown
   exact ⟨es, clock, (Below.heap_alloc _ _ b hbl).trans hb, Ft, hs, hD⟩)
 exact AnyZ.sorted_in Tryz.sorted101 Fence.wide 5 trivial trivial trivial trivial rfl (by omega) (sorts_any _) (enters_of Tryz.func148 (by kernel_rfl) rfl) 149 #[.pointer (some ⟨w.heap.size, 0, none⟩)] trivial (enters_of Tryz.func149 (by kernel_rfl) rfl) _ _ (by rw [hsz]; unfold maxLen; omega) (by rw [hsz]; omega) _ hseq
theorem names_gen (b : Nat) (l : Dr) (w : World) (h : Mp w b l) (hl : l.length ≤ 1000000000) :
    Calls Tryz.prog 62 #[.map (some b)] w fun e w' => ∃ (v : Value) (ss : List (List UInt8)), e = .returned v ∧ ss.Perm (strKeys (dirD l)) ∧
     w'.ownsRow w.heap.size 9 1 v ss.length ((ss.mergeSort (fun x y => decide (x ≤ y))).map encStr) ∧ (v = .slice none 0 0 ↔ ss = []) ∧ Below w.heap.size w w' := by
 refine (callsIn_wide (n := 6)).1 ?_
 have hfK : Fence.wide.fn 102 := trivial
 have hfS : Fence.wide.fn 101 := trivial
 refine callsIn_of_wp Tryz.func62 rfl trivial ?_ rfl
 simp only [Tryz.ntmps62, List.size_toArray, List.length_cons, List.length_nil, Nat.reduceAdd, Nat.reduceSub, Array.replicate_succ, Array.replicate_zero, List.push_toArray, List.append_toArray, List.nil_append, List.cons_append]
 gi_wp2_with (first
  | (gi_at_call 102; refine (keys_any _ _).mono ?_; rintro e w' ⟨rfl, rfl⟩)
  | (gi_at_call 101; refine (sorted_any b l w h hl).mono ?_; rintro e w' ⟨v, ss, rfl, hS, hrow, hnil, hb⟩))
 go_ret
 exact ⟨v, ss, rfl, hS, ownsRow_base_a hrow (by simp), hnil, ((Below.refl _ w).alloc (Nat.le_refl _) _).trans (hb.mono (by simp))⟩
end Go.Proofs.YtnimildpcnmjeaaGreatDoor.Dk
namespace Go.Proofs
open Go.Shelf
def Tryz.laysM316_ren : Go.Shelf.Ren := ⟨fun | 316 => 166 | n => n, fun | 9 => 9 | 3 => 3 | 4 => 4 | 37 => 54 | 0 => 0 | 127 => 275 | 5 => 5 | n => n, fun | n => n⟩
theorem Tryz.laysM316 : Go.Proofs.LaysM.n316 Tryz.prog Tryz.laysM316_ren := {
 mixed := by kernel_rfl
 f316 := Tryz.func166.trans (congrArg some (by kernel_rfl))
 t0 := Tryz.underlying0
 a0 := Tryz.isAgg0
 z0 := Tryz.sizeOf0
 v0 := Tryz.zeroValue0
 t3 := Tryz.underlying3
 a3 := Tryz.isAgg3
 z3 := Tryz.sizeOf3
 v3 := Tryz.zeroValue3
 t4 := Tryz.underlying4
 a4 := Tryz.isAgg4
 z4 := Tryz.sizeOf4
 v4 := Tryz.zeroValue4
 t9 := Tryz.underlying9
 a9 := Tryz.isAgg9
 z9 := Tryz.sizeOf9
 v9 := Tryz.zeroValue9
 t37 := Tryz.underlying54
 a37 := Tryz.isAgg54
 z37 := Tryz.sizeOf54
 v37 := Tryz.zeroValue54
 t127 := Tryz.underlying275
 a127 := Tryz.isAgg275
 z127 := Tryz.sizeOf275
 v127 := Tryz.zeroValue275
 t5 := Tryz.underlying5
 a5 := Tryz.isAgg5
 z5 := Tryz.sizeOf5
 v5 := Tryz.zeroValue5
 i0 := by kernel_rfl
 i3 := by kernel_rfl
 i4 := by kernel_rfl
 i5 := by kernel_rfl
 i9 := by kernel_rfl
 i37 := by kernel_rfl
 i127 := by kernel_rfl }
open Go.RowKit in
theorem Tryz.stringslite_Clone (s : ByteArray) (w : World) (hlim : s.size ≤ 281474976710656) :
    Calls Tryz.prog 166 #[.string s] w fun e w' => e = .returned (.string s) ∧ Below w.heap.size w w' := Any.stringslite_Clone Tryz.laysM316 s w hlim
end Go.Proofs
namespace Go.Proofs.YtnimildpcnmjeaaGreatDoor.Dk
open Go.RowKit Go.Maps Go.Sort Go.Shelf Go.Proofs.YtnimildpcnmjeaaGreatDoor.Nm
def nms (l : Dr) : List (List UInt8) := (l.map (·.1)).mergeSort fun x y => decide (x ≤ y)
theorem sort_perm {ss tt : List (List UInt8)} (h : ss.Perm tt) : (ss.mergeSort fun x y => decide (x ≤ y)) = tt.mergeSort fun x y => decide (x ≤ y) := by
 have tr : ∀ a b c : List UInt8, decide (a ≤ b) = true → decide (b ≤ c) = true → decide (a ≤ c) = true := fun a b c h1 h2 => by simp only [decide_eq_true_eq] at *; exact List.le_trans h1 h2
 have tt' : ∀ a b : List UInt8, (decide (a ≤ b) || decide (b ≤ a)) = true := fun a b => by simp only [Bool.or_eq_true, decide_eq_true_eq]; exact List.le_total a b
 have p1 := List.pairwise_mergeSort tr tt' ss
 have p2 := List.pairwise_mergeSort tr tt' tt
 refine List.Perm.eq_of_pairwise (le := fun a b => decide (a ≤ b) = true) (fun a b _ _ h1 h2 => ?_) p1 p2 (((List.mergeSort_perm _ _).trans h).trans (List.mergeSort_perm _ _).symm)
 simp only [decide_eq_true_eq] at h1 h2
 exact List.le_antisymm h1 h2
theorem keys_dir (l : Dr) : strKeys (dirD l) = l.map (·.1) := by
 show (l.map dent).map (fun p => strOf p.1) = _
 rw [List.map_map]
 rfl
theorem nms_len (l : Dr) : (nms l).length = l.length := by rw [nms, List.length_mergeSort, List.length_map]
theorem names_any (b : Nat) (l : Dr) (w : World) (h : Mp w b l) (hl : l.length ≤ 1000000000) :
    Calls Tryz.prog 62 #[.map (some b)] w fun e w' => ∃ v : Value, e = .returned v ∧ w'.ownsRow w.heap.size 9 1 v (nms l).length ((nms l).map encStr) ∧ (v = .slice none 0 0 ↔ l = []) ∧ Below w.heap.size w w' := by
 refine (names_gen b l w h hl).mono ?_
 rintro e w' ⟨v, ss, rfl, hp, hr, hn, hB⟩
 rw [keys_dir] at hp
 rw [sort_perm hp] at hr
 refine ⟨v, rfl, ?_, ?_, hB⟩
 ·have e : ss.length = (nms l).length := by rw [nms_len, hp.length_eq, List.length_map]
  rw [← e]
  exact hr
 ·rw [hn]
  constructor
  ·rintro rfl
   exact List.map_eq_nil_iff.1 (List.nil_perm.1 hp)
  ·rintro rfl
   exact List.perm_nil.1 hp
theorem clone_str (s : ByteArray) (w : World) (hs : s.size ≤ 281474976710656) : Calls Tryz.prog 114 #[.string s] w fun e w' => e = .returned (.string s) ∧ Below w.heap.size w w' := by
 have hc := Tryz.stringslite_Clone s w hs
 go_enter Tryz.func114, Tryz.ntmps114
 go_wp2_with (go_at_call 166; refine hc.mono ?_; rintro e w1 ⟨rfl, B1⟩; replace B1 := hide B1)
 go_ret
 exact ⟨rfl, B1.out⟩
inductive Created (w w' : World) (b : Nat) (x : Dc) (f g : Nat) (l l2 : Dr) (P : List Ch) (al : Ar) (s : ByteArray) : Int → Prop where
 | no (r : Int) (hr : refF (some x) [s] = r) (h0 : r ≠ 0) (hd : Dk w' b x f g l l2 P al) (st : Stp w w' b x x) : Created w w' b x f g l l2 P al s r
 | there (hr : refF (some x) [s] = 0) (ht : (get l s.data.toList).isSome = true) (hd : Dk w' b x f g l l2 P al) (st : Stp w w' b x x) : Created w w' b x f g l l2 P al s 7
 | many (hr : refF (some x) [s] = 0) (ht : get l s.data.toList = none) (hm : 256 ≤ l.length) (hd : Dk w' b x f g l l2 P al) (st : Stp w w' b x x) : Created w w' b x f g l l2 P al s 9
 | struck (e : Int) (hr : refF (some x) [s] = 0) (ht : get l s.data.toList = none) (hm : l.length < 256) (he : strF (nextF x al).2.1 = e) (h0 : e ≠ 0) (hd : Dk w' b (strX (nextF x al).2.1 (inc x 0)) f g l l2 P (adel al (x.c7 + 1))) (st : Stp w w' b x (strX (nextF x al).2.1 (inc x 0))) : Created w w' b x f g l l2 P al s e
 | done (hr : refF (some x) [s] = 0) (ht : get l s.data.toList = none) (hm : l.length < 256) (he : strF (nextF x al).2.1 = 0) (p : Nat) (pd : Value) (hp : w.heap.size ≤ p) (ho : ¬ Own b { strX (nextF x al).2.1 (inc x 0) with pd := pd } p) (hf : w'.heap[p]? = some (.cells #[.slice none 0 0, .slice none 0 0, .int .i64 0] 170 (0, 0)))
     (hd : Dk w' b { strX (nextF x al).2.1 (inc x 0) with pd := pd } f g (dput l s.data.toList p) l2 (P ++ [.cr s p]) (adel al (x.c7 + 1))) (st : Stp w w' b x { strX (nextF x al).2.1 (inc x 0) with pd := pd }) : Created w w' b x f g l l2 P al s 0
theorem create_any (w : World) (b : Nat) (x : Dc) (f g : Nat) (l l2 : Dr) (P : List Ch) (al : Ar) (s : ByteArray) (hs : s.size ≤ 140737488355328) (h : Dk w b x f g l l2 P al) (hc : x.c7 < 4611686018427387904) (hk : (nextF x al).2.1 ≠ 4) (hP : P.length < 1000000000) :
    Calls Tryz.prog 122 #[.pointer (some ⟨b, 0, none⟩), .string s] w fun e w' => ∃ r, e = .returned (.int .i64 r) ∧ Created w w' b x f g l l2 P al s r := by
 have hs2 : s.size ≤ maxLen := by unfold maxLen; omega
 have hB := hide ((Below.refl _ w).alloc (Nat.le_refl _) (.cells #[.string s] 9))
 have H1 := hide (h.below hB.out)
 have hr := refuse_any (w.alloc (.cells #[.string s] 9)) _ _ (some x) [s] H1.out.dp (row1 w s _ _) (by simpa using hs2)
 obtain ⟨r, hR⟩ : ∃ r, Hid (refF (some x) [s] = r) := ⟨_, rfl⟩
 rw [hR.out] at hr
 generalize hw1 : w.alloc (.cells #[.string s] 9) = w1 at *
 replace hw1 := hide hw1
 have K1 := hide (Stp.of_below (b := b) (x := x) hB.out)
 by_cases r0 : r = 0
 ·subst r0
  have c2 : w1.cell? ⟨b, 2, none⟩ = some (.map (some f)) := by have := H1.out.box.cells.2.2.1; rw [H1.out.fm] at this; exact this
  by_cases g0 : (get l s.data.toList).isSome = true
  ·obtain ⟨p, hp⟩ := Option.isSome_iff_exists.1 g0
   have hL := H1.out.mf.look_some hs2 hp
   unfold TM at hL
   clear h hk
   replace g0 := hide g0
   go_enter Tryz.func122, Tryz.ntmps122
   go_upto_region 1 with fail
   go_wp2_with (go_at_call 61; rw [hw1.out]; refine hr.mono ?_; rintro e w2 ⟨rfl, e1⟩; subst w2)
   go_ret
   exact ⟨7, rfl, .there hR.out g0.out H1.out K1.out⟩
  ·have hg : get l s.data.toList = none := by simpa using g0
   have hL := H1.out.mf.look_none hs2 hg
   have hLen := fun ty => H1.out.mf.len ty
   unfold TM at hL hLen
   replace hg := hide hg
   by_cases m0 : 256 ≤ l.length
   ·have m1 : (256 : Int) ≤ (l.length : Int) := by omega
    clear h hk g0
    go_enter Tryz.func122, Tryz.ntmps122
    go_wp2_with (go_at_call 61; rw [hw1.out]; refine hr.mono ?_; rintro e w2 ⟨rfl, e1⟩; subst w2)
    go_ret
    exact ⟨9, rfl, .many hR.out hg.out m0 H1.out K1.out⟩
   ·have m1 : ¬ (256 : Int) ≤ (l.length : Int) := by omega
    have m2 : l.length < 256 := by omega
    have hb := begin_any w1 b x f g l l2 P al 0 (by omega) H1.out hc
    rw [show (aget al (x.c7 + 1)).getD zf = nextF x al from rfl] at hb
    have hS : Hid (∀ u, Dk u b (inc x 0) f g l l2 P (adel al (x.c7 + 1)) → _) := fun u hu => dk_strike u b (inc x 0) f g l l2 P (adel al (x.c7 + 1)) (nextF x al) hu hk
    obtain ⟨t, ht⟩ : ∃ t, Hid (nextF x al = t) := ⟨_, rfl⟩
    rw [ht.out] at hS hb hk
    obtain ⟨e0, he⟩ : ∃ e0, Hid (strF t.2.1 = e0) := ⟨_, rfl⟩
    rw [he.out] at hS
    obtain ⟨y, hX⟩ : ∃ y, Hid (strX t.2.1 (inc x 0) = y) := ⟨_, rfl⟩
    rw [hX.out] at hS
    by_cases s0 : e0 = 0
    ·subst s0
     have hC := hide (clone_str s)
     have hT : Hid (∀ u p, Dk u b y f g l l2 P (adel al (x.c7 + 1)) → _) := fun u p hu => dk_change u b y f g l l2 P _ (.cr s p) hu hs2 trivial (by unfold maxLen; omega) hP
     clear h hk g0
     go_enter Tryz.func122, Tryz.ntmps122
     go_wp2_with (first
      | (go_at_call 61; rw [hw1.out]; refine hr.mono ?_; rintro e w2 ⟨rfl, e1⟩; subst w2)
      | (go_at_call 64; refine hb.mono ?_; rintro e w2 ⟨rfl, D2, B2⟩; replace D2 := hide D2; replace B2 := hide B2; clear hL hLen c2)
      | (go_at_call 103; refine (hS.out _ D2.out).mono ?_; rintro e w3 ⟨rfl, D3, B3⟩; replace D3 := hide D3; replace B3 := hide B3)
      | (go_at_call 114; refine (hC.out w3 (by omega)).mono ?_; rintro e w4 ⟨rfl, B4⟩; replace B4 := hide B4; have D4 := hide (D3.out.below B4.out); have B5 := hide ((Below.refl _ w4).alloc (Nat.le_refl _) (.cells #[.slice none 0 0, .slice none 0 0, .int .i64 0] 170)); have N5 := hide (heap_alloc_new w4 (.cells #[.slice none 0 0, .slice none 0 0, .int .i64 0] 170)); have D5 := hide (D4.out.below B5.out))
      | (go_at_call 113; refine (hT.out _ w4.heap.size D5.out).mono ?_; rintro e w6 ⟨rfl, pd, D6, B6, O6⟩; replace D6 := hide D6; replace B6 := hide B6; replace O6 := hide O6))
     go_ret
     have T3 : Stp w2 w3 b (inc x 0) y := by rw [← hX.out]; exact Stp.strX B3.out
     have T5 : Stp w3 (w4.alloc (.cells #[.slice none 0 0, .slice none 0 0, .int .i64 0] 170)) b y y := Stp.of_below (B4.out.trans (B5.out.mono B4.out.size))
     have T6 := Stp.change B6.out O6.out
     have T4 := (K1.out.trans (Stp.inc B2.out)).trans T3
     have z3 := T4.but.size
     have z4 := B4.out.size
     have hno : ¬ Own b y w4.heap.size := fun c => Nat.lt_irrefl _ (D4.out.lt _ c)
     refine ⟨0, rfl, .done hR.out hg.out m2 (by rw [ht.out, he.out]) w4.heap.size pd (by omega) ?_ (B6.out.at N5.out hno) ?_ ?_⟩
     ·rw [ht.out, hX.out]
      intro c
      rcases T6.own _ c with q | q
      ·exact hno q
      ·simp at q
       omega
     ·rw [ht.out, hX.out]; exact D6.out
     ·rw [ht.out, hX.out]; exact (T4.trans T5).trans T6
    ·have s0' : (e0 != 0) = true := by simpa using s0
     replace s0 := hide s0
     clear h hk g0
     go_enter Tryz.func122, Tryz.ntmps122
     go_wp2_with (first
      | (go_at_call 61; rw [hw1.out]; refine hr.mono ?_; rintro e w2 ⟨rfl, e1⟩; subst w2)
      | (go_at_call 64; refine hb.mono ?_; rintro e w2 ⟨rfl, D2, B2⟩; replace D2 := hide D2; replace B2 := hide B2; clear hL hLen c2)
      | (go_at_call 103; refine (hS.out _ D2.out).mono ?_; rintro e w3 ⟨rfl, D3, B3⟩; replace D3 := hide D3; replace B3 := hide B3))
     go_ret
     have T2 : Stp w2 w3 b (inc x 0) y := by rw [← hX.out]; exact Stp.strX B3.out
     refine ⟨e0, rfl, .struck e0 hR.out hg.out m2 (by rw [ht.out, he.out]) s0.out ?_ ?_⟩
     ·rw [ht.out, hX.out]; exact D3.out
     ·rw [ht.out, hX.out]; exact (K1.out.trans (Stp.inc B2.out)).trans T2
 ·have r0' : (r != 0) = true := by simpa using r0
  replace r0 := hide r0
  clear h hk
  go_enter Tryz.func122, Tryz.ntmps122
  go_wp2_with (go_at_call 61; rw [hw1.out]; refine hr.mono ?_; rintro e w2 ⟨rfl, e1⟩; subst w2)
  go_ret
  exact ⟨r, rfl, .no r hR.out r0.out H1.out K1.out⟩
end Go.Proofs.YtnimildpcnmjeaaGreatDoor.Dk
namespace Go.Proofs.YtnimildpcnmjeaaGreatDoor
open Go.RowKit
set_option maxRecDepth 100000
theorem hide {p : Prop} (h : p) : Hid p := h
theorem owns_zero {w : World} {base e cap g : Nat} {cur : Array Value} (hg : base ≤ g) (h : w.heap[g]? = some (.cells cur e (0, 0))) (hs : cur.size = cap) (hm : cap ≤ maxLen) : w.ownsRow base e 1 (.slice (some ⟨g, 0, none⟩) 0 cap) 0 (bvals []) :=
 ⟨rfl, Or.inr ⟨g, cap, cur, rfl, hg, h, Nat.zero_le _, hm, by omega, by simp [bvals]⟩⟩
theorem grow_any (w : World) (n : Nat) (hn : n ≤ 140737488355328) :
    Calls Tryz.prog 204 #[.slice none 0 0, .int .i64 (n : Int)] w fun e w' => ∃ v', e = .returned v' ∧ w'.ownsRow w.heap.size 5 1 v' 0 (bvals []) ∧ Below w.heap.size w w' := by
 obtain ⟨i0, hi, hz0, hz1, hz2⟩ := info_parts Tryz.infoU8
 have HN : Hid (n ≤ 140737488355328) := hn
 by_cases h0 : n = 0
 ·subst h0
  clear hn
  go_enter Tryz.func204, Tryz.ntmps204
  go_wp2_with fail
  go_ret
  exact ⟨_, rfl, World.ownsRow_nil _ _ _ _, Below.refl _ _⟩
 ·have g0 : (0 : Int) < (n : Int) := by omega
  have hr := Lib.run_append_nil_zeros (P := Tryz.prog) w 54 3 54 5 i0 (.int .u8 0) .i64 .i64 Tryz.underlying54 Tryz.underlying3 hi hz0 n (by omega) (by omega) (by omega) (by rw [hz2]; omega)
  have hge := grownCap_ge w n 0 5
  have hle := grownCap_le_maxLen w n 0 5 (by unfold maxLen; omega)
  have hcs : Hid ((Builtin.zeroCells (Value.int .u8 0).cells n ++ Builtin.zeroCells (Value.int .u8 0).cells (grownCap w n 0 5 - n)).size = grownCap w n 0 5) := by
   show _ = _
   simp only [Array.size_append, size_zeroCells]
   simp [Value.cells]
   omega
  generalize grownCap w n 0 5 = cp at *
  generalize Builtin.zeroCells (Value.int .u8 0).cells n ++ Builtin.zeroCells (Value.int .u8 0).cells (cp - n) = cs at *
  have HO : Hid ((w.drew.alloc (.cells cs 5)).ownsRow w.heap.size 5 1 (.slice (some ⟨w.heap.size, 0, none⟩) 0 cp) 0 (bvals [])) := owns_zero (Nat.le_refl _) (heap_alloc_new w.drew _) hcs.out hle
  have HB : Hid (Below w.heap.size w (w.drew.alloc (.cells cs 5))) := (Below.refl _ w).drew.alloc (by simp) _
  have hcp : cp ≤ 9223372036854775807 := by unfold maxLen at hle; omega
  have HR := hide hr
  clear hle hr hcs hn h0
  go_enter Tryz.func204, Tryz.ntmps204
  go_wp2_with (at_builtin; refine Lib.wpList_append_run _ rfl (.tmp 20) (.tmp 21) 54 3 rfl _ _ rfl rfl _ _ HR.out ?_)
  go_ret
  exact ⟨_, rfl, HO.out, HB.out⟩
theorem flat_snoc (ls : List (List UInt8)) (k : Nat) (h : k < ls.length) : (ls.take (k + 1)).flatten = (ls.take k).flatten ++ ls[k] := by
 rw [List.take_succ_eq_append_getElem h, List.flatten_append, List.flatten_singleton]
theorem flat_le (ls : List (List UInt8)) (k : Nat) : (ls.take k).flatten.length ≤ ls.flatten.length := by
 have h : ls.flatten = (ls.take k).flatten ++ (ls.drop k).flatten := by rw [← List.flatten_append, List.take_append_drop]
 rw [h, List.length_append]; omega
theorem concat_any (w : World) (v : Value) (vs : List Value) (ls : List (List UInt8)) (hv : Row w v vs) (hs : Sls w vs ls) (hlen : ls.flatten.length ≤ 140737488355328) :
    Calls Tryz.prog 175 #[v] w fun e w' => ∃ v', e = .returned v' ∧ w'.ownsRow w.heap.size 5 1 v' ls.flatten.length (bvals ls.flatten) ∧ Below w.heap.size w w' := by
 obtain ⟨ao, ca, rfl, h2, h3, h4, h5⟩ := hv
 have hm : ca ≤ 9223372036854775807 := by unfold maxLen at h4; omega
 have HS := hide hs
 have HL := hide hlen
 obtain ⟨n, hn⟩ : ∃ n, Hid (vs.length = n) := ⟨_, rfl⟩
 have hnl : Hid (ls.length = n) := hs.1.symm.trans hn.out
 have hnm : n ≤ 9223372036854775807 := by rw [← hn.out]; omega
 rw [hn.out]
 clear h2 h4 hs hlen h3
 have H5 := hide h5
 clear h5
 go_enter Tryz.func175, Tryz.ntmps175
 go_wp2_with fail
 go_loopw [3, 11] (fun vz vi wr => ∃ k z : Nat, k ≤ n ∧ vz = .int .i64 (z : Int) ∧ vi = .int .i64 (k : Int) ∧ Hid (z = (ls.take k).flatten.length) ∧ w = wr) (fun _ i _ => n - (intOf i).toNat)
 case atStart => exact ⟨0, 0, Nat.zero_le _, rfl, rfl, rfl, rfl⟩
 case round =>
  obtain ⟨k, z, hk, rfl, rfl, hz, rfl⟩ := hrel
  by_cases hlt : k < n
  ·have hkv : k < vs.length := by rw [hn.out]; exact hlt
   have hkl : k < ls.length := by rw [hnl.out]; exact hlt
   obtain ⟨b1, o1, rfl, hb⟩ := H5.out k hkv
   have HX := hide (HS.out.2 k hkv hkl)
   obtain ⟨ao2, ca2, e2, _, _, _, _⟩ := HX.out
   rw [e2] at hb
   obtain ⟨m, hml⟩ : ∃ m, Hid (ls[k].length = m) := ⟨ls[k].length, hide rfl⟩
   rw [hml.out] at hb
   have hz2 : Hid (z + m = (ls.take (k + 1)).flatten.length) := by show _ = _; rw [flat_snoc ls k hkl, List.length_append, hz.out, hml.out]
   have hzb : z + m ≤ 140737488355328 := by rw [hz2.out]; exact Nat.le_trans (flat_le ls (k + 1)) HL.out
   have hneg : ¬ ((z : Int) + (m : Int) < 0) := by omega
   clear e2 hml hz
   go_wp2_with fail
   go_roundw
   case rel => exact ⟨k + 1, z + m, by omega, by go_num, by go_num, hz2.out, by trivial⟩
   case measure => simp [intOf]; omega
  ·obtain rfl : k = n := by omega
   have hzb : z ≤ 140737488355328 := by rw [hz.out]; exact Nat.le_trans (flat_le ls k) HL.out
   clear hz
   go_wp2_with fail
   refine (grow_any _ z hzb).mono ?_
   rintro e w1 ⟨v1, rfl, ho1, hb1⟩
   clear hzb
   go_wp2_with fail
   go_loopw [6, 27] (fun vz vi wr => ∃ j : Nat, j ≤ k ∧ vi = .int .i64 (j : Int) ∧ Hid (wr.ownsRow w.heap.size 5 1 vz ((ls.take j).flatten).length (bvals (ls.take j).flatten)) ∧ Hid (Below w.heap.size w wr)) (fun _ i _ => k - (intOf i).toNat)
   case atStart => exact ⟨0, Nat.zero_le _, rfl, ho1, hb1⟩
   case round =>
    obtain ⟨j, hj, rfl, ho, hb⟩ := hrel
    by_cases hlt : j < k
    ·have hkv : j < vs.length := by rw [hn.out]; exact hlt
     have hkl : j < ls.length := by rw [hnl.out]; exact hlt
     obtain ⟨b1, o1, rfl, hc⟩ := H5.out j hkv
     have hc2 : wr.cell? ⟨b1, o1 + j, none⟩ = some vs[j] := (hb.out.cell (lt_of_cell hc)).trans hc
     have HX := hide (Below.sl hb.out (HS.out.2 j hkv hkl))
     have hle : (ls.take j).flatten.length + ls[j].length ≤ 140737488355328 := by
      have := flat_le ls (j + 1)
      rw [flat_snoc ls j hkl, List.length_append] at this
      have := HL.out
      omega
     have hsz := hb.out.size
     have HLe := hide hle
     have HSz := hide hsz
     have HF := hide (flat_snoc ls j hkl)
     obtain ⟨u, hu⟩ : ∃ u, u = vs[j] := ⟨_, rfl⟩
     rw [← hu] at hc2 HX
     obtain ⟨L, hL⟩ : ∃ L, L = (ls.take j).flatten := ⟨_, rfl⟩
     obtain ⟨M, hM⟩ : ∃ M, M = ls[j] := ⟨_, rfl⟩
     rw [← hL] at HLe HF ho
     rw [← hM] at HLe HF HX
     clear hc hle hsz hu hL hM
     go_wp2_with (at_builtin; refine wpList_append_bytes rfl (.tmp 31) (.tmp 32) 54 rfl w.heap.size 5 Tryz.infoU8 Tryz.underlying54 _ _ L M rfl ho.out rfl HX.out HLe.out HSz.out ?_)
     intro v2 w2 ho2 hb2
     rw [← List.length_append, ← HF.out] at ho2
     replace ho2 := hide ho2
     go_wp2_with fail
     go_roundw
     case rel => exact ⟨j + 1, by omega, by go_num, ho2.out, hb.out.trans hb2⟩
     case measure => simp [intOf]; omega
    ·obtain rfl : j = k := by omega
     have HT : Hid ((ls.take j).flatten = ls.flatten) := by show _ = _; rw [List.take_of_length_le (by rw [hnl.out]; omega)]
     rw [HT.out] at ho
     go_wp2_with fail
     go_ret
     exact ⟨_, rfl, ho.out, hb.out⟩
end Go.Proofs.YtnimildpcnmjeaaGreatDoor
namespace Go.Proofs.YtnimildpcnmjeaaGreatDoor.Dk
open Go.RowKit Go.Maps Go.Proofs.YtnimildpcnmjeaaGreatDoor.Nm
def Ob (B : Nat) (w : World) (v : Value) (l : List UInt8) : Prop := w.ownsRow B 5 1 v l.length (bvals l)
theorem Ob.nil (B : Nat) (w : World) : Ob B w (.slice none 0 0) [] := World.ownsRow_nil _ _ _ _
theorem infoB : (Tryz.prog.info? 5).map (fun i => (i.zero, i.size, i.bytes)) = some (some (.int .u8 0), 1, 1) := by kernel_rfl
theorem Ob.sl {B : Nat} {w : World} {v : Value} {l : List UInt8} (h : Ob B w v l) : Sl w v l := Sl.of_owns h
theorem Ob.low {B C : Nat} {w : World} {v : Value} {l : List UInt8} (h : Ob B w v l) (hb : C ≤ B) : Ob C w v l := by
 refine ⟨h.1, ?_⟩
 rcases h.2 with h | ⟨g, cap, cur, rfl, hg, r⟩
 ·exact .inl h
 ·exact .inr ⟨g, cap, cur, rfl, Nat.le_trans hb hg, r⟩
theorem Ob.but {B : Nat} {X : Nat → Prop} {A C : World} {v : Value} {l : List UInt8} (h : Ob B A v l) (hb : But X A C) (hx : ∀ k, v.ownBlock = some k → ¬ X k) : Ob B C v l := by
 refine ⟨h.1, ?_⟩
 rcases h.2 with h | ⟨g, cap, cur, rfl, hg, hh, r⟩
 ·exact .inl h
 ·exact .inr ⟨g, cap, cur, rfl, hg, hb.at hh (hx g rfl), r⟩
theorem Ob.below {B : Nat} {w w' : World} {v : Value} {l : List UInt8} (h : Ob B w v l) (hb : Below w.heap.size w w') : Ob B w' v l := h.but (But.of_below hb fun _ => False) fun _ _ c => c
theorem Ob.no {B : Nat} {w : World} {v : Value} {l : List UInt8} {b : Nat} {cs : Array Value} {T : TypeId} {fz : Nat × Nat} (h : Ob B w v l) (hb : w.heap[b]? = some (.cells cs T fz)) (hT : T ≠ 5) : v.ownBlock ≠ some b := fun e1 => by
 rcases h.2 with ⟨rfl, _⟩ | ⟨g, cap, cur, rfl, hg, hh, r⟩
 ·simp [Value.ownBlock] at e1
 ·simp [Value.ownBlock] at e1
  subst e1
  rw [hb] at hh
  simp at hh
  exact hT hh.2.1
theorem Ob.lt {B : Nat} {w : World} {v : Value} {l : List UInt8} (h : Ob B w v l) : ∀ k, v.ownBlock = some k → B ≤ k ∧ k < w.heap.size := fun k hk => World.ownsRow.lt h k hk
theorem Ob.form {B : Nat} {w : World} {v : Value} {l : List UInt8} (h : Ob B w v l) : ∃ ao ca, v = .slice ao l.length ca ∧ l.length ≤ ca ∧ ca ≤ 9223372036854775807 := by
 obtain ⟨ao, cap, e, _, h3, h4, _⟩ := h.sl
 exact ⟨ao, cap, e, h3, by unfold maxLen at h4; omega⟩
theorem run_app {B : Nat} {w : World} {v vx : Value} {l m : List UInt8} (h : Ob B w v l) (hm : Sl w vx m) (hl : l.length + m.length ≤ 140737488355328) (hB : B ≤ w.heap.size) (ty : TypeId) :
    ∃ v' w', (Builtin.append_ #[54, 54] ty #[v, vx]).run Tryz.prog w = .ok v' w' ∧ Ob B w' v' (l ++ m) ∧ w.grownBy w' v.ownBlock ∧ (v'.ownBlock = v.ownBlock ∨ v'.ownBlock = some w.heap.size) := by
 obtain ⟨i0, hi, hz0, hz1, hz2⟩ := info_parts infoB
 obtain ⟨ao, cap, rfl, h2, h3, h4, h5⟩ := hm
 cases ao with
 | none =>
  obtain ⟨rfl, rfl⟩ := h2 rfl
  refine ⟨v, w, ?_, by simpa using h, ⟨rfl, rfl, rfl, Nat.le_refl _, fun _ _ _ => rfl⟩, .inl rfl⟩
  exact run_append_owned_none (P := Tryz.prog) (w := w) B 54 ty 5 i0 1 Tryz.underlying54 hi v l.length (bvals l) h
 | some ad =>
  have hcells : ∀ j u, (bvals m)[j]? = some u → w.cell? (ad.add j) = some u := by
   intro j u hu
   have hj : j < m.length := by
    have := (List.getElem?_eq_some_iff.1 hu).1
    simpa [bvals] using this
   obtain ⟨b, off, e1, hc⟩ := h5 j hj
   simp only [Option.some.injEq] at e1
   subst e1
   rw [bvals_get hj] at hu
   simp only [Option.some.injEq] at hu
   subst hu
   rw [addr_add]; exact hc
  obtain ⟨v', w', hr, ho, hg, _, hat⟩ := run_append_own_at (P := Tryz.prog) w B 54 ty 5 i0 (.int .u8 0) 1 1 Tryz.underlying54 hi hz0 hz1 hz2 rfl (by decide) v l.length (bvals l) h ad m.length cap (bvals m) (by simp [bvals]) hcells (by
   intro u hu
   simp only [bvals, List.mem_map] at hu
   obtain ⟨c, _, rfl⟩ := hu
   rfl) (by unfold maxLen; omega) (by omega) hB
  refine ⟨v', w', hr, ?_, hg, hat⟩
  unfold Ob
  rw [List.length_append, bvals_append]
  exact ho
theorem eqlS (w : World) (a : Option Addr) (n c n' c' : Nat) : (binOp .eql 54 (.slice a n c) (.slice none n' c')).run Tryz.prog w = .ok (.bool a.isNone) w := Lib.run_eql_slice_nil w _ _ a n c n' c' Tryz.underlying54
theorem clone_bytes (w : World) (v : Value) (l : List UInt8) (hv : Sl w v l) (hl : l.length ≤ 140737488355328) :
    Calls Tryz.prog 105 #[v] w fun e w' => ∃ v', e = .returned v' ∧ Ob w.heap.size w' v' l ∧ Below w.heap.size w w' := by
 have qT := eqlS
 have V := hide hv
 obtain ⟨ao, cap, rfl, h2, _⟩ := hv
 cases ao with
 | none =>
  obtain ⟨rfl, rfl⟩ := h2 rfl
  clear h2 V
  go_enter Tryz.func105, Tryz.ntmps105
  go_wp2_with fail
  go_ret
  exact ⟨_, rfl, Ob.nil _ _, Below.refl _ _⟩
 | some ad =>
  clear h2
  have hB := hide ((Below.refl _ w).alloc (Nat.le_refl _) (.cells #[] 5))
  have O1 : Ob w.heap.size (w.alloc (.cells #[] 5)) (.slice (some ⟨w.heap.size, 0, none⟩) 0 0) [] := owns_zero (Nat.le_refl _) (heap_alloc_new w _) rfl (Nat.zero_le _)
  obtain ⟨v', w', hr, O2, hg, _⟩ := run_app (ty := 54) O1 (Below.sl hB.out V.out) (by simpa using hl) (by simp)
  have K : Hid (Ob w.heap.size w' v' l ∧ Below w.heap.size w w') := ⟨by simpa using O2, hB.out.grown hg (by simp) (fun k hk => by simp [Value.ownBlock] at hk; omega)⟩
  clear O1 O2 hg
  go_enter Tryz.func105, Tryz.ntmps105
  go_wp2_with (at_builtin; refine Lib.wpList_append_run _ rfl (.tmp 5) (.tmp 6) 54 54 rfl _ _ rfl rfl _ _ hr ?_)
  go_ret
  exact ⟨_, rfl, K.out⟩
structure Fl where
 by_ : List UInt8
 la : List UInt8
 sp : Nat
def TFl : TypeId := 170
structure FlAt (w : World) (p : Nat) (f : Fl) (vb vl : Value) : Prop where
 box : w.heap[p]? = some (.cells #[vb, vl, .int .i64 (f.sp : Int)] TFl (0, 0))
 b : Ob 0 w vb f.by_
 l : Ob 0 w vl f.la
 ne : ∀ k, vb.ownBlock = some k → vl.ownBlock ≠ some k
 le : f.la.length ≤ f.by_.length
 sp : f.sp ≤ f.by_.length - f.la.length
 sz : f.by_.length ≤ 1099511627776
def FOwn (p : Nat) (vb vl : Value) (k : Nat) : Prop := k = p ∨ vb.ownBlock = some k ∨ vl.ownBlock = some k
theorem FlAt.but {X : Nat → Prop} {A B : World} {p : Nat} {f : Fl} {vb vl : Value} (h : FlAt A p f vb vl) (hb : But X A B) (hx : ∀ k, FOwn p vb vl k → ¬ X k) : FlAt B p f vb vl :=
 ⟨hb.at h.box (hx p (.inl rfl)), h.b.but hb fun k hk => hx k (.inr (.inl hk)), h.l.but hb fun k hk => hx k (.inr (.inr hk)), h.ne, h.le, h.sp, h.sz⟩
theorem FlAt.below {A B : World} {p : Nat} {f : Fl} {vb vl : Value} (h : FlAt A p f vb vl) (hb : Below A.heap.size A B) : FlAt B p f vb vl := h.but (But.of_below hb fun _ => False) fun _ _ c => c
theorem FlAt.lt {w : World} {p : Nat} {f : Fl} {vb vl : Value} (h : FlAt w p f vb vl) : ∀ k, FOwn p vb vl k → k < w.heap.size := by
 rintro k (rfl | e | e)
 ·exact heap_lt h.box
 ·exact (h.b.lt k e).2
 ·exact (h.l.lt k e).2
theorem FlAt.new {w : World} {p : Nat} (h : w.heap[p]? = some (.cells #[.slice none 0 0, .slice none 0 0, .int .i64 0] 170 (0, 0))) : FlAt w p ⟨[], [], 0⟩ (.slice none 0 0) (.slice none 0 0) :=
 ⟨h, Ob.nil _ _, Ob.nil _ _, fun k hk => by simp [Value.ownBlock] at hk, Nat.le_refl _, Nat.zero_le _, Nat.zero_le _⟩
theorem tail_any (w : World) (p : Nat) (f : Fl) (vb vl : Value) (h : FlAt w p f vb vl) : Calls Tryz.prog 131 #[.pointer (some ⟨p, 0, none⟩)] w fun e w' => e = .returned (.int .i64 ((f.by_.length - f.la.length : Nat) : Int)) ∧ ∃ n, w' = w.drewN n := by
 obtain ⟨x0, x1, _⟩ := cells3 h.box
 obtain ⟨ao, ca, rfl, _, _⟩ := h.b.form
 obtain ⟨ao2, ca2, rfl, _, _⟩ := h.l.form
 have hle := h.le
 have hsz := h.sz
 clear h
 generalize f.by_.length = n at *
 generalize f.la.length = m at *
 have e1 : ((n - m : Nat) : Int) = (n : Int) - (m : Int) := by omega
 have e2 : IntKind.i64.wrap ((n : Int) - (m : Int)) = (n : Int) - (m : Int) := by rw [IntKind.wrap_i64]; omega
 rw [e1]
 clear e1
 go_enter Tryz.func131, Tryz.ntmps131
 go_upto_region 1 with fail
 go_quiet (fail)
 go_wp2_with fail
 go_ret
 exact ⟨rfl, _, rfl⟩
theorem Ob.zeros {B g cap : Nat} : ∀ (k o : Nat) (w : World) (L : List UInt8), Ob B w (.slice (some ⟨g, 0, none⟩) L.length cap) L → o + k ≤ L.length →
    Ob B (w.setCells g o (List.replicate k (.int .u8 0))) (.slice (some ⟨g, 0, none⟩) L.length cap) (L.take o ++ List.replicate k 0 ++ L.drop (o + k)) ∧ w.grownBy (w.setCells g o (List.replicate k (.int .u8 0))) (some g) := by
 intro k
 induction k with
 | zero =>
  intro o w L h ho
  have e0 : w.setCells g o (List.replicate 0 (.int .u8 0)) = w := by cases o <;> rfl
  refine ⟨?_, by rw [e0]; exact ⟨rfl, rfl, rfl, Nat.le_refl _, fun _ _ _ => rfl⟩⟩
  have e : w.setCells g o (List.replicate 0 (.int .u8 0)) = w := by cases o <;> rfl
  rw [e]
  simpa using h
 | succ k ih =>
  intro o w L h ho
  obtain ⟨s1, g1⟩ := World.ownsRow.stored h o (.int .u8 0)
  have hL : (L.set o 0).length = L.length := by simp
  have s2 : Ob B (w.setCell ⟨g, o, none⟩ (.int .u8 0)) (.slice (some ⟨g, 0, none⟩) (L.set o 0).length cap) (L.set o 0) := by
   unfold Ob
   rw [hL, show bvals (L.set o 0) = (bvals L).set o (.int .u8 0) by unfold bvals; rw [List.map_set]; rfl]
   exact s1
  obtain ⟨i1, i2⟩ := ih (o + 1) _ (L.set o 0) s2 (by rw [hL]; omega)
  rw [hL] at i1
  refine ⟨?_, ?_⟩
  ·have e : (L.set o 0).take (o + 1) ++ List.replicate k 0 ++ (L.set o 0).drop (o + 1 + k) = L.take o ++ List.replicate (k + 1) 0 ++ L.drop (o + (k + 1)) := by
     rw [List.take_succ_eq_append_getElem (by rw [hL]; omega), List.getElem_set_self, List.take_set_of_le (Nat.le_refl _), List.drop_set_of_lt (by omega), List.replicate_succ, show o + 1 + k = o + (k + 1) by omega]
     simp
   rw [e] at i1
   exact i1
  ·refine ⟨i2.os.trans g1.os, i2.tape.trans g1.tape, i2.output.trans g1.output, Nat.le_trans g1.size i2.size, fun j hj hn => ?_⟩
   rw [show w.setCells g o (List.replicate (k + 1) (.int .u8 0)) = (w.setCell ⟨g, o, none⟩ (.int .u8 0)).setCells g (o + 1) (List.replicate k (.int .u8 0)) from rfl, i2.block j (Nat.lt_of_lt_of_le hj g1.size) hn]
   exact g1.block j hj hn
theorem zeroU8 (w : World) : (zeroValue 5).run Tryz.prog w = .ok (.int .u8 0) w := by kernel_rfl
theorem run_clear {B : Nat} {w : World} {ao : Option Addr} {n ca k : Nat} {L : List UInt8} (h : Ob B w (.slice ao n ca) L) (hn : n = L.length) (hk : k ≤ L.length) (ty : TypeId) :
    ∃ w', (Builtin.clear_ #[54] ty #[.slice ao k ca]).run Tryz.prog w = .ok (.tuple #[]) w' ∧ Ob B w' (.slice ao n ca) (List.replicate k 0 ++ L.drop k) ∧ w.grownBy w' (Value.slice ao n ca).ownBlock := by
 by_cases k0 : k = 0
 ·subst k0
  refine ⟨w, ?_, by simpa using h, ⟨rfl, rfl, rfl, Nat.le_refl _, fun _ _ _ => rfl⟩⟩
  cases ao <;> simp [Builtin.clear_, run_underlying Tryz.underlying54]
 ·subst hn
  rcases h.2 with ⟨e, e2⟩ | ⟨g, cap, cur, e, hg, hh, r⟩
  ·omega
  ·simp only [Value.slice.injEq] at e
   obtain ⟨rfl, _, rfl⟩ := e
   obtain ⟨r1, _, r2, _⟩ := r
   have hc : ∀ j, j < k → (w.cell? ⟨g, 0 + j, none⟩).isSome = true := by
    intro j hj
    simp [World.cell?, hh]
    omega
   have hf : ∀ j, j < k → w.frozen? ⟨g, 0 + j, none⟩ = false := fun j _ => World.ownsRow.frozenAt h _
   have hr := Lib.run_clear_slice (P := Tryz.prog) w 54 5 ty (.int .u8 0) Tryz.underlying54 zeroU8 rfl rfl g 0 k ca (by omega) hc hf
   obtain ⟨z1, z2⟩ := Ob.zeros k 0 w L h (by omega)
   exact ⟨_, hr, by simpa using z1, z2⟩
def svd (f : Fl) (n : Nat) : List UInt8 := List.replicate (min f.sp n) 0 ++ ((f.by_.drop f.la.length).take n).drop (min f.sp n)
theorem svd_len (f : Fl) (n : Nat) (h : f.la.length + n ≤ f.by_.length) : (svd f n).length = n := by
 unfold svd
 simp
 omega
theorem run_sub {w : World} {v : Value} {l : List UInt8} (h : Sl w v l) (a n : Nat) (hn : a + n ≤ l.length) :
    ∃ v', (∀ q : World, (Instr.slice 54 v (some (.int .i64 (a : Int))) (some (.int .i64 ((a : Int) + (n : Int)))) none).run Tryz.prog q = .ok v' q) ∧ Sl w v' ((l.drop a).take n) := by
 obtain ⟨ao, ca, rfl, h2, h3, h4, h5⟩ := h
 refine ⟨.slice (if ca = a then ao else ao.map (·.add (a * 1))) n (ca - a), fun q => ?_, ?_⟩
 ·have e1 : (0 : Int) ≤ (a : Int) + (n : Int) ∧ (a : Int) + (n : Int) ≤ (ca : Int) := by omega
  have e2 : ((a : Int) + (n : Int)).toNat = a + n := by omega
  have e3 : (a : Int) ≤ ((a + n : Nat) : Int) := by omega
  have e4 : (sizeOf 5).run Tryz.prog q = .ok 1 q := by kernel_rfl
  simp [Instr.slice, run_underlying Tryz.underlying54, Instr.sliceBounds, Instr.sliceBound, asIntOf, e1, e2, e4, Result.andThen]
 ·have hlen : ((l.drop a).take n).length = n := by simp; omega
  refine ⟨_, _, by rw [hlen], ?_, by rw [hlen]; omega, by omega, ?_⟩
  ·intro e
   cases ao with
   | none => obtain ⟨rfl, rfl⟩ := h2 rfl; simp
   | some ad => split at e <;> simp at e
  ·intro i hi
   rw [hlen] at hi
   obtain ⟨b, off, e, hc⟩ := h5 (a + i) (by omega)
   subst e
   have hne : ca ≠ a := by omega
   refine ⟨b, off + a, by simp [hne, addr_add], ?_⟩
   rw [show off + a + i = off + (a + i) by omega, hc]
   simp
theorem saved_any (w : World) (p n : Nat) (f : Fl) (vb vl : Value) (h : FlAt w p f vb vl) (hn : f.la.length + n ≤ f.by_.length) :
    Calls Tryz.prog 132 #[.pointer (some ⟨p, 0, none⟩), .int .i64 (n : Int)] w fun e w' => ∃ v, e = .returned v ∧ Ob w.heap.size w' v (svd f n) ∧ Below w.heap.size w w' := by
 obtain ⟨x0, x1, x2⟩ := cells3 h.box
 have hsz := h.sz
 have hB := hide h.box
 obtain ⟨vs, hS, VS⟩ := run_sub h.b.sl f.la.length n hn
 have hlen : ((f.by_.drop f.la.length).take n).length = n := by simp; omega
 have hC := clone_bytes w vs _ VS (by rw [hlen]; omega)
 obtain ⟨k, hk⟩ : ∃ k, Hid (min f.sp n = k) := ⟨_, rfl⟩
 have hE : Hid (svd f n = List.replicate k 0 ++ ((f.by_.drop f.la.length).take n).drop k) := by show _ = _; rw [← hk.out]; rfl
 rw [hE.out]
 have hk2 : k ≤ n ∧ k ≤ f.sp := by have := hk.out; omega
 have hkm : (f.sp ≤ n ∧ k = f.sp) ∨ (n < f.sp ∧ k = n) := by have := hk.out; omega
 generalize (f.by_.drop f.la.length).take n = L at *
 obtain ⟨ao2, ca2, rfl, _, _⟩ := h.l.form
 have w1' : IntKind.i64.wrap ((f.la.length : Int) + (n : Int)) = (f.la.length : Int) + (n : Int) := by rw [IntKind.wrap_i64]; omega
 have hsp : f.sp ≤ 1099511627776 := by have := h.sp; omega
 have hF : Hid (∀ q, Below w.heap.size w q → q.cell? ⟨p, 2, none⟩ = some (.int .i64 (f.sp : Int))) := fun q hq => by rw [hq.cell (p := ⟨p, 2, none⟩) (lt_of_cell x2)]; exact x2
 clear h hE VS
 generalize f.la.length = a at *
 generalize f.sp = sp at *
 generalize f.by_.length = N at *
 go_enter Tryz.func132, Tryz.ntmps132
 go_upto_region 3 with (go_at_call 105; refine hC.mono ?_; rintro e w1 ⟨v1, rfl, O1, B1⟩; replace O1 := hide O1; replace B1 := hide B1)
 obtain ⟨ao1, ca1, rfl, c1, c2⟩ := O1.out.form
 obtain ⟨w2, hR, O2, G2⟩ := run_clear (k := k) O1.out rfl (by omega) 0
 have y2 := hF.out w1 B1.out
 have K : Hid (Ob w.heap.size w2 (.slice ao1 L.length ca1) (List.replicate k 0 ++ L.drop k) ∧ Below w.heap.size w w2) := ⟨O2, B1.out.grown G2 B1.out.size (fun j hj => (O1.out.lt j hj).1)⟩
 rw [hlen] at K c1
 rw [hlen]
 clear O1 O2 G2 hC hS x0 x1 x2 hk2 hk
 replace hlen := hide hlen
 replace hn := hide hn
 have hmin : min (sp : Int) (n : Int) = (k : Int) := by omega
 have i2 : (k : Int) ≤ (ca1 : Int) := by omega
 clear hkm
 go_wp2_with fail
 go_ret
 exact ⟨_, rfl, K.out⟩
theorem _root_.Go.Proofs.YtnimildpcnmjeaaGreatDoor.Sl.below4 {w w' : World} {v : Value} {l : List UInt8} (h : Sl w v l) (hb : Below w.heap.size w w') : Sl w' v l := Below.sl hb h
theorem sl_take {w : World} {a : Option Addr} {n c j : Nat} {l : List UInt8} (h : Sl w (.slice a n c) l) (hj : j ≤ l.length) : Sl w (.slice a j c) (l.take j) := by
 obtain ⟨ao, ca, e, h2, h3, h4, h5⟩ := h
 simp only [Value.slice.injEq] at e
 obtain ⟨rfl, _, rfl⟩ := e
 have hl : (l.take j).length = j := by simp; omega
 refine ⟨a, c, by rw [hl], fun e => ?_, by rw [hl]; omega, h4, fun i hi => ?_⟩
 ·obtain ⟨rfl, rfl⟩ := h2 e
  simp
 ·rw [hl] at hi
  obtain ⟨b, off, e, hc⟩ := h5 i (by omega)
  exact ⟨b, off, e, by rw [hc]; simp⟩
theorem FlAt.setSp {w : World} {p : Nat} {f : Fl} {vb vl : Value} (h : FlAt w p f vb vl) (n : Nat) (hn : n ≤ f.by_.length - f.la.length) : FlAt (w.setCell ⟨p, 2, none⟩ (.int .i64 (n : Int))) p ⟨f.by_, f.la, n⟩ vb vl := by
 have g := But.of_grownBy (X := fun k => k = p) (grown_setCell w p 2 (.int .i64 (n : Int))) fun k e => by cases e; rfl
 refine ⟨?_, h.b.but g (fun k hk e => h.b.no h.box (by decide) (by rw [← e]; exact hk)), h.l.but g (fun k hk e => h.l.no h.box (by decide) (by rw [← e]; exact hk)), h.ne, h.le, hn, h.sz⟩
 have := heap_setCell_same w p 2 _ _ (.int .i64 (n : Int)) h.box
 simpa using this
theorem spoil_any (w : World) (p : Nat) (f : Fl) (vb vl : Value) (h : FlAt w p f vb vl) :
    Calls Tryz.prog 90 #[.pointer (some ⟨p, 0, none⟩)] w fun e w' => e = .returned (.tuple #[]) ∧ FlAt w' p ⟨f.by_, f.la, f.by_.length - f.la.length⟩ vb vl ∧ But (fun k => k = p) w w' := by
 have hT := tail_any w p f vb vl h
 have H := hide h
 clear h
 go_enter Tryz.func90, Tryz.ntmps90
 go_wp2_with (go_at_call 131; refine hT.mono ?_; rintro e w1 ⟨rfl, nq, rfl⟩; have x2 := (cells3 (H.out.below (Qt.below ⟨nq, rfl⟩ _)).box).2.2; have x3 := (frozen3 (H.out.below (Qt.below ⟨nq, rfl⟩ _)).box).2.2)
 go_end0
 have H1 : FlAt (w.drewN nq) p f vb vl := H.out.below (Qt.below ⟨nq, rfl⟩ _)
 refine ⟨rfl, H1.setSp _ (Nat.le_refl _), ?_⟩
 exact (But.of_below (Qt.below ⟨nq, rfl⟩ _) _).trans (But.of_grownBy (grown_setCell (w.drewN nq) p 2 _) fun k e => by cases e; rfl)
theorem Dk.find {w : World} {b : Nat} {x : Dc} {f g : Nat} {l l2 : Dr} {P : List Ch} {al : Ar} (h : Dk w b x f g l l2 P al) (s : ByteArray) (hs : s.size ≤ maxLen) :
    Calls Tryz.prog 89 #[.pointer (some ⟨b, 0, none⟩), .string s] w fun e w' => e = .returned (.tuple #[(findF (some x) l s).1, .int .i64 (findF (some x) l s).2]) ∧ Below w.heap.size w w' :=
 find_any w _ (some x) l s h.dp hs (fun y m e1 e2 => by cases e1; rw [h.fm] at e2; cases e2; exact h.mf)
theorem findF_no {x : Option Dc} {l : Dr} {s : ByteArray} (h : (findF x l s).2 ≠ 0) : (findF x l s).1 = .pointer none := by
 revert h
 unfold findF
 split
 ·split
  ·intro h; exact absurd rfl h
  ·intro _; rfl
 ·intro _; rfl
theorem findF_ok {x : Option Dc} {l : Dr} {s : ByteArray} {p : Nat} (hr : refF x [s] = 0) (hg : get l s.data.toList = some p) : findF x l s = (.pointer (some ⟨p, 0, none⟩), 0) := by simp [findF, hr, hg]
theorem size_no {w : World} {b : Nat} {x : Dc} {f g : Nat} {l l2 : Dr} {P : List Ch} {al : Ar} (h : Dk w b x f g l l2 P al) (s : ByteArray) (hs : s.size ≤ maxLen) (hn : (findF (some x) l s).2 ≠ 0) :
    Calls Tryz.prog 66 #[.pointer (some ⟨b, 0, none⟩), .string s] w fun e w' => e = .returned (.tuple #[.int .i64 0, .int .i64 (findF (some x) l s).2]) ∧ Below w.heap.size w w' := by
 have hF := h.find s hs
 rw [findF_no hn] at hF
 generalize (findF (some x) l s).2 = r at *
 have hn' : (r != 0) = true := by simpa using hn
 clear h hn
 go_enter Tryz.func66, Tryz.ntmps66
 go_wp2_with (go_at_call 89; refine hF.mono ?_; rintro e w1 ⟨rfl, B1⟩; replace B1 := hide B1)
 go_ret2
 exact ⟨rfl, B1.out⟩
theorem read_no {w : World} {b : Nat} {x : Dc} {f g : Nat} {l l2 : Dr} {P : List Ch} {al : Ar} (h : Dk w b x f g l l2 P al) (s : ByteArray) (hs : s.size ≤ maxLen) (o n : Int) (hn : (findF (some x) l s).2 ≠ 0) :
    Calls Tryz.prog 67 #[.pointer (some ⟨b, 0, none⟩), .string s, .int .i64 o, .int .i64 n] w fun e w' => e = .returned (.tuple #[.slice none 0 0, .int .i64 (findF (some x) l s).2]) ∧ Below w.heap.size w w' := by
 have hF := h.find s hs
 rw [findF_no hn] at hF
 generalize (findF (some x) l s).2 = r at *
 have hn' : (r != 0) = true := by simpa using hn
 clear h hn
 go_enter Tryz.func67, Tryz.ntmps67
 go_wp2_with (go_at_call 89; refine hF.mono ?_; rintro e w1 ⟨rfl, B1⟩; replace B1 := hide B1)
 go_ret2
 exact ⟨rfl, B1.out⟩
theorem read_ok {w : World} {b p : Nat} {x : Dc} {f g : Nat} {l l2 : Dr} {P : List Ch} {al : Ar} {t : Fl} {vb vl : Value} (h : Dk w b x f g l l2 P al) (s : ByteArray) (hs : s.size ≤ maxLen) (o n : Nat) (hr : refF (some x) [s] = 0) (hg : get l s.data.toList = some p) (hf : FlAt w p t vb vl) (hon : o + n ≤ t.by_.length) :
    Calls Tryz.prog 67 #[.pointer (some ⟨b, 0, none⟩), .string s, .int .i64 (o : Int), .int .i64 (n : Int)] w fun e w' => ∃ v, e = .returned (.tuple #[v, .int .i64 0]) ∧ Ob w.heap.size w' v ((t.by_.drop o).take n) ∧ Below w.heap.size w w' := by
 have hF := h.find s hs
 rw [findF_ok hr hg] at hF
 have c0 := (cells3 hf.box).1
 obtain ⟨vs, hS, VS⟩ := run_sub hf.b.sl o n hon
 have hlen : ((t.by_.drop o).take n).length ≤ 140737488355328 := by have := hf.sz; simp; omega
 obtain ⟨ao, ca, rfl, _, _⟩ := hf.b.form
 have hsz := hf.sz
 have hC : Hid (∀ q, Below w.heap.size w q → Calls Tryz.prog 105 #[vs] q fun e w' => ∃ v', e = .returned v' ∧ Ob q.heap.size w' v' ((t.by_.drop o).take n) ∧ Below q.heap.size q w') := fun q hq => clone_bytes q vs _ (Below.sl hq VS) hlen
 clear h hf hr hg VS hlen
 generalize (t.by_.drop o).take n = L at *
 generalize t.by_.length = N at *
 have i1 : ¬ ((o : Int) < 0) := by omega
 have i2 : ¬ ((o : Int) > (N : Int)) := by omega
 have i3 : ¬ ((n : Int) < 0) := by omega
 have i4 : ¬ ((n : Int) > (N : Int) - (o : Int)) := by omega
 have e1 : IntKind.i64.wrap ((N : Int) - (o : Int)) = (N : Int) - (o : Int) := by rw [IntKind.wrap_i64]; omega
 have e2 : IntKind.i64.wrap ((o : Int) + (n : Int)) = (o : Int) + (n : Int) := by rw [IntKind.wrap_i64]; omega
 replace hon := hide hon
 go_enter Tryz.func67, Tryz.ntmps67
 go_wp2_with (first
  | (go_at_call 89; refine hF.mono ?_; rintro e w1 ⟨rfl, B1⟩; have d0 := (B1.cell (p := ⟨p, 0, none⟩) (lt_of_cell c0)).trans c0; replace B1 := hide B1)
  | (go_at_call 105; refine (hC.out _ B1.out).mono ?_; rintro e w2 ⟨v2, rfl, O2, B2⟩; replace O2 := hide O2; replace B2 := hide B2))
 go_ret2
 exact ⟨v2, rfl, O2.out.low B1.out.size, B1.out.trans (B2.out.mono B1.out.size)⟩
end Go.Proofs.YtnimildpcnmjeaaGreatDoor.Dk
