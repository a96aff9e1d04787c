/-
  Plain facts for the walks over package wire: lists of bytes, where a slice's bytes lie in memory. No program is named here.
-/
import Derived.WalkKit
import Derived.WalkSpells
import Derived.WalkLawsBesides
import Derived.Deep.QuietTactic
import Derived.BigQuiet
import Derived.Laws.AppendOwnNone
import Derived.Test.YtpflaglfnkmjiaaGreatProg
import Derived.Lib.SlBytesConst
import Derived.Test.YtpflaglfnkmjiaaGreatRows
import Derived.ProofKit
import Derived.OpenShut
import Derived.SizedLaws
import Derived.Deep.Slices
import Derived.Maps.OwnSet
import Derived.Maps.OwnOps
import Derived.Maps.Views
import Derived.Maps.RangeWalk
import Derived.RangeFuncNested
import Derived.RangeFuncLeaves
import Derived.Below
import Derived.Lib.AppendZeros
set_option maxRecDepth 100000
set_option maxHeartbeats 40000000
set_option linter.unusedVariables false
namespace Go.Proofs.YtpflaglfnkmjiaaGreat
open Go.RowKit
def Rd (w : World) (ao : Option Addr) (l : List UInt8) : Prop :=
 ∀ i (h : i < l.length), ∃ b off, ao = some ⟨b, off, none⟩ ∧ w.cell? ⟨b, off + i, none⟩ = some (.int .u8 (l[i].toNat : Int))
theorem Rd.at {w : World} {ao : Option Addr} {l : List UInt8} (h : Rd w ao l) (hl : 0 < l.length) :
    ∃ b off, ao = some ⟨b, off, none⟩ ∧ ∀ i (h : i < l.length), w.cell? ⟨b, off + i, none⟩ = some (.int .u8 (l[i].toNat : Int)) := by
 obtain ⟨b, off, e, _⟩ := h 0 hl
 refine ⟨b, off, e, fun i hi => ?_⟩
 obtain ⟨b', off', e', hc⟩ := h i hi
 rw [e] at e'
 simp only [Option.some.injEq, Addr.mk.injEq] at e'
 obtain ⟨rfl, rfl, _⟩ := e'
 exact hc
def Qt (w w' : World) : Prop := ∃ k, w' = w.drewN k
theorem Qt.refl (w : World) : Qt w w := ⟨0, rfl⟩
theorem Qt.drewN {w u : World} (h : Qt w u) (n : Nat) : Qt w (u.drewN n) := by
 obtain ⟨k, rfl⟩ := h; exact ⟨k + n, by simp⟩
theorem Qt.below {w u : World} (h : Qt w u) (B : Nat) : Below B w u := by
 obtain ⟨k, rfl⟩ := h; exact below_drewN (Below.refl _ _) k
theorem ret_bool {a b : Bool} (h : a = b) : Ending.returned (.bool a) = .returned (.bool b) := by rw [h]
theorem take_eq_all {l m : List UInt8} (hlen : l.length = m.length) (k : Nat) (hk : l.length ≤ k) (h : l.take k = m.take k) : l = m := by
 rwa [List.take_of_length_le hk, List.take_of_length_le (by omega)] at h
theorem take_snoc (l : List UInt8) (k : Nat) (h : k < l.length) : l.take (k + 1) = l.take k ++ [l[k]] := by
 rw [List.take_succ_eq_append_getElem h]
theorem ne_at {l m : List UInt8} (k : Nat) (h1 : k < l.length) (h2 : k < m.length) (h : l[k] ≠ m[k]) : l ≠ m := by
 rintro rfl; exact h rfl
theorem u8_ne {a b : UInt8} (h : ((a.toNat : Int) != (b.toNat : Int)) = true) : a ≠ b := by
 rintro rfl; simp at h
theorem u8_eq {a b : UInt8} (h : ((a.toNat : Int) != (b.toNat : Int)) = false) : a = b := by
 simp at h; exact UInt8.toNat_inj.1 (by omega)
end Go.Proofs.YtpflaglfnkmjiaaGreat
namespace Go.Proofs.YtpflaglfnkmjiaaGreat
def bval (c : UInt8) : Value := .int .u8 (c.toNat : Int)
def bvals (l : List UInt8) : List Value := l.map bval
theorem bvals_append (l m : List UInt8) : bvals (l ++ m) = bvals l ++ bvals m := by simp [bvals]
theorem bvals_length (l : List UInt8) : (bvals l).length = l.length := by simp [bvals]
theorem u8_of (k : Nat) (h : k < 256) : Value.int .u8 (k : Int) = bval (UInt8.ofNat k) := by
 unfold bval
 rw [UInt8.toNat_ofNat_of_lt' (by simpa using h)]
end Go.Proofs.YtpflaglfnkmjiaaGreat
namespace Go.Proofs.YtpflaglfnkmjiaaGreat
open Go.RowKit
def Sl (w : World) (v : Value) (l : List UInt8) : Prop :=
 ∃ ao cap, v = .slice ao l.length cap ∧ (ao = none → l = [] ∧ cap = 0) ∧ l.length ≤ cap ∧ cap ≤ maxLen ∧ Rd w ao l
theorem lt_of_cell {w : World} {a : Addr} {v : Value} (h : w.cell? a = some v) : a.block < w.heap.size := by
 unfold World.cell? at h
 by_cases hb : a.block < w.heap.size
 ·exact hb
 ·rw [Array.getElem?_eq_none (by omega)] at h; simp at h
theorem Below.rd {w w' : World} (h : Below w.heap.size w w') {ao : Option Addr} {l : List UInt8} (g : Rd w ao l) : Rd w' ao l := by
 intro i hi
 obtain ⟨b, off, e, hc⟩ := g i hi
 exact ⟨b, off, e, by rw [h.cell (p := ⟨b, off + i, none⟩) (lt_of_cell hc)]; exact hc⟩
theorem Below.sl {w w' : World} (h : Below w.heap.size w w') {v : Value} {l : List UInt8} (g : Sl w v l) : Sl w' v l := by
 obtain ⟨ao, cap, h1, h2, h3, h4, h5⟩ := g
 exact ⟨ao, cap, h1, h2, h3, h4, Below.rd h h5⟩
theorem Qt.sl {w w' : World} (h : Qt w w') {v : Value} {l : List UInt8} (g : Sl w v l) : Sl w' v l := Below.sl (h.below _) g
theorem ownsRow_below {w w' : World} {base e n : Nat} {v : Value} {xs : List Value} (h : w.ownsRow base e 1 v n xs) (hb : Below w.heap.size w w') : w'.ownsRow base e 1 v n xs := by
 obtain ⟨h1, h2⟩ := h
 refine ⟨h1, ?_⟩
 rcases h2 with h2 | ⟨g, cap, cur, hv, hg, hh, r⟩
 ·exact Or.inl h2
 ·have hlt : g < w.heap.size := by
    by_cases hb : g < w.heap.size
    ·exact hb
    ·rw [Array.getElem?_eq_none (by omega)] at hh; simp at hh
  exact Or.inr ⟨g, cap, cur, hv, hg, by rw [hb.block g hlt]; exact hh, r⟩
theorem bvals_get {l : List UInt8} {i : Nat} (h : i < l.length) : (bvals l)[i]? = some (.int .u8 (l[i].toNat : Int)) := by
 simp [bvals, bval, h]
theorem Sl.of_owns {w : World} {base e : Nat} {v : Value} {l : List UInt8} (h : w.ownsRow base e 1 v l.length (bvals l)) : Sl w v l := by
 have h0 := h
 obtain ⟨h1, h2⟩ := h
 rcases h2 with ⟨rfl, hn⟩ | ⟨g, cap, cur, rfl, hg, hh, hn, hm, hs, ht⟩
 ·obtain rfl := List.length_eq_zero_iff.1 hn
  exact ⟨none, 0, rfl, fun _ => ⟨rfl, rfl⟩, Nat.le_refl _, Nat.zero_le _, fun i hi => by simp at hi⟩
 ·refine ⟨some ⟨g, 0, none⟩, cap, rfl, fun e => by simp at e, hn, hm, fun i hi => ⟨g, 0, rfl, ?_⟩⟩
  rw [Nat.zero_add, h0.cellAt i (by omega), bvals_get hi]
theorem Sl.nil (w : World) : Sl w (.slice none 0 0) [] := ⟨none, 0, rfl, fun _ => ⟨rfl, rfl⟩, Nat.le_refl _, Nat.zero_le _, fun i hi => by simp at hi⟩
theorem wpList_append_bytes {P : Program} {w : World} {ops : Array Oper} {rest : List Oper} {o : Oper} {a : Act} {Q : Exit → Act → World → Prop} (hgd : o.guard = none) (s x : Operand) (t : TypeId)
    (ho : o.op = .call { callee := .builtin .append, args := #[s, x], argTypes := #[t, t] })
    (base : Nat) (e : TypeId) (hinf : (P.info? e).map (fun i => (i.zero, i.size, i.bytes)) = some (some (.int .u8 0), 1, 1)) (ht : P.underlying t = some (.slice e))
    (v vx : Value) (l m : List UInt8) (hs : a.eval s = v) (hown : w.ownsRow base e 1 v l.length (bvals l)) (hx : a.eval x = vx) (hsl : Sl w vx m)
    (hbytes : l.length + m.length ≤ 140737488355328) (hbase : base ≤ w.heap.size)
    (h : ∀ v' w', w'.ownsRow base e 1 v' (l ++ m).length (bvals (l ++ m)) → Below base w w' → wpList P ops Q rest (a.put o.dst v') w') : wpList P ops Q (o :: rest) a w := by
 obtain ⟨i0, hi, hz0, hz1, hz2⟩ := info_parts hinf
 obtain ⟨ao, cap, rfl, h2, h3, h4, h5⟩ := hsl
 cases ao with
 | none =>
  obtain ⟨rfl, rfl⟩ := h2 rfl
  refine wpList_append_own_none hgd s x t ho base e i0 1 ht hi v l.length (bvals l) hs hown hx ?_
  exact h v w (by simpa using hown) (Below.refl _ _)
 | some ad =>
  have hcells : ∀ j u, (bvals m)[j]? = some u → w.cell? (ad.add j) = some u := by
   intro j u hu
   have hj : j < m.length := by
    have := (List.getElem?_eq_some_iff.1 hu).1
    simpa [bvals] using this
   obtain ⟨b, off, e1, hc⟩ := h5 j hj
   simp only [Option.some.injEq] at e1
   subst e1
   rw [bvals_get hj] at hu
   simp only [Option.some.injEq] at hu
   subst hu
   have ea : (⟨b, off, none⟩ : Addr).add j = ⟨b, off + j, none⟩ := by
    unfold Addr.add; split <;> simp_all
   rw [ea]; exact hc
  refine wpList_append_own w hgd s x t ho base e i0 (.int .u8 0) 1 1 ht hi hz0 hz1 hz2 rfl (by decide) v l.length (bvals l) hs hown ad m.length cap (bvals m) hx (by simp [bvals]) hcells ?_ (by unfold maxLen; omega) (by omega) hbase ?_
  ·intro u hu
   simp only [bvals, List.mem_map] at hu
   obtain ⟨c, _, rfl⟩ := hu
   rfl
  ·intro v' w' ho' hg _
   refine h v' w' ?_ ((Below.refl _ _).grown hg hbase fun k hk => (hown.lt k hk).1)
   rw [List.length_append, bvals_append]
   exact ho'
theorem Tryz.infoU8 : (Tryz.prog.info? 5).map (fun i => (i.zero, i.size, i.bytes)) = some (some (.int .u8 0), 1, 1) := by kernel_rfl
theorem addr_add (b off k : Nat) : (⟨b, off, none⟩ : Addr).add k = ⟨b, off + k, none⟩ := by
 unfold Addr.add; split <;> simp_all
theorem grown_trans {a b c : World} {row : Option Nat} (h : a.grownBy b row) (g : b.grownBy c row) : a.grownBy c row :=
 ⟨g.os.trans h.os, g.tape.trans h.tape, g.output.trans h.output, Nat.le_trans h.size g.size, fun k hk hr => (g.block k (Nat.lt_of_lt_of_le hk h.size) hr).trans (h.block k hk hr)⟩
theorem Qt.grown {w w' : World} (h : Qt w w') (row : Option Nat) : w.grownBy w' row := by
 obtain ⟨k, rfl⟩ := h; exact ⟨rfl, rfl, rfl, Nat.le_refl _, fun _ _ _ => rfl⟩
theorem Below.grownAny {w w' : World} (h : Below w.heap.size w w') (row : Option Nat) : w.grownBy w' row :=
 ⟨h.os, h.tape, h.output, h.size, fun k hk _ => h.block k hk⟩
theorem grown_setCell (w : World) (rb o : Nat) (u : Value) : w.grownBy (w.setCell ⟨rb, o, none⟩ u) (some rb) :=
 ⟨rfl, rfl, rfl, by simp, fun k _ hk => heap_setCell_other w ⟨rb, o, none⟩ k u (fun e => hk (by simp [e]))⟩
theorem heap_lt {w : World} {k : Nat} {o : Obj} (h : w.heap[k]? = some o) : k < w.heap.size := by
 by_cases hb : k < w.heap.size
 ·exact hb
 ·rw [Array.getElem?_eq_none (by omega)] at h; simp at h
theorem box_below (w : World) (o : Obj) : Below w.heap.size w (w.alloc o) := (Below.refl _ _).alloc (Nat.le_refl _) _
theorem below_block {w w1 w2 : World} {rb : Nat} (hb : Below w.heap.size w w1) (hg : w1.grownBy w2 (some rb)) (hr : w.heap.size ≤ rb) : Below w.heap.size w w2 :=
 hb.grown hg hb.size (fun k hk => by simp at hk; omega)
theorem sl_lit (w : World) (m : List UInt8) (t : TypeId) (hm : m.length ≤ maxLen) (cs : Array Value) (hcs : cs = (bvals m).toArray) : Sl (w.alloc (.cells cs t)) (.slice (some ⟨w.heap.size, 0, none⟩) m.length m.length) m := by
 subst hcs
 refine ⟨_, _, rfl, fun e => by simp at e, Nat.le_refl _, hm, fun i hi => ⟨_, _, rfl, ?_⟩⟩
 have : (w.alloc (.cells (bvals m).toArray t)).heap[w.heap.size]? = some (.cells (bvals m).toArray t (0, 0)) := heap_alloc_new _ _
 simp only [World.cell?, this, Nat.zero_add]
 simpa using bvals_get hi
theorem sl_lit_mark (w : World) (m : List UInt8) (t : TypeId) (fr : Nat × Nat) (hm : m.length ≤ maxLen) (cs : Array Value) (hcs : cs = (bvals m).toArray) : Sl (w.alloc (.cells cs t fr)) (.slice (some ⟨w.heap.size, 0, none⟩) m.length m.length) m := by
 subst hcs
 refine ⟨_, _, rfl, fun e => by simp at e, Nat.le_refl _, hm, fun i hi => ⟨_, _, rfl, ?_⟩⟩
 rw [World.cell?_alloc_mark, Nat.zero_add]
 simpa using bvals_get hi
end Go.Proofs.YtpflaglfnkmjiaaGreat
namespace Go.Proofs.YtpflaglfnkmjiaaGreat
open Go.ChangeShapes Go.WideShapes Go.ChangeAt Go.RowKit
theorem cellsU8 : Tryz.prog.cellsOf 5 = 1 := by kernel_rfl
theorem toByte {n : Int} (h : (Lit.int .u8 n).wf = true) : ((UInt8.ofNat n.toNat).toNat : Int) = n := by
 have hx : 0 ≤ n ∧ n ≤ 255 := by simpa [Lit.wf, IntKind.min, IntKind.max, IntKind.signed, IntKind.bits] using h
 rw [UInt8.toNat_ofNat_of_lt' (show n.toNat < 256 by omega)]; omega
theorem open_bytes {H : Type} {enc : TypeId × Value → H} {w : World} {base : Nat} {spare : Nat → Bool} {held : Bool} {fuel : Nat} {v : Value} {x : DataW H × List MemPlace}
    (h : DataW.trod enc Tryz.prog w base spare held fuel 39 [v] = some x) :
    ∃ l, Sl w v l ∧ ((x.1 = .nil ∧ l = []) ∨ ∃ elems sp, x.1 = .slice elems sp ∧ elems.length = l.length) := by
 rcases open_ints Tryz.underlying39 Tryz.underlying5 cellsU8 h with ⟨hcs, hx⟩ | ⟨a, len, cap, zs, hcs, _, hl, hm, hz, hx, hcell, hwz⟩
 ·simp at hcs
  subst hcs hx
  exact ⟨[], Sl.nil _, .inl ⟨rfl, rfl⟩⟩
 ·simp at hcs
  subst hcs hx
  have hzl : len ≤ zs.length := by split at hz <;> omega
  have hlen : ((zs.take len).map fun n => UInt8.ofNat n.toNat).length = len := by simp; omega
  refine ⟨(zs.take len).map fun n => UInt8.ofNat n.toNat, ⟨some a, cap, by rw [hlen], fun e => by simp at e, by omega, hm, ?_⟩, .inr ⟨_, _, rfl, by simp [lits]⟩⟩
  intro i hi
  rw [hlen] at hi
  obtain ⟨b, off, rfl, hc⟩ := ints_at hcell (by omega)
  refine ⟨b, off, rfl, ?_⟩
  have hi2 : i < zs.length := by omega
  rw [hc i hi2]
  simp only [List.getElem_map, List.getElem_take]
  rw [toByte (hwz _ (List.getElem_mem _))]
  simp [List.getD, hi2]
theorem bulk_pos {H : Type} (d : DataW H) : 1 ≤ Rows.uptoBulk d := by
 cases d with
 | lit l => cases l <;> simp [Rows.uptoBulk]
 | nil => simp [Rows.uptoBulk]
 | ptr d => simp [Rows.uptoBulk]
 | slice elems spare => simp [Rows.uptoBulk]
 | agg parts => simp [Rows.uptoBulk]
 | iface t d => simp [Rows.uptoBulk]
 | map entries => simp [Rows.uptoBulk]
 | held h => simp [Rows.uptoBulk]
theorem bulk_length {H : Type} (l : List (DataW H)) : l.length ≤ Rows.uptoBulkAll l := by
 induction l with
 | nil => simp [Rows.uptoBulkAll]
 | cons x r ih => have := bulk_pos x; simp only [Rows.uptoBulkAll, List.length_cons]; omega
theorem bytes_bulk {H : Type} {d : DataW H} {l : List UInt8} (h : (d = .nil ∧ l = []) ∨ ∃ elems sp, d = .slice elems sp ∧ elems.length = l.length) : l.length ≤ Rows.uptoBulk d := by
 rcases h with ⟨_, rfl⟩ | ⟨elems, sp, rfl, he⟩
 ·simp
 ·have := bulk_length elems
  simp only [Rows.uptoBulk]
  omega
theorem i64_bounds {n : Int} (h : (Lit.int .i64 n).wf = true) : -9223372036854775808 ≤ n ∧ n ≤ 9223372036854775807 := by
 simpa [Lit.wf, IntKind.min, IntKind.max, IntKind.signed, IntKind.bits] using h
end Go.Proofs.YtpflaglfnkmjiaaGreat
namespace Go.Proofs.YtpflaglfnkmjiaaGreat
open Go.ChangeShapes Go.WideShapes Go.ChangeAt Go.RowKit Go.Deep
def At (w : World) (ao : Option Addr) (vs : List Value) : Prop :=
 ∀ i (h : i < vs.length), ∃ b off, ao = some ⟨b, off, none⟩ ∧ w.cell? ⟨b, off + i, none⟩ = some vs[i]
def Row (w : World) (v : Value) (vs : List Value) : Prop :=
 ∃ ao cap, v = .slice ao vs.length cap ∧ (ao = none → vs = [] ∧ cap = 0) ∧ vs.length ≤ cap ∧ cap ≤ maxLen ∧ At w ao vs
theorem Row.nil (w : World) : Row w (.slice none 0 0) [] := ⟨none, 0, rfl, fun _ => ⟨rfl, rfl⟩, Nat.le_refl _, Nat.zero_le _, fun i hi => by simp at hi⟩
theorem Below.row {w w' : World} (h : Below w.heap.size w w') {v : Value} {vs : List Value} (g : Row w v vs) : Row w' v vs := by
 obtain ⟨ao, cap, h1, h2, h3, h4, h5⟩ := g
 refine ⟨ao, cap, h1, h2, h3, h4, fun i hi => ?_⟩
 obtain ⟨b, off, e, hc⟩ := h5 i hi
 exact ⟨b, off, e, by rw [h.cell (p := ⟨b, off + i, none⟩) (lt_of_cell hc)]; exact hc⟩
def Sls (w : World) (vs : List Value) (ls : List (List UInt8)) : Prop := vs.length = ls.length ∧ ∀ i (h : i < vs.length) (h' : i < ls.length), Sl w vs[i] ls[i]
theorem Below.sls {w w' : World} (h : Below w.heap.size w w') {vs : List Value} {ls : List (List UInt8)} (g : Sls w vs ls) : Sls w' vs ls :=
 ⟨g.1, fun i h1 h2 => Below.sl h (g.2 i h1 h2)⟩
theorem open_byteses {H : Type} {enc : TypeId × Value → H} {w : World} {base : Nat} {spare : Nat → Bool} {held : Bool} {fuel : Nat} {v : Value} {x : DataW H × List MemPlace}
    (h : DataW.trod enc Tryz.prog w base spare held fuel 35 [v] = some x) :
    ∃ vs ls, Row w v vs ∧ Sls w vs ls ∧ ((x.1 = .nil ∧ ls = []) ∨ ∃ elems sp, x.1 = .slice elems sp ∧ elems.length = ls.length ∧ ∀ i (h1 : i < elems.length) (h2 : i < ls.length), (elems[i] = .nil ∧ ls[i] = []) ∨ ∃ es sp', elems[i] = .slice es sp' ∧ es.length = ls[i].length) := by
 rcases open_slice1 Tryz.underlying35 (by kernel_rfl) h with ⟨hcs, hx⟩ | ⟨a, len, cap, m, n, V, D, Pl, hcs, hb, hl, hm, hmm, hx, hel⟩
 ·simp at hcs
  subst hcs hx
  exact ⟨[], [], Row.nil _, ⟨rfl, fun i h1 => by simp at h1⟩, .inl ⟨rfl, rfl⟩⟩
 ·simp at hcs
  subst hcs hx
  have hlm : len ≤ m := by split at hmm <;> omega
  have each : ∀ i, ∃ l, i < m → Sl w (V i) l ∧ ((D i = .nil ∧ l = []) ∨ ∃ es sp', D i = .slice es sp' ∧ es.length = l.length) := by
   intro i
   by_cases hi : i < m
   ·obtain ⟨l, h1, h2⟩ := open_bytes (hel i hi).2
    exact ⟨l, fun _ => ⟨h1, h2⟩⟩
   ·exact ⟨[], fun h => absurd h hi⟩
  obtain ⟨L, hL⟩ : ∃ L : Nat → List UInt8, ∀ i, i < m → Sl w (V i) (L i) ∧ ((D i = .nil ∧ L i = []) ∨ ∃ es sp', D i = .slice es sp' ∧ es.length = (L i).length) := ⟨fun i => Classical.choose (each i), fun i => Classical.choose_spec (each i)⟩
  refine ⟨(List.range len).map V, (List.range len).map L, ⟨some a, cap, by simp, fun e => by simp at e, by simpa using hl, hm, ?_⟩, ⟨by simp, fun i h1 h2 => ?_⟩, .inr ⟨_, _, rfl, by simp, fun i h1 h2 => ?_⟩⟩
  ·intro i hi
   simp at hi
   have hc := (hel i (by omega)).1
   obtain ⟨b, off, sp⟩ := a
   have hsp : sp = none := by
    have h0 := (hel 0 (by omega)).1
    simpa [Addr.add] using World.cell?_spot h0
   subst hsp
   rw [addr_add] at hc
   exact ⟨b, off, rfl, by rw [hc]; simp⟩
  ·simp at h1
   simpa using (hL i (by omega)).1
  ·simp at h1
   simpa using (hL i (by omega)).2
theorem bulkAll_get {H : Type} (elems : List (DataW H)) (ls : List (List UInt8)) (h : elems.length = ls.length) (hb : ∀ i (h1 : i < elems.length) (h2 : i < ls.length), ls[i].length ≤ Rows.uptoBulk elems[i]) : (ls.map List.length).sum ≤ Rows.uptoBulkAll elems := by
 induction elems generalizing ls with
 | nil => cases ls with
  | nil => simp
  | cons x r => simp at h
 | cons d ds ih => cases ls with
  | nil => simp at h
  | cons x r =>
   have h0 := hb 0 (by simp) (by simp)
   have h1 := ih r (by simpa using h) (fun i a b => hb (i + 1) (by simp only [List.length_cons]; omega) (by simp only [List.length_cons]; omega))
   simp only [List.getElem_cons_zero] at h0
   simp only [List.map_cons, List.sum_cons, Rows.uptoBulkAll]
   omega
theorem byteses_bulk {H : Type} {d : DataW H} {ls : List (List UInt8)} (h : (d = .nil ∧ ls = []) ∨ ∃ elems sp, d = .slice elems sp ∧ elems.length = ls.length ∧ ∀ i (h1 : i < elems.length) (h2 : i < ls.length), (elems[i] = .nil ∧ ls[i] = []) ∨ ∃ es sp', elems[i] = .slice es sp' ∧ es.length = ls[i].length) : (ls.map List.length).sum ≤ Rows.uptoBulk d := by
 rcases h with ⟨_, rfl⟩ | ⟨elems, sp, rfl, he, hx⟩
 ·simp
 ·have := bulkAll_get elems ls he (fun i h1 h2 => bytes_bulk (hx i h1 h2))
  simp only [Rows.uptoBulk]
  omega
end Go.Proofs.YtpflaglfnkmjiaaGreat
namespace Go.Proofs.YtpflaglfnkmjiaaGreat.Dk
open Go.RowKit Go.Maps
abbrev Dr := List (List UInt8 × Nat)
def ptrR : Value → Option (DataW Unit × List MemPlace)
 | .pointer (some ⟨b, 0, none⟩) => some (.lit (.int .i64 (b : Int)), [])
 | .pointer none => some (.nil, [])
 | _ => none
theorem ptrR_some (b : Nat) : ptrR (.pointer (some ⟨b, 0, none⟩)) = some (.lit (.int .i64 (b : Int)), []) := rfl
theorem ptrR_none : ptrR (.pointer none) = some (.nil, []) := rfl
theorem ptrR_inv {v : Value} {b : Nat} {ps : List MemPlace} (h : ptrR v = some (.lit (.int .i64 (b : Int)), ps)) : v = .pointer (some ⟨b, 0, none⟩) := by
 unfold ptrR at h
 split at h
 ·simp only [Option.some.injEq, Prod.mk.injEq, DataW.lit.injEq, Lit.int.injEq, true_and] at h
  have := h.1
  have e : _ = b := Int.ofNat_inj.1 this
  rw [e]
 ·simp at h
 ·simp at h
theorem ptrR_inv_nil {v : Value} {ps : List MemPlace} (h : ptrR v = some (.nil, ps)) : v = .pointer none := by
 unfold ptrR at h
 split at h
 ·simp at h
 ·rfl
 ·simp at h
def dent (p : List UInt8 × Nat) : Lit × DataW Unit := (.string p.1, .lit (.int .i64 (p.2 : Int)))
def dirD (l : Dr) : DataW Unit := .map (l.map dent)
def get (l : Dr) (n : List UInt8) : Option Nat := (l.find? fun p => p.1 == n).map (·.2)
def dins (x : List UInt8 × Nat) : Dr → Dr
 | [] => [x]
 | y :: r => if bytesBefore x.1 y.1 then x :: y :: r else y :: dins x r
def ddel (l : Dr) (n : List UInt8) : Dr := l.filter fun p => !(p.1 == n)
def dput (l : Dr) (n : List UInt8) (b : Nat) : Dr := dins (n, b) (ddel l n)
theorem insert_dent (x : List UInt8 × Nat) : ∀ l : Dr, DataW.insert (dent x) (l.map dent) = (dins x l).map dent := by
 intro l
 induction l with
 | nil => rfl
 | cons y r ih =>
  simp only [List.map_cons, DataW.insert, dins]
  have e : (dent x).1.before (dent y).1 = bytesBefore x.1 y.1 := rfl
  rw [e]
  split
  ·rfl
  ·rw [ih]; rfl
theorem filter_dent (l : Dr) (n : List UInt8) : (l.map dent).filter (fun p => !p.1.sameKey (.string n)) = (ddel l n).map dent := by
 unfold ddel
 rw [List.filter_map]
 rfl
theorem dirD_del (l : Dr) (n : List UInt8) : (dirD l).del (.string n) = dirD (ddel l n) := by
 show DataW.map _ = DataW.map _
 rw [filter_dent]
theorem dirD_put (l : Dr) (n : List UInt8) (b : Nat) : (dirD l).put (.string n) (.lit (.int .i64 (b : Int))) = dirD (dput l n b) := by
 show DataW.map _ = DataW.map _
 rw [filter_dent]
 exact congrArg DataW.map (insert_dent (n, b) (ddel l n))
theorem find_dent (l : Dr) (n : List UInt8) : (l.map dent).find? (fun p => p.1.sameKey (.string n)) = (l.find? fun p => p.1 == n).map dent := by
 rw [List.find?_map]
 rfl
theorem dirD_at_some {l : Dr} {n : List UInt8} {b : Nat} (h : get l n = some b) : (dirD l).atKey (.string n) .nil = .lit (.int .i64 (b : Int)) := by
 unfold get at h
 unfold dirD DataW.atKey
 simp only []
 rw [find_dent]
 cases hf : l.find? fun p => p.1 == n with
 | none => rw [hf] at h; simp at h
 | some p => rw [hf] at h; simp at h; subst h; rfl
theorem dirD_at_none {l : Dr} {n : List UInt8} (h : get l n = none) : (dirD l).atKey (.string n) .nil = .nil := by
 unfold get at h
 unfold dirD DataW.atKey
 simp only []
 rw [find_dent]
 cases hf : l.find? fun p => p.1 == n with
 | none => rfl
 | some p => rw [hf] at h; simp at h
theorem dirD_has (l : Dr) (n : List UInt8) : Maps.has (dirD l) (.string n) = (get l n).isSome := by
 unfold get
 show (l.map dent).any (fun p => p.1.sameKey (.string n)) = _
 rw [List.any_map]
 induction l with
 | nil => rfl
 | cons y r ih =>
  simp only [List.any_cons, List.find?_cons]
  have e : ((fun p : Lit × DataW Unit => p.1.sameKey (.string n)) ∘ dent) y = (y.1 == n) := rfl
  rw [e]
  cases hy : (y.1 == n)
  ·simp only [Bool.false_or]; exact ih
  ·rfl
theorem dirD_size (l : Dr) : Maps.size (dirD l) = l.length := by simp [Maps.size, dirD]
end Go.Proofs.YtpflaglfnkmjiaaGreat.Dk
namespace Go.Proofs.YtpflaglfnkmjiaaGreat
open Go.RowKit
structure But (X : Nat → Prop) (W W' : World) : Prop where
 os : W'.os = W.os
 tape : W'.tape = W.tape
 output : W'.output = W.output
 size : W.heap.size ≤ W'.heap.size
 block : ∀ k, k < W.heap.size → ¬ X k → W'.heap[k]? = W.heap[k]?
theorem But.refl (X : Nat → Prop) (W : World) : But X W W := ⟨rfl, rfl, rfl, Nat.le_refl _, fun _ _ _ => rfl⟩
theorem But.trans {X : Nat → Prop} {A B C : World} (h : But X A B) (k : But X B C) : But X A C :=
 ⟨k.os.trans h.os, k.tape.trans h.tape, k.output.trans h.output, Nat.le_trans h.size k.size, fun i hi hx => (k.block i (Nat.lt_of_lt_of_le hi h.size) hx).trans (h.block i hi hx)⟩
theorem But.mono {X Y : Nat → Prop} {A B : World} (h : But X A B) (hs : ∀ k, k < A.heap.size → X k → Y k) : But Y A B :=
 ⟨h.os, h.tape, h.output, h.size, fun k hk hy => h.block k hk (fun hx => hy (hs k hk hx))⟩
theorem But.below {X : Nat → Prop} {A B : World} {n : Nat} (h : But X A B) (hn : n ≤ A.heap.size) (hX : ∀ k, X k → n ≤ k) : Below n A B :=
 ⟨h.os, h.tape, h.output, h.size, fun k hk => h.block k (Nat.lt_of_lt_of_le hk hn) (fun hx => Nat.lt_irrefl _ (Nat.lt_of_lt_of_le hk (hX k hx)))⟩
theorem But.of_below {A B : World} (h : Below A.heap.size A B) (X : Nat → Prop) : But X A B := ⟨h.os, h.tape, h.output, h.size, fun k hk _ => h.block k hk⟩
theorem But.of_grownBy {A B : World} {row : Option Nat} (h : A.grownBy B row) {X : Nat → Prop} (hX : ∀ k, row = some k → X k) : But X A B :=
 ⟨h.os, h.tape, h.output, h.size, fun k hk hx => h.block k hk (fun e => hx (hX k e.symm))⟩
theorem But.putObj (W : World) (l : Nat) (o : Obj) {X : Nat → Prop} (hX : X l) : But X W (W.putObj l o) :=
 But.of_grownBy (grownBy_putObj' W l o) (fun k e => by cases e; exact hX)
theorem But.alloc (W : World) (o : Obj) (X : Nat → Prop) : But X W (W.alloc o) := But.of_below ((Below.refl _ W).alloc (Nat.le_refl _) o) X
theorem But.at {X : Nat → Prop} {A B : World} (h : But X A B) {k : Nat} {o : Obj} (hk : A.heap[k]? = some o) (hx : ¬ X k) : B.heap[k]? = some o :=
 (h.block k (Array.getElem?_eq_some_iff.1 hk).1 hx).trans hk
def Stable {α : Type} (s0 : Nat) (J : List α → (Nat → Prop) → World → Prop) : Prop :=
 ∀ pre C W W', J pre C W → But (fun k => s0 ≤ k ∧ ¬ C k) W W' → J pre C W'
def Seq {α : Type} (P : Program) (g : Nat) (lb : Array Value) (xs : List α) (Rep : α → Array Value → World → (Nat → Prop) → Prop) (Rd : Nat → Prop) (w : World) : Prop :=
 ∀ (l : Nat) (J Jx : List α → (Nat → Prop) → World → Prop) (C : Nat → Prop) (W : World),
  w.heap.size ≤ W.heap.size → (∀ k, Rd k → W.heap[k]? = w.heap[k]?) → (∀ k, C k → ¬ Rd k ∧ k < W.heap.size) →
  Stable W.heap.size J → Stable W.heap.size Jx →
  (∀ pre x rest C1 D args W1, xs = pre ++ x :: rest → J pre C1 W1 → Rep x args W1 D → W.heap.size ≤ W1.heap.size → (∀ k, D k → ¬ C1 k ∧ W.heap.size ≤ k ∧ k < W1.heap.size) →
   YieldAt Fence.wide 0 P l args W1 fun e W' =>
    (e = .returned (.bool true) ∧ ∃ C2, J (pre ++ [x]) C2 W' ∧ But C1 W1 W' ∧ (∀ k, C2 k → (C1 k ∨ D k ∨ W1.heap.size ≤ k) ∧ k < W'.heap.size)) ∨
    (e = .returned (.bool false) ∧ ∃ C2, Jx (pre ++ [x]) C2 W' ∧ But C1 W1 W' ∧ (∀ k, C2 k → (C1 k ∨ D k ∨ W1.heap.size ≤ k) ∧ k < W'.heap.size))) →
  J [] C W →
  CallsIn Fence.wide 0 P g (#[.func (.yield l) #[] #[]] ++ lb) W fun e W' => (∃ v, e = .returned v) ∧ ((∃ C2, J xs C2 W') ∨ (∃ pre C2, pre <+: xs ∧ Jx pre C2 W'))
def itPost {α : Type} (I : List α → (Nat → Prop) → World → Prop) (Ix : Code → List α → (Nat → Prop) → World → Prop) (xs : List α) (C1 D : Nat → Prop) (sz : Nat) (Wb : World) : Exit → Act → World → Prop
 | .normal, _, W' => ∃ C2, I xs C2 W' ∧ But C1 Wb W' ∧ (∀ k, C2 k → (C1 k ∨ D k ∨ sz ≤ k) ∧ k < W'.heap.size)
 | .ret, _, W' => ∃ C2, Ix .ret xs C2 W' ∧ But C1 Wb W' ∧ (∀ k, C2 k → (C1 k ∨ D k ∨ sz ≤ k) ∧ k < W'.heap.size)
 | .exit id, _, W' => ∃ C2, Ix (.exit id) xs C2 W' ∧ But C1 Wb W' ∧ (∀ k, C2 k → (C1 k ∨ D k ∨ sz ≤ k) ∧ k < W'.heap.size)
 | .goto t, _, W' => ∃ C2, Ix (.goto t) xs C2 W' ∧ But C1 Wb W' ∧ (∀ k, C2 k → (C1 k ∨ D k ∨ sz ≤ k) ∧ k < W'.heap.size)
 | .panic _, _, _ => False
 | .outgrown, _, _ => False
theorem wp_range {α : Type} {P : Program} {g : Operand} {ps : Array Tmp} {assign body : Code} {Q : Exit → Act → World → Prop} {a : Act} {w : World}
    {gf : Nat} {lb : Array Value} (hg : a.eval g = .func (.func gf) #[] lb) (eg : ∀ args w, (callFunc gf args).run P w = .ok (.enter gf args) w)
    {xs : List α} {Rep : α → Array Value → World → (Nat → Prop) → Prop} {Rd : Nat → Prop} {w0 : World} (hseq : Seq P gf lb xs Rep Rd w0)
    (hsz : w0.heap.size ≤ w.heap.size) (hRd : ∀ k, Rd k → w.heap[k]? = w0.heap[k]? ∧ k < w.heap.size)
    (hps : ∀ x args W D, Rep x args W D → args.size = ps.size)
    (I : List α → (Nat → Prop) → World → Prop) (Ix : Code → List α → (Nat → Prop) → World → Prop)
    (hI : Stable w.heap.size I) (hIx : ∀ c, Stable w.heap.size (Ix c)) (C0 : Nat → Prop) (hC0 : ∀ k, C0 k → ¬ Rd k ∧ k < w.heap.size) (h0 : I [] C0 w)
    (hround : ∀ (l : Nat) (pre : List α) (x : α) (rest : List α) (C1 D : Nat → Prop) (args : Array Value) (W1 : World), xs = pre ++ x :: rest → I pre C1 W1 → Rep x args W1 D → w.heap.size < W1.heap.size →
     (∀ k, D k → ¬ C1 k ∧ w.heap.size ≤ k ∧ k < W1.heap.size) → l = w.heap.size + 1 → l < W1.heap.size → ¬ C1 l → ¬ D l →
     assign.wpIn (Fence.wide.inRound l) 0 P (Exit.then (fun a1 Wa => But (fun _ => False) W1 Wa ∧ ∀ Wb, But (fun k => k = l) Wa Wb → Wb.heap.size = Wa.heap.size → body.wpIn (Fence.wide.inRound l) 0 P (itPost I Ix (pre ++ [x]) C1 D W1.heap.size Wb) a1 Wb) (fun _ _ _ => False))
      { tmps := (ps.zip args).foldl (fun t (p, v) => t.setIfInBounds p v) a.tmps, defers := [] } W1)
    (hdone : ∀ (C2 : Nat → Prop) (W : World), I xs C2 W → W.heap[w.heap.size]? = some (.deferred (some [])) → ¬ C2 w.heap.size → Q .normal { a with defers := { target := .collected w.heap.size, args := #[] } :: a.defers } W)
    (hstop : ∀ (c : Code) (pre : List α) (C2 : Nat → Prop) (W : World), pre <+: xs → Ix c pre C2 W → W.heap[w.heap.size]? = some (.deferred (some [])) → ¬ C2 w.heap.size → c.wp P Q { a with defers := { target := .collected w.heap.size, args := #[] } :: a.defers } W) :
    (Code.rangeFunc g ps assign body).wp P Q a w := by
 refine (wpIn_wide (n := 0)).1 (wpIn_rangeFunc ?_)
 intro fn hfn
 show ∃ l mark w₁ d w₁' f args w₂, (Instr.enterLoop fn a.tmps ps assign body none).run P w = _ ∧ _
 obtain ⟨rec, hrec⟩ : ∃ rec : LoopState → Option Code → Loop, rec = fun st pe => { state := st, pending := pe, fn, tmps := a.tmps, params := ps, assign, body, defers := w.heap.size } := ⟨_, rfl⟩
 obtain ⟨W1, hW1⟩ : ∃ W1, (w.alloc (.deferred (some []))).alloc (.loop (rec .ready none)) = W1 := ⟨_, rfl⟩
 have hs1 : W1.heap.size = w.heap.size + 2 := by rw [← hW1]; simp
 have hL1 : W1.heap[w.heap.size + 1]? = some (.loop (rec .ready none)) := by
  rw [← hW1]; have := World.alloc_heap_new (w.alloc (.deferred (some []))) (.loop (rec .ready none)); rwa [World.size_alloc] at this
 have hK1 : W1.heap[w.heap.size]? = some (.deferred (some [])) := by
  rw [← hW1]; exact (Below.heap_alloc _ _ _ (by simp)).trans (World.alloc_heap_new w _)
 have hB1 : Below w.heap.size w W1 := by
  rw [← hW1]; exact ((Below.refl _ w).alloc (Nat.le_refl _) _).alloc (by simp) _
 have hI1 : I [] C0 W1 := hI _ _ _ _ h0 (But.of_below hB1 _)
 have nl : ¬ C0 (w.heap.size + 1) := fun h => by have := (hC0 _ h).2; omega
 have nd : ¬ C0 w.heap.size := fun h => by have := (hC0 _ h).2; omega
 refine ⟨w.heap.size + 1, [{ target := .collected w.heap.size, args := #[] }], W1, { target := .fn (.func gf) lb, args := #[.func (.yield (w.heap.size + 1)) #[] #[]] }, W1, gf,
  #[.func (.yield (w.heap.size + 1)) #[] #[]] ++ lb, W1, ?_, ?_, ?_, ?_, fun h => (by cases h), ?_⟩
 ·rw [← hW1, hrec]; exact run_enterLoop_outer _ _ _ _ _
 ·simp only [resolve, hg]
  simp [go_sem]
 ·intro f' _; exact trivial
 ·simp [invoke, go_sem, eg]
 ·refine (hseq (w.heap.size + 1)
    (fun pre C W => ∃ C1, I pre C1 W ∧ (∀ k, C k ↔ C1 k ∨ k = w.heap.size ∨ k = w.heap.size + 1) ∧ ¬ C1 w.heap.size ∧ ¬ C1 (w.heap.size + 1) ∧ W.heap[w.heap.size + 1]? = some (.loop (rec .ready none)) ∧ W.heap[w.heap.size]? = some (.deferred (some [])))
    (fun pre C W => ∃ c C1, Ix c pre C1 W ∧ (∀ k, C k ↔ C1 k ∨ k = w.heap.size ∨ k = w.heap.size + 1) ∧ ¬ C1 w.heap.size ∧ ¬ C1 (w.heap.size + 1) ∧ W.heap[w.heap.size + 1]? = some (.loop (rec .done (some c))) ∧ W.heap[w.heap.size]? = some (.deferred (some [])))
    (fun k => C0 k ∨ k = w.heap.size ∨ k = w.heap.size + 1) W1 (by omega)
    (fun k hk => (hB1.block k (hRd k hk).2).trans (hRd k hk).1)
    (fun k hk => by
     rcases hk with hk | hk | hk
     ·exact ⟨(hC0 k hk).1, by have := (hC0 k hk).2; omega⟩
     ·exact ⟨fun h => by have := (hRd k h).2; omega, by omega⟩
     ·exact ⟨fun h => by have := (hRd k h).2; omega, by omega⟩)
    ?_ ?_ ?_ ⟨C0, hI1, fun k => Iff.rfl, nd, nl, hL1, hK1⟩).mono ?_
  ·rintro pre C A B ⟨C1, hi, hC, n1, n2, hl, hk⟩ hb
   refine ⟨C1, hI _ _ _ _ hi (hb.mono fun k _ hx => ⟨by omega, fun h => hx.2 ((hC k).2 (.inl h))⟩), hC, n1, n2, hb.at hl (by omega), hb.at hk (by omega)⟩
  ·rintro pre C A B ⟨c, C1, hi, hC, n1, n2, hl, hk⟩ hb
   refine ⟨c, C1, hIx c _ _ _ _ hi (hb.mono fun k _ hx => ⟨by omega, fun h => hx.2 ((hC k).2 (.inl h))⟩), hC, n1, n2, hb.at hl (by omega), hb.at hk (by omega)⟩
  ·rintro pre x rest C D args W hx ⟨C1, hi, hC, n1, n2, hl, hk⟩ hrep hsW hD
   have hlt : w.heap.size + 1 < W.heap.size := (Array.getElem?_eq_some_iff.1 hl).1
   have hy := run_yield (P := P) (args := args) hl (by rw [hrec]; exact hps x args W D hrep)
   rw [hrec] at hy
   refine ⟨fn, _, assign, body, hy, roundIn_of_wpIn hfn (wpIn_mono (hround (w.heap.size + 1) pre x rest C1 D args W hx hi hrep (by omega) (fun k h => ⟨fun h' => (hD k h).1 ((hC k).2 (.inl h')), by have := (hD k h).2.1; omega, (hD k h).2.2⟩) rfl hlt n2 (fun h => (hD _ h).1 ((hC _).2 (.inr (.inr rfl))))) ?_)⟩
   rintro e a1 Wa he
   cases e with
   | normal =>
    obtain ⟨hWa, hbody⟩ := he
    have hla := hWa.at hl (fun h => h)
    have hka := hWa.at hk (fun h => h)
    have hlta : w.heap.size + 1 < Wa.heap.size := Nat.lt_of_lt_of_le hlt hWa.size
    refine ⟨_, run_beginRound hla (by rw [hrec]), ?_⟩
    have hl2 : (Wa.putObj (w.heap.size + 1) (.loop { rec .ready none with state := .busy })).heap[w.heap.size + 1]? = some (.loop { rec .ready none with state := .busy }) := World.putObj_heap_same hlta
    have hk2 : (Wa.putObj (w.heap.size + 1) (.loop { rec .ready none with state := .busy })).heap[w.heap.size]? = some (.deferred (some [])) := (World.putObj_heap_other (by omega)).trans hka
    refine wpIn_mono (hbody _ (But.putObj Wa _ _ rfl) (by simp)) ?_
    have fin : ∀ (jump : Option Code) (W3 : World) (C2 : Nat → Prop), But C1 (Wa.putObj (w.heap.size + 1) (.loop { rec .ready none with state := .busy })) W3 → (∀ k, C2 k → (C1 k ∨ D k ∨ W.heap.size ≤ k) ∧ k < W3.heap.size) →
        (Instr.endRound (w.heap.size + 1) jump).run P W3 = .ok (.bool jump.isNone) (W3.putObj (w.heap.size + 1) (.loop (rec (if jump.isNone then .ready else .done) jump))) ∧
        But (fun k => w.heap.size ≤ k ∧ ¬ C2 k) W3 (W3.putObj (w.heap.size + 1) (.loop (rec (if jump.isNone then .ready else .done) jump))) ∧
        (W3.putObj (w.heap.size + 1) (.loop (rec (if jump.isNone then .ready else .done) jump))).heap[w.heap.size + 1]? = some (.loop (rec (if jump.isNone then .ready else .done) jump)) ∧
        (W3.putObj (w.heap.size + 1) (.loop (rec (if jump.isNone then .ready else .done) jump))).heap[w.heap.size]? = some (.deferred (some [])) ∧
        But C W (W3.putObj (w.heap.size + 1) (.loop (rec (if jump.isNone then .ready else .done) jump))) ∧ ¬ C2 w.heap.size ∧ ¬ C2 (w.heap.size + 1) := fun jump W3 C2 hb3 hC2 => by
     have hl3 := hb3.at hl2 n2
     have hk3 := hb3.at hk2 n1
     have hrun := run_endRound (P := P) jump hl3
     have m1 : ¬ C2 w.heap.size := fun h => by
      rcases (hC2 _ h).1 with h | h | h
      ·exact n1 h
      ·exact (hD _ h).1 ((hC _).2 (.inr (.inl rfl)))
      ·omega
     have m2 : ¬ C2 (w.heap.size + 1) := fun h => by
      rcases (hC2 _ h).1 with h | h | h
      ·exact n2 h
      ·exact (hD _ h).1 ((hC _).2 (.inr (.inr rfl)))
      ·omega
     rw [hrec] at hrun ⊢
     refine ⟨hrun, But.putObj _ _ _ ⟨by omega, m2⟩, World.putObj_heap_same (Array.getElem?_eq_some_iff.1 hl3).1, (World.putObj_heap_other (by omega)).trans hk3, ?_, m1, m2⟩
     have e1 : But C W Wa := hWa.mono fun k _ h => h.elim
     have e2 : But C Wa (Wa.putObj (w.heap.size + 1) (.loop { rec .ready none with state := .busy })) := But.putObj _ _ _ ((hC _).2 (.inr (.inr rfl)))
     have e3 : But C (Wa.putObj (w.heap.size + 1) (.loop { rec .ready none with state := .busy })) W3 := hb3.mono fun k _ h => (hC k).2 (.inl h)
     exact ((e1.trans e2).trans e3).trans (But.putObj _ _ _ ((hC _).2 (.inr (.inr rfl))))
    have bnd : ∀ (o : Obj) (W3 : World) (C2 : Nat → Prop), But C1 (Wa.putObj (w.heap.size + 1) (.loop { rec .ready none with state := .busy })) W3 → (∀ k, C2 k → (C1 k ∨ D k ∨ W.heap.size ≤ k) ∧ k < W3.heap.size) →
        ∀ k, (C2 k ∨ k = w.heap.size ∨ k = w.heap.size + 1) → (C k ∨ D k ∨ W.heap.size ≤ k) ∧ k < (W3.putObj (w.heap.size + 1) o).heap.size := fun o W3 C2 hb3 hC2 => by
     have hs3 : w.heap.size + 1 < W3.heap.size := by have := hb3.size; simp at this; omega
     rintro k (h | h | h)
     ·obtain ⟨h1, h2⟩ := hC2 k h
      refine ⟨?_, by simpa using h2⟩
      rcases h1 with h1 | h1
      ·exact .inl ((hC k).2 (.inl h1))
      ·exact .inr h1
     ·exact ⟨.inl ((hC k).2 (.inr (.inl h))), by simp; omega⟩
     ·exact ⟨.inl ((hC k).2 (.inr (.inr h))), by simp; omega⟩
    rintro e a3 W3 hp
    cases e with
    | normal =>
     obtain ⟨C2, hi3, hb3, hC2⟩ := hp
     obtain ⟨hr, hst, hl4, hk4, hb4, m1, m2⟩ := fin none W3 C2 hb3 hC2
     exact ⟨_, _, hr, .inl ⟨rfl, fun k => C2 k ∨ k = w.heap.size ∨ k = w.heap.size + 1, ⟨C2, hI _ _ _ _ hi3 hst, fun k => Iff.rfl, m1, m2, hl4, hk4⟩, hb4, bnd _ W3 C2 hb3 hC2⟩⟩
    | ret =>
     obtain ⟨C2, hi3, hb3, hC2⟩ := hp
     obtain ⟨hr, hst, hl4, hk4, hb4, m1, m2⟩ := fin (some .ret) W3 C2 hb3 hC2
     exact ⟨_, _, hr, .inr ⟨rfl, fun k => C2 k ∨ k = w.heap.size ∨ k = w.heap.size + 1, ⟨.ret, C2, hIx _ _ _ _ _ hi3 hst, fun k => Iff.rfl, m1, m2, hl4, hk4⟩, hb4, bnd _ W3 C2 hb3 hC2⟩⟩
    | exit id =>
     obtain ⟨C2, hi3, hb3, hC2⟩ := hp
     obtain ⟨hr, hst, hl4, hk4, hb4, m1, m2⟩ := fin (some (.exit id)) W3 C2 hb3 hC2
     exact ⟨_, _, hr, .inr ⟨rfl, fun k => C2 k ∨ k = w.heap.size ∨ k = w.heap.size + 1, ⟨.exit id, C2, hIx _ _ _ _ _ hi3 hst, fun k => Iff.rfl, m1, m2, hl4, hk4⟩, hb4, bnd _ W3 C2 hb3 hC2⟩⟩
    | goto t =>
     obtain ⟨C2, hi3, hb3, hC2⟩ := hp
     obtain ⟨hr, hst, hl4, hk4, hb4, m1, m2⟩ := fin (some (.goto t)) W3 C2 hb3 hC2
     exact ⟨_, _, hr, .inr ⟨rfl, fun k => C2 k ∨ k = w.heap.size ∨ k = w.heap.size + 1, ⟨.goto t, C2, hIx _ _ _ _ _ hi3 hst, fun k => Iff.rfl, m1, m2, hl4, hk4⟩, hb4, bnd _ W3 C2 hb3 hC2⟩⟩
    | panic ch => exact hp.elim
    | outgrown => exact hp.elim
   | exit id => exact he.elim
   | goto t => exact he.elim
   | ret => exact he.elim
   | panic ch => exact he.elim
   | outgrown => exact he.elim
  ·rintro e W2 ⟨⟨v, rfl⟩, (⟨C, C1, hi, hC, n1, n2, hl, hk⟩ | ⟨pre, C, hpre, c, C1, hi, hC, n1, n2, hl, hk⟩)⟩
   ·have hend := run_endLoop (P := P) hl (by rw [hrec]; simp)
    rw [hrec] at hend
    exact ⟨none, _, hend, hdone C1 _ (hI _ _ _ _ hi (But.putObj _ _ _ ⟨by omega, n2⟩)) ((World.putObj_heap_other (by omega)).trans hk) n1⟩
   ·have hend := run_endLoop (P := P) hl (by rw [hrec]; simp)
    rw [hrec] at hend
    exact ⟨some c, _, hend, (wpIn_wide (n := 0)).2 (hstop c pre C1 _ hpre (hIx c _ _ _ _ hi (But.putObj _ _ _ ⟨by omega, n2⟩)) ((World.putObj_heap_other (by omega)).trans hk) n1)⟩
end Go.Proofs.YtpflaglfnkmjiaaGreat
namespace Go.Proofs.YtpflaglfnkmjiaaGreat.Nm
def plc (c : UInt8) : Bool := (decide (97 ≤ (c.toNat : Int)) && decide ((c.toNat : Int) ≤ 122)) || (decide (48 ≤ (c.toNat : Int)) && decide ((c.toNat : Int) ≤ 57))
def okc (c : UInt8) : Bool := plc c || ((c.toNat : Int) == 46) || ((c.toNat : Int) == 45)
def may (l : List UInt8) : Bool := decide (1 ≤ l.length) && decide (l.length ≤ 64) && l.all okc && plc (l.getD 0 0) && plc (l.getD (l.length - 1) 0)
end Go.Proofs.YtpflaglfnkmjiaaGreat.Nm
namespace Go.Proofs.YtpflaglfnkmjiaaGreat.Nm
open Go.RowKit
set_option maxRecDepth 100000
theorem hide {p : Prop} (h : p) : Hid p := h
theorem plain_any (c : UInt8) (w : World) : Calls Tryz.prog 165 #[.int .u8 (c.toNat : Int)] w fun e w' => e = .returned (.bool (plc c)) ∧ w' = w := by
 by_cases h1 : 97 ≤ (c.toNat : Int) <;> by_cases h2 : (c.toNat : Int) ≤ 122 <;> by_cases h3 : 48 ≤ (c.toNat : Int) <;> by_cases h4 : (c.toNat : Int) ≤ 57
 all_goals
  go_enter Tryz.func165, Tryz.ntmps165
  go_wp2
  go_ret
  exact ⟨ret_bool (by simp [plc, h1, h2, h3, h4]), rfl⟩
theorem all_snoc (s : ByteArray) (k : Nat) (h : k < s.size) (ha : (s.data.toList.take k).all okc = true) (hc : okc s[k] = true) : (s.data.toList.take (k + 1)).all okc = true := by
 rw [List.take_succ_eq_append_getElem (by simpa using h), List.all_append, ha]
 simp only [Bool.true_and, List.all_cons, List.all_nil, Bool.and_true]
 exact hc
theorem all_not (s : ByteArray) (k : Nat) (h : k < s.size) (hc : okc s[k] = false) : may s.data.toList = false := by
 have : s.data.toList.all okc = false := by
  rw [List.all_eq_false]
  exact ⟨s[k], by simp [ByteArray.getElem_eq_getElem_data], by simp [hc]⟩
 unfold may
 rw [this]
 simp
theorem get0 (s : ByteArray) (h : 0 < s.size) : s.data.toList.getD 0 0 = s[0] := by
 rw [List.getD_eq_getElem?_getD, List.getElem?_eq_getElem (by simpa using h)]
 rfl
theorem getE (s : ByteArray) (h : 0 < s.size) : s.data.toList.getD (s.data.toList.length - 1) 0 = s[s.size - 1] := by
 rw [List.getD_eq_getElem?_getD, List.getElem?_eq_getElem (by simp; omega)]
 rfl
theorem may_all (s : ByteArray) (h1 : 0 < s.size) (h2 : s.size ≤ 64) (ha : s.data.toList.all okc = true) : may s.data.toList = (plc s[0] && plc (s[s.size - 1])) := by
 unfold may
 rw [ha, get0 s h1, getE s h1]
 have e : s.data.toList.length = s.size := by simp
 rw [e]
 simp [show 1 ≤ s.size by omega, h2]
theorem may_size (s : ByteArray) (h : s.size < 1 ∨ 64 < s.size) : may s.data.toList = false := by
 unfold may
 have e : s.data.toList.length = s.size := by simp
 rw [e]
 rcases h with h | h
 ·simp [show ¬ 1 ≤ s.size by omega]
 ·simp [show ¬ s.size ≤ 64 by omega]
theorem may_any (s : ByteArray) (w : World) (hs : s.size ≤ maxLen) : Calls Tryz.prog 120 #[.string s] w fun e w' => e = .returned (.bool (may s.data.toList)) ∧ w' = w := by
 unfold maxLen at hs
 by_cases h0 : s.size < 1
 ·have i0 : (s.size : Int) < 1 := by omega
  go_enter Tryz.func120, Tryz.ntmps120
  go_wp2
  go_ret
  exact ⟨ret_bool (may_size s (.inl h0)).symm, rfl⟩
 by_cases h1 : 64 < s.size
 ·have i0 : ¬ (s.size : Int) < 1 := by omega
  have i1 : (s.size : Int) > 64 := by omega
  go_enter Tryz.func120, Tryz.ntmps120
  go_wp2
  go_ret
  exact ⟨ret_bool (may_size s (.inr h1)).symm, rfl⟩
 have i0 : ¬ (s.size : Int) < 1 := by omega
 have i1 : ¬ (s.size : Int) > 64 := by omega
 go_enter Tryz.func120, Tryz.ntmps120
 go_wp2
 go_loop [14] (fun i => ∃ k : Nat, k ≤ s.size ∧ i = .int .i64 k ∧ Hid ((s.data.toList.take k).all okc = true)) (fun i => s.size - (intOf i).toNat)
 case atStart => exact ⟨0, Nat.zero_le _, rfl, rfl⟩
 case round =>
  obtain ⟨k, hk, rfl, ha⟩ := hrel
  by_cases hlt : k < s.size
  ·by_cases hp : plc s[k] = true
   ·go_wp2_with (go_at_call 165; refine (plain_any _ _).mono ?_; rintro e w' ⟨rfl, rfl⟩)
    go_round
    case rel => exact ⟨k + 1, by omega, by go_num, all_snoc s k hlt ha.out (by simp [okc, hp])⟩
    case measure => simp [intOf]; omega
   ·replace hp : plc s[k] = false := by simpa using hp
    by_cases hd1 : (s[k].toNat : Int) = 46
    ·have hd1' : ((s[k].toNat : Int) != 46) = false := by simp [hd1]
     have hok : Hid (okc s[k] = true) := by show _ = _; simp [okc, hd1]
     clear hd1
     go_wp2_with (go_at_call 165; refine (plain_any _ _).mono ?_; rintro e w' ⟨rfl, rfl⟩)
     go_round
     case rel => exact ⟨k + 1, by omega, by go_num, all_snoc s k hlt ha.out hok.out⟩
     case measure => simp [intOf]; omega
    ·have hd1' : ((s[k].toNat : Int) != 46) = true := by simpa using hd1
     by_cases hd2 : (s[k].toNat : Int) = 45
     ·have hd2' : ((s[k].toNat : Int) != 45) = false := by simp [hd2]
      have hok : Hid (okc s[k] = true) := by show _ = _; simp [okc, hd2]
      clear hd2 hd1
      go_wp2_with (go_at_call 165; refine (plain_any _ _).mono ?_; rintro e w' ⟨rfl, rfl⟩)
      go_round
      case rel => exact ⟨k + 1, by omega, by go_num, all_snoc s k hlt ha.out hok.out⟩
      case measure => simp [intOf]; omega
     ·have hd2' : ((s[k].toNat : Int) != 45) = true := by simpa using hd2
      have hok : Hid (okc s[k] = false) := by show _ = _; simp [okc, hd2, hd1, hp]
      clear hd2 hd1
      go_wp2_with (go_at_call 165; refine (plain_any _ _).mono ?_; rintro e w' ⟨rfl, rfl⟩)
      go_ret
      exact ⟨ret_bool (all_not s k hlt hok.out).symm, rfl⟩
  ·obtain rfl : k = s.size := by omega
   have hm := may_all s (by omega) (by omega) (by have := ha.out; rwa [List.take_of_length_le (by simp)] at this)
   have z0 : 0 < s.size := by omega
   cases hp0 : plc s[0] with
   | false =>
    have hm' : Hid (may s.data.toList = false) := by show _ = _; rw [hm, hp0]; rfl
    clear hm
    go_wp2_with (go_at_call 165; refine (plain_any _ _).mono ?_; rintro e w' ⟨rfl, rfl⟩)
    go_ret
    exact ⟨ret_bool (by first | exact hm'.out.symm | (rw [hm'.out])), rfl⟩
   | true =>
    have hm' : Hid (may s.data.toList = plc (s[s.size - 1])) := by show _ = _; rw [hm, hp0]; rfl
    clear hm
    go_wp2_with (go_at_call 165; refine (plain_any _ _).mono ?_; rintro e w' ⟨rfl, rfl⟩)
    go_ret
    exact ⟨ret_bool (by first | exact hm'.out.symm | (rw [hm'.out]; simp)), rfl⟩
end Go.Proofs.YtpflaglfnkmjiaaGreat.Nm
namespace Go.Proofs.YtpflaglfnkmjiaaGreat.Dk
open Go.RowKit Go.Maps
def TM : TypeId := 80
def TF : TypeId := 137
def TS : TypeId := 9
theorem keyS : Keyed Tryz.prog TS := string_keyed Tryz.underlying9
theorem undM : Tryz.prog.underlying TM = some (.map TS TF) := Tryz.underlying80
theorem zeroF (w : World) : (zeroValue TF).run Tryz.prog w = .ok (.pointer none) w := by kernel_rfl
theorem keyN {s : ByteArray} (hs : s.size ≤ maxLen) : keyOf Tryz.prog TS (.string s) = some (.string s.data.toList) 
    := WideMaps.keyOf_string_mk Tryz.underlying9 hs
def Mp (w : World) (b : Nat) (l : Dr) : Prop := w.ownsMap Tryz.prog TS ptrR b l.length (dirD l)
theorem Mp.of {w : World} {b n : Nat} {l : Dr} (h : w.ownsMap Tryz.prog TS ptrR b n (dirD l)) : Mp w b l := by
 obtain ⟨es, clock, hb, F, _, hD⟩ := h
 refine ⟨es, clock, hb, F, ?_, hD⟩
 have e1 : Maps.size (dirD l) = l.length := dirD_size l
 rw [hD] at e1
 have e2 := length_read (P := Tryz.prog) (k := TS) (R0 := ptrR) es
 simp only [Maps.size] at e1
 omega
theorem Mp.lt {w : World} {b : Nat} {l : Dr} (h : Mp w b l) : b < w.heap.size := World.ownsMap.lt h
theorem Mp.heap {w w' : World} {b : Nat} {l : Dr} (h : Mp w b l) (e : w'.heap[b]? = w.heap[b]?) : Mp w' b l := by
 obtain ⟨es, clock, hb, r⟩ := h
 exact ⟨es, clock, e.trans hb, r⟩
theorem Mp.look_some {w : World} {b p : Nat} {l : Dr} {s : ByteArray} (h : Mp w b l) (hs : s.size ≤ maxLen) (hg : get l s.data.toList = some p) : (Instr.lookup TM (.map (some b)) (.string s) true).run Tryz.prog w = .ok (.tuple #[.pointer (some ⟨p, 0, none⟩), .bool true]) w := by
 obtain ⟨v, ps, hrun, hv⟩ := h.look_ok keyS undM (zeroF w) ptrR_none (keyN hs)
 rw [dirD_at_some hg] at hv
 rw [hrun, ptrR_inv hv, dirD_has, hg]
 rfl
theorem Mp.look_none {w : World} {b : Nat} {l : Dr} {s : ByteArray} (h : Mp w b l) (hs : s.size ≤ maxLen) (hg : get l s.data.toList = none) : (Instr.lookup TM (.map (some b)) (.string s) true).run Tryz.prog w = .ok (.tuple #[.pointer none, .bool false]) w := by
 obtain ⟨v, ps, hrun, hv⟩ := h.look_ok keyS undM (zeroF w) ptrR_none (keyN hs)
 rw [dirD_at_none hg] at hv
 rw [hrun, ptrR_inv_nil hv, dirD_has, hg]
 rfl
theorem Mp.look {w : World} {b p : Nat} {l : Dr} {s : ByteArray} (h : Mp w b l) (hs : s.size ≤ maxLen) (hg : get l s.data.toList = some p) : (Instr.lookup TM (.map (some b)) (.string s) false).run Tryz.prog w = .ok (.pointer (some ⟨p, 0, none⟩)) w := by
 obtain ⟨v, ps, hrun, hv⟩ := World.ownsMap.lookup h keyS undM (zeroF w) ptrR_none (keyN hs)
 rw [dirD_at_some hg] at hv
 rw [hrun, ptrR_inv hv]
theorem Mp.len {w : World} {b : Nat} {l : Dr} (h : Mp w b l) (ty : TypeId) : (Builtin.len_ #[TM] ty #[.map (some b)]).run Tryz.prog w = .ok (.int .i64 (l.length : Int)) w := by
 have := World.ownsMap.len h undM ty
 rw [dirD_size] at this
 exact this
theorem Mp.store {w : World} {b p : Nat} {l : Dr} {s : ByteArray} (h : Mp w b l) (hs : s.size ≤ maxLen) (hl : l.length < maxLen) :
    ∃ w', (Instr.mapUpdate TM (.map (some b)) (.string s) (.pointer (some ⟨p, 0, none⟩))).run Tryz.prog w = .ok () w' ∧ Mp w' b (dput l s.data.toList p) ∧ w.mapTurned w' b := by
 obtain ⟨w', hrun, ho, ht⟩ := World.ownsMap.store h keyS undM hl (keyN hs) (ptrR_some p)
 rw [dirD_put] at ho
 exact ⟨w', hrun, Mp.of ho, ht⟩
theorem Mp.drop {w : World} {b : Nat} {l : Dr} {s : ByteArray} (h : Mp w b l) (hs : s.size ≤ maxLen) (ty : TypeId) :
    ∃ w', (Builtin.delete_ #[TM, TS] ty #[.map (some b), .string s]).run Tryz.prog w = .ok (.tuple #[]) w' ∧ Mp w' b (ddel l s.data.toList) ∧ w.mapTurned w' b := by
 obtain ⟨w', hrun, ho, ht⟩ := World.ownsMap.drop h keyS undM (keyN hs) ty
 rw [dirD_del] at ho
 exact ⟨w', hrun, Mp.of ho, ht⟩
theorem Mp.made (w : World) : Mp (w.alloc (.map #[] 0)) w.heap.size [] := Mp.of (l := []) (World.ownsMap_made w _ _ _)
structure Dc where
 most : Int
 up : Bool
 fm : Option Nat
 lm : Option Nat
 pd : Value
 am : Option Nat
 c0 : Int
 c1 : Int
 c2 : Int
 c3 : Int
 c4 : Int
 c5 : Int
 c6 : Int
 c7 : Int
 c8 : Int
def dcells (x : Dc) : Array Value := #[.int .i64 x.most, .bool x.up, .map x.fm, .map x.lm, x.pd, .map x.am, .int .i64 x.c0, .int .i64 x.c1, .int .i64 x.c2, .int .i64 x.c3, .int .i64 x.c4, .int .i64 x.c5, .int .i64 x.c6, .int .i64 x.c7, .int .i64 x.c8]
def TD : TypeId := 84
def Bx (w : World) (b : Nat) (x : Dc) : Prop := w.heap[b]? = some (.cells (dcells x) TD (0, 0))
def Dp (w : World) (v : Value) (x : Option Dc) : Prop :=
 (v = .pointer none ∧ x = none) ∨ ∃ b y, v = .pointer (some ⟨b, 0, none⟩) ∧ x = some y ∧ Bx w b y
def madeD (x : Option Dc) : Bool := match x with | none => false | some y => y.fm.isSome
def upD (x : Option Dc) : Bool := match x with | none => false | some y => y.fm.isSome && y.up
theorem Bx.cells {w : World} {b : Nat} {x : Dc} (h : Bx w b x) : w.cell? ⟨b, 0, none⟩ = some (.int .i64 x.most) ∧ w.cell? ⟨b, 1, none⟩ = some (.bool x.up) ∧ w.cell? ⟨b, 2, none⟩ = some (.map x.fm) ∧ w.cell? ⟨b, 3, none⟩ = some (.map x.lm) ∧ w.cell? ⟨b, 4, none⟩ = some x.pd ∧ w.cell? ⟨b, 5, none⟩ = some (.map x.am) := by
 have e := h
 unfold Bx at e
 simp [World.cell?, e, dcells]
theorem Bx.all {w : World} {b : Nat} {x : Dc} (h : Bx w b x) : w.cell? ⟨b, 13, none⟩ = some (.int .i64 x.c7) ∧ w.cell? ⟨b, 14, none⟩ = some (.int .i64 x.c8) := by
 have e := h
 unfold Bx at e
 simp [World.cell?, e, dcells]
theorem Bx.below {A B : World} {b : Nat} {x : Dc} (h : Bx A b x) (hb : Below A.heap.size A B) : Bx B b x := (hb.block b (heap_lt h)).trans h
theorem Dp.below {A B : World} {v : Value} {x : Option Dc} (h : Dp A v x) (hb : Below A.heap.size A B) : Dp B v x := by
 rcases h with h | ⟨b, y, h1, h2, h3⟩
 ·exact .inl h
 ·exact .inr ⟨b, y, h1, h2, h3.below hb⟩
theorem neqM (w : World) (r : Option Nat) : (binOp .neq 80 (.map r) (.map none)).run Tryz.prog w = .ok (.bool (!r.isNone)) w := run_neq_map_nil w _ _ _ r Tryz.underlying80
theorem made_any (w : World) (v : Value) (x : Option Dc) (h : Dp w v x) : Calls Tryz.prog 63 #[v] w fun e w' => e = .returned (.bool (madeD x)) ∧ w' = w := by
 have qT := neqM
 rcases h with ⟨rfl, rfl⟩ | ⟨b, y, rfl, rfl, hb⟩
 ·go_enter Tryz.func63, Tryz.ntmps63
  go_wp2_with fail
  go_ret
  exact ⟨rfl, rfl⟩
 ·have h2 := hb.cells.2.2.1
  clear hb
  obtain ⟨c0, c1, fm, c3, c4, c5, c6, c7, c8, c9, c10, c11, c12, c13, c14⟩ := y
  cases fm with
  | none =>
   dsimp only at h2
   go_enter Tryz.func63, Tryz.ntmps63
   go_wp2_with fail
   go_ret
   exact ⟨rfl, rfl⟩
  | some m =>
   dsimp only at h2
   go_enter Tryz.func63, Tryz.ntmps63
   go_wp2_with fail
   go_ret
   exact ⟨rfl, rfl⟩
theorem up_any (w : World) (v : Value) (x : Option Dc) (h : Dp w v x) : Calls Tryz.prog 37 #[v] w fun e w' => e = .returned (.bool (upD x)) ∧ w' = w := by
 have hm := made_any w v x h
 rcases h with ⟨rfl, rfl⟩ | ⟨b, y, rfl, rfl, hb⟩
 ·go_enter Tryz.func37, Tryz.ntmps37
  go_wp2_with (go_at_call 63; refine hm.mono ?_; rintro e w1 ⟨rfl, rfl⟩; simp only [madeD])
  go_ret
  exact ⟨rfl, rfl⟩
 ·have h2 := hb.cells.2.1
  clear hb
  obtain ⟨c0, c1, fm, c3, c4, c5, c6, c7, c8, c9, c10, c11, c12, c13, c14⟩ := y
  cases fm with
  | none =>
   dsimp only at h2
   go_enter Tryz.func37, Tryz.ntmps37
   go_wp2_with (go_at_call 63; refine hm.mono ?_; rintro e w1 ⟨rfl, rfl⟩; simp only [madeD, Option.isSome_none])
   go_ret
   exact ⟨rfl, rfl⟩
  | some m =>
   dsimp only at h2
   go_enter Tryz.func37, Tryz.ntmps37
   go_wp2_with (go_at_call 63; refine hm.mono ?_; rintro e w1 ⟨rfl, rfl⟩; simp only [madeD, Option.isSome_some])
   go_ret
   exact ⟨rfl, rfl⟩
end Go.Proofs.YtpflaglfnkmjiaaGreat.Dk
namespace Go.Proofs.YtpflaglfnkmjiaaGreat.Dk
open Go.RowKit Go.Maps Go.Proofs.YtpflaglfnkmjiaaGreat.Nm
def refF (x : Option Dc) (L : List ByteArray) : Int := if upD x then (if L.all (fun s => may s.data.toList) then 0 else 24) else 22
theorem all_take {L : List ByteArray} {k : Nat} (hk : k < L.length) (h : (L.take k).all (fun s => may s.data.toList) = true) (h2 : may L[k].data.toList = true) : (L.take (k + 1)).all (fun s => may s.data.toList) = true := by
 rw [List.take_succ_eq_append_getElem hk, List.all_append, h]
 simp [h2]
theorem all_no {L : List ByteArray} {k : Nat} (hk : k < L.length) (h2 : may L[k].data.toList = false) : L.all (fun s => may s.data.toList) = false := by
 cases h : L.all (fun s => may s.data.toList) with
 | false => rfl
 | true => rw [List.all_eq_true] at h; have := h _ (List.getElem_mem hk); rw [h2] at this; exact absurd this (by simp)
theorem refuse_any (w : World) (d v : Value) (x : Option Dc) (L : List ByteArray) (h : Dp w d x) (hv : Row w v (L.map Value.string)) (hl : ∀ s ∈ L, s.size ≤ maxLen) :
    Calls Tryz.prog 52 #[d, v] w fun e w' => e = .returned (.int .i64 (refF x L)) ∧ w' = w := by
 have hu := up_any w d x h
 obtain ⟨ao, cap, rfl, _, h1, h2, h3⟩ := hv
 rw [List.length_map] at *
 obtain ⟨N, hN⟩ : ∃ N, Hid (L.length = N) := ⟨_, rfl⟩
 rw [hN.out] at h1 ⊢
 have i9 : (N : Int) ≤ 9223372036854775807 := by unfold maxLen at h2; omega
 clear h
 cases hx : upD x with
 | false =>
  rw [hx] at hu
  have hE : Hid (refF x L = 22) := by show _ = _; simp [refF, hx]
  rw [hE.out]
  clear h3 hl hx hE
  go_enter Tryz.func52, Tryz.ntmps52
  go_wp2_with (go_at_call 37; refine hu.mono ?_; rintro e w1 ⟨rfl, e1⟩; subst w1)
  go_ret
  exact ⟨rfl, rfl⟩
 | true =>
  rw [hx] at hu
  obtain ⟨E, hG⟩ : ∃ E, refF x L = E := ⟨_, rfl⟩
  have hE : Hid (E = if L.all (fun s => may s.data.toList) then 0 else 24) := by show _ = _; rw [← hG]; simp [refF, hx]
  rw [hG]
  replace h3 := hide h3
  replace hl := hide hl
  clear hx h2 hG
  go_enter Tryz.func52, Tryz.ntmps52
  go_wp2_with (go_at_call 37; refine hu.mono ?_; rintro e w1 ⟨rfl, e1⟩; subst w1)
  go_loop [12] (fun i => ∃ k : Nat, k ≤ N ∧ i = .int .i64 k ∧ Hid ((L.take k).all (fun s => may s.data.toList) = true)) (fun i => N - (intOf i).toNat)
  case atStart => exact ⟨0, Nat.zero_le _, rfl, rfl⟩
  case round =>
   obtain ⟨k, hk, rfl, ha⟩ := hrel
   by_cases hlt : k < N
   ·have i1 : (k : Int) < (N : Int) := by omega
    have hkl : k < L.length := by rw [hN.out]; exact hlt
    obtain ⟨b, off, rfl, hc⟩ := h3.out k (by rw [List.length_map]; exact hkl)
    have hcell : w.cell? ⟨b, off + k, none⟩ = some (.string L[k]) := by rw [hc, List.getElem_map]
    have hm := may_any L[k] w (hl.out _ (List.getElem_mem hkl))
    have hA := hide (all_take hkl ha.out)
    have hB := hide (all_no hkl)
    clear hc h3
    generalize L[k] = s at *
    cases hmx : may s.data.toList with
    | true =>
     rw [hmx] at hm
     replace hA := hide (hA.out hmx)
     clear hB hmx
     go_wp2_with (go_at_call 120; refine hm.mono ?_; rintro e w' ⟨rfl, e1⟩; subst w')
     go_round
     case rel => exact ⟨k + 1, by omega, by go_num, hA.out⟩
     case measure => simp [intOf]; omega
    | false =>
     rw [hmx] at hm
     replace hB := hide (hB.out hmx)
     clear hA hmx
     go_wp2_with (go_at_call 120; refine hm.mono ?_; rintro e w' ⟨rfl, e1⟩; subst w')
     go_ret
     exact ⟨by rw [hE.out, hB.out]; rfl, rfl⟩
   ·have i1 : ¬ (k : Int) < (N : Int) := by omega
    have hA : Hid (L.all (fun s => may s.data.toList) = true) := by
     have := ha.out
     rwa [List.take_of_length_le (by rw [hN.out]; omega)] at this
    clear h3
    go_wp2_with fail
    go_ret
    exact ⟨by rw [hE.out, hA.out]; rfl, rfl⟩
def findF (x : Option Dc) (l : Dr) (s : ByteArray) : Value × Int :=
 if refF x [s] = 0 then (match get l s.data.toList with | some p => (.pointer (some ⟨p, 0, none⟩), 0) | none => (.pointer none, 6)) else (.pointer none, refF x [s])
theorem row1 (w : World) (s : ByteArray) (T : TypeId) (z : Nat × Nat) : Row (w.alloc (.cells #[.string s] T z)) (.slice (some ⟨w.heap.size, 0, none⟩) 1 1) ([s].map Value.string) := by
 refine ⟨_, 1, rfl, fun e => by simp at e, Nat.le_refl _, by decide, fun i hi => ?_⟩
 obtain rfl : i = 0 := by simp at hi; omega
 refine ⟨_, _, rfl, ?_⟩
 unfold World.cell?
 simp only [Nat.zero_add, heap_alloc_new]
 rfl
theorem row0 (w : World) : Row w (.slice none 0 0) (([] : List ByteArray).map Value.string) := Row.nil w
theorem find_any (w : World) (d : Value) (x : Option Dc) (l : Dr) (s : ByteArray) (h : Dp w d x) (hs : s.size ≤ maxLen) (hl : ∀ y m, x = some y → y.fm = some m → Mp w m l) :
    Calls Tryz.prog 99 #[d, .string s] w fun e w' => e = .returned (.tuple #[(findF x l s).1, .int .i64 (findF x l s).2]) ∧ Below w.heap.size w w' := by
 have hr := refuse_any (w.alloc (.cells #[.string s] 9)) d _ x [s] (h.below ((Below.refl _ w).alloc (Nat.le_refl _) _)) (row1 w s _ _) (by simpa using hs)
 have hB := hide ((Below.refl _ w).alloc (Nat.le_refl _) (.cells #[.string s] 9))
 by_cases h0 : refF x [s] = 0
 ·rw [h0] at hr
  rcases h with ⟨rfl, rfl⟩ | ⟨b, y, rfl, rfl, hb⟩
  ·exact absurd h0 (by simp [refF, upD])
  ·have h2 := hb.cells.2.2.1
   cases hf : y.fm with
   | none => exact absurd h0 (by simp [refF, upD, hf])
   | some m =>
    rw [hf] at h2
    have hm := hl y m rfl hf
    have hm2 : Mp (w.alloc (.cells #[.string s] 9)) m l := hm.heap (Below.heap_alloc _ _ _ hm.lt)
    have h3 : (w.alloc (.cells #[.string s] 9)).cell? ⟨b, 2, none⟩ = some (.map (some m)) := by rw [hB.out.cell (p := ⟨b, 2, none⟩) (lt_of_cell h2)]; exact h2
    obtain ⟨E, hE⟩ : ∃ E, Hid (findF (some y) l s = E) := ⟨_, rfl⟩
    rw [hE.out]
    cases hg : get l s.data.toList with
    | none =>
     have hK : Hid (E = (.pointer none, 6)) := by show _ = _; rw [← hE.out]; simp [findF, h0, hg]
     have hL := hm2.look_none hs hg
     unfold TM at hL
     clear hm hm2 hl hf hg h0 hb h2 hE
     go_enter Tryz.func99, Tryz.ntmps99
     go_wp2_with (go_at_call 52; refine hr.mono ?_; rintro e w1 ⟨rfl, e1⟩; subst w1)
     go_ret2
     exact ⟨by rw [hK.out]; rfl, hB.out⟩
    | some p =>
     have hK : Hid (E = (.pointer (some ⟨p, 0, none⟩), 0)) := by show _ = _; rw [← hE.out]; simp [findF, h0, hg]
     have hL := hm2.look_some hs hg
     unfold TM at hL
     clear hm hm2 hl hf hg h0 hb h2 hE
     go_enter Tryz.func99, Tryz.ntmps99
     go_wp2_with (go_at_call 52; refine hr.mono ?_; rintro e w1 ⟨rfl, e1⟩; subst w1)
     go_ret2
     exact ⟨by rw [hK.out]; rfl, hB.out⟩
 ·obtain ⟨E, hE⟩ : ∃ E, Hid (findF x l s = E) := ⟨_, rfl⟩
  obtain ⟨r, hR⟩ : ∃ r, refF x [s] = r := ⟨_, rfl⟩
  have hK : Hid (E = (.pointer none, r)) := by show _ = _; rw [← hE.out, ← hR]; simp [findF, h0]
  rw [hE.out]
  rw [hR] at hr h0
  have h0' : (r != 0) = true := by simpa using h0
  clear hE hl h hR h0
  go_enter Tryz.func99, Tryz.ntmps99
  go_wp2_with (go_at_call 52; refine hr.mono ?_; rintro e w1 ⟨rfl, e1⟩; subst w1)
  go_ret2
  exact ⟨by rw [hK.out]; rfl, hB.out⟩
end Go.Proofs.YtpflaglfnkmjiaaGreat.Dk
namespace Go.Proofs.YtpflaglfnkmjiaaGreat.Dk
open Go.RowKit Go.Maps
abbrev Ft := Int × Int × Int
def fv (f : Ft) : Value := .agg #[.int .i64 f.1, .int .i64 f.2.1, .int .i64 f.2.2]
def fd (f : Ft) : DataW Unit := .agg [.lit (.int .i64 f.1), .lit (.int .i64 f.2.1), .lit (.int .i64 f.2.2)]
def faultR : Value → Option (DataW Unit × List MemPlace)
 | .agg ⟨[.int .i64 a, .int .i64 k, .int .i64 p]⟩ => some (fd (a, k, p), [])
 | _ => none
theorem faultR_fv (f : Ft) : faultR (fv f) = some (fd f, []) := rfl
theorem faultR_inv {v : Value} {f : Ft} {ps : List MemPlace} (h : faultR v = some (fd f, ps)) : v = fv f := by
 unfold faultR at h
 split at h
 ·rename_i a k p
  simp [fd] at h
  obtain ⟨⟨h1, h2, h3⟩, _⟩ := h
  subst h1 h2 h3
  rfl
 ·simp at h
abbrev Ar := List (Int × Ft)
def aent (p : Int × Ft) : Lit × DataW Unit := (.int .i64 p.1, fd p.2)
def armD (l : Ar) : DataW Unit := .map (l.map aent)
def aget (l : Ar) (n : Int) : Option Ft := (l.find? fun p => p.1 == n).map (·.2)
def adel (l : Ar) (n : Int) : Ar := l.filter fun p => !(p.1 == n)
theorem same_aent (n : Int) (p : Int × Ft) : (aent p).1.sameKey (.int .i64 n) = (p.1 == n) := by
 unfold aent Lit.sameKey
 simp
 rfl
theorem filter_aent (l : Ar) (n : Int) : (l.map aent).filter (fun p => !p.1.sameKey (.int .i64 n)) = (adel l n).map aent := by
 unfold adel
 rw [List.filter_map]
 congr 1
 apply List.filter_congr
 intro p _
 simp only [Function.comp, same_aent]
theorem armD_del (l : Ar) (n : Int) : (armD l).del (.int .i64 n) = armD (adel l n) := by
 show DataW.map _ = DataW.map _
 rw [filter_aent]
theorem find_aent (l : Ar) (n : Int) : (l.map aent).find? (fun p => p.1.sameKey (.int .i64 n)) = (l.find? fun p => p.1 == n).map aent := by
 rw [List.find?_map]
 have : ((fun p : Lit × DataW Unit => p.1.sameKey (.int .i64 n)) ∘ aent) = fun p => p.1 == n := funext fun p => same_aent n p
 rw [this]
def zf : Ft := (0, 0, 0)
theorem armD_at (l : Ar) (n : Int) : (armD l).atKey (.int .i64 n) (fd zf) = fd ((aget l n).getD zf) := by
 unfold armD DataW.atKey aget
 simp only []
 rw [find_aent]
 cases l.find? fun p => p.1 == n with
 | none => rfl
 | some p => rfl
theorem armD_size (l : Ar) : Maps.size (armD l) = l.length := by simp [Maps.size, armD]
def TA : TypeId := 82
def TI : TypeId := 2
theorem keyI : Keyed Tryz.prog TI := int_keyed Tryz.underlying2
theorem undA : Tryz.prog.underlying TA = some (.map TI 118) := Tryz.underlying82
theorem zeroFt (w : World) : (zeroValue 118).run Tryz.prog w = .ok (fv zf) w := by kernel_rfl
theorem keyNum {n : Int} (h0 : -9223372036854775808 ≤ n) (h1 : n ≤ 9223372036854775807) : keyOf Tryz.prog TI (.int .i64 n) = some (.int .i64 n) :=
 keyOf_int_mk Tryz.underlying2 (by have e1 : IntKind.i64.min = -9223372036854775808 := rfl; have e2 : IntKind.i64.max = 9223372036854775807 := rfl; simp [Lit.wf, e1, e2]; omega)
def Am (w : World) (b : Nat) (l : Ar) : Prop := w.ownsMap Tryz.prog TI faultR b l.length (armD l)
theorem Am.of {w : World} {b n : Nat} {l : Ar} (h : w.ownsMap Tryz.prog TI faultR b n (armD l)) : Am w b l := by
 obtain ⟨es, clock, hb, F, _, hD⟩ := h
 refine ⟨es, clock, hb, F, ?_, hD⟩
 have e1 : Maps.size (armD l) = l.length := armD_size l
 rw [hD] at e1
 have e2 := length_read (P := Tryz.prog) (k := TI) (R0 := faultR) es
 simp only [Maps.size] at e1
 omega
theorem Am.lt {w : World} {b : Nat} {l : Ar} (h : Am w b l) : b < w.heap.size := World.ownsMap.lt h
theorem Am.heap {w w' : World} {b : Nat} {l : Ar} (h : Am w b l) (e : w'.heap[b]? = w.heap[b]?) : Am w' b l := by
 obtain ⟨es, clock, hb, r⟩ := h
 exact ⟨es, clock, e.trans hb, r⟩
theorem Am.look {w : World} {b : Nat} {l : Ar} {n : Int} (h : Am w b l) (h0 : -9223372036854775808 ≤ n) (h1 : n ≤ 9223372036854775807) : (Instr.lookup TA (.map (some b)) (.int .i64 n) false).run Tryz.prog w = .ok (fv ((aget l n).getD zf)) w := by
 obtain ⟨v, ps, hrun, hv⟩ := World.ownsMap.lookup h keyI undA (zeroFt w) (faultR_fv zf) (keyNum h0 h1)
 rw [armD_at] at hv
 rw [hrun, faultR_inv hv]
theorem look_nilA (w : World) {n : Int} (h0 : -9223372036854775808 ≤ n) (h1 : n ≤ 9223372036854775807) : (Instr.lookup TA (.map none) (.int .i64 n) false).run Tryz.prog w = .ok (fv zf) w :=
 Maps.look_nil false keyI undA (zeroFt w) (keyNum h0 h1)
theorem drop_nilA (w : World) {n : Int} (h0 : -9223372036854775808 ≤ n) (h1 : n ≤ 9223372036854775807) (ty : TypeId) : (Builtin.delete_ #[TA, TI] ty #[.map none, .int .i64 n]).run Tryz.prog w = .ok (.tuple #[]) w :=
 Maps.drop_nil keyI undA (keyNum h0 h1) ty
theorem Am.drop {w : World} {b : Nat} {l : Ar} {n : Int} (h : Am w b l) (h0 : -9223372036854775808 ≤ n) (h1 : n ≤ 9223372036854775807) (ty : TypeId) :
    ∃ w', (Builtin.delete_ #[TA, TI] ty #[.map (some b), .int .i64 n]).run Tryz.prog w = .ok (.tuple #[]) w' ∧ Am w' b (adel l n) ∧ w.mapTurned w' b := by
 obtain ⟨w', hrun, ho, ht⟩ := World.ownsMap.drop h keyI undA (keyNum h0 h1) ty
 rw [armD_del] at ho
 exact ⟨w', hrun, Am.of ho, ht⟩
theorem turned_but {w w' : World} {b : Nat} (h : w.mapTurned w' b) : But (fun k => k = b) w w' := But.of_grownBy h.grown fun k e => by cases e; rfl
end Go.Proofs.YtpflaglfnkmjiaaGreat.Dk
namespace Go.Proofs.YtpflaglfnkmjiaaGreat.Sg
open Go.RowKit Go.Maps Go.Proofs.YtpflaglfnkmjiaaGreat.Dk
def sv (f : Int) : Value := .int .u32 f
def sd (f : Int) : DataW Unit := .lit (.int .u32 f)
def seedR : Value → Option (DataW Unit × List MemPlace)
 | .int .u32 a => some (sd a, [])
 | _ => none
theorem seedR_sv (f : Int) : seedR (sv f) = some (sd f, []) := rfl
theorem seedR_inv {v : Value} {f : Int} {ps : List MemPlace} (h : seedR v = some (sd f, ps)) : v = sv f := by
 unfold seedR at h
 split at h
 ·simp [sd] at h
  obtain ⟨h1, _⟩ := h
  subst h1
  rfl
 ·simp at h
abbrev Sr := List (Int × Int)
def sent (p : Int × Int) : Lit × DataW Unit := (.int .i64 p.1, sd p.2)
def seedD (l : Sr) : DataW Unit := .map (l.map sent)
def sget (l : Sr) (n : Int) : Option Int := (l.find? fun p => p.1 == n).map (·.2)
def sins (x : Int × Int) : Sr → Sr
 | [] => [x]
 | y :: r => if x.1 < y.1 then x :: y :: r else y :: sins x r
def sdel (l : Sr) (n : Int) : Sr := l.filter fun p => !(p.1 == n)
def sput (l : Sr) (n : Int) (f : Int) : Sr := sins (n, f) (sdel l n)
theorem insert_sent (x : Int × Int) : ∀ l : Sr, DataW.insert (sent x) (l.map sent) = (sins x l).map sent := by
 intro l
 induction l with
 | nil => rfl
 | cons y r ih =>
  simp only [List.map_cons, DataW.insert, sins]
  have e : (sent x).1.before (sent y).1 = decide (x.1 < y.1) := rfl
  rw [e]
  by_cases h : x.1 < y.1
  ·simp [h]
  ·simp [h, ih]
theorem same_sent (n : Int) (p : Int × Int) : (sent p).1.sameKey (.int .i64 n) = (p.1 == n) := by
 unfold sent Lit.sameKey
 simp
 rfl
theorem filter_sent (l : Sr) (n : Int) : (l.map sent).filter (fun p => !p.1.sameKey (.int .i64 n)) = (sdel l n).map sent := by
 unfold sdel
 rw [List.filter_map]
 congr 1
 apply List.filter_congr
 intro p _
 simp only [Function.comp, same_sent]
theorem seedD_put (l : Sr) (n : Int) (f : Int) : (seedD l).put (.int .i64 n) (sd f) = seedD (sput l n f) := by
 show DataW.map _ = DataW.map _
 rw [filter_sent]
 exact congrArg DataW.map (insert_sent (n, f) (sdel l n))
theorem find_sent (l : Sr) (n : Int) : (l.map sent).find? (fun p => p.1.sameKey (.int .i64 n)) = (l.find? fun p => p.1 == n).map sent := by
 rw [List.find?_map]
 have : ((fun p : Lit × DataW Unit => p.1.sameKey (.int .i64 n)) ∘ sent) = fun p => p.1 == n := funext fun p => same_sent n p
 rw [this]
theorem seedD_at (l : Sr) (n : Int) : (seedD l).atKey (.int .i64 n) (sd 0) = sd ((sget l n).getD 0) := by
 unfold seedD DataW.atKey sget
 simp only []
 rw [find_sent]
 cases l.find? fun p => p.1 == n with
 | none => rfl
 | some p => rfl
theorem seedD_size (l : Sr) : Maps.size (seedD l) = l.length := by simp [Maps.size, seedD]
def TS : TypeId := 128
theorem undS : Tryz.prog.underlying TS = some (.map TI 36) := Tryz.underlying128
theorem zeroSd (w : World) : (zeroValue 36).run Tryz.prog w = .ok (sv 0) w := by kernel_rfl
def Sm (w : World) (b : Nat) (l : Sr) : Prop := w.ownsMap Tryz.prog TI seedR b l.length (seedD l)
theorem Sm.of {w : World} {b n : Nat} {l : Sr} (h : w.ownsMap Tryz.prog TI seedR b n (seedD l)) : Sm w b l := by
 obtain ⟨es, clock, hb, F, _, hD⟩ := h
 refine ⟨es, clock, hb, F, ?_, hD⟩
 have e1 : Maps.size (seedD l) = l.length := seedD_size l
 rw [hD] at e1
 have e2 := length_read (P := Tryz.prog) (k := TI) (R0 := seedR) es
 simp only [Maps.size] at e1
 omega
theorem Sm.lt {w : World} {b : Nat} {l : Sr} (h : Sm w b l) : b < w.heap.size := World.ownsMap.lt h
theorem Sm.heap {w w' : World} {b : Nat} {l : Sr} (h : Sm w b l) (e : w'.heap[b]? = w.heap[b]?) : Sm w' b l := by
 obtain ⟨es, clock, hb, r⟩ := h
 exact ⟨es, clock, e.trans hb, r⟩
theorem Sm.look {w : World} {b : Nat} {l : Sr} {n : Int} (h : Sm w b l) (h0 : -9223372036854775808 ≤ n) (h1 : n ≤ 9223372036854775807) : (Instr.lookup TS (.map (some b)) (.int .i64 n) false).run Tryz.prog w = .ok (sv ((sget l n).getD 0)) w := by
 obtain ⟨v, ps, hrun, hv⟩ := World.ownsMap.lookup h keyI undS (zeroSd w) (seedR_sv 0) (keyNum h0 h1)
 rw [seedD_at] at hv
 rw [hrun, seedR_inv hv]
theorem Sm.store {w : World} {b : Nat} {l : Sr} {n : Int} {f : Int} (h : Sm w b l) (h0 : -9223372036854775808 ≤ n) (h1 : n ≤ 9223372036854775807) (hl : l.length < maxLen) :
    ∃ w', (Instr.mapUpdate TS (.map (some b)) (.int .i64 n) (sv f)).run Tryz.prog w = .ok () w' ∧ Sm w' b (sput l n f) ∧ w.mapTurned w' b := by
 obtain ⟨w', hrun, ho, ht⟩ := World.ownsMap.store h keyI undS hl (keyNum h0 h1) (seedR_sv f)
 rw [seedD_put] at ho
 exact ⟨w', hrun, Sm.of ho, ht⟩
theorem Sm.made (w : World) : Sm (w.alloc (.map #[] 0)) w.heap.size [] := Sm.of (l := []) (World.ownsMap_made w _ _ _)
theorem sget_sput (l : Sr) (n f : Int) : sget (sput l n f) n = some f := by
 have ins : ∀ r : Sr, (∀ p ∈ r, p.1 ≠ n) → sget (sins (n, f) r) n = some f := fun r => by
  induction r with
  | nil => intro _; simp [sins, sget]
  | cons y r ih =>
   intro h
   have hy : (y.1 == n) = false := by simpa using h y (by simp)
   simp only [sins]
   split
   ·simp [sget]
   ·have := ih (fun p hp => h p (by simp [hp]))
    simp only [sget, List.find?_cons, hy] at this ⊢
    exact this
 refine ins _ fun p hp => ?_
 have := (List.mem_filter.1 hp).2
 simpa using this
end Go.Proofs.YtpflaglfnkmjiaaGreat.Sg
namespace Go.Proofs.YtpflaglfnkmjiaaGreat
open Go.RowKit
theorem eq_any (w : World) (ao bo : Option Addr) (l m : List UInt8) (ca cb : Nat) (hl : l.length ≤ maxLen) (hm : m.length ≤ maxLen) (ha : Rd w ao l) (hb : Rd w bo m) :
    Calls Tryz.prog 73 #[.slice ao l.length ca, .slice bo m.length cb] w fun e w' => e = .returned (.bool (decide (l = m))) ∧ Qt w w' := by
 unfold maxLen at hl hm
 by_cases hn : (l.length : Int) = (m.length : Int)
 ·have hn' : (((l.length : Nat) : Int) != ((m.length : Nat) : Int)) = false := by simp; omega
  have HN : Hid (l.length = m.length) := by show _ = _; omega
  clear hn
  go_enter Tryz.func73, Tryz.ntmps73
  go_wp2
  go_loopw [5] (fun i wr => ∃ k : Nat, k ≤ l.length ∧ i = .int .i64 k ∧ Qt w wr ∧ Hid (l.take k = m.take k)) (fun i _ => l.length - (intOf i).toNat)
  case atStart => exact ⟨0, Nat.zero_le _, rfl, Qt.refl _, by simp [Hid]⟩
  case round =>
   obtain ⟨k, hk, rfl, ⟨nq, rfl⟩, heq⟩ := hrel
   by_cases hlt : k < l.length
   ·obtain ⟨b1, o1, rfl, h1⟩ := ha.at (by omega)
    obtain ⟨b2, o2, rfl, h2⟩ := hb.at (by have := HN.out; omega)
    have hlt2 : k < m.length := by have := HN.out; omega
    have c1 := h1 k hlt
    have c2 := h2 k hlt2
    clear h1 h2
    cases hc : ((l[k].toNat : Int) != (m[k].toNat : Int))
    ·have HS : Hid (l.take (k + 1) = m.take (k + 1)) := by
       show _ = _
       rw [take_snoc l k hlt, take_snoc m k hlt2, heq.out, u8_eq hc]
     go_wp2
     go_quiet (fail)
     go_wp2
     go_roundw
     case rel => exact ⟨k + 1, by omega, by go_num, ⟨_, rfl⟩, HS⟩
     case measure => simp [intOf]; omega
    ·have HS : Hid (decide (l = m) = false) := by
       show _ = _
       exact decide_eq_false (ne_at k hlt hlt2 (u8_ne hc))
     go_wp2
     go_quiet (fail)
     go_wp2
     go_ret
     exact ⟨ret_bool (by rw [HS.out]), Qt.drewN ⟨_, rfl⟩ _⟩
   ·have HS : Hid (decide (l = m) = true) := by
      show _ = _
      exact decide_eq_true (take_eq_all HN.out k (by omega) heq.out)
    go_wp2
    go_ret
    exact ⟨ret_bool (by rw [HS.out]), ⟨_, rfl⟩⟩
 ·have hn' : (((l.length : Nat) : Int) != ((m.length : Nat) : Int)) = true := by simp; omega
  have HS : Hid (decide (l = m) = false) := by
   show _ = _
   exact decide_eq_false (by rintro rfl; exact hn rfl)
  clear hn
  go_enter Tryz.func73, Tryz.ntmps73
  go_wp2
  go_ret
  exact ⟨ret_bool (by rw [HS.out]), Qt.refl _⟩
theorem clone_any (w : World) (x : Value) (l : List UInt8) (hx : Sl w x l) (hlen : l.length ≤ 140737488355328) :
    Calls Tryz.prog 183 #[x] w fun e w' => ∃ v', e = .returned v' ∧ w'.ownsRow w.heap.size 5 1 v' l.length (bvals l) ∧ Below w.heap.size w w' := by
 have hx0 := hx
 obtain ⟨ao, ca, rfl, h2, h3, h4, h5⟩ := hx
 have he := fun (u : World) (ao : Option Addr) (n c n' c' : Nat) => Lib.run_eql_slice_nil (P := Tryz.prog) u 39 5 ao n c n' c' Tryz.underlying39
 cases ao with
 | none =>
  obtain ⟨rfl, rfl⟩ := h2 rfl
  go_enter Tryz.func183, Tryz.ntmps183
  go_wp2
  go_ret
  exact ⟨_, rfl, World.ownsRow_nil _ _ _ _, Below.refl _ _⟩
 | some ad =>
  clear h2
  go_enter Tryz.func183, Tryz.ntmps183
  go_wp2_with (at_builtin; refine wpList_append_bytes rfl (.tmp 5) (.tmp 6) 39 rfl w.heap.size 5 Tryz.infoU8 Tryz.underlying39 _ _ [] l rfl (World.ownsRow_made _ #[] 0 (Nat.le_refl _) (by decide) rfl) rfl (Below.sl ((Below.refl _ _).alloc (Nat.le_refl _) _) hx0) (by simpa using hlen) (by simp) ?_)
  intro v' w1 ho hb
  have hb1 : Below w.heap.size w w1 := ((Below.refl _ _).alloc (Nat.le_refl _) _).trans hb
  go_wp2
  go_ret
  exact ⟨_, rfl, by simpa using ho, hb1⟩
theorem or_add (a m k : Nat) (h : a < 2 ^ k) : a ||| m * 2 ^ k = a + m * 2 ^ k := by
 rw [← Nat.shiftLeft_eq, Nat.or_comm, ← Nat.shiftLeft_add_eq_or_of_lt h, Nat.add_comm]
theorem wrap_u64_in (x : Int) (h0 : 0 ≤ x) (h1 : x < 18446744073709551616) : IntKind.u64.wrap x = x := by
 simp only [IntKind.wrap, IntKind.bits, IntKind.signed]
 simp only [Bool.false_and, Bool.false_eq_true, if_false]
 exact Int.emod_eq_of_lt h0 (by simpa using h1)
theorem or_shift (acc c s : Nat) (ha : acc < 2 ^ s) (hb : acc + c * 2 ^ s < 18446744073709551616) (x : Int) (hx : x = ((c * 2 ^ s : Nat) : Int)) :
    bits BinOp.or IntKind.u64 (acc : Int) (IntKind.u64.wrap x) = ((acc + c * 2 ^ s : Nat) : Int) := by
 subst hx
 rw [wrap_u64_in _ (by omega) (by omega), u64_or_nat _ _ (by omega) (by omega), or_add _ _ _ ha]
end Go.Proofs.YtpflaglfnkmjiaaGreat
namespace Go.Proofs.YtpflaglfnkmjiaaGreat
end Go.Proofs.YtpflaglfnkmjiaaGreat
namespace Go.Proofs.YtpflaglfnkmjiaaGreat
open Go.RowKit
def num : List UInt8 → Nat
 | [] => 0
 | c :: r => c.toNat + 256 * num r
theorem num_lt (l : List UInt8) : num l < 256 ^ l.length := by
 induction l with
 | nil => simp [num]
 | cons c r ih => have := c.toNat_lt; simp only [num, List.length_cons, Nat.pow_succ]; omega
theorem num_snoc (l : List UInt8) (c : UInt8) : num (l ++ [c]) = num l + c.toNat * 256 ^ l.length := by
 induction l with
 | nil => simp [num]
 | cons d r ih =>
  simp only [List.cons_append, num, ih, List.length_cons, Nat.pow_succ, Nat.mul_add]
  rw [Nat.add_assoc, Nat.mul_comm (256 ^ r.length) 256, ← Nat.mul_assoc, ← Nat.mul_assoc, Nat.mul_comm 256 c.toNat]
theorem num_le (l : List UInt8) (n : Nat) (h : l.length ≤ n) : num l < 256 ^ n := Nat.lt_of_lt_of_le (num_lt l) (Nat.pow_le_pow_right (by omega) h)
theorem or_byte (acc c k : Nat) (ha : acc < 256 ^ k) (hb : acc + c * 256 ^ k < 18446744073709551616) :
    bits BinOp.or IntKind.u64 (acc : Int) (IntKind.u64.wrap ((c : Int) * 2 ^ (8 * k))) = ((acc + c * 256 ^ k : Nat) : Int) := by
 have e : (2 : Nat) ^ (8 * k) = 256 ^ k := by rw [Nat.pow_mul]
 rw [← e] at ha hb ⊢
 exact or_shift acc c (8 * k) ha hb _ (by simp)
theorem readFixed_any (w : World) (x : Value) (l : List UInt8) (hx : Sl w x l) (h8 : l.length ≤ 8) :
    Calls Tryz.prog 176 #[x] w fun e w' => e = .returned (.int .u64 (num l : Int)) ∧ w' = w := by
 obtain ⟨ao, ca, rfl, h2, h3, h4, h5⟩ := hx
 clear h2 h3 h4
 go_enter Tryz.func176, Tryz.ntmps176
 go_wp2
 go_loop [3, 8] (fun n i => ∃ (k acc : Nat), k ≤ l.length ∧ i = .int .i64 k ∧ n = .int .u64 acc ∧ Hid (acc = num (l.take k))) (fun _ i => l.length - (intOf i).toNat)
 case atStart => exact ⟨0, 0, Nat.zero_le _, rfl, rfl, rfl⟩
 case round =>
  obtain ⟨k, acc, hk, rfl, rfl, hacc⟩ := hrel
  by_cases hlt : k < l.length
  ·obtain ⟨b1, o1, rfl, h1⟩ := h5.at (by omega)
   have c1 := h1 k hlt
   have hc := l[k].toNat_lt
   have hl : (l.take k).length = k := by simp; omega
   have HN : Hid (acc + l[k].toNat * 256 ^ k = num (l.take (k + 1))) := by
    show _ = _
    rw [take_snoc l k hlt, num_snoc, hacc.out, hl]
   have HO : Hid (bits BinOp.or IntKind.u64 (acc : Int) (IntKind.u64.wrap (((l[k].toNat : Nat) : Int) * 2 ^ (8 * k))) = ((acc + l[k].toNat * 256 ^ k : Nat) : Int)) := by
    have g1 := num_le (l.take k) k (by omega)
    have g2 := num_le (l.take (k + 1)) 8 (by simp; omega)
    rw [← HN.out] at g2
    rw [← hacc.out] at g1
    exact or_byte acc _ k g1 (by simpa using g2)
   clear h1 h5 hl
   generalize l[k] = c at *
   go_wp2
   go_round
   case rel => exact ⟨k + 1, acc + c.toNat * 256 ^ k, by omega, by go_num, by rw [HO.out], HN⟩
   case measure => simp [intOf]; omega
  ·have HN : Hid (num l = acc) := by
     show _ = _
     rw [hacc.out, List.take_of_length_le (by omega)]
   go_wp2
   go_ret
   exact ⟨by rw [HN.out]; rfl, rfl⟩
def fx : Nat → Nat → List UInt8
 | 0, _ => []
 | s + 1, n => UInt8.ofNat (n % 256) :: fx s (n / 256)
theorem fx_len (s n : Nat) : (fx s n).length = s := by
 induction s generalizing n with
 | zero => rfl
 | succ s ih => simp [fx, ih]
theorem fx_snoc (s n : Nat) : fx (s + 1) n = fx s n ++ [UInt8.ofNat (n / 256 ^ s % 256)] := by
 induction s generalizing n with
 | zero => simp [fx]
 | succ s ih =>
  rw [fx, ih, fx, List.cons_append, Nat.div_div_eq_div_mul, Nat.pow_succ, Nat.mul_comm 256]
theorem fx_num (s n : Nat) (h : n < 256 ^ s) : num (fx s n) = n := by
 induction s generalizing n with
 | zero => simp at h; subst h; rfl
 | succ s ih =>
  rw [Nat.pow_succ] at h
  rw [fx, num, ih (n / 256) (Nat.div_lt_of_lt_mul (by omega)), UInt8.toNat_ofNat_of_lt' (show n % 256 < 256 by omega)]
  omega
theorem set_fx (s k n : Nat) (h : k < s) : (bvals (fx k n) ++ List.replicate (s - k) (Value.int .u8 0)).set k (bval (UInt8.ofNat (n / 256 ^ k % 256))) = bvals (fx (k + 1) n) ++ List.replicate (s - (k + 1)) (Value.int .u8 0) := by
 have hl : (bvals (fx k n)).length = k := by rw [bvals_length, fx_len]
 rw [List.set_append_right _ _ (by omega), hl, Nat.sub_self, fx_snoc, bvals_append, List.append_assoc]
 congr 1
 obtain ⟨d, hd⟩ : ∃ d, s - k = d + 1 := ⟨s - k - 1, by omega⟩
 have : s - (k + 1) = d := by omega
 rw [hd, this]
 simp [List.replicate_succ, bvals]
theorem shr_byte (n k : Nat) (x : Int) (hx : x = (n : Int) / 2 ^ (8 * k)) : Value.int .u8 (x % 256) = bval (UInt8.ofNat (n / 256 ^ k % 256)) := by
 have e : (2 : Nat) ^ (8 * k) = 256 ^ k := by rw [Nat.pow_mul]
 rw [← u8_of _ (by omega), ← e, hx]
 simp
theorem fixed_any (w : World) (n s : Nat) (hn : n < 18446744073709551616) (hs : s ≤ 8) :
    Calls Tryz.prog 193 #[.int .u64 (n : Int), .int .i64 (s : Int)] w fun e w' => ∃ v', e = .returned v' ∧ w'.ownsRow w.heap.size 5 1 v' (fx s n).length (bvals (fx s n)) ∧ Below w.heap.size w w' := by
 obtain ⟨i0, hi, hz0, hz1, hz2⟩ := info_parts Tryz.infoU8
 have HN : Hid (n < 18446744073709551616) := hn
 clear hn
 go_enter Tryz.func193, Tryz.ntmps193
 go_wp2_with (at_make; refine wpList_make_full w rfl _ _ 39 rfl w.heap.size 5 i0 (.int .u8 0) 1 Tryz.underlying39 hi hz0 hz1 .i64 .i64 _ _ s rfl rfl rfl rfl (by rw [hz2]; omega) (by unfold maxLen; omega) (Nat.le_refl _) ?_)
 intro w1 ho1 hg1
 have hb1 : Below w.heap.size w w1 := (Below.refl _ _).grown hg1 (Nat.le_refl _) (fun k hk => by simp at hk)
 clear hg1
 go_wp2
 go_loopw [11] (fun i wr => ∃ k : Nat, k ≤ s ∧ i = .int .i64 k ∧ wr.ownsRow w.heap.size 5 1 (.slice (some ⟨w.heap.size, 0, none⟩) s s) s (bvals (fx k n) ++ List.replicate (s - k) (.int .u8 0)) ∧ Below w.heap.size w wr) (fun i _ => s - (intOf i).toNat)
 case atStart =>
  refine ⟨0, Nat.zero_le _, rfl, ?_, hb1⟩
  simpa [bvals, fx, toList_madeCells_one, Value.cells] using ho1
 case round =>
  clear ho1 hb1
  obtain ⟨k, hk, rfl, ho, hb⟩ := hrel
  by_cases hlt : k < s
  ·have hc1 : (wr.cell? ⟨w.heap.size, k, none⟩).isSome = true := by
     rw [ho.cellAt k (by omega)]; simp [bvals, fx_len]; omega
   obtain ⟨v0, hc⟩ := Option.isSome_iff_exists.1 hc1
   have hf := ho.frozenAt k
   clear hc1
   go_wp2
   go_roundw
   case rel =>
    refine ⟨k + 1, by omega, by go_num, ?_, hb.setCell (Nat.le_refl _) _⟩
    have hst := (ho.stored k (bval (UInt8.ofNat (n / 256 ^ k % 256)))).1
    rw [set_fx s k n hlt] at hst
    rw [shr_byte n k _ rfl]
    exact hst
   case measure => simp [intOf]; omega
  ·obtain rfl : k = s := by omega
   go_wp2
   go_ret
   refine ⟨_, rfl, ?_, hb⟩
   rw [fx_len]
   simpa using ho
theorem fixed64_any (w : World) (n : Int) (h0 : 0 ≤ n) (hn : n < 18446744073709551616) :
    Calls Tryz.prog 161 #[.int .u64 n] w fun e w' => ∃ v', e = .returned v' ∧ w'.ownsRow w.heap.size 5 1 v' (fx 8 n.toNat).length (bvals (fx 8 n.toNat)) ∧ Below w.heap.size w w' := by
 obtain ⟨n, rfl⟩ := Int.eq_ofNat_of_zero_le h0
 rw [Int.toNat_natCast]
 have HN : Hid (n < 18446744073709551616) := by show _ < _; omega
 clear h0 hn
 go_enter Tryz.func161, Tryz.ntmps161
 go_wp2_with fail
 refine (fixed_any w n 8 HN.out (by omega)).mono ?_
 rintro e w' ⟨v', rfl, ho, hb⟩
 go_wp2
 go_ret
 exact ⟨_, rfl, ho, hb⟩
theorem fixed32_any (w : World) (n : Int) (h0 : 0 ≤ n) (hn : n < 4294967296) :
    Calls Tryz.prog 162 #[.int .u32 n] w fun e w' => ∃ v', e = .returned v' ∧ w'.ownsRow w.heap.size 5 1 v' (fx 4 n.toNat).length (bvals (fx 4 n.toNat)) ∧ Below w.heap.size w w' := by
 obtain ⟨n, rfl⟩ := Int.eq_ofNat_of_zero_le h0
 rw [Int.toNat_natCast]
 go_enter Tryz.func162, Tryz.ntmps162
 go_wp2_with fail
 refine (fixed_any w n 4 (by omega) (by omega)).mono ?_
 rintro e w' ⟨v', rfl, ho, hb⟩
 go_wp2
 go_ret
 exact ⟨_, rfl, ho, hb⟩
end Go.Proofs.YtpflaglfnkmjiaaGreat
namespace Go.Proofs.YtpflaglfnkmjiaaGreat.Crc
abbrev R := BitVec 32
def poly : R := 0x82f63b78#32
def s1 (c : R) : R := if c.getLsbD 0 then (c >>> 1) ^^^ poly else c >>> 1
def st : Nat → R → R
 | 0, c => c
 | n + 1, c => st n (s1 c)
theorem s1_xor (a b : R) : s1 (a ^^^ b) = s1 a ^^^ s1 b := by
 unfold s1
 rw [BitVec.getLsbD_xor, BitVec.ushiftRight_xor_distrib]
 cases a.getLsbD 0 <;> cases b.getLsbD 0 <;> simp
 ·rw [BitVec.xor_assoc]
 ·rw [BitVec.xor_assoc, BitVec.xor_assoc, BitVec.xor_comm poly]
 ·rw [BitVec.xor_assoc, ← BitVec.xor_assoc poly, BitVec.xor_comm poly, BitVec.xor_assoc, BitVec.xor_self, BitVec.xor_zero]
theorem s1_zero : s1 0#32 = 0#32 := by decide
theorem st_xor (n : Nat) : ∀ a b : R, st n (a ^^^ b) = st n a ^^^ st n b := by
 induction n with
 | zero => intro a b; rfl
 | succ n ih => intro a b; show st n (s1 (a ^^^ b)) = _; rw [s1_xor, ih]; rfl
theorem st_zero (n : Nat) : st n 0#32 = 0#32 := by
 induction n with
 | zero => rfl
 | succ n ih => show st n (s1 0#32) = _; rw [s1_zero, ih]
theorem st_add (m n : Nat) : ∀ c, st (m + n) c = st m (st n c) := by
 induction n with
 | zero => intro c; rfl
 | succ n ih => intro c; show st (m + n) (s1 c) = _; rw [ih]; rfl
theorem st_succ' (n : Nat) (c : R) : st (n + 1) c = s1 (st n c) := by rw [Nat.add_comm, st_add]; rfl
def byte (x : UInt8) : R := BitVec.ofNat 32 x.toNat
def feed : R → List UInt8 → R
 | c, [] => c
 | c, x :: l => feed (st 8 (c ^^^ byte x)) l
theorem feed_append (c : R) (l m : List UInt8) : feed c (l ++ m) = feed (feed c l) m := by
 induction l generalizing c with
 | nil => rfl
 | cons x l ih => exact ih _
def ones : R := 0xffffffff#32
def more (sum : R) (l : List UInt8) : R := feed (sum ^^^ ones) l ^^^ ones
theorem more_nil (sum : R) : more sum [] = sum := by
 show (sum ^^^ ones) ^^^ ones = sum
 rw [BitVec.xor_assoc, BitVec.xor_self, BitVec.xor_zero]
theorem st_shift (n : Nat) : ∀ c : R, (∀ i, i < n → c.getLsbD i = false) → st n c = c >>> n := by
 induction n with
 | zero => intro c _; simp [st]
 | succ n ih =>
  intro c h
  have h0 := h 0 (by omega)
  have e : s1 c = c >>> 1 := by unfold s1; rw [h0]; rfl
  show st n (s1 c) = _
  rw [e, ih _ (fun i hi => by rw [BitVec.getLsbD_ushiftRight, Nat.add_comm]; exact h (i + 1) (by omega)), ← BitVec.shiftRight_add, Nat.add_comm]
theorem st8_split (c : R) (x : UInt8) : st 8 (c ^^^ byte x) = (c >>> 8) ^^^ st 8 (BitVec.ofNat 32 ((c.toNat % 256) ^^^ x.toNat)) := by
 have e : c ^^^ byte x = (c >>> 8 <<< 8) ^^^ BitVec.ofNat 32 ((c.toNat % 256) ^^^ x.toNat) := by
  have hlow : BitVec.ofNat 32 ((c.toNat % 256) ^^^ x.toNat) = BitVec.ofNat 32 (c.toNat % 256) ^^^ byte x := by
   apply BitVec.eq_of_toNat_eq
   have h1 : c.toNat % 256 < 2 ^ 32 := by omega
   have h2 : x.toNat < 2 ^ 32 := by have := x.toNat_lt; omega
   rw [BitVec.toNat_xor, BitVec.toNat_ofNat, BitVec.toNat_ofNat, byte, BitVec.toNat_ofNat, Nat.mod_eq_of_lt h1, Nat.mod_eq_of_lt h2, Nat.mod_eq_of_lt (Nat.xor_lt_two_pow h1 h2)]
  rw [hlow, ← BitVec.xor_assoc]
  congr 1
  apply BitVec.eq_of_getLsbD_eq
  intro i hi
  rw [BitVec.getLsbD_xor, BitVec.getLsbD_shiftLeft, BitVec.getLsbD_ushiftRight, BitVec.getLsbD_ofNat, show 256 = 2 ^ 8 from rfl, Nat.testBit_mod_two_pow]
  by_cases h8 : i < 8
  ·simp [h8, hi, BitVec.getLsbD]
  ·simp [h8, hi, show 8 + (i - 8) = i by omega]
 rw [e, st_xor]
 congr 1
 rw [st_shift 8]
 ·apply BitVec.eq_of_getLsbD_eq
  intro i hi
  rw [BitVec.getLsbD_ushiftRight, BitVec.getLsbD_shiftLeft, BitVec.getLsbD_ushiftRight]
  by_cases h : 8 + i < 32
  ·simp [h, show ¬ 8 + i < 8 by omega, show 8 + i - 8 = i by omega]
  ·have hz : c.getLsbD (8 + i) = false := BitVec.getLsbD_of_ge c (8 + i) (by omega)
   simp [h, hz]
 ·intro i hi
  rw [BitVec.getLsbD_shiftLeft]; simp [hi]
end Go.Proofs.YtpflaglfnkmjiaaGreat.Crc
namespace Go.Proofs.YtpflaglfnkmjiaaGreat.Ix
structure X where
 st : Nat
 l : List (Int × Int)
 la : Int × Int
def lastE (l : List (Int × Int)) : Int × Int := l.getLast?.getD (0, 0)
def addF (x : X) (n o : Int) : Int × X :=
 if n < 1 ∨ o < 0 ∨ 2147483647 < o then (1, x)
 else if x.l ≠ [] ∧ ¬ (n - 1 = x.la.1 ∧ x.la.2 < o) then (63, x)
 else (0, ⟨x.st, if x.l = [] ∨ (x.st : Int) ≤ o - (lastE x.l).2 then x.l ++ [(n, o)] else x.l, (n, o)⟩)
def cnt (l : List (Int × Int)) (n : Int) : Nat := l.countP fun e => decide (e.1 < n)
def findF (l : List (Int × Int)) (n : Int) : (Int × Int) × Bool :=
 match (l.filter fun e => decide (e.1 ≤ n)).getLast? with
 | some e => (e, true)
 | none => ((0, 0), false)
structure Srt (st : Nat) (l : List (Int × Int)) : Prop where
 s0 : 1 ≤ st
 s1 : st ≤ 1048576
 up : l.Pairwise fun a b => a.1 < b.1 ∧ a.2 + (st : Int) ≤ b.2
 rng : ∀ e ∈ l, 1 ≤ e.1 ∧ e.1 ≤ 9223372036854775807 ∧ 0 ≤ e.2 ∧ e.2 ≤ 2147483647
structure Ok (x : X) : Prop where
 srt : Srt x.st x.l
 la0 : x.l = [] → x.la = (0, 0)
 la1 : x.l ≠ [] → (lastE x.l).1 ≤ x.la.1 ∧ (lastE x.l).2 ≤ x.la.2 ∧ x.la.1 ≤ 9223372036854775807 ∧ x.la.2 ≤ 2147483647
theorem lastE_snoc (l : List (Int × Int)) (e : Int × Int) : lastE (l ++ [e]) = e := by simp [lastE]
theorem lastE_get {l : List (Int × Int)} (h : l ≠ []) : lastE l = l[l.length - 1]'(by have := List.length_pos_iff.2 h; omega) := by
 unfold lastE
 rw [List.getLast?_eq_getElem?, List.getElem?_eq_getElem (by have := List.length_pos_iff.2 h; omega)]
 rfl
theorem Srt.lt {st : Nat} {l : List (Int × Int)} (h : Srt st l) {i j : Nat} (hi : i < l.length) (hj : j < l.length) (hij : i < j) : l[i].1 < l[j].1 ∧ l[i].2 + (st : Int) ≤ l[j].2 :=
 List.pairwise_iff_getElem.1 h.up i j hi hj hij
theorem Srt.le {st : Nat} {l : List (Int × Int)} (h : Srt st l) {i j : Nat} (hi : i < l.length) (hj : j < l.length) (hij : i ≤ j) : l[i].1 ≤ l[j].1 := by
 by_cases e : i = j
 ·subst e; exact Int.le_refl _
 ·have := (h.lt hi hj (by omega)).1; omega
theorem Srt.off {st : Nat} {l : List (Int × Int)} (h : Srt st l) : ∀ i (hi : i < l.length), (i : Int) ≤ l[i].2 := by
 intro i
 induction i with
 | zero => intro hi; have := (h.rng _ (List.getElem_mem hi)).2.2.1; simpa using this
 | succ i ih =>
  intro hi
  have a := ih (by omega)
  have b := (h.lt (by omega : i < l.length) hi (by omega)).2
  have := h.s0
  omega
theorem Srt.len {st : Nat} {l : List (Int × Int)} (h : Srt st l) : l.length ≤ 2147483648 := by
 by_cases e : l.length = 0
 ·omega
 ·have a := h.off (l.length - 1) (by omega)
  have b := (h.rng _ (List.getElem_mem (show l.length - 1 < l.length by omega))).2.2.2
  omega
theorem Srt.snoc {st : Nat} {l : List (Int × Int)} (h : Srt st l) {e : Int × Int} (h1 : 1 ≤ e.1 ∧ e.1 ≤ 9223372036854775807 ∧ 0 ≤ e.2 ∧ e.2 ≤ 2147483647) (h2 : l ≠ [] → (lastE l).1 < e.1 ∧ (lastE l).2 + (st : Int) ≤ e.2) : Srt st (l ++ [e]) := by
 refine ⟨h.s0, h.s1, ?_, ?_⟩
 ·rw [List.pairwise_append]
  refine ⟨h.up, List.pairwise_singleton _ _, ?_⟩
  intro a ha b hb
  rw [List.mem_singleton.1 hb]
  obtain ⟨i, hi, rfl⟩ := List.getElem_of_mem ha
  have hne : l ≠ [] := fun c => by subst c; simp at hi
  obtain ⟨g1, g2⟩ := h2 hne
  rw [lastE_get hne] at g1 g2
  by_cases c : i = l.length - 1
  ·subst c; exact ⟨g1, g2⟩
  ·have := h.lt hi (show l.length - 1 < l.length by omega) (by omega)
   have := h.s0
   exact ⟨by omega, by omega⟩
 ·intro a ha
  rcases List.mem_append.1 ha with ha | ha
  ·exact h.rng a ha
  ·rw [List.mem_singleton.1 ha]; exact h1
theorem Ok.new {st : Nat} (h0 : 1 ≤ st) (h1 : st ≤ 1048576) : Ok ⟨st, [], (0, 0)⟩ :=
 ⟨⟨h0, h1, List.Pairwise.nil, fun e he => by simp at he⟩, fun _ => rfl, fun h => absurd rfl h⟩
theorem Ok.add {x : X} (h : Ok x) (n o : Int) (hn : n ≤ 9223372036854775807) : Ok (addF x n o).2 := by
 unfold addF
 split
 ·exact h
 rename_i h1
 split
 ·exact h
 rename_i h2
 refine ⟨?_, ?_, ?_⟩
 ·show Srt x.st (if x.l = [] ∨ (x.st : Int) ≤ o - (lastE x.l).2 then x.l ++ [(n, o)] else x.l)
  split
  ·rename_i h3
   refine h.srt.snoc ⟨by show 1 ≤ n; omega, hn, by show 0 ≤ o; omega, by show o ≤ 2147483647; omega⟩ fun hne => ?_
   have h4 : n - 1 = x.la.1 ∧ x.la.2 < o := Classical.byContradiction fun c => h2 ⟨hne, c⟩
   obtain ⟨a, b, _⟩ := h.la1 hne
   rcases h3 with h3 | h3
   ·exact absurd h3 hne
   ·exact ⟨by show _ < n; omega, by show _ ≤ o; omega⟩
  ·exact h.srt
 ·show (if x.l = [] ∨ (x.st : Int) ≤ o - (lastE x.l).2 then x.l ++ [(n, o)] else x.l) = [] → _
  split
  ·intro c; simp at c
  ·rename_i h3; intro c; exact absurd (Or.inl c) h3
 ·intro _
  show (lastE (if x.l = [] ∨ (x.st : Int) ≤ o - (lastE x.l).2 then x.l ++ [(n, o)] else x.l)).1 ≤ n ∧ (lastE (if x.l = [] ∨ (x.st : Int) ≤ o - (lastE x.l).2 then x.l ++ [(n, o)] else x.l)).2 ≤ o ∧ n ≤ 9223372036854775807 ∧ o ≤ 2147483647
  split
  ·rw [lastE_snoc]; exact ⟨Int.le_refl _, Int.le_refl _, hn, by omega⟩
  ·rename_i h3
   have hne : x.l ≠ [] := fun c => h3 (Or.inl c)
   have h4 : n - 1 = x.la.1 ∧ x.la.2 < o := Classical.byContradiction fun c => h2 ⟨hne, c⟩
   obtain ⟨a, b, _⟩ := h.la1 hne
   exact ⟨by omega, by omega, hn, by omega⟩
theorem cnt_le (l : List (Int × Int)) (n : Int) : cnt l n ≤ l.length := List.countP_le_length
theorem cnt_eq {l : List (Int × Int)} {n : Int} {k : Nat} (hk : k ≤ l.length) (h1 : ∀ i (hi : i < l.length), i < k → l[i].1 < n) (h2 : ∀ i (hi : i < l.length), k ≤ i → n ≤ l[i].1) : cnt l n = k := by
 induction l generalizing k with
 | nil => simp at hk; subst hk; rfl
 | cons a r ih =>
  unfold cnt at ih ⊢
  match k with
  | 0 =>
   rw [List.countP_cons_of_neg (by have := h2 0 (by simp) (by omega); simp at this ⊢; omega), ih (k := 0) (by omega) (fun i hi h => by omega) (fun i hi h => by have := h2 (i + 1) (by simp; omega) (by omega); simpa using this)]
  | k + 1 =>
   rw [List.countP_cons_of_pos (by have := h1 0 (by simp) (by omega); simpa using this), ih (k := k) (by simpa using hk) (fun i hi h => by have := h1 (i + 1) (by simp; omega) (by omega); simpa using this) (fun i hi h => by have := h2 (i + 1) (by simp; omega) (by omega); simpa using this)]
theorem cnt_split {st : Nat} {l : List (Int × Int)} (h : Srt st l) (n : Int) : (∀ i (hi : i < l.length), i < cnt l n → l[i].1 < n) ∧ (∀ i (hi : i < l.length), cnt l n ≤ i → n ≤ l[i].1) := by
 have ex : ∃ k, k ≤ l.length ∧ (∀ i (hi : i < l.length), i < k → l[i].1 < n) ∧ (∀ i (hi : i < l.length), k ≤ i → n ≤ l[i].1) := by
  have : ∀ m, m ≤ l.length → ∃ k, k ≤ m ∧ (∀ i (hi : i < l.length), i < k → l[i].1 < n) ∧ (∀ i (hi : i < l.length), i < m → k ≤ i → n ≤ l[i].1) := by
   intro m
   induction m with
   | zero => exact fun _ => ⟨0, Nat.le_refl _, fun i hi h => by omega, fun i hi h => by omega⟩
   | succ m ih =>
    intro hm
    obtain ⟨k, a, b, c⟩ := ih (by omega)
    by_cases e : l[m].1 < n
    ·refine ⟨m + 1, Nat.le_refl _, fun i hi _ => ?_, fun i hi h1 h2 => by omega⟩
     have := h.le hi (show m < l.length by omega) (by omega)
     omega
    ·refine ⟨k, by omega, b, fun i hi h1 h2 => ?_⟩
     by_cases g : i = m
     ·subst g; omega
     ·exact c i hi (by omega) h2
  obtain ⟨k, a, b, c⟩ := this l.length (Nat.le_refl _)
  exact ⟨k, a, b, fun i hi h => c i hi hi h⟩
 obtain ⟨k, a, b, c⟩ := ex
 rw [cnt_eq a b c]
 exact ⟨b, c⟩
theorem find_at {l : List (Int × Int)} {n : Int} {i : Nat} (hi : i < l.length) (h1 : l[i].1 ≤ n) (h2 : ∀ j (hj : j < l.length), i < j → n < l[j].1) : findF l n = (l[i], true) := by
 have e : l = l.take i ++ (l[i] :: l.drop (i + 1)) := by rw [← List.drop_eq_getElem_cons hi, List.take_append_drop]
 have f0 : (l.drop (i + 1)).filter (fun e => decide (e.1 ≤ n)) = [] := by
  rw [List.filter_eq_nil_iff]
  intro a ha
  obtain ⟨j, hj, rfl⟩ := List.getElem_of_mem ha
  rw [List.getElem_drop]
  have := h2 (i + 1 + j) (by simp at hj; omega) (by omega)
  simp; omega
 have : l.filter (fun e => decide (e.1 ≤ n)) = (l.take i).filter (fun e => decide (e.1 ≤ n)) ++ [l[i]] := by
  conv => lhs; rw [e]
  rw [List.filter_append, List.filter_cons_of_pos (by simpa using h1), f0]
 unfold findF
 rw [this]
 simp
theorem find_no {l : List (Int × Int)} {n : Int} (h : ∀ j (hj : j < l.length), n < l[j].1) : findF l n = ((0, 0), false) := by
 have : l.filter (fun e => decide (e.1 ≤ n)) = [] := by
  rw [List.filter_eq_nil_iff]
  intro a ha
  obtain ⟨j, hj, rfl⟩ := List.getElem_of_mem ha
  have := h j hj
  simp; omega
 unfold findF
 rw [this]
 rfl
end Go.Proofs.YtpflaglfnkmjiaaGreat.Ix
namespace Go.Proofs.YtpflaglfnkmjiaaGreat
open Go.RowKit
set_option maxRecDepth 100000
theorem hide {p : Prop} (h : p) : Hid p := h
theorem owns_zero {w : World} {base e cap g : Nat} {cur : Array Value} (hg : base ≤ g) (h : w.heap[g]? = some (.cells cur e (0, 0))) (hs : cur.size = cap) (hm : cap ≤ maxLen) : w.ownsRow base e 1 (.slice (some ⟨g, 0, none⟩) 0 cap) 0 (bvals []) :=
 ⟨rfl, Or.inr ⟨g, cap, cur, rfl, hg, h, Nat.zero_le _, hm, by omega, by simp [bvals]⟩⟩
theorem grow_any (w : World) (n : Nat) (hn : n ≤ 140737488355328) :
    Calls Tryz.prog 164 #[.slice none 0 0, .int .i64 (n : Int)] w fun e w' => ∃ v', e = .returned v' ∧ w'.ownsRow w.heap.size 5 1 v' 0 (bvals []) ∧ Below w.heap.size w w' := by
 obtain ⟨i0, hi, hz0, hz1, hz2⟩ := info_parts Tryz.infoU8
 have HN : Hid (n ≤ 140737488355328) := hn
 by_cases h0 : n = 0
 ·subst h0
  clear hn
  go_enter Tryz.func164, Tryz.ntmps164
  go_wp2_with fail
  go_ret
  exact ⟨_, rfl, World.ownsRow_nil _ _ _ _, Below.refl _ _⟩
 ·have g0 : (0 : Int) < (n : Int) := by omega
  have hr := Lib.run_append_nil_zeros (P := Tryz.prog) w 39 3 39 5 i0 (.int .u8 0) .i64 .i64 Tryz.underlying39 Tryz.underlying3 hi hz0 n (by omega) (by omega) (by omega) (by rw [hz2]; omega)
  have hge := grownCap_ge w n 0 5
  have hle := grownCap_le_maxLen w n 0 5 (by unfold maxLen; omega)
  have hcs : Hid ((Builtin.zeroCells (Value.int .u8 0).cells n ++ Builtin.zeroCells (Value.int .u8 0).cells (grownCap w n 0 5 - n)).size = grownCap w n 0 5) := by
   show _ = _
   simp only [Array.size_append, size_zeroCells]
   simp [Value.cells]
   omega
  generalize grownCap w n 0 5 = cp at *
  generalize Builtin.zeroCells (Value.int .u8 0).cells n ++ Builtin.zeroCells (Value.int .u8 0).cells (cp - n) = cs at *
  have HO : Hid ((w.drew.alloc (.cells cs 5)).ownsRow w.heap.size 5 1 (.slice (some ⟨w.heap.size, 0, none⟩) 0 cp) 0 (bvals [])) := owns_zero (Nat.le_refl _) (heap_alloc_new w.drew _) hcs.out hle
  have HB : Hid (Below w.heap.size w (w.drew.alloc (.cells cs 5))) := (Below.refl _ w).drew.alloc (by simp) _
  have hcp : cp ≤ 9223372036854775807 := by unfold maxLen at hle; omega
  have HR := hide hr
  clear hle hr hcs hn h0
  go_enter Tryz.func164, Tryz.ntmps164
  go_wp2_with (at_builtin; refine Lib.wpList_append_run _ rfl (.tmp 20) (.tmp 21) 39 3 rfl _ _ rfl rfl _ _ HR.out ?_)
  go_ret
  exact ⟨_, rfl, HO.out, HB.out⟩
theorem flat_snoc (ls : List (List UInt8)) (k : Nat) (h : k < ls.length) : (ls.take (k + 1)).flatten = (ls.take k).flatten ++ ls[k] := by
 rw [List.take_succ_eq_append_getElem h, List.flatten_append, List.flatten_singleton]
theorem flat_le (ls : List (List UInt8)) (k : Nat) : (ls.take k).flatten.length ≤ ls.flatten.length := by
 have h : ls.flatten = (ls.take k).flatten ++ (ls.drop k).flatten := by rw [← List.flatten_append, List.take_append_drop]
 rw [h, List.length_append]; omega
theorem concat_any (w : World) (v : Value) (vs : List Value) (ls : List (List UInt8)) (hv : Row w v vs) (hs : Sls w vs ls) (hlen : ls.flatten.length ≤ 140737488355328) :
    Calls Tryz.prog 113 #[v] w fun e w' => ∃ v', e = .returned v' ∧ w'.ownsRow w.heap.size 5 1 v' ls.flatten.length (bvals ls.flatten) ∧ Below w.heap.size w w' := by
 obtain ⟨ao, ca, rfl, h2, h3, h4, h5⟩ := hv
 have hm : ca ≤ 9223372036854775807 := by unfold maxLen at h4; omega
 have HS := hide hs
 have HL := hide hlen
 obtain ⟨n, hn⟩ : ∃ n, Hid (vs.length = n) := ⟨_, rfl⟩
 have hnl : Hid (ls.length = n) := hs.1.symm.trans hn.out
 have hnm : n ≤ 9223372036854775807 := by rw [← hn.out]; omega
 rw [hn.out]
 clear h2 h4 hs hlen h3
 have H5 := hide h5
 clear h5
 go_enter Tryz.func113, Tryz.ntmps113
 go_wp2_with fail
 go_loopw [3, 11] (fun vz vi wr => ∃ k z : Nat, k ≤ n ∧ vz = .int .i64 (z : Int) ∧ vi = .int .i64 (k : Int) ∧ Hid (z = (ls.take k).flatten.length) ∧ w = wr) (fun _ i _ => n - (intOf i).toNat)
 case atStart => exact ⟨0, 0, Nat.zero_le _, rfl, rfl, rfl, rfl⟩
 case round =>
  obtain ⟨k, z, hk, rfl, rfl, hz, rfl⟩ := hrel
  by_cases hlt : k < n
  ·have hkv : k < vs.length := by rw [hn.out]; exact hlt
   have hkl : k < ls.length := by rw [hnl.out]; exact hlt
   obtain ⟨b1, o1, rfl, hb⟩ := H5.out k hkv
   have HX := hide (HS.out.2 k hkv hkl)
   obtain ⟨ao2, ca2, e2, _, _, _, _⟩ := HX.out
   rw [e2] at hb
   obtain ⟨m, hml⟩ : ∃ m, Hid (ls[k].length = m) := ⟨ls[k].length, hide rfl⟩
   rw [hml.out] at hb
   have hz2 : Hid (z + m = (ls.take (k + 1)).flatten.length) := by show _ = _; rw [flat_snoc ls k hkl, List.length_append, hz.out, hml.out]
   have hzb : z + m ≤ 140737488355328 := by rw [hz2.out]; exact Nat.le_trans (flat_le ls (k + 1)) HL.out
   have hneg : ¬ ((z : Int) + (m : Int) < 0) := by omega
   clear e2 hml hz
   go_wp2_with fail
   go_roundw
   case rel => exact ⟨k + 1, z + m, by omega, by go_num, by go_num, hz2.out, by trivial⟩
   case measure => simp [intOf]; omega
  ·obtain rfl : k = n := by omega
   have hzb : z ≤ 140737488355328 := by rw [hz.out]; exact Nat.le_trans (flat_le ls k) HL.out
   clear hz
   go_wp2_with fail
   refine (grow_any _ z hzb).mono ?_
   rintro e w1 ⟨v1, rfl, ho1, hb1⟩
   clear hzb
   go_wp2_with fail
   go_loopw [6, 27] (fun vz vi wr => ∃ j : Nat, j ≤ k ∧ vi = .int .i64 (j : Int) ∧ Hid (wr.ownsRow w.heap.size 5 1 vz ((ls.take j).flatten).length (bvals (ls.take j).flatten)) ∧ Hid (Below w.heap.size w wr)) (fun _ i _ => k - (intOf i).toNat)
   case atStart => exact ⟨0, Nat.zero_le _, rfl, ho1, hb1⟩
   case round =>
    obtain ⟨j, hj, rfl, ho, hb⟩ := hrel
    by_cases hlt : j < k
    ·have hkv : j < vs.length := by rw [hn.out]; exact hlt
     have hkl : j < ls.length := by rw [hnl.out]; exact hlt
     obtain ⟨b1, o1, rfl, hc⟩ := H5.out j hkv
     have hc2 : wr.cell? ⟨b1, o1 + j, none⟩ = some vs[j] := (hb.out.cell (lt_of_cell hc)).trans hc
     have HX := hide (Below.sl hb.out (HS.out.2 j hkv hkl))
     have hle : (ls.take j).flatten.length + ls[j].length ≤ 140737488355328 := by
      have := flat_le ls (j + 1)
      rw [flat_snoc ls j hkl, List.length_append] at this
      have := HL.out
      omega
     have hsz := hb.out.size
     have HLe := hide hle
     have HSz := hide hsz
     have HF := hide (flat_snoc ls j hkl)
     obtain ⟨u, hu⟩ : ∃ u, u = vs[j] := ⟨_, rfl⟩
     rw [← hu] at hc2 HX
     obtain ⟨L, hL⟩ : ∃ L, L = (ls.take j).flatten := ⟨_, rfl⟩
     obtain ⟨M, hM⟩ : ∃ M, M = ls[j] := ⟨_, rfl⟩
     rw [← hL] at HLe HF ho
     rw [← hM] at HLe HF HX
     clear hc hle hsz hu hL hM
     go_wp2_with (at_builtin; refine wpList_append_bytes rfl (.tmp 31) (.tmp 32) 39 rfl w.heap.size 5 Tryz.infoU8 Tryz.underlying39 _ _ L M rfl ho.out rfl HX.out HLe.out HSz.out ?_)
     intro v2 w2 ho2 hb2
     rw [← List.length_append, ← HF.out] at ho2
     replace ho2 := hide ho2
     go_wp2_with fail
     go_roundw
     case rel => exact ⟨j + 1, by omega, by go_num, ho2.out, hb.out.trans hb2⟩
     case measure => simp [intOf]; omega
    ·obtain rfl : j = k := by omega
     have HT : Hid ((ls.take j).flatten = ls.flatten) := by show _ = _; rw [List.take_of_length_le (by rw [hnl.out]; omega)]
     rw [HT.out] at ho
     go_wp2_with fail
     go_ret
     exact ⟨_, rfl, ho.out, hb.out⟩
end Go.Proofs.YtpflaglfnkmjiaaGreat
namespace Go.Proofs.YtpflaglfnkmjiaaGreat.Crc
open Go.RowKit
theorem lt32 (c : R) : c.toNat < 4294967296 := c.isLt
theorem b_xor (a b : R) : bits .xor .u32 (a.toNat : Int) (b.toNat : Int) = ((a ^^^ b).toNat : Int) := by
 rw [u32_xor_nat _ _ (lt32 a) (lt32 b), BitVec.toNat_xor]
theorem b_and1 (c : R) : bits .and .u32 (c.toNat : Int) 1 = if c.getLsbD 0 then 1 else 0 := by
 rw [show (1 : Int) = ((1 : Nat) : Int) from rfl, u32_and_nat _ _ (lt32 c) (by decide), Nat.and_one_is_mod]
 have h : c.getLsbD 0 = decide (c.toNat % 2 = 1) := by rw [BitVec.getLsbD, Nat.testBit_zero]
 rw [h]
 by_cases h1 : c.toNat % 2 = 1
 ·rw [h1]; rfl
 ·rw [if_neg (by simpa using h1)]; omega
theorem half (c : R) : (c.toNat : Int) / (2 : Int) = ((c >>> 1).toNat : Int) := by
 rw [BitVec.toNat_ushiftRight, Nat.shiftRight_eq_div_pow]; omega
theorem xor_poly (c : R) : bits .xor .u32 ((c.toNat : Int) / 2) 2197175160 = (((c >>> 1) ^^^ poly).toNat : Int) := by
 rw [half, ← b_xor]; rfl
theorem step_any (w : World) (c : R) :
    Calls Tryz.prog 204 #[.int .u32 (c.toNat : Int)] w fun e w' => e = .returned (.int .u32 ((s1 c).toNat : Int)) ∧ w' = w := by
 have hlt := lt32 c
 have h1 := b_and1 c
 cases hb : c.getLsbD 0 with
 | true =>
  rw [hb, if_pos rfl] at h1
  go_enter Tryz.func204, Tryz.ntmps204
  go_wp2
  go_ret
  refine ⟨?_, rfl⟩
  rw [xor_poly, s1, hb]; rfl
 | false =>
  rw [hb] at h1
  simp only [Bool.false_eq_true, if_false] at h1
  go_enter Tryz.func204, Tryz.ntmps204
  go_wp2
  go_ret
  refine ⟨?_, rfl⟩
  rw [half, s1, hb]; rfl
theorem xor_ones (c : R) : bits .xor .u32 (c.toNat : Int) 4294967295 = ((c ^^^ ones).toNat : Int) := b_xor c ones
def rot (c : R) (k : Nat) : R := (c <<< k) ||| (c >>> (32 - k))
theorem b_or (a b : R) : bits .or .u32 (a.toNat : Int) (b.toNat : Int) = ((a ||| b).toNat : Int) := by
 rw [u32_or_nat _ _ (lt32 a) (lt32 b), BitVec.toNat_or]
theorem shl17 (c : R) : (c.toNat : Int) * (131072 : Int) % (4294967296 : Int) = ((c <<< 17).toNat : Int) := by
 rw [BitVec.toNat_shiftLeft, Nat.shiftLeft_eq]; omega
theorem shl15 (c : R) : (c.toNat : Int) * (32768 : Int) % (4294967296 : Int) = ((c <<< 15).toNat : Int) := by
 rw [BitVec.toNat_shiftLeft, Nat.shiftLeft_eq]; omega
theorem shr15 (c : R) : (c.toNat : Int) / (32768 : Int) = ((c >>> 15).toNat : Int) := by
 rw [BitVec.toNat_ushiftRight, Nat.shiftRight_eq_div_pow]; omega
theorem shr17 (c : R) : (c.toNat : Int) / (131072 : Int) = ((c >>> 17).toNat : Int) := by
 rw [BitVec.toNat_ushiftRight, Nat.shiftRight_eq_div_pow]; omega
theorem or17 (c : R) : bits BinOp.or IntKind.u32 ((c.toNat : Int) * 131072 % 4294967296) ((c.toNat : Int) / (32768 : Int)) = ((rot c 17).toNat : Int) := by
 rw [shl17, shr15, b_or]; rfl
theorem or15 (c : R) : bits BinOp.or IntKind.u32 ((c.toNat : Int) * 32768 % 4294967296) ((c.toNat : Int) / (131072 : Int)) = ((rot c 15).toNat : Int) := by
 rw [shl15, shr17, b_or]; rfl
def hidden : R := 0xa282ead8#32
def maskOf (c : R) : R := rot c 17 + hidden
theorem add_hidden (c : R) : ((c.toNat : Int) + (2726488792 : Int)) % (4294967296 : Int) = ((c + hidden).toNat : Int) := by
 rw [BitVec.toNat_add]; show _ = (((c.toNat + 2726488792) % 4294967296 : Nat) : Int); omega
theorem rotL_any (w : World) (c : R) (k : Int) (m : Nat) (hk : (k = -15 ∧ m = 17) ∨ (k = 15 ∧ m = 15)) :
    Calls Tryz.prog 179 #[.int .u32 (c.toNat : Int), .int .i64 k] w fun e w' => e = .returned (.int .u32 ((rot c m).toNat : Int)) ∧ w' = w := by
 have hlt := lt32 c
 have h17 : bits BinOp.and IntKind.u64 (IntKind.u64.wrap (-15)) 31 = 17 := by decide +kernel
 have h15 : bits BinOp.and IntKind.u64 (IntKind.u64.wrap 15) 31 = 15 := by decide +kernel
 have h15' : bits BinOp.and IntKind.u64 15 31 = 15 := by decide +kernel
 rcases hk with ⟨rfl, rfl⟩ | ⟨rfl, rfl⟩
 ·go_enter Tryz.func179, Tryz.ntmps179
  go_wp2
  go_ret
  exact ⟨by rw [← or17]; rfl, rfl⟩
 ·go_enter Tryz.func179, Tryz.ntmps179
  go_wp2
  go_ret
  exact ⟨by rw [← or15]; rfl, rfl⟩
theorem mask_any (w : World) (c : R) :
    Calls Tryz.prog 134 #[.int .u32 (c.toNat : Int)] w fun e w' => e = .returned (.int .u32 ((maskOf c).toNat : Int)) ∧ w' = w := by
 go_enter Tryz.func134, Tryz.ntmps134
 go_wp2_with fail
 refine (rotL_any _ _ (-15) 17 (.inl ⟨rfl, rfl⟩)).mono ?_
 rintro e w1 ⟨rfl, rfl⟩
 go_wp2
 go_ret
 exact ⟨by rw [maskOf, ← add_hidden]; rfl, rfl⟩
end Go.Proofs.YtpflaglfnkmjiaaGreat.Crc
