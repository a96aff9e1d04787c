/-
  Plain facts for the walks over package wire: lists of bytes, where a slice's bytes lie in memory. No program is named here.
-/
import Derived.WalkKit
import Derived.WalkSpells
import Derived.WalkLawsBesides
import Derived.Deep.QuietTactic
import Derived.BigQuiet
import Derived.Laws.AppendOwnNone
import Derived.Test.YtjehpijjneghpaaGreatProg
import Derived.Lib.SlBytesConst
import Derived.Test.YtjehpijjneghpaaGreatRows
import Derived.ProofKit
import Derived.OpenShut
import Derived.SizedLaws
import Derived.Deep.RegionLaw
import Derived.Deep.AppendLies
import Derived.Deep.MidRow
import Derived.RangeFuncNested
import Derived.RangeFuncLeaves
import Derived.Below
namespace Go.Proofs.YtjehpijjneghpaaGreat
open Go.RowKit
def Rd (w : World) (ao : Option Addr) (l : List UInt8) : Prop :=
  ∀ i (h : i < l.length), ∃ b off, ao = some ⟨b, off, none⟩ ∧ w.cell? ⟨b, off + i, none⟩ = some (.int .u8 (l[i].toNat : Int))
theorem Rd.at {w : World} {ao : Option Addr} {l : List UInt8} (h : Rd w ao l) (hl : 0 < l.length) :
    ∃ b off, ao = some ⟨b, off, none⟩ ∧ ∀ i (h : i < l.length), w.cell? ⟨b, off + i, none⟩ = some (.int .u8 (l[i].toNat : Int)) := by
  obtain ⟨b, off, e, _⟩ := h 0 hl
  refine ⟨b, off, e, fun i hi => ?_⟩
  obtain ⟨b', off', e', hc⟩ := h i hi
  rw [e] at e'
  simp only [Option.some.injEq, Addr.mk.injEq] at e'
  obtain ⟨rfl, rfl, _⟩ := e'
  exact hc
def Qt (w w' : World) : Prop := ∃ k, w' = w.drewN k
theorem Qt.refl (w : World) : Qt w w := ⟨0, rfl⟩
theorem Qt.drewN {w u : World} (h : Qt w u) (n : Nat) : Qt w (u.drewN n) := by
  obtain ⟨k, rfl⟩ := h; exact ⟨k + n, by simp⟩
theorem Qt.trans {w u v : World} (h : Qt w u) (g : Qt u v) : Qt w v := by
  obtain ⟨n, rfl⟩ := g; exact h.drewN n
theorem Qt.cell {w u : World} (h : Qt w u) (a : Addr) : u.cell? a = w.cell? a := by obtain ⟨k, rfl⟩ := h; rfl
theorem Qt.below {w u : World} (h : Qt w u) (B : Nat) : Below B w u := by
  obtain ⟨k, rfl⟩ := h; exact below_drewN (Below.refl _ _) k
theorem Qt.size {w u : World} (h : Qt w u) : u.heap.size = w.heap.size := by obtain ⟨k, rfl⟩ := h; rfl
theorem ret_bool {a b : Bool} (h : a = b) : Ending.returned (.bool a) = .returned (.bool b) := by rw [h]
theorem ret_int {k : IntKind} {a b : Int} (h : a = b) : Ending.returned (.int k a) = .returned (.int k b) := by rw [h]
theorem take_eq_all {l m : List UInt8} (hlen : l.length = m.length) (k : Nat) (hk : l.length ≤ k) (h : l.take k = m.take k) : l = m := by
  rwa [List.take_of_length_le hk, List.take_of_length_le (by omega)] at h
theorem take_snoc (l : List UInt8) (k : Nat) (h : k < l.length) : l.take (k + 1) = l.take k ++ [l[k]] := by
  rw [List.take_succ_eq_append_getElem h]
theorem ne_at {l m : List UInt8} (k : Nat) (h1 : k < l.length) (h2 : k < m.length) (h : l[k] ≠ m[k]) : l ≠ m := by
  rintro rfl; exact h rfl
theorem u8_ne {a b : UInt8} (h : ((a.toNat : Int) != (b.toNat : Int)) = true) : a ≠ b := by
  rintro rfl; simp at h
theorem u8_eq {a b : UInt8} (h : ((a.toNat : Int) != (b.toNat : Int)) = false) : a = b := by
  simp at h; exact UInt8.toNat_inj.1 (by omega)
end Go.Proofs.YtjehpijjneghpaaGreat
namespace Go.Proofs.YtjehpijjneghpaaGreat
def encF : Nat → Nat → List UInt8
  | 0, _ => []
  | f + 1, n => if n < 128 then [UInt8.ofNat n] else UInt8.ofNat (n % 128 + 128) :: encF f (n / 128)
def enc (n : Nat) : List UInt8 := encF 10 n
def bval (c : UInt8) : Value := .int .u8 (c.toNat : Int)
def bvals (l : List UInt8) : List Value := l.map bval
theorem bvals_append (l m : List UInt8) : bvals (l ++ m) = bvals l ++ bvals m := by simp [bvals]
theorem bvals_length (l : List UInt8) : (bvals l).length = l.length := by simp [bvals]
end Go.Proofs.YtjehpijjneghpaaGreat
namespace Go.Proofs.YtjehpijjneghpaaGreat
open Go.RowKit
def Sl (w : World) (v : Value) (l : List UInt8) : Prop :=
  ∃ ao cap, v = .slice ao l.length cap ∧ (ao = none → l = [] ∧ cap = 0) ∧ l.length ≤ cap ∧ cap ≤ maxLen ∧ Rd w ao l
theorem lt_of_cell {w : World} {a : Addr} {v : Value} (h : w.cell? a = some v) : a.block < w.heap.size := by
  unfold World.cell? at h
  by_cases hb : a.block < w.heap.size
  · exact hb
  · rw [Array.getElem?_eq_none (by omega)] at h; simp at h
theorem Below.rd {w w' : World} (h : Below w.heap.size w w') {ao : Option Addr} {l : List UInt8} (g : Rd w ao l) : Rd w' ao l := by
  intro i hi
  obtain ⟨b, off, e, hc⟩ := g i hi
  exact ⟨b, off, e, by rw [h.cell (p := ⟨b, off + i, none⟩) (lt_of_cell hc)]; exact hc⟩
theorem Below.sl {w w' : World} (h : Below w.heap.size w w') {v : Value} {l : List UInt8} (g : Sl w v l) : Sl w' v l := by
  obtain ⟨ao, cap, h1, h2, h3, h4, h5⟩ := g
  exact ⟨ao, cap, h1, h2, h3, h4, Below.rd h h5⟩
theorem Qt.sl {w w' : World} (h : Qt w w') {v : Value} {l : List UInt8} (g : Sl w v l) : Sl w' v l := Below.sl (h.below _) g
theorem ownsRow_below {w w' : World} {base e n : Nat} {v : Value} {xs : List Value} (h : w.ownsRow base e 1 v n xs) (hb : Below w.heap.size w w') : w'.ownsRow base e 1 v n xs := by
  obtain ⟨h1, h2⟩ := h
  refine ⟨h1, ?_⟩
  rcases h2 with h2 | ⟨g, cap, cur, hv, hg, hh, r⟩
  · exact Or.inl h2
  · have hlt : g < w.heap.size := by
      by_cases hb : g < w.heap.size
      · exact hb
      · rw [Array.getElem?_eq_none (by omega)] at hh; simp at hh
    exact Or.inr ⟨g, cap, cur, hv, hg, by rw [hb.block g hlt]; exact hh, r⟩
theorem bvals_get {l : List UInt8} {i : Nat} (h : i < l.length) : (bvals l)[i]? = some (.int .u8 (l[i].toNat : Int)) := by
  simp [bvals, bval, h]
theorem Sl.of_owns {w : World} {base e : Nat} {v : Value} {l : List UInt8} (h : w.ownsRow base e 1 v l.length (bvals l)) : Sl w v l := by
  have h0 := h
  obtain ⟨h1, h2⟩ := h
  rcases h2 with ⟨rfl, hn⟩ | ⟨g, cap, cur, rfl, hg, hh, hn, hm, hs, ht⟩
  · obtain rfl := List.length_eq_zero_iff.1 hn
    exact ⟨none, 0, rfl, fun _ => ⟨rfl, rfl⟩, Nat.le_refl _, Nat.zero_le _, fun i hi => by simp at hi⟩
  · refine ⟨some ⟨g, 0, none⟩, cap, rfl, fun e => by simp at e, hn, hm, fun i hi => ⟨g, 0, rfl, ?_⟩⟩
    rw [Nat.zero_add, h0.cellAt i (by omega), bvals_get hi]
theorem Sl.nil (w : World) : Sl w (.slice none 0 0) [] := ⟨none, 0, rfl, fun _ => ⟨rfl, rfl⟩, Nat.le_refl _, Nat.zero_le _, fun i hi => by simp at hi⟩
theorem wpList_append_bytes {P : Program} {w : World} {ops : Array Oper} {rest : List Oper} {o : Oper} {a : Act} {Q : Exit → Act → World → Prop} (hgd : o.guard = none) (s x : Operand) (t : TypeId)
    (ho : o.op = .call { callee := .builtin .append, args := #[s, x], argTypes := #[t, t] })
    (base : Nat) (e : TypeId) (hinf : (P.info? e).map (fun i => (i.zero, i.size, i.bytes)) = some (some (.int .u8 0), 1, 1)) (ht : P.underlying t = some (.slice e))
    (v vx : Value) (l m : List UInt8) (hs : a.eval s = v) (hown : w.ownsRow base e 1 v l.length (bvals l)) (hx : a.eval x = vx) (hsl : Sl w vx m)
    (hbytes : l.length + m.length ≤ 140737488355328) (hbase : base ≤ w.heap.size)
    (h : ∀ v' w', w'.ownsRow base e 1 v' (l ++ m).length (bvals (l ++ m)) → Below base w w' → wpList P ops Q rest (a.put o.dst v') w') : wpList P ops Q (o :: rest) a w := by
  obtain ⟨i0, hi, hz0, hz1, hz2⟩ := info_parts hinf
  obtain ⟨ao, cap, rfl, h2, h3, h4, h5⟩ := hsl
  cases ao with
  | none =>
    obtain ⟨rfl, rfl⟩ := h2 rfl
    refine wpList_append_own_none hgd s x t ho base e i0 1 ht hi v l.length (bvals l) hs hown hx ?_
    exact h v w (by simpa using hown) (Below.refl _ _)
  | some ad =>
    have hcells : ∀ j u, (bvals m)[j]? = some u → w.cell? (ad.add j) = some u := by
      intro j u hu
      have hj : j < m.length := by
        have := (List.getElem?_eq_some_iff.1 hu).1
        simpa [bvals] using this
      obtain ⟨b, off, e1, hc⟩ := h5 j hj
      simp only [Option.some.injEq] at e1
      subst e1
      rw [bvals_get hj] at hu
      simp only [Option.some.injEq] at hu
      subst hu
      have ea : (⟨b, off, none⟩ : Addr).add j = ⟨b, off + j, none⟩ := by
        unfold Addr.add; split <;> simp_all
      rw [ea]; exact hc
    refine wpList_append_own w hgd s x t ho base e i0 (.int .u8 0) 1 1 ht hi hz0 hz1 hz2 rfl (by decide) v l.length (bvals l) hs hown ad m.length cap (bvals m) hx (by simp [bvals]) hcells ?_ (by unfold maxLen; omega) (by omega) hbase ?_
    · intro u hu
      simp only [bvals, List.mem_map] at hu
      obtain ⟨c, _, rfl⟩ := hu
      rfl
    · intro v' w' ho' hg _
      refine h v' w' ?_ ((Below.refl _ _).grown hg hbase fun k hk => (hown.lt k hk).1)
      rw [List.length_append, bvals_append]
      exact ho'
theorem Tryz.infoU8 : (Tryz.prog.info? 5).map (fun i => (i.zero, i.size, i.bytes)) = some (some (.int .u8 0), 1, 1) := by kernel_rfl
theorem addr_add (b off k : Nat) : (⟨b, off, none⟩ : Addr).add k = ⟨b, off + k, none⟩ := by
  unfold Addr.add; split <;> simp_all
theorem Sl.of_owns2 {w : World} {base e n : Nat} {v : Value} {l : List UInt8} (h : w.ownsRow base e 1 v n (bvals l)) (hn : l.length = n) : Sl w v l := by
  subst hn; exact Sl.of_owns h
theorem grown_trans {a b c : World} {row : Option Nat} (h : a.grownBy b row) (g : b.grownBy c row) : a.grownBy c row :=
  ⟨g.os.trans h.os, g.tape.trans h.tape, g.output.trans h.output, Nat.le_trans h.size g.size, fun k hk hr => (g.block k (Nat.lt_of_lt_of_le hk h.size) hr).trans (h.block k hk hr)⟩
theorem Qt.grown {w w' : World} (h : Qt w w') (row : Option Nat) : w.grownBy w' row := by
  obtain ⟨k, rfl⟩ := h; exact ⟨rfl, rfl, rfl, Nat.le_refl _, fun _ _ _ => rfl⟩
theorem Below.grownAny {w w' : World} (h : Below w.heap.size w w') (row : Option Nat) : w.grownBy w' row :=
  ⟨h.os, h.tape, h.output, h.size, fun k hk _ => h.block k hk⟩
theorem grown_setCell (w : World) (rb o : Nat) (u : Value) : w.grownBy (w.setCell ⟨rb, o, none⟩ u) (some rb) :=
  ⟨rfl, rfl, rfl, by simp, fun k _ hk => heap_setCell_other w ⟨rb, o, none⟩ k u (fun e => hk (by simp [e]))⟩
theorem heap_lt {w : World} {k : Nat} {o : Obj} (h : w.heap[k]? = some o) : k < w.heap.size := by
  by_cases hb : k < w.heap.size
  · exact hb
  · rw [Array.getElem?_eq_none (by omega)] at h; simp at h
theorem box_below (w : World) (o : Obj) : Below w.heap.size w (w.alloc o) := (Below.refl _ _).alloc (Nat.le_refl _) _
theorem sl_lit (w : World) (m : List UInt8) (t : TypeId) (hm : m.length ≤ maxLen) (cs : Array Value) (hcs : cs = (bvals m).toArray) : Sl (w.alloc (.cells cs t)) (.slice (some ⟨w.heap.size, 0, none⟩) m.length m.length) m := by
  subst hcs
  refine ⟨_, _, rfl, fun e => by simp at e, Nat.le_refl _, hm, fun i hi => ⟨_, _, rfl, ?_⟩⟩
  have : (w.alloc (.cells (bvals m).toArray t)).heap[w.heap.size]? = some (.cells (bvals m).toArray t (0, 0)) := heap_alloc_new _ _
  simp only [World.cell?, this, Nat.zero_add]
  simpa using bvals_get hi
theorem sl_lit_mark (w : World) (m : List UInt8) (t : TypeId) (fr : Nat × Nat) (hm : m.length ≤ maxLen) (cs : Array Value) (hcs : cs = (bvals m).toArray) : Sl (w.alloc (.cells cs t fr)) (.slice (some ⟨w.heap.size, 0, none⟩) m.length m.length) m := by
  subst hcs
  refine ⟨_, _, rfl, fun e => by simp at e, Nat.le_refl _, hm, fun i hi => ⟨_, _, rfl, ?_⟩⟩
  rw [World.cell?_alloc_mark, Nat.zero_add]
  simpa using bvals_get hi
end Go.Proofs.YtjehpijjneghpaaGreat
namespace Go.Proofs.YtjehpijjneghpaaGreat
open Go.ChangeShapes Go.WideShapes Go.ChangeAt Go.RowKit
theorem bytesU8 : Tryz.prog.bytesOf 5 = 1 := by kernel_rfl
theorem cellsU8 : Tryz.prog.cellsOf 5 = 1 := by kernel_rfl
theorem toByte {n : Int} (h : (Lit.int .u8 n).wf = true) : ((UInt8.ofNat n.toNat).toNat : Int) = n := by
  have hx : 0 ≤ n ∧ n ≤ 255 := by simpa [Lit.wf, IntKind.min, IntKind.max, IntKind.signed, IntKind.bits] using h
  rw [UInt8.toNat_ofNat_of_lt' (show n.toNat < 256 by omega)]; omega
theorem open_bytes {H : Type} {enc : TypeId × Value → H} {w : World} {base : Nat} {spare : Nat → Bool} {held : Bool} {fuel : Nat} {v : Value} {x : DataW H × List MemPlace}
    (h : DataW.trod enc Tryz.prog w base spare held fuel 30 [v] = some x) :
    ∃ l, Sl w v l ∧ ((x.1 = .nil ∧ l = []) ∨ ∃ elems sp, x.1 = .slice elems sp ∧ elems.length = l.length) := by
  rcases open_ints Tryz.underlying30 Tryz.underlying5 cellsU8 h with ⟨hcs, hx⟩ | ⟨a, len, cap, zs, hcs, _, hl, hm, hz, hx, hcell, hwz⟩
  · simp at hcs
    subst hcs hx
    exact ⟨[], Sl.nil _, .inl ⟨rfl, rfl⟩⟩
  · simp at hcs
    subst hcs hx
    have hzl : len ≤ zs.length := by split at hz <;> omega
    have hlen : ((zs.take len).map fun n => UInt8.ofNat n.toNat).length = len := by simp; omega
    refine ⟨(zs.take len).map fun n => UInt8.ofNat n.toNat, ⟨some a, cap, by rw [hlen], fun e => by simp at e, by omega, hm, ?_⟩, .inr ⟨_, _, rfl, by simp [lits]⟩⟩
    intro i hi
    rw [hlen] at hi
    obtain ⟨b, off, rfl, hc⟩ := ints_at hcell (by omega)
    refine ⟨b, off, rfl, ?_⟩
    have hi2 : i < zs.length := by omega
    rw [hc i hi2]
    simp only [List.getElem_map, List.getElem_take]
    rw [toByte (hwz _ (List.getElem_mem _))]
    simp [List.getD, hi2]
theorem i64_bounds {n : Int} (h : (Lit.int .i64 n).wf = true) : -9223372036854775808 ≤ n ∧ n ≤ 9223372036854775807 := by
  simpa [Lit.wf, IntKind.min, IntKind.max, IntKind.signed, IntKind.bits] using h
end Go.Proofs.YtjehpijjneghpaaGreat
namespace Go.Proofs.YtjehpijjneghpaaGreat
open Go.RowKit
set_option linter.unusedVariables false
theorem own_slice {w : World} {base e n : Nat} {v : Value} {xs : List Value} (ho : w.ownsRow base e 1 v n xs) : ∃ ao ca, v = .slice ao n ca := by
  obtain ⟨h1, h2⟩ := ho
  rcases h2 with ⟨rfl, rfl⟩ | ⟨g, cap, cur, rfl, _⟩
  · exact ⟨_, _, rfl⟩
  · exact ⟨_, _, rfl⟩
def itv (t : Nat × Nat × Nat) : Value := .slice (some ⟨t.1, 0, none⟩) t.2.1 t.2.2
def itvs (l : List (Nat × Nat × Nat)) : List Value := l.map itv
def slv : Option (Nat × Nat × Nat) → Value
  | none => .slice none 0 0
  | some t => itv t
def somes : List (Option (Nat × Nat × Nat)) → List (Nat × Nat × Nat)
  | [] => []
  | none :: r => somes r
  | some t :: r => t :: somes r
theorem somes_append (a b : List (Option (Nat × Nat × Nat))) : somes (a ++ b) = somes a ++ somes b := by
  induction a with
  | nil => rfl
  | cons x r ih => cases x <;> simp [somes, ih]
def Kept (w : World) (base kb : Nat) (its : List (Nat × Nat × Nat)) (size : Nat) : Prop :=
  ∃ vl, w.heap[kb]? = some (.cells #[vl, .int .i64 (size : Int)] 56 (0, 0)) ∧ w.ownsRow base 30 1 vl its.length (itvs its) ∧ its.length ≤ size ∧ size ≤ 4194304
theorem Tryz.infoSl : (Tryz.prog.info? 30).map (fun i => (i.zero, i.size, i.bytes)) = some (some (.slice none 0 0), 1, 24) := by kernel_rfl
def room (n c : Nat) : Nat := min c (n + 5000)
set_option maxHeartbeats 400000 in
theorem room_any (w : World) (n c : Nat) (hn : n ≤ 281474976710656) (hc : c ≤ 9223372036854775807) : Calls Tryz.prog 84 #[.int .i64 (n : Int), .int .i64 (c : Int)] w fun e w' => e = .returned (.int .i64 (room n c : Int)) ∧ w' = w := by
  unfold room
  by_cases h : c ≤ n + 5000
  · rw [Nat.min_eq_left h]
    go_enter Tryz.func84, Tryz.ntmps84
    go_wp2
    go_ret
    exact ⟨rfl, rfl⟩
  · rw [Nat.min_eq_right (by omega)]
    go_enter Tryz.func84, Tryz.ntmps84
    go_wp2
    go_ret
    exact ⟨ret_int (by omega), rfl⟩
structure FrK (base kb : Nat) (w w' : World) : Prop where
  os : w'.os = w.os
  tape : w'.tape = w.tape
  output : w'.output = w.output
  size : w.heap.size ≤ w'.heap.size
  block : ∀ k, k < w.heap.size → k ≠ kb → (k < base ∨ ∀ cur fr, w.heap[k]? ≠ some (.cells cur 30 fr)) → w'.heap[k]? = w.heap[k]?
theorem FrK.refl (base kb : Nat) (w : World) : FrK base kb w w := ⟨rfl, rfl, rfl, Nat.le_refl _, fun _ _ _ _ => rfl⟩
theorem FrK.trans {base kb : Nat} {u v w : World} (h : FrK base kb u v) (g : FrK base kb v w) : FrK base kb u w := by
  refine ⟨g.os.trans h.os, g.tape.trans h.tape, g.output.trans h.output, Nat.le_trans h.size g.size, fun k hk h1 h2 => ?_⟩
  have e := h.block k hk h1 h2
  rw [g.block k (Nat.lt_of_lt_of_le hk h.size) h1 (by rw [e]; exact h2), e]
theorem FrK.of_below {base kb : Nat} {w w' : World} (h : Below w.heap.size w w') : FrK base kb w w' := ⟨h.os, h.tape, h.output, h.size, fun k hk _ _ => h.block k hk⟩
theorem FrK.of_set (base kb : Nat) (w : World) (o : Nat) (u : Value) : FrK base kb w (w.setCell ⟨kb, o, none⟩ u) :=
  ⟨rfl, rfl, rfl, by simp, fun k _ h1 _ => heap_setCell_other w ⟨kb, o, none⟩ k u (by simpa using h1)⟩
theorem FrK.of_grown {base kb : Nat} {w w' : World} {vl : Value} {n : Nat} {xs : List Value} (ho : w.ownsRow base 30 1 vl n xs) (hg : w.grownBy w' vl.ownBlock) : FrK base kb w w' := by
  refine ⟨hg.os, hg.tape, hg.output, hg.size, fun k hk _ h2 => hg.block k hk ?_⟩
  intro e
  have hl := ho.lt k e.symm
  rcases h2 with h2 | h2
  · omega
  · obtain ⟨_, p⟩ := ho
    rcases p with ⟨rfl, _⟩ | ⟨g, cap, cur, rfl, _, hh, _⟩
    · simp [Value.ownBlock] at e
    · simp [Value.ownBlock] at e
      subst e
      exact h2 _ _ hh
theorem kept_cells {w : World} {base kb : Nat} {its : List (Nat × Nat × Nat)} {size : Nat} (h : Kept w base kb its size) : ∃ vl, w.cell? ⟨kb, 0, none⟩ = some vl ∧ w.cell? ⟨kb, 1, none⟩ = some (.int .i64 (size : Int)) ∧ w.frozen? ⟨kb, 0, none⟩ = false ∧ w.frozen? ⟨kb, 1, none⟩ = false ∧
    w.ownsRow base 30 1 vl its.length (itvs its) ∧ vl.ownBlock ≠ some kb ∧ its.length ≤ size ∧ size ≤ 4194304 := by
  obtain ⟨vl, hk, ho, h1, h2⟩ := h
  refine ⟨vl, by simp [World.cell?, hk], by simp [World.cell?, hk], by simp [World.frozen?, hk], by simp [World.frozen?, hk], ho, ?_, h1, h2⟩
  obtain ⟨_, p⟩ := ho
  rcases p with ⟨rfl, _⟩ | ⟨g, cap, cur, rfl, _, hh, _⟩
  · simp [Value.ownBlock]
  · intro e
    simp [Value.ownBlock] at e
    subst e
    rw [hk] at hh
    simp at hh
theorem kb_after {w2 W w3 : World} {kb : Nat} {X : Obj} {row : Option Nat} (hb : Below w2.heap.size w2 W) (hk : w2.heap[kb]? = some X) (hg : W.grownBy w3 row) (hne : row ≠ some kb) : w3.heap[kb]? = some X := by
  have hl := heap_lt hk
  rw [hg.block kb (by have := hb.size; omega) (fun e => hne e.symm), hb.block kb hl]; exact hk
theorem own28_ne {w : World} {base kb g m cap : Nat} {xs : List Value} {x y : Value} (ho : w.ownsRow base 30 1 (.slice (some ⟨g, 0, none⟩) m cap) m xs) (hk : w.heap[kb]? = some (.cells #[x, y] 56 (0, 0))) : Value.ownBlock (.slice (some ⟨g, 0, none⟩) m cap) ≠ some kb := by
  intro e
  simp [Value.ownBlock] at e
  subst e
  obtain ⟨_, p⟩ := ho
  rcases p with ⟨h, _⟩ | ⟨g', c', cur, h, _, hh, _⟩
  · simp at h
  · simp only [Value.slice.injEq, Option.some.injEq, Addr.mk.injEq, and_true, true_and] at h
    obtain ⟨rfl, _⟩ := h
    rw [hk] at hh
    simp at hh
theorem Kept.add {w w1 : World} {base kb : Nat} {its : List (Nat × Nat × Nat)} {size n : Nat} {vl v1 : Value} {t : Nat × Nat × Nat} (hk : w.heap[kb]? = some (.cells #[vl, .int .i64 ((size + n : Nat) : Int)] 56 (0, 0)))
    (hw1 : w1.heap[kb]? = w.heap[kb]?) (ho : w1.ownsRow base 30 1 v1 (its.length + 1) (itvs its ++ [itv t])) (hv : v1.ownBlock ≠ some kb) (hn : 1 ≤ n) (h1 : its.length ≤ size) (h2 : size + n ≤ 4194304) : Kept (w1.setCell ⟨kb, 0, none⟩ v1) base kb (its ++ [t]) (size + n) := by
  rw [hk] at hw1
  refine ⟨v1, ?_, ?_, by simp; omega, h2⟩
  · rw [heap_setCell_same w1 kb 0 _ _ _ hw1]; simp
  · have := ownsRow_setCell_other ho hv (a := ⟨kb, 0, none⟩) v1
    simpa [itvs] using this
end Go.Proofs.YtjehpijjneghpaaGreat
namespace Go.Proofs.YtjehpijjneghpaaGreat
open Go.RowKit
def Wr (w : World) (b n : Nat) : Prop := ∀ j, j < n → (w.cell? ⟨b, j, none⟩).isSome = true ∧ w.frozen? ⟨b, j, none⟩ = false
def updN (n : Nat → Nat) (i m : Nat) : Nat → Nat := fun j => if j = i then m else n j
theorem updN_same (n : Nat → Nat) (i m : Nat) : updN n i m i = m := by simp [updN]
theorem updN_other (n : Nat → Nat) {i j : Nat} (m : Nat) (h : j ≠ i) : updN n i m j = n j := by simp [updN, h]
theorem updN_updN (n : Nat → Nat) (i m m' : Nat) : updN (updN n i m) i m' = updN n i m' := by
  funext j; unfold updN; split <;> simp_all
theorem updN_self (n : Nat → Nat) (i : Nat) : updN n i (n i) = n := by
  funext j; unfold updN; split
  · subst_vars; rfl
  · rfl
structure LS (w : World) (kb lb N lcap : Nat) (g c n : Nat → Nat) : Prop where
  top : w.cell? ⟨kb, 0, none⟩ = some (.slice (some ⟨lb, 0, none⟩) N lcap)
  row : ∀ j, j < N → w.cell? ⟨lb, j, none⟩ = some (.slice (some ⟨g j, 0, none⟩) (n j) (c j)) ∧ w.frozen? ⟨lb, j, none⟩ = false
  each : ∀ j, j < N → Wr w (g j) (c j) ∧ n j ≤ c j ∧ g j < w.heap.size
structure DJ (kb lb N base : Nat) (g : Nat → Nat) : Prop where
  lk : lb ≠ kb
  gk : ∀ j, j < N → g j ≠ kb ∧ g j ≠ lb
  gg : ∀ i j, i < N → j < N → i ≠ j → g i ≠ g j
  lbase : base ≤ lb
  gbase : ∀ j, j < N → base ≤ g j
theorem isSome_setCell (w : World) (a x : Addr) (v : Value) (h : (w.cell? x).isSome = true) : ((w.setCell a v).cell? x).isSome = true := by
  obtain ⟨u, hu⟩ := Option.isSome_iff_exists.1 h
  by_cases e : a = x
  · subst e; rw [World.cell?_setCell_same _ _ _ hu]; rfl
  · rw [World.cell?_setCell_other _ _ _ _ e, hu]; rfl
theorem Wr.setCell {w : World} {b n : Nat} (h : Wr w b n) (a : Addr) (v : Value) : Wr (w.setCell a v) b n := fun j hj => ⟨isSome_setCell w a _ v (h j hj).1, by simpa using (h j hj).2⟩
theorem blk_ne {a b i j : Nat} (h : a ≠ b) : (⟨a, i, none⟩ : Addr) ≠ ⟨b, j, none⟩ := fun e => h (congrArg Addr.block e)
theorem LS.drew {w : World} {kb lb N lcap : Nat} {g c n : Nat → Nat} (h : LS w kb lb N lcap g c n) : LS w.drew kb lb N lcap g c n := ⟨h.top, h.row, h.each⟩
theorem LS.drewN {w : World} {kb lb N lcap : Nat} {g c n : Nat → Nat} (h : LS w kb lb N lcap g c n) (k : Nat) : LS (w.drewN k) kb lb N lcap g c n := ⟨h.top, h.row, h.each⟩
theorem LS.below {w w' : World} {kb lb N lcap : Nat} {g c n : Nat → Nat} (h : LS w kb lb N lcap g c n) (hb : Below w.heap.size w w') : LS w' kb lb N lcap g c n := by
  have hk := lt_of_cell h.top
  refine ⟨(hb.cell (p := ⟨kb, 0, none⟩) hk).trans h.top, fun j hj => ?_, fun j hj => ?_⟩
  · have hl := lt_of_cell (h.row j hj).1
    exact ⟨(hb.cell (p := ⟨lb, j, none⟩) hl).trans (h.row j hj).1, (hb.frozen (p := ⟨lb, j, none⟩) hl).trans (h.row j hj).2⟩
  · obtain ⟨e1, e2, e3⟩ := h.each j hj
    refine ⟨fun q hq => ?_, e2, Nat.lt_of_lt_of_le e3 hb.size⟩
    rw [hb.cell (p := ⟨g j, q, none⟩) e3, hb.frozen (p := ⟨g j, q, none⟩) e3]
    exact e1 q hq
theorem LS.mark {w : World} {kb lb N lcap base : Nat} {g c n : Nat → Nat} (h : LS w kb lb N lcap g c n) (d : DJ kb lb N base g) {i : Nat} (hi : i < N) (k : Nat) (v : Value) : LS (w.setCell ⟨g i, k, none⟩ v) kb lb N lcap g c n := by
  refine ⟨?_, fun j hj => ?_, fun j hj => ?_⟩
  · rw [World.cell?_setCell_other _ _ _ _ (blk_ne (d.gk i hi).1)]; exact h.top
  · exact ⟨by rw [World.cell?_setCell_other _ _ _ _ (blk_ne (d.gk i hi).2)]; exact (h.row j hj).1, by simpa using (h.row j hj).2⟩
  · obtain ⟨e1, e2, e3⟩ := h.each j hj
    exact ⟨e1.setCell _ _, e2, by simpa using e3⟩
theorem LS.len {w : World} {kb lb N lcap base : Nat} {g c n : Nat → Nat} (h : LS w kb lb N lcap g c n) (d : DJ kb lb N base g) {i : Nat} (hi : i < N) (m : Nat) (hm : m ≤ c i) :
    LS (w.setCell ⟨lb, i, none⟩ (.slice (some ⟨g i, 0, none⟩) m (c i))) kb lb N lcap g c (updN n i m) := by
  refine ⟨?_, fun j hj => ⟨?_, by simpa using (h.row j hj).2⟩, fun j hj => ?_⟩
  · rw [World.cell?_setCell_other _ _ _ _ (blk_ne d.lk)]; exact h.top
  · by_cases e : j = i
    · subst e
      rw [World.cell?_setCell_same _ _ _ (h.row j hj).1, updN_same]
    · rw [World.cell?_setCell_other _ _ _ _ (fun x => e (by have := congrArg Addr.off x; simpa using this.symm)), updN_other _ _ e]
      exact (h.row j hj).1
  · obtain ⟨e1, e2, e3⟩ := h.each j hj
    refine ⟨e1.setCell _ _, ?_, by simpa using e3⟩
    by_cases e : j = i
    · subst e; rw [updN_same]; exact hm
    · rw [updN_other _ _ e]; exact e2
def lenAt (w : World) (lb j : Nat) : Nat := match w.cell? ⟨lb, j, none⟩ with | some (.slice _ n _) => n | _ => 0
theorem LS.lenAt {w : World} {kb lb N lcap : Nat} {g c n : Nat → Nat} (h : LS w kb lb N lcap g c n) {j : Nat} (hj : j < N) : lenAt w lb j = n j := by
  unfold Go.Proofs.YtjehpijjneghpaaGreat.lenAt; rw [(h.row j hj).1]
def Mk (w : World) (b k : Nat) (m : Int) : Prop := ∀ q, q < k → w.cell? ⟨b, q, none⟩ = some (.int .u8 m)
theorem Mk.other {w : World} {b k g i : Nat} {m : Int} (h : Mk w b k m) (hne : g ≠ b) (v : Value) : Mk (w.setCell ⟨g, i, none⟩ v) b k m := fun q hq => by
  rw [World.cell?_setCell_other _ _ _ _ (blk_ne hne)]; exact h q hq
theorem Mk.below {w w' : World} {b k : Nat} {m : Int} (h : Mk w b k m) (hb : Below w.heap.size w w') : Mk w' b k m := fun q hq => by
  rw [hb.cell (p := ⟨b, q, none⟩) (lt_of_cell (h q hq))]; exact h q hq
theorem Mk.more {w : World} {b k : Nat} {m : Int} (h : Mk w b k m) (hs : (w.cell? ⟨b, k, none⟩).isSome = true) : Mk (w.setCell ⟨b, k, none⟩ (.int .u8 m)) b (k + 1) m := fun q hq => by
  obtain ⟨u, hu⟩ := Option.isSome_iff_exists.1 hs
  by_cases e : q = k
  · subst e; exact World.cell?_setCell_same _ _ _ hu
  · rw [World.cell?_setCell_other _ _ _ _ (fun x => e (by have := congrArg Addr.off x; simpa using this.symm))]
    exact h q (by omega)
theorem setCells_one (w : World) (b o : Nat) (v : Value) : w.setCells b o [v] = w.setCell ⟨b, o, none⟩ v := by
  rw [World.setCells.eq_def]; simp only; rw [World.setCells.eq_def]
theorem LS.push {w : World} {kb lb N lcap base : Nat} {g c n : Nat → Nat} (h : LS w kb lb N lcap g c n) (d : DJ kb lb N base g) {i : Nat} (hi : i < N) (o : Nat) (v : Value) : LS (w.setCells (g i) o [v]) kb lb N lcap g c n := by
  rw [setCells_one]; exact h.mark d hi o v
theorem Mk.push {w : World} {b k g o : Nat} {m : Int} (h : Mk w b k m) (hne : g ≠ b) (v : Value) : Mk (w.setCells g o [v]) b k m := by
  rw [setCells_one]; exact h.other hne v
structure BD (base : Nat) (w w' : World) : Prop where
  b : Below base w w'
  d : ∀ (k : Nat) (o : Option (List Deferred)), w.heap[k]? = some (Obj.deferred o) → w'.heap[k]? = some (Obj.deferred o)
theorem BD.refl (base : Nat) (w : World) : BD base w w := ⟨Below.refl _ _, fun _ _ h => h⟩
theorem BD.drewN {base : Nat} {w w' : World} (h : BD base w w') (k : Nat) : BD base w (w'.drewN k) := ⟨below_drewN h.b k, h.d⟩
theorem BD.alloc {base : Nat} {w w' : World} (h : BD base w w') (hb : base ≤ w'.heap.size) (o : Obj) : BD base w (w'.alloc o) :=
  ⟨h.b.alloc hb o, fun k x hk => by
    have h1 := h.d k x hk
    have h2 : k < w'.heap.size := by
      by_cases e : k < w'.heap.size
      · exact e
      · rw [Array.getElem?_eq_none (by omega)] at h1; cases h1
    rw [Below.heap_alloc _ _ _ h2]; exact h1⟩
def St (w wr : World) (kb lb N lcap base : Nat) (g c n : Nat → Nat) (i sc : Nat) (n0 : Nat → Nat) : Prop :=
  LS wr kb lb N lcap g c n ∧ (∀ j, j < i → Mk wr (g j) (n0 j) ((j / sc % 250 : Nat) : Int)) ∧ BD base w wr
theorem St.drewN {w wr : World} {kb lb N lcap base i sc : Nat} {g c n n0 : Nat → Nat} (h : St w wr kb lb N lcap base g c n i sc n0) (k : Nat) : St w (wr.drewN k) kb lb N lcap base g c n i sc n0 := ⟨h.1.drewN k, h.2.1, h.2.2.drewN k⟩
theorem St.alloc {w wr : World} {kb lb N lcap base i sc : Nat} {g c n n0 : Nat → Nat} (h : St w wr kb lb N lcap base g c n i sc n0) (hb : base ≤ wr.heap.size) (o : Obj) : St w (wr.alloc o) kb lb N lcap base g c n i sc n0 :=
  ⟨h.1.below (box_below wr o), fun j hj => (h.2.1 j hj).below (box_below wr o), h.2.2.alloc hb o⟩
theorem St.size {w wr : World} {kb lb N lcap base i sc : Nat} {g c n n0 : Nat → Nat} (h : St w wr kb lb N lcap base g c n i sc n0) (d : DJ kb lb N base g) (hi : i < N) : base ≤ wr.heap.size :=
  Nat.le_trans (d.gbase i hi) (Nat.le_of_lt (h.1.each i hi).2.2)
set_option maxHeartbeats 400000 in
theorem room_big (w : World) (n c : Nat) (hn : n ≤ 9223372036854770000) (_hc : c ≤ 9223372036854775807) : Calls Tryz.prog 84 #[.int .i64 (n : Int), .int .i64 (c : Int)] w fun e w' => e = .returned (.int .i64 (room n c : Int)) ∧ w' = w := by
  unfold room
  by_cases h : c ≤ n + 5000
  · rw [Nat.min_eq_left h]
    go_enter Tryz.func84, Tryz.ntmps84
    go_wp2
    go_ret
    exact ⟨rfl, rfl⟩
  · rw [Nat.min_eq_right (by omega)]
    go_enter Tryz.func84, Tryz.ntmps84
    go_wp2
    go_ret
    exact ⟨ret_int (by omega), rfl⟩
theorem room_spare {w : World} {g m : Nat} {o : Obj} (h : (w.cell? ⟨g, m, none⟩).isSome = true ∧ w.frozen? ⟨g, m, none⟩ = false) (hg : g < w.heap.size) : ∀ j, j < [Value.int .u8 0].length → ((w.alloc o).cell? ⟨g, 0 + m * 1 + j, none⟩).isSome = true ∧ (w.alloc o).frozen? ⟨g, 0 + m * 1 + j, none⟩ = false := by
  intro j hj
  have : j = 0 := by simpa using hj
  subst this
  have hb := box_below w o
  rw [show 0 + m * 1 + 0 = m by omega, hb.cell (p := ⟨g, m, none⟩) hg, hb.frozen (p := ⟨g, m, none⟩) hg]
  exact h
theorem mark_val (i sc : Nat) (hi : i ≤ 9223372036854775807) : (wrap64 ((i : Int) / (sc : Int))).tmod 250 % 256 = ((i / sc % 250 : Nat) : Int) := by
  have e : (i : Int) / (sc : Int) = ((i / sc : Nat) : Int) := by simp
  have hl : i / sc ≤ 9223372036854775807 := Nat.le_trans (Nat.div_le_self _ _) hi
  rw [e]
  generalize i / sc = q at *
  have hw : wrap64 ((q : Nat) : Int) = ((q : Nat) : Int) := by
    unfold wrap64; omega
  rw [hw, Int.tmod_eq_emod_of_nonneg (by omega)]
  omega
def Own8 (w : World) (base : Nat) (t : Nat × Nat × Nat) : Prop :=
  ∃ cur, w.heap[t.1]? = some (.cells cur 5 (0, 0)) ∧ cur.size = t.2.2 ∧ t.2.1 ≤ t.2.2 ∧ t.2.2 ≤ maxLen ∧ t.2.1 ≤ 281474976710656 ∧ base ≤ t.1
def Items (w : World) (base : Nat) (its : List (Nat × Nat × Nat)) : Prop := (∀ t ∈ its, Own8 w base t) ∧ (its.map (·.1)).Nodup
theorem Own8.frK {w w' : World} {base kb : Nat} {t : Nat × Nat × Nat} (h : Own8 w base t) (hk : t.1 ≠ kb) (hf : FrK base kb w w') : Own8 w' base t := by
  obtain ⟨cur, h1, h2⟩ := h
  exact ⟨cur, by rw [hf.block t.1 (heap_lt h1) hk (.inr fun c fr e => by rw [h1] at e; simp at e)]; exact h1, h2⟩
theorem Own8.below {w w' : World} {base : Nat} {t : Nat × Nat × Nat} (h : Own8 w base t) (hf : Below w.heap.size w w') : Own8 w' base t := by
  obtain ⟨cur, h1, h2⟩ := h
  exact ⟨cur, by rw [hf.block t.1 (heap_lt h1)]; exact h1, h2⟩
theorem Items.sub {w : World} {base : Nat} {its its' : List (Nat × Nat × Nat)} (h : Items w base its) (hs : its'.Sublist its) : Items w base its' :=
  ⟨fun t ht => h.1 t (hs.subset ht), h.2.sublist (hs.map _)⟩
theorem Own8.of_owns {w : World} {base g n c : Nat} {xs : List Value} (h : w.ownsRow base 5 1 (.slice (some ⟨g, 0, none⟩) n c) n xs) (hn : n ≤ 281474976710656) : Own8 w base (g, n, c) := by
  obtain ⟨_, p⟩ := h
  rcases p with ⟨e, _⟩ | ⟨g', cap, cur, e, hg, hh, h1, h2, h3, _⟩
  · simp at e
  · simp only [Value.slice.injEq, Option.some.injEq, Addr.mk.injEq] at e
    obtain ⟨⟨rfl, _⟩, _, rfl⟩ := e
    exact ⟨cur, hh, by show cur.size = c; omega, h1, h2, hn, hg⟩
set_option maxRecDepth 100000 in
set_option maxHeartbeats 1000000 in
theorem apart_zero (w : World) (kb cap : Nat) (ao : Option Addr) (top : w.cell? ⟨kb, 0, none⟩ = some (.slice ao 0 cap)) :
    Calls Tryz.prog 28 #[.pointer (some ⟨kb, 0, none⟩)] w fun e w' => e = .returned (.bool true) ∧ w' = w := by
  have HT : Hid (w.cell? ⟨kb, 0, none⟩ = some (.slice ao 0 cap)) := top
  clear top
  go_enter Tryz.func28, Tryz.ntmps28
  go_wp2_with fail
  go_loopw [3] (fun vs wr => ∃ (sc : Nat), vs = .int .i64 (sc : Int) ∧ (sc = 1 ∨ sc = 250 ∨ sc = 62500) ∧ wr = w) (fun s _ => 62500 - (intOf s).toNat)
  case atStart => exact ⟨1, rfl, .inl rfl, rfl⟩
  case round =>
    obtain ⟨sc, rfl, hsc, hw⟩ := hrel
    replace hw := hw.symm
    subst hw
    by_cases hend : sc = 62500
    · subst hend
      go_wp2_with fail
      go_ret
      exact ⟨rfl, rfl⟩
    · have hs2 : sc ≤ 250 := by omega
      have hsI : (sc : Int) ≤ 250 := by omega
      go_wp2_with fail
      (try simp only [hsI, decide_true])
      go_loopw [4] (fun vi wr => vi = .int .i64 0 ∧ wr = w) (fun _ _ => 0)
      case atStart => exact ⟨rfl, rfl⟩
      case round =>
        obtain ⟨rfl, hw⟩ := hrel
        replace hw := hw.symm
        subst hw
        have top := HT.out
        go_wp2_with fail
        clear top
        go_loopw [7] (fun vi wr => vi = .int .i64 0 ∧ wr = w) (fun _ _ => 0)
        case atStart => exact ⟨rfl, rfl⟩
        case round =>
          obtain ⟨rfl, hw⟩ := hrel
          replace hw := hw.symm
          subst hw
          have top := HT.out
          go_wp2_with fail
          go_roundw
          case rel => exact ⟨sc * 250, by go_num, by omega, by trivial⟩
          case measure => simp [intOf]; omega
def New (u u' : World) (t : Option (Nat × Nat × Nat)) : Prop := Below u.heap.size u u' ∧ ∀ t', t = some t' → Own8 u' u.heap.size t'
def NewL (u u' : World) (ts : List (Option (Nat × Nat × Nat))) : Prop := Below u.heap.size u u' ∧ (∀ t ∈ somes ts, Own8 u' u.heap.size t) ∧ ((somes ts).map (·.1)).Nodup
theorem Own8.lt {w : World} {b : Nat} {t : Nat × Nat × Nat} (h : Own8 w b t) : t.1 < w.heap.size := by
  obtain ⟨cur, h1, _⟩ := h; exact heap_lt h1
theorem own_slv {w : World} {lo : Nat} {v : Value} {l : List UInt8} (h : w.ownsRow lo 5 1 v l.length (bvals l)) (hl : l.length ≤ 281474976710656) : ∃ t, v = slv t ∧ ∀ t', t = some t' → Own8 w lo t' := by
  have h0 := h
  obtain ⟨_, p⟩ := h
  rcases p with ⟨rfl, _⟩ | ⟨g, cap, cur, rfl, hg, hh, h1, h2, h3, _⟩
  · exact ⟨none, rfl, fun t' e => by simp at e⟩
  · exact ⟨some (g, l.length, cap), rfl, fun t' e => by simp at e; subst e; exact Own8.of_owns h0 hl⟩
theorem NewL.nil (u : World) : NewL u u [] := ⟨Below.refl _ _, fun t ht => by simp [somes] at ht, by simp [somes]⟩
theorem NewL.drewN {u u' : World} {ts : List (Option (Nat × Nat × Nat))} (h : NewL u u' ts) (k : Nat) : NewL u (u'.drewN k) ts := ⟨below_drewN h.1 k, h.2.1, h.2.2⟩
theorem Kept.below {w w' : World} {base kb : Nat} {its : List (Nat × Nat × Nat)} {size : Nat} (h : Kept w base kb its size) (hb : Below w.heap.size w w') : Kept w' base kb its size := by
  obtain ⟨vl, h1, h2, h3⟩ := h
  exact ⟨vl, by rw [hb.block kb (heap_lt h1)]; exact h1, ownsRow_below h2 hb, h3⟩
theorem Kept.ne {w : World} {base b kb : Nat} {its : List (Nat × Nat × Nat)} {size : Nat} {t : Nat × Nat × Nat} (h : Kept w base kb its size) (ho : Own8 w b t) : t.1 ≠ kb := by
  obtain ⟨vl, h1, _⟩ := h
  obtain ⟨cur, h2, _⟩ := ho
  intro e
  rw [e, h1] at h2
  simp at h2
theorem FrK.below {base kb B : Nat} {w w' : World} (h : FrK base kb w w') (hb : base ≤ w.heap.size) (hk : base ≤ kb) (hB : B ≤ base) : Below B w w' :=
  ⟨h.os, h.tape, h.output, h.size, fun k hk' => h.block k (by omega) (by omega) (.inl (by omega))⟩
structure But (X : Nat → Prop) (W W' : World) : Prop where
  os : W'.os = W.os
  tape : W'.tape = W.tape
  output : W'.output = W.output
  size : W.heap.size ≤ W'.heap.size
  block : ∀ k, k < W.heap.size → ¬ X k → W'.heap[k]? = W.heap[k]?
theorem But.refl (X : Nat → Prop) (W : World) : But X W W := ⟨rfl, rfl, rfl, Nat.le_refl _, fun _ _ _ => rfl⟩
theorem But.trans {X : Nat → Prop} {A B C : World} (h : But X A B) (k : But X B C) : But X A C :=
  ⟨k.os.trans h.os, k.tape.trans h.tape, k.output.trans h.output, Nat.le_trans h.size k.size, fun i hi hx => (k.block i (Nat.lt_of_lt_of_le hi h.size) hx).trans (h.block i hi hx)⟩
theorem But.mono {X Y : Nat → Prop} {A B : World} (h : But X A B) (hs : ∀ k, k < A.heap.size → X k → Y k) : But Y A B :=
  ⟨h.os, h.tape, h.output, h.size, fun k hk hy => h.block k hk (fun hx => hy (hs k hk hx))⟩
theorem But.below {X : Nat → Prop} {A B : World} {n : Nat} (h : But X A B) (hn : n ≤ A.heap.size) (hX : ∀ k, X k → n ≤ k) : Below n A B :=
  ⟨h.os, h.tape, h.output, h.size, fun k hk => h.block k (Nat.lt_of_lt_of_le hk hn) (fun hx => Nat.lt_irrefl _ (Nat.lt_of_lt_of_le hk (hX k hx)))⟩
theorem But.of_below {A B : World} (h : Below A.heap.size A B) (X : Nat → Prop) : But X A B := ⟨h.os, h.tape, h.output, h.size, fun k hk _ => h.block k hk⟩
theorem But.of_grownBy {A B : World} {row : Option Nat} (h : A.grownBy B row) {X : Nat → Prop} (hX : ∀ k, row = some k → X k) : But X A B :=
  ⟨h.os, h.tape, h.output, h.size, fun k hk hx => h.block k hk (fun e => hx (hX k e.symm))⟩
theorem But.alloc (W : World) (o : Obj) (X : Nat → Prop) : But X W (W.alloc o) := But.of_below ((Below.refl _ W).alloc (Nat.le_refl _) o) X
theorem But.at {X : Nat → Prop} {A B : World} (h : But X A B) {k : Nat} {o : Obj} (hk : A.heap[k]? = some o) (hx : ¬ X k) : B.heap[k]? = some o :=
  (h.block k (Array.getElem?_eq_some_iff.1 hk).1 hx).trans hk
end Go.Proofs.YtjehpijjneghpaaGreat
