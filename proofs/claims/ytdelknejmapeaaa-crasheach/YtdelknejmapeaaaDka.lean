/-
  Maps from names to files, as lists of pairs: what a directory is in memory; its laws.
-/
import Derived.Test.YtdelknejmapeaaaRws
import Derived.Maps.OwnSet
import Derived.Maps.OwnOps
import Derived.Maps.Views
import Derived.Maps.RangeWalk
import Derived.Test.YtdelknejmapeaaaIt
import Derived.Test.YtdelknejmapeaaaNmB
import Derived.BigQuiet
import Derived.WalkSpells
import Derived.Deep.RegionHeld3
import Derived.Deep.CutRange
import Derived.Deep.RegionLaw
import Derived.BigRegion
import Derived.Handy
namespace Go.Proofs.Ytdelknejmapeaaa.Dk
open Go.RowKit Go.Maps

abbrev Dr := List (List UInt8 × Nat)
/-- How a file's pointer reads. -/
def ptrR : Value → Option (DataW Unit × List MemPlace)
  | .pointer (some ⟨b, 0, none⟩) => some (.lit (.int .i64 (b : Int)), [])
  | .pointer none => some (.nil, [])
  | _ => none
theorem ptrR_some (b : Nat) : ptrR (.pointer (some ⟨b, 0, none⟩)) = some (.lit (.int .i64 (b : Int)), []) := rfl
theorem ptrR_none : ptrR (.pointer none) = some (.nil, []) := rfl
theorem ptrR_inv {v : Value} {b : Nat} {ps : List MemPlace} (h : ptrR v = some (.lit (.int .i64 (b : Int)), ps)) : v = .pointer (some ⟨b, 0, none⟩) := by
  unfold ptrR at h
  split at h
  · simp only [Option.some.injEq, Prod.mk.injEq, DataW.lit.injEq, Lit.int.injEq, true_and] at h
    have := h.1
    have e : _ = b := Int.ofNat_inj.1 this
    rw [e]
  · simp at h
  · simp at h
theorem ptrR_inv_nil {v : Value} {ps : List MemPlace} (h : ptrR v = some (.nil, ps)) : v = .pointer none := by
  unfold ptrR at h
  split at h
  · simp at h
  · rfl
  · simp at h
def dent (p : List UInt8 × Nat) : Lit × DataW Unit := (.string p.1, .lit (.int .i64 (p.2 : Int)))
def dirD (l : Dr) : DataW Unit := .map (l.map dent)
def get (l : Dr) (n : List UInt8) : Option Nat := (l.find? fun p => p.1 == n).map (·.2)
def dins (x : List UInt8 × Nat) : Dr → Dr
  | [] => [x]
  | y :: r => if bytesBefore x.1 y.1 then x :: y :: r else y :: dins x r
def ddel (l : Dr) (n : List UInt8) : Dr := l.filter fun p => !(p.1 == n)
def dput (l : Dr) (n : List UInt8) (b : Nat) : Dr := dins (n, b) (ddel l n)
theorem insert_dent (x : List UInt8 × Nat) : ∀ l : Dr, DataW.insert (dent x) (l.map dent) = (dins x l).map dent := by
  intro l
  induction l with
  | nil => rfl
  | cons y r ih =>
    simp only [List.map_cons, DataW.insert, dins]
    have e : (dent x).1.before (dent y).1 = bytesBefore x.1 y.1 := rfl
    rw [e]
    split
    · rfl
    · rw [ih]; rfl
theorem filter_dent (l : Dr) (n : List UInt8) : (l.map dent).filter (fun p => !p.1.sameKey (.string n)) = (ddel l n).map dent := by
  unfold ddel
  rw [List.filter_map]
  rfl
theorem dirD_del (l : Dr) (n : List UInt8) : (dirD l).del (.string n) = dirD (ddel l n) := by
  show DataW.map _ = DataW.map _
  rw [filter_dent]
theorem dirD_put (l : Dr) (n : List UInt8) (b : Nat) : (dirD l).put (.string n) (.lit (.int .i64 (b : Int))) = dirD (dput l n b) := by
  show DataW.map _ = DataW.map _
  rw [filter_dent]
  exact congrArg DataW.map (insert_dent (n, b) (ddel l n))
theorem find_dent (l : Dr) (n : List UInt8) : (l.map dent).find? (fun p => p.1.sameKey (.string n)) = (l.find? fun p => p.1 == n).map dent := by
  rw [List.find?_map]
  rfl
theorem dirD_at_some {l : Dr} {n : List UInt8} {b : Nat} (h : get l n = some b) : (dirD l).atKey (.string n) .nil = .lit (.int .i64 (b : Int)) := by
  unfold get at h
  unfold dirD DataW.atKey
  simp only []
  rw [find_dent]
  cases hf : l.find? fun p => p.1 == n with
  | none => rw [hf] at h; simp at h
  | some p => rw [hf] at h; simp at h; subst h; rfl
theorem dirD_at_none {l : Dr} {n : List UInt8} (h : get l n = none) : (dirD l).atKey (.string n) .nil = .nil := by
  unfold get at h
  unfold dirD DataW.atKey
  simp only []
  rw [find_dent]
  cases hf : l.find? fun p => p.1 == n with
  | none => rfl
  | some p => rw [hf] at h; simp at h
theorem dirD_has (l : Dr) (n : List UInt8) : Maps.has (dirD l) (.string n) = (get l n).isSome := by
  unfold get
  show (l.map dent).any (fun p => p.1.sameKey (.string n)) = _
  rw [List.any_map]
  induction l with
  | nil => rfl
  | cons y r ih =>
    simp only [List.any_cons, List.find?_cons]
    have e : ((fun p : Lit × DataW Unit => p.1.sameKey (.string n)) ∘ dent) y = (y.1 == n) := rfl
    rw [e]
    cases hy : (y.1 == n)
    · simp only [Bool.false_or]; exact ih
    · rfl
theorem dirD_size (l : Dr) : Maps.size (dirD l) = l.length := by simp [Maps.size, dirD]
end Go.Proofs.Ytdelknejmapeaaa.Dk

/-
  A directory's map in memory: what lookups, stores, deletes, lengths do; a disk's own block.
-/
namespace Go.Proofs.Ytdelknejmapeaaa.Dk
open Go.RowKit Go.Maps

def TM : TypeId := 31
def TF : TypeId := 73
def TS : TypeId := 9
theorem keyS : Keyed Try.prog TS := string_keyed Try.underlying9
theorem undM : Try.prog.underlying TM = some (.map TS TF) := Try.underlying31
theorem zeroF (w : World) : (zeroValue TF).run Try.prog w = .ok (.pointer none) w := by kernel_rfl
theorem keyN {s : ByteArray} (hs : s.size ≤ maxLen) : keyOf Try.prog TS (.string s) = some (.string s.data.toList) 
    := WideMaps.keyOf_string_mk Try.underlying9 hs
/-- Block b is the directory l. -/
def Mp (w : World) (b : Nat) (l : Dr) : Prop := w.ownsMap Try.prog TS ptrR b l.length (dirD l)
theorem Mp.of {w : World} {b n : Nat} {l : Dr} (h : w.ownsMap Try.prog TS ptrR b n (dirD l)) : Mp w b l := by
  obtain ⟨es, clock, hb, F, _, hD⟩ := h
  refine ⟨es, clock, hb, F, ?_, hD⟩
  have e1 : Maps.size (dirD l) = l.length := dirD_size l
  rw [hD] at e1
  have e2 := length_read (P := Try.prog) (k := TS) (R0 := ptrR) es
  simp only [Maps.size] at e1
  omega
theorem Mp.lt {w : World} {b : Nat} {l : Dr} (h : Mp w b l) : b < w.heap.size := World.ownsMap.lt h
theorem Mp.heap {w w' : World} {b : Nat} {l : Dr} (h : Mp w b l) (e : w'.heap[b]? = w.heap[b]?) : Mp w' b l := by
  obtain ⟨es, clock, hb, r⟩ := h
  exact ⟨es, clock, e.trans hb, r⟩
theorem Mp.look_some {w : World} {b p : Nat} {l : Dr} {s : ByteArray} (h : Mp w b l) (hs : s.size ≤ maxLen) (hg : get l s.data.toList = some p) : (Instr.lookup TM (.map (some b)) (.string s) true).run Try.prog w = .ok (.tuple #[.pointer (some ⟨p, 0, none⟩), .bool true]) w := by
  obtain ⟨v, ps, hrun, hv⟩ := h.look_ok keyS undM (zeroF w) ptrR_none (keyN hs)
  rw [dirD_at_some hg] at hv
  rw [hrun, ptrR_inv hv, dirD_has, hg]
  rfl
theorem Mp.look_none {w : World} {b : Nat} {l : Dr} {s : ByteArray} (h : Mp w b l) (hs : s.size ≤ maxLen) (hg : get l s.data.toList = none) : (Instr.lookup TM (.map (some b)) (.string s) true).run Try.prog w = .ok (.tuple #[.pointer none, .bool false]) w := by
  obtain ⟨v, ps, hrun, hv⟩ := h.look_ok keyS undM (zeroF w) ptrR_none (keyN hs)
  rw [dirD_at_none hg] at hv
  rw [hrun, ptrR_inv_nil hv, dirD_has, hg]
  rfl
theorem Mp.look {w : World} {b p : Nat} {l : Dr} {s : ByteArray} (h : Mp w b l) (hs : s.size ≤ maxLen) (hg : get l s.data.toList = some p) : (Instr.lookup TM (.map (some b)) (.string s) false).run Try.prog w = .ok (.pointer (some ⟨p, 0, none⟩)) w := by
  obtain ⟨v, ps, hrun, hv⟩ := World.ownsMap.lookup h keyS undM (zeroF w) ptrR_none (keyN hs)
  rw [dirD_at_some hg] at hv
  rw [hrun, ptrR_inv hv]
theorem Mp.len {w : World} {b : Nat} {l : Dr} (h : Mp w b l) (ty : TypeId) : (Builtin.len_ #[TM] ty #[.map (some b)]).run Try.prog w = .ok (.int .i64 (l.length : Int)) w := by
  have := World.ownsMap.len h undM ty
  rw [dirD_size] at this
  exact this
theorem Mp.store {w : World} {b p : Nat} {l : Dr} {s : ByteArray} (h : Mp w b l) (hs : s.size ≤ maxLen) (hl : l.length < maxLen) :
    ∃ w', (Instr.mapUpdate TM (.map (some b)) (.string s) (.pointer (some ⟨p, 0, none⟩))).run Try.prog w = .ok () w' ∧ Mp w' b (dput l s.data.toList p) ∧ w.mapTurned w' b := by
  obtain ⟨w', hrun, ho, ht⟩ := World.ownsMap.store h keyS undM hl (keyN hs) (ptrR_some p)
  rw [dirD_put] at ho
  exact ⟨w', hrun, Mp.of ho, ht⟩
theorem Mp.drop {w : World} {b : Nat} {l : Dr} {s : ByteArray} (h : Mp w b l) (hs : s.size ≤ maxLen) (ty : TypeId) :
    ∃ w', (Builtin.delete_ #[TM, TS] ty #[.map (some b), .string s]).run Try.prog w = .ok (.tuple #[]) w' ∧ Mp w' b (ddel l s.data.toList) ∧ w.mapTurned w' b := by
  obtain ⟨w', hrun, ho, ht⟩ := World.ownsMap.drop h keyS undM (keyN hs) ty
  rw [dirD_del] at ho
  exact ⟨w', hrun, Mp.of ho, ht⟩
theorem Mp.made (w : World) : Mp (w.alloc (.map #[] 0)) w.heap.size [] := Mp.of (l := []) (World.ownsMap_made w _ _ _)
end Go.Proofs.Ytdelknejmapeaaa.Dk

/-
  A disk's own block; New, made, Up, refuse, find.
-/
namespace Go.Proofs.Ytdelknejmapeaaa.Dk
open Go.RowKit Go.Maps

/-- What a disk's own block holds. -/
structure Dc where
  most : Int
  up : Bool
  fm : Option Nat
  lm : Option Nat
  pd : Value
  am : Option Nat
  c0 : Int
  c1 : Int
  c2 : Int
  c3 : Int
  c4 : Int
  c5 : Int
  c6 : Int
  c7 : Int
  c8 : Int
def dcells (x : Dc) : Array Value := #[.int .i64 x.most, .bool x.up, .map x.fm, .map x.lm, x.pd, .map x.am, .int .i64 x.c0, .int .i64 x.c1, .int .i64 x.c2, .int .i64 x.c3, .int .i64 x.c4, .int .i64 x.c5, .int .i64 x.c6, .int .i64 x.c7, .int .i64 x.c8]
def TD : TypeId := 37
def Bx (w : World) (b : Nat) (x : Dc) : Prop := w.heap[b]? = some (.cells (dcells x) TD (0, 0))
/-- A disk by its pointer: nil, or a block. -/
def Dp (w : World) (v : Value) (x : Option Dc) : Prop :=
  (v = .pointer none ∧ x = none) ∨ ∃ b y, v = .pointer (some ⟨b, 0, none⟩) ∧ x = some y ∧ Bx w b y
def madeD (x : Option Dc) : Bool := match x with | none => false | some y => y.fm.isSome
def upD (x : Option Dc) : Bool := match x with | none => false | some y => y.fm.isSome && y.up
theorem Bx.cells {w : World} {b : Nat} {x : Dc} (h : Bx w b x) : w.cell? ⟨b, 0, none⟩ = some (.int .i64 x.most) ∧ w.cell? ⟨b, 1, none⟩ = some (.bool x.up) ∧ w.cell? ⟨b, 2, none⟩ = some (.map x.fm) ∧ w.cell? ⟨b, 3, none⟩ = some (.map x.lm) ∧ w.cell? ⟨b, 4, none⟩ = some x.pd ∧ w.cell? ⟨b, 5, none⟩ = some (.map x.am) := by
  have e := h
  unfold Bx at e
  simp [World.cell?, e, dcells]
theorem Bx.all {w : World} {b : Nat} {x : Dc} (h : Bx w b x) : w.cell? ⟨b, 13, none⟩ = some (.int .i64 x.c7) ∧ w.cell? ⟨b, 14, none⟩ = some (.int .i64 x.c8) := by
  have e := h
  unfold Bx at e
  simp [World.cell?, e, dcells]
theorem Bx.below {A B : World} {b : Nat} {x : Dc} (h : Bx A b x) (hb : Below A.heap.size A B) : Bx B b x := (hb.block b (heap_lt h)).trans h
theorem Dp.below {A B : World} {v : Value} {x : Option Dc} (h : Dp A v x) (hb : Below A.heap.size A B) : Dp B v x := by
  rcases h with h | ⟨b, y, h1, h2, h3⟩
  · exact .inl h
  · exact .inr ⟨b, y, h1, h2, h3.below hb⟩

theorem neqM (w : World) (r : Option Nat) : (binOp .neq 31 (.map r) (.map none)).run Try.prog w = .ok (.bool (!r.isNone)) w := run_neq_map_nil w _ _ _ r Try.underlying31
theorem made_any (w : World) (v : Value) (x : Option Dc) (h : Dp w v x) : Calls Try.prog 36 #[v] w fun e w' => e = .returned (.bool (madeD x)) ∧ w' = w := by
  have qT := neqM
  rcases h with ⟨rfl, rfl⟩ | ⟨b, y, rfl, rfl, hb⟩
  · go_enter Try.func36, Try.ntmps36
    go_wp2_with fail
    go_ret
    exact ⟨rfl, rfl⟩
  · have h2 := hb.cells.2.2.1
    clear hb
    obtain ⟨c0, c1, fm, c3, c4, c5, c6, c7, c8, c9, c10, c11, c12, c13, c14⟩ := y
    cases fm with
    | none =>
      dsimp only at h2
      go_enter Try.func36, Try.ntmps36
      go_wp2_with fail
      go_ret
      exact ⟨rfl, rfl⟩
    | some m =>
      dsimp only at h2
      go_enter Try.func36, Try.ntmps36
      go_wp2_with fail
      go_ret
      exact ⟨rfl, rfl⟩
theorem up_any (w : World) (v : Value) (x : Option Dc) (h : Dp w v x) : Calls Try.prog 18 #[v] w fun e w' => e = .returned (.bool (upD x)) ∧ w' = w := by
  have hm := made_any w v x h
  rcases h with ⟨rfl, rfl⟩ | ⟨b, y, rfl, rfl, hb⟩
  · go_enter Try.func18, Try.ntmps18
    go_wp2_with (go_at_call 36; refine hm.mono ?_; rintro e w1 ⟨rfl, rfl⟩; simp only [madeD])
    go_ret
    exact ⟨rfl, rfl⟩
  · have h2 := hb.cells.2.1
    clear hb
    obtain ⟨c0, c1, fm, c3, c4, c5, c6, c7, c8, c9, c10, c11, c12, c13, c14⟩ := y
    cases fm with
    | none =>
      dsimp only at h2
      go_enter Try.func18, Try.ntmps18
      go_wp2_with (go_at_call 36; refine hm.mono ?_; rintro e w1 ⟨rfl, rfl⟩; simp only [madeD, Option.isSome_none])
      go_ret
      exact ⟨rfl, rfl⟩
    | some m =>
      dsimp only at h2
      go_enter Try.func18, Try.ntmps18
      go_wp2_with (go_at_call 36; refine hm.mono ?_; rintro e w1 ⟨rfl, rfl⟩; simp only [madeD, Option.isSome_some])
      go_ret
      exact ⟨rfl, rfl⟩
end Go.Proofs.Ytdelknejmapeaaa.Dk

/-
  refuse, find; New.
-/
namespace Go.Proofs.Ytdelknejmapeaaa.Dk
open Go.RowKit Go.Maps Nm

/-- What refuse answers. -/
def refF (x : Option Dc) (L : List ByteArray) : Int := if upD x then (if L.all (fun s => may s.data.toList) then 0 else 24) else 22
theorem all_take {L : List ByteArray} {k : Nat} (hk : k < L.length) (h : (L.take k).all (fun s => may s.data.toList) = true) (h2 : may L[k].data.toList = true) : (L.take (k + 1)).all (fun s => may s.data.toList) = true := by
  rw [List.take_succ_eq_append_getElem hk, List.all_append, h]
  simp [h2]
theorem all_no {L : List ByteArray} {k : Nat} (hk : k < L.length) (h2 : may L[k].data.toList = false) : L.all (fun s => may s.data.toList) = false := by
  cases h : L.all (fun s => may s.data.toList) with
  | false => rfl
  | true => rw [List.all_eq_true] at h; have := h _ (List.getElem_mem hk); rw [h2] at this; exact absurd this (by simp)
theorem refuse_any (w : World) (d v : Value) (x : Option Dc) (L : List ByteArray) (h : Dp w d x) (hv : Row w v (L.map Value.string)) (hl : ∀ s ∈ L, s.size ≤ maxLen) :
    Calls Try.prog 34 #[d, v] w fun e w' => e = .returned (.int .i64 (refF x L)) ∧ w' = w := by
  have hu := up_any w d x h
  obtain ⟨ao, cap, rfl, _, h1, h2, h3⟩ := hv
  rw [List.length_map] at *
  obtain ⟨N, hN⟩ : ∃ N, Hid (L.length = N) := ⟨_, rfl⟩
  rw [hN.out] at h1 ⊢
  have i9 : (N : Int) ≤ 9223372036854775807 := by unfold maxLen at h2; omega
  clear h
  cases hx : upD x with
  | false =>
    rw [hx] at hu
    have hE : Hid (refF x L = 22) := by show _ = _; simp [refF, hx]
    rw [hE.out]
    clear h3 hl hx hE
    go_enter Try.func34, Try.ntmps34
    go_wp2_with (go_at_call 18; refine hu.mono ?_; rintro e w1 ⟨rfl, e1⟩; subst w1)
    go_ret
    exact ⟨rfl, rfl⟩
  | true =>
    rw [hx] at hu
    obtain ⟨E, hG⟩ : ∃ E, refF x L = E := ⟨_, rfl⟩
    have hE : Hid (E = if L.all (fun s => may s.data.toList) then 0 else 24) := by show _ = _; rw [← hG]; simp [refF, hx]
    rw [hG]
    replace h3 := hide h3
    replace hl := hide hl
    clear hx h2 hG
    go_enter Try.func34, Try.ntmps34
    go_wp2_with (go_at_call 18; refine hu.mono ?_; rintro e w1 ⟨rfl, e1⟩; subst w1)
    go_loop [12] (fun i => ∃ k : Nat, k ≤ N ∧ i = .int .i64 k ∧ Hid ((L.take k).all (fun s => may s.data.toList) = true)) (fun i => N - (intOf i).toNat)
    case atStart => exact ⟨0, Nat.zero_le _, rfl, rfl⟩
    case round =>
      obtain ⟨k, hk, rfl, ha⟩ := hrel
      by_cases hlt : k < N
      · have i1 : (k : Int) < (N : Int) := by omega
        have hkl : k < L.length := by rw [hN.out]; exact hlt
        obtain ⟨b, off, rfl, hc⟩ := h3.out k (by rw [List.length_map]; exact hkl)
        have hcell : w.cell? ⟨b, off + k, none⟩ = some (.string L[k]) := by rw [hc, List.getElem_map]
        have hm := may_any L[k] w (hl.out _ (List.getElem_mem hkl))
        have hA := hide (all_take hkl ha.out)
        have hB := hide (all_no hkl)
        clear hc h3
        generalize L[k] = s at *
        cases hmx : may s.data.toList with
        | true =>
          rw [hmx] at hm
          replace hA := hide (hA.out hmx)
          clear hB hmx
          go_wp2_with (go_at_call 53; refine hm.mono ?_; rintro e w' ⟨rfl, e1⟩; subst w')
          go_round
          case rel => exact ⟨k + 1, by omega, by go_num, hA.out⟩
          case measure => simp [intOf]; omega
        | false =>
          rw [hmx] at hm
          replace hB := hide (hB.out hmx)
          clear hA hmx
          go_wp2_with (go_at_call 53; refine hm.mono ?_; rintro e w' ⟨rfl, e1⟩; subst w')
          go_ret
          exact ⟨by rw [hE.out, hB.out]; rfl, rfl⟩
      · have i1 : ¬ (k : Int) < (N : Int) := by omega
        have hA : Hid (L.all (fun s => may s.data.toList) = true) := by
          have := ha.out
          rwa [List.take_of_length_le (by rw [hN.out]; omega)] at this
        clear h3
        go_wp2_with fail
        go_ret
        exact ⟨by rw [hE.out, hA.out]; rfl, rfl⟩
#print axioms refuse_any
/-- What find answers. -/
def findF (x : Option Dc) (l : Dr) (s : ByteArray) : Value × Int :=
  if refF x [s] = 0 then (match get l s.data.toList with | some p => (.pointer (some ⟨p, 0, none⟩), 0) | none => (.pointer none, 6)) else (.pointer none, refF x [s])
theorem row1 (w : World) (s : ByteArray) (T : TypeId) (z : Nat × Nat) : Row (w.alloc (.cells #[.string s] T z)) (.slice (some ⟨w.heap.size, 0, none⟩) 1 1) ([s].map Value.string) := by
  refine ⟨_, 1, rfl, fun e => by simp at e, Nat.le_refl _, by decide, fun i hi => ?_⟩
  obtain rfl : i = 0 := by simp at hi; omega
  refine ⟨_, _, rfl, ?_⟩
  unfold World.cell?
  simp only [Nat.zero_add, heap_alloc_new]
  rfl
theorem row0 (w : World) : Row w (.slice none 0 0) (([] : List ByteArray).map Value.string) := Row.nil w
theorem find_any (w : World) (d : Value) (x : Option Dc) (l : Dr) (s : ByteArray) (h : Dp w d x) (hs : s.size ≤ maxLen) (hl : ∀ y m, x = some y → y.fm = some m → Mp w m l) :
    Calls Try.prog 29 #[d, .string s] w fun e w' => e = .returned (.tuple #[(findF x l s).1, .int .i64 (findF x l s).2]) ∧ Below w.heap.size w w' := by
  have hr := refuse_any (w.alloc (.cells #[.string s] 9)) d _ x [s] (h.below ((Below.refl _ w).alloc (Nat.le_refl _) _)) (row1 w s _ _) (by simpa using hs)
  have hB := hide ((Below.refl _ w).alloc (Nat.le_refl _) (.cells #[.string s] 9))
  by_cases h0 : refF x [s] = 0
  · rw [h0] at hr
    rcases h with ⟨rfl, rfl⟩ | ⟨b, y, rfl, rfl, hb⟩
    · exact absurd h0 (by simp [refF, upD])
    · have h2 := hb.cells.2.2.1
      cases hf : y.fm with
      | none => exact absurd h0 (by simp [refF, upD, hf])
      | some m =>
        rw [hf] at h2
        have hm := hl y m rfl hf
        have hm2 : Mp (w.alloc (.cells #[.string s] 9)) m l := hm.heap (Below.heap_alloc _ _ _ hm.lt)
        have h3 : (w.alloc (.cells #[.string s] 9)).cell? ⟨b, 2, none⟩ = some (.map (some m)) := by rw [hB.out.cell (p := ⟨b, 2, none⟩) (lt_of_cell h2)]; exact h2
        obtain ⟨E, hE⟩ : ∃ E, Hid (findF (some y) l s = E) := ⟨_, rfl⟩
        rw [hE.out]
        cases hg : get l s.data.toList with
        | none =>
          have hK : Hid (E = (.pointer none, 6)) := by show _ = _; rw [← hE.out]; simp [findF, h0, hg]
          have hL := hm2.look_none hs hg
          unfold TM at hL
          clear hm hm2 hl hf hg h0 hb h2 hE
          go_enter Try.func29, Try.ntmps29
          go_wp2_with (go_at_call 34; refine hr.mono ?_; rintro e w1 ⟨rfl, e1⟩; subst w1)
          go_ret2
          exact ⟨by rw [hK.out]; rfl, hB.out⟩
        | some p =>
          have hK : Hid (E = (.pointer (some ⟨p, 0, none⟩), 0)) := by show _ = _; rw [← hE.out]; simp [findF, h0, hg]
          have hL := hm2.look_some hs hg
          unfold TM at hL
          clear hm hm2 hl hf hg h0 hb h2 hE
          go_enter Try.func29, Try.ntmps29
          go_wp2_with (go_at_call 34; refine hr.mono ?_; rintro e w1 ⟨rfl, e1⟩; subst w1)
          go_ret2
          exact ⟨by rw [hK.out]; rfl, hB.out⟩
  · obtain ⟨E, hE⟩ : ∃ E, Hid (findF x l s = E) := ⟨_, rfl⟩
    obtain ⟨r, hR⟩ : ∃ r, refF x [s] = r := ⟨_, rfl⟩
    have hK : Hid (E = (.pointer none, r)) := by show _ = _; rw [← hE.out, ← hR]; simp [findF, h0]
    rw [hE.out]
    rw [hR] at hr h0
    have h0' : (r != 0) = true := by simpa using h0
    clear hE hl h hR h0
    go_enter Try.func29, Try.ntmps29
    go_wp2_with (go_at_call 34; refine hr.mono ?_; rintro e w1 ⟨rfl, e1⟩; subst w1)
    go_ret2
    exact ⟨by rw [hK.out]; rfl, hB.out⟩
#print axioms find_any
end Go.Proofs.Ytdelknejmapeaaa.Dk

/-
  The faults that are armed: a map from numbers to faults, as a list of pairs; its laws.
-/
namespace Go.Proofs.Ytdelknejmapeaaa.Dk
open Go.RowKit Go.Maps

/-- A fault: At, Kind, Part. -/
abbrev Ft := Int × Int × Int
def fv (f : Ft) : Value := .agg #[.int .i64 f.1, .int .i64 f.2.1, .int .i64 f.2.2]
def fd (f : Ft) : DataW Unit := .agg [.lit (.int .i64 f.1), .lit (.int .i64 f.2.1), .lit (.int .i64 f.2.2)]
def faultR : Value → Option (DataW Unit × List MemPlace)
  | .agg ⟨[.int .i64 a, .int .i64 k, .int .i64 p]⟩ => some (fd (a, k, p), [])
  | _ => none
theorem faultR_fv (f : Ft) : faultR (fv f) = some (fd f, []) := rfl
theorem faultR_inv {v : Value} {f : Ft} {ps : List MemPlace} (h : faultR v = some (fd f, ps)) : v = fv f := by
  unfold faultR at h
  split at h
  · rename_i a k p
    simp [fd] at h
    obtain ⟨⟨h1, h2, h3⟩, _⟩ := h
    subst h1 h2 h3
    rfl
  · simp at h
abbrev Ar := List (Int × Ft)
def aent (p : Int × Ft) : Lit × DataW Unit := (.int .i64 p.1, fd p.2)
def armD (l : Ar) : DataW Unit := .map (l.map aent)
def aget (l : Ar) (n : Int) : Option Ft := (l.find? fun p => p.1 == n).map (·.2)
def ains (x : Int × Ft) : Ar → Ar
  | [] => [x]
  | y :: r => if x.1 < y.1 then x :: y :: r else y :: ains x r
def adel (l : Ar) (n : Int) : Ar := l.filter fun p => !(p.1 == n)
def aput (l : Ar) (n : Int) (f : Ft) : Ar := ains (n, f) (adel l n)
theorem insert_aent (x : Int × Ft) : ∀ l : Ar, DataW.insert (aent x) (l.map aent) = (ains x l).map aent := by
  intro l
  induction l with
  | nil => rfl
  | cons y r ih =>
    simp only [List.map_cons, DataW.insert, ains]
    have e : (aent x).1.before (aent y).1 = decide (x.1 < y.1) := rfl
    rw [e]
    by_cases h : x.1 < y.1
    · simp [h]
    · simp [h, ih]
theorem same_aent (n : Int) (p : Int × Ft) : (aent p).1.sameKey (.int .i64 n) = (p.1 == n) := by
  unfold aent Lit.sameKey
  simp
  rfl
theorem filter_aent (l : Ar) (n : Int) : (l.map aent).filter (fun p => !p.1.sameKey (.int .i64 n)) = (adel l n).map aent := by
  unfold adel
  rw [List.filter_map]
  congr 1
  apply List.filter_congr
  intro p _
  simp only [Function.comp, same_aent]
theorem armD_del (l : Ar) (n : Int) : (armD l).del (.int .i64 n) = armD (adel l n) := by
  show DataW.map _ = DataW.map _
  rw [filter_aent]
theorem armD_put (l : Ar) (n : Int) (f : Ft) : (armD l).put (.int .i64 n) (fd f) = armD (aput l n f) := by
  show DataW.map _ = DataW.map _
  rw [filter_aent]
  exact congrArg DataW.map (insert_aent (n, f) (adel l n))
theorem find_aent (l : Ar) (n : Int) : (l.map aent).find? (fun p => p.1.sameKey (.int .i64 n)) = (l.find? fun p => p.1 == n).map aent := by
  rw [List.find?_map]
  have : ((fun p : Lit × DataW Unit => p.1.sameKey (.int .i64 n)) ∘ aent) = fun p => p.1 == n := funext fun p => same_aent n p
  rw [this]
def zf : Ft := (0, 0, 0)
theorem armD_at (l : Ar) (n : Int) : (armD l).atKey (.int .i64 n) (fd zf) = fd ((aget l n).getD zf) := by
  unfold armD DataW.atKey aget
  simp only []
  rw [find_aent]
  cases l.find? fun p => p.1 == n with
  | none => rfl
  | some p => rfl
theorem armD_has (l : Ar) (n : Int) : Maps.has (armD l) (.int .i64 n) = (aget l n).isSome := by
  unfold aget
  show (l.map aent).any (fun p => p.1.sameKey (.int .i64 n)) = _
  rw [List.any_map]
  induction l with
  | nil => rfl
  | cons y r ih =>
    simp only [List.any_cons, List.find?_cons]
    have e : ((fun p : Lit × DataW Unit => p.1.sameKey (.int .i64 n)) ∘ aent) y = (y.1 == n) := same_aent n y
    rw [e]
    cases hy : (y.1 == n)
    · simp only [Bool.false_or]; exact ih
    · rfl
theorem armD_size (l : Ar) : Maps.size (armD l) = l.length := by simp [Maps.size, armD]
def TA : TypeId := 33
def TI : TypeId := 2
theorem keyI : Keyed Try.prog TI := int_keyed Try.underlying2
theorem undA : Try.prog.underlying TA = some (.map TI 77) := Try.underlying33
theorem zeroFt (w : World) : (zeroValue 77).run Try.prog w = .ok (fv zf) w := by kernel_rfl
theorem keyNum {n : Int} (h0 : -9223372036854775808 ≤ n) (h1 : n ≤ 9223372036854775807) : keyOf Try.prog TI (.int .i64 n) = some (.int .i64 n) :=
  keyOf_int_mk Try.underlying2 (by have e1 : IntKind.i64.min = -9223372036854775808 := rfl; have e2 : IntKind.i64.max = 9223372036854775807 := rfl; simp [Lit.wf, e1, e2]; omega)
/-- Block b is the armed faults l. -/
def Am (w : World) (b : Nat) (l : Ar) : Prop := w.ownsMap Try.prog TI faultR b l.length (armD l)
theorem Am.of {w : World} {b n : Nat} {l : Ar} (h : w.ownsMap Try.prog TI faultR b n (armD l)) : Am w b l := by
  obtain ⟨es, clock, hb, F, _, hD⟩ := h
  refine ⟨es, clock, hb, F, ?_, hD⟩
  have e1 : Maps.size (armD l) = l.length := armD_size l
  rw [hD] at e1
  have e2 := length_read (P := Try.prog) (k := TI) (R0 := faultR) es
  simp only [Maps.size] at e1
  omega
theorem Am.lt {w : World} {b : Nat} {l : Ar} (h : Am w b l) : b < w.heap.size := World.ownsMap.lt h
theorem Am.heap {w w' : World} {b : Nat} {l : Ar} (h : Am w b l) (e : w'.heap[b]? = w.heap[b]?) : Am w' b l := by
  obtain ⟨es, clock, hb, r⟩ := h
  exact ⟨es, clock, e.trans hb, r⟩
theorem Am.look {w : World} {b : Nat} {l : Ar} {n : Int} (h : Am w b l) (h0 : -9223372036854775808 ≤ n) (h1 : n ≤ 9223372036854775807) : (Instr.lookup TA (.map (some b)) (.int .i64 n) false).run Try.prog w = .ok (fv ((aget l n).getD zf)) w := by
  obtain ⟨v, ps, hrun, hv⟩ := World.ownsMap.lookup h keyI undA (zeroFt w) (faultR_fv zf) (keyNum h0 h1)
  rw [armD_at] at hv
  rw [hrun, faultR_inv hv]
theorem Am.look_ok {w : World} {b : Nat} {l : Ar} {n : Int} (h : Am w b l) (h0 : -9223372036854775808 ≤ n) (h1 : n ≤ 9223372036854775807) : (Instr.lookup TA (.map (some b)) (.int .i64 n) true).run Try.prog w = .ok (.tuple #[fv ((aget l n).getD zf), .bool (aget l n).isSome]) w := by
  obtain ⟨v, ps, hrun, hv⟩ := World.ownsMap.look_ok h keyI undA (zeroFt w) (faultR_fv zf) (keyNum h0 h1)
  rw [armD_at] at hv
  rw [hrun, faultR_inv hv, armD_has]
theorem look_nilA (w : World) {n : Int} (h0 : -9223372036854775808 ≤ n) (h1 : n ≤ 9223372036854775807) : (Instr.lookup TA (.map none) (.int .i64 n) false).run Try.prog w = .ok (fv zf) w :=
  Maps.look_nil false keyI undA (zeroFt w) (keyNum h0 h1)
theorem drop_nilA (w : World) {n : Int} (h0 : -9223372036854775808 ≤ n) (h1 : n ≤ 9223372036854775807) (ty : TypeId) : (Builtin.delete_ #[TA, TI] ty #[.map none, .int .i64 n]).run Try.prog w = .ok (.tuple #[]) w :=
  Maps.drop_nil keyI undA (keyNum h0 h1) ty
theorem Am.store {w : World} {b : Nat} {l : Ar} {n : Int} {f : Ft} (h : Am w b l) (h0 : -9223372036854775808 ≤ n) (h1 : n ≤ 9223372036854775807) (hl : l.length < maxLen) :
    ∃ w', (Instr.mapUpdate TA (.map (some b)) (.int .i64 n) (fv f)).run Try.prog w = .ok () w' ∧ Am w' b (aput l n f) ∧ w.mapTurned w' b := by
  obtain ⟨w', hrun, ho, ht⟩ := World.ownsMap.store h keyI undA hl (keyNum h0 h1) (faultR_fv f)
  rw [armD_put] at ho
  exact ⟨w', hrun, Am.of ho, ht⟩
theorem Am.drop {w : World} {b : Nat} {l : Ar} {n : Int} (h : Am w b l) (h0 : -9223372036854775808 ≤ n) (h1 : n ≤ 9223372036854775807) (ty : TypeId) :
    ∃ w', (Builtin.delete_ #[TA, TI] ty #[.map (some b), .int .i64 n]).run Try.prog w = .ok (.tuple #[]) w' ∧ Am w' b (adel l n) ∧ w.mapTurned w' b := by
  obtain ⟨w', hrun, ho, ht⟩ := World.ownsMap.drop h keyI undA (keyNum h0 h1) ty
  rw [armD_del] at ho
  exact ⟨w', hrun, Am.of ho, ht⟩
theorem Am.made (w : World) : Am (w.alloc (.map #[] 0)) w.heap.size [] := Am.of (l := []) (World.ownsMap_made w _ _ _)
theorem turned_but {w w' : World} {b : Nat} (h : w.mapTurned w' b) : But (fun k => k = b) w w' := But.of_grownBy h.grown fun k e => by cases e; rfl
end Go.Proofs.Ytdelknejmapeaaa.Dk

/-
  begin, strike, strikeRoomless.
-/
namespace Go.Proofs.Ytdelknejmapeaaa.Dk
open Go.RowKit Go.Maps Nm

/-- How begin goes: the disk's cells are cs, the answer's block is rb. -/
structure Sb (w u : World) (b rb : Nat) (cs : Array Value) (am : Option Nat) (al : Ar) (f : Ft) : Prop where
  box : u.heap[b]? = some (.cells cs TD (0, 0))
  ans : u.heap[rb]? = some (.cells #[.int .i64 f.1, .int .i64 f.2.1, .int .i64 f.2.2] 77 (0, 0))
  arm : ∀ m, am = some m → Am u m al
  but : But (fun k => k = b ∨ am = some k) w u
  lo : w.heap.size ≤ rb
theorem Sb.ne {w u : World} {b rb : Nat} {cs : Array Value} {am : Option Nat} {al : Ar} {f : Ft} (h : Sb w u b rb cs am al f) : b ≠ rb := by
  intro e
  have h1 := h.box
  rw [e, h.ans] at h1
  simp [TD] at h1
theorem Am.setCell {u : World} {m : Nat} {al : Ar} (h : Am u m al) {b j : Nat} {v : Value} (hb : b ≠ m) : Am (u.setCell ⟨b, j, none⟩ v) m al := h.heap ((grown_setCell u b j v).block m h.lt (by simpa using fun e => hb e.symm))
theorem Am.ne {u : World} {m b : Nat} {al : Ar} {cs : Array Value} {T : TypeId} {z : Nat × Nat} (h : Am u m al) (hb : u.heap[b]? = some (.cells cs T z)) : b ≠ m := by
  rintro rfl
  obtain ⟨es, clock, h, _⟩ := h
  rw [hb] at h
  cases h
theorem Sb.set {w u : World} {b rb : Nat} {cs : Array Value} {am : Option Nat} {al : Ar} {f : Ft} (h : Sb w u b rb cs am al f) (j : Nat) (v : Value) : Sb w (u.setCell ⟨b, j, none⟩ v) b rb (cs.setIfInBounds j v) am al f := by
  have g := grown_setCell u b j v
  refine ⟨heap_setCell_same _ _ _ _ _ _ h.box, ?_, fun m e => ((h.arm m e)).setCell ((h.arm m e).ne h.box), h.but.trans (But.of_grownBy g fun k e => by cases e; exact .inl rfl), h.lo⟩
  rw [g.block rb (heap_lt h.ans) (by simpa using fun e => h.ne e.symm)]
  exact h.ans
theorem Sb.start {w : World} {b : Nat} {cs : Array Value} {am : Option Nat} {al : Ar} (hb : w.heap[b]? = some (.cells cs TD (0, 0))) (hm : ∀ m, am = some m → Am w m al) :
    Sb w (w.alloc (.cells #[.int .i64 0, .int .i64 0, .int .i64 0] 77)) b w.heap.size cs am al zf := by
  have hB := (Below.refl _ w).alloc (Nat.le_refl _) (.cells #[.int .i64 0, .int .i64 0, .int .i64 0] 77)
  exact ⟨(hB.block b (heap_lt hb)).trans hb, heap_alloc_new _ _, fun m e => (hm m e).heap (hB.block m (hm m e).lt), But.of_below hB _, Nat.le_refl _⟩
theorem Sb.more {w u u' : World} {b rb : Nat} {cs : Array Value} {am : Option Nat} {al : Ar} {f : Ft} (h : Sb w u b rb cs am al f) (hB : Below u.heap.size u u') : Sb w u' b rb cs am al f :=
  ⟨(hB.block b (heap_lt h.box)).trans h.box, (hB.block rb (heap_lt h.ans)).trans h.ans, fun m e => (h.arm m e).heap (hB.block m (h.arm m e).lt), h.but.trans (But.of_below hB _), h.lo⟩
theorem Sb.cell {w u : World} {b rb : Nat} {cs : Array Value} {am : Option Nat} {al : Ar} {f : Ft} (h : Sb w u b rb cs am al f) (i : Nat) : u.cell? ⟨b, i, none⟩ = cs[i]? := by simp [World.cell?, h.box]
theorem Sb.frozen {w u : World} {b rb : Nat} {cs : Array Value} {am : Option Nat} {al : Ar} {f : Ft} (h : Sb w u b rb cs am al f) (i : Nat) : u.frozen? ⟨b, i, none⟩ = false := by simp [World.frozen?, h.box]

theorem Sb.put {w u : World} {b rb : Nat} {cs : Array Value} {am : Option Nat} {al : Ar} {g : Ft} (h : Sb w u b rb cs am al g) (f : Ft) :
    Sb w (((u.setCell ⟨rb, 0, none⟩ (.int .i64 f.1)).setCell ⟨rb, 1, none⟩ (.int .i64 f.2.1)).setCell ⟨rb, 2, none⟩ (.int .i64 f.2.2)) b rb cs am al f := by
  have g0 := grown_setCell u rb 0 (.int .i64 f.1)
  have g1 := grown_setCell (u.setCell ⟨rb, 0, none⟩ (.int .i64 f.1)) rb 1 (.int .i64 f.2.1)
  have g2 := grown_setCell ((u.setCell ⟨rb, 0, none⟩ (.int .i64 f.1)).setCell ⟨rb, 1, none⟩ (.int .i64 f.2.1)) rb 2 (.int .i64 f.2.2)
  have B := ((But.of_grownBy (X := fun k => k = rb) g0 fun k e => by cases e; rfl).trans (But.of_grownBy g1 fun k e => by cases e; rfl)).trans (But.of_grownBy g2 fun k e => by cases e; rfl)
  have z0 := heap_setCell_same u rb 0 _ _ (.int .i64 f.1) h.ans
  have z1 := heap_setCell_same _ rb 1 _ _ (.int .i64 f.2.1) z0
  have z2 := heap_setCell_same _ rb 2 _ _ (.int .i64 f.2.2) z1
  refine ⟨B.at h.box h.ne, by simpa using z2, fun m e => (h.arm m e).heap (B.block m (h.arm m e).lt (fun q => (h.arm m e).ne h.ans q.symm)), ?_, h.lo⟩
  have lo := h.lo
  exact ⟨B.os.trans h.but.os, B.tape.trans h.but.tape, B.output.trans h.but.output, Nat.le_trans h.but.size B.size, fun k hk hx => (B.block k (Nat.lt_of_lt_of_le hk h.but.size) (by omega)).trans (h.but.block k hk hx)⟩
theorem cells3 {w : World} {b : Nat} {a0 a1 a2 : Value} {T : TypeId} {z : Nat × Nat} (h : w.heap[b]? = some (.cells #[a0, a1, a2] T z)) : w.cell? ⟨b, 0, none⟩ = some a0 ∧ w.cell? ⟨b, 1, none⟩ = some a1 ∧ w.cell? ⟨b, 2, none⟩ = some a2 := by simp [World.cell?, h]
theorem frozen3 {w : World} {b : Nat} {a0 a1 a2 : Value} {T : TypeId} (h : w.heap[b]? = some (.cells #[a0, a1, a2] T (0, 0))) : w.frozen? ⟨b, 0, none⟩ = false ∧ w.frozen? ⟨b, 1, none⟩ = false ∧ w.frozen? ⟨b, 2, none⟩ = false := by simp [World.frozen?, h]
set_option maxHeartbeats 1000000 in
theorem begin_gen (w : World) (b j : Nat) (cs : Array Value) (c a : Int) (am : Option Nat) (al : Ar) (hb : w.heap[b]? = some (.cells cs TD (0, 0))) (hz : cs.size = 15) (hj : j < 7)
    (h1 : cs[6 + j]? = some (.int .i64 c)) (h2 : cs[13]? = some (.int .i64 a)) (h3 : cs[5]? = some (.map am)) (hm : ∀ m, am = some m → Am w m al) (hn : am = none → al = [])
    (c0 : 0 ≤ c) (c1 : c < 4611686018427387904) (a0 : 0 ≤ a) (a1 : a < 4611686018427387904) :
    Calls Try.prog 30 #[.pointer (some ⟨b, 0, none⟩), .pointer (some ⟨b, 6 + j, none⟩)] w fun e w' => e = .returned (fv ((aget al (a + 1)).getD zf)) ∧
      w'.heap[b]? = some (.cells ((cs.setIfInBounds (6 + j) (.int .i64 (c + 1))).setIfInBounds 13 (.int .i64 (a + 1))) TD (0, 0)) ∧ (∀ m, am = some m → Am w' m (adel al (a + 1))) ∧ But (fun k => k = b ∨ am = some k) w w' := by
  obtain ⟨f, hf⟩ : ∃ f, Hid ((aget al (a + 1)).getD zf = f) := ⟨_, rfl⟩
  rw [hf.out]
  have S0 := hide (Sb.start (am := am) hb hm)
  obtain ⟨u0, hu0⟩ : ∃ u0, Hid (w.alloc (.cells #[.int .i64 0, .int .i64 0, .int .i64 0] 77) = u0) := ⟨_, rfl⟩
  rw [hu0.out] at S0
  have k1 : u0.cell? ⟨b, 6 + j, none⟩ = some (.int .i64 c) := (S0.out.cell _).trans h1
  have k2 := S0.out.frozen (6 + j)
  replace hm := hide hm
  replace hb := hide hb
  replace hn := hide hn
  clear h1
  go_enter Try.func30, Try.ntmps30
  go_upto_region 1 with fail
  rw [hu0.out]
  go_upto_region 2 with fail
  have S1 := hide (S0.out.set (6 + j) (.int .i64 (c + 1)))
  generalize u0.setCell ⟨b, 6 + j, none⟩ (.int .i64 (c + 1)) = u1 at *
  obtain ⟨cs1, hc1⟩ : ∃ cs1, Hid (cs.setIfInBounds (6 + j) (.int .i64 (c + 1)) = cs1) := ⟨_, rfl⟩
  rw [hc1.out] at S1
  have g2 : cs1[13]? = some (.int .i64 a) := by rw [← hc1.out, Array.getElem?_setIfInBounds_ne (by omega)]; exact h2
  have g3 : cs1[5]? = some (.map am) := by rw [← hc1.out, Array.getElem?_setIfInBounds_ne (by omega)]; exact h3
  have g4 : cs1.size = 15 := by rw [← hc1.out]; simpa using hz
  have l1 : u1.cell? ⟨b, 13, none⟩ = some (.int .i64 a) := (S1.out.cell _).trans g2
  have l2 := S1.out.frozen 13
  clear k1 k2 S0 hu0 h2 h3 hz
  go_upto_region 3 with fail
  have S2 := hide (S1.out.set 13 (.int .i64 (a + 1)))
  generalize u1.setCell ⟨b, 13, none⟩ (.int .i64 (a + 1)) = u2 at *
  obtain ⟨cs2, hc2⟩ : ∃ cs2, Hid (cs1.setIfInBounds 13 (.int .i64 (a + 1)) = cs2) := ⟨_, rfl⟩
  rw [hc2.out] at S2
  have g5 : cs2[13]? = some (.int .i64 (a + 1)) := by rw [← hc2.out, Array.getElem?_setIfInBounds_self_of_lt (by omega)]
  have g6 : cs2[5]? = some (.map am) := by rw [← hc2.out, Array.getElem?_setIfInBounds_ne (by omega)]; exact g3
  have m1 : u2.cell? ⟨b, 13, none⟩ = some (.int .i64 (a + 1)) := (S2.out.cell _).trans g5
  have m2 : u2.cell? ⟨b, 5, none⟩ = some (.map am) := (S2.out.cell _).trans g6
  clear l1 l2 S1 g2 g3 g4
  have hG : ∀ q : World, (∀ m, am = some m → Am q m al) → (Instr.lookup 33 (.map am) (.int .i64 (a + 1)) false).run Try.prog q = .ok (.agg #[.int .i64 f.1, .int .i64 f.2.1, .int .i64 f.2.2]) q := by
    intro q hq
    cases am with
    | none => have := look_nilA q (n := a + 1) (by omega) (by omega); have hq := hf.out; rw [hn.out rfl] at hq; simp [aget] at hq; rw [← hq]; exact this
    | some m => have := (hq m rfl).look (n := a + 1) (by omega) (by omega); rw [hf.out] at this; exact this
  have L1 := hG u2.drew fun m e => S2.out.arm m e
  have L2 := hG (u2.alloc (.cells #[.int .i64 0, .int .i64 0, .int .i64 0] 77)).drew fun m e => (S2.out.arm m e).heap (by show (u2.alloc _).heap[m]? = _; exact Below.heap_alloc _ _ _ (S2.out.arm m e).lt)
  have n1 : (u2.alloc (.cells #[.int .i64 0, .int .i64 0, .int .i64 0] 77)).cell? ⟨b, 13, none⟩ = some (.int .i64 (a + 1)) := by rw [((Below.refl _ u2).alloc (Nat.le_refl _) _).cell (p := ⟨b, 13, none⟩) (lt_of_cell m1)]; exact m1
  have n2 : (u2.alloc (.cells #[.int .i64 0, .int .i64 0, .int .i64 0] 77)).cell? ⟨b, 5, none⟩ = some (.map am) := by rw [((Below.refl _ u2).alloc (Nat.le_refl _) _).cell (p := ⟨b, 5, none⟩) (lt_of_cell m2)]; exact m2
  replace hG := hide hG
  go_upto_region 3 with fail
  go_region
  all_goals
    have S3 : Hid (Sb w (u2.alloc (.cells #[.int .i64 f.1, .int .i64 f.2.1, .int .i64 f.2.2] 77)).drew b w.heap.size cs2 am al zf) := S2.out.more (((Below.refl _ u2).alloc (Nat.le_refl _) _).drew)
    have F3 : Hid ((u2.alloc (.cells #[.int .i64 f.1, .int .i64 f.2.1, .int .i64 f.2.2] 77)).drew.heap[u2.heap.size]? = some (.cells #[.int .i64 f.1, .int .i64 f.2.1, .int .i64 f.2.2] 77 (0, 0))) := heap_alloc_new u2 _
    have Z3 : Hid (w.heap.size < u2.heap.size) := heap_lt S2.out.ans
    generalize (u2.alloc (.cells #[.int .i64 f.1, .int .i64 f.2.1, .int .i64 f.2.2] 77)).drew = u3 at *
    have m3 : u3.cell? ⟨b, 13, none⟩ = some (.int .i64 (a + 1)) := (S3.out.cell _).trans g5
    have m4 : u3.cell? ⟨b, 5, none⟩ = some (.map am) := (S3.out.cell _).trans g6
    clear L1 L2 n1 n2 m1 m2 hG S2 g5 g6
    obtain ⟨u4, hD, S4, F4⟩ : ∃ u4, (Builtin.delete_ #[33, 2] 0 #[.map am, .int .i64 (a + 1)]).run Try.prog u3.drew = .ok (.tuple #[]) u4 ∧ Hid (Sb w u4 b w.heap.size cs2 am (adel al (a + 1)) zf) ∧ Hid (u4.heap[u2.heap.size]? = some (.cells #[.int .i64 f.1, .int .i64 f.2.1, .int .i64 f.2.2] 77 (0, 0))) := by
      cases am with
      | none => exact ⟨u3.drew, drop_nilA u3.drew (by omega) (by omega) 0, by have q := S3.out.more (Below.refl _ u3).drew; rw [hn.out rfl] at q ⊢; exact q, F3.out⟩
      | some m =>
        have hA : Am u3.drew m al := S3.out.arm m rfl
        obtain ⟨u4, hr, h4, ht⟩ := hA.drop (n := a + 1) (by omega) (by omega) 0
        refine ⟨u4, hr, ⟨?_, ?_, fun m' e => by cases e; exact h4, ?_, S3.out.lo⟩, ?_⟩
        · exact (turned_but ht).at (k := b) S3.out.box ((S3.out.arm m rfl).ne S3.out.box)
        · exact (turned_but ht).at (k := w.heap.size) S3.out.ans ((S3.out.arm m rfl).ne S3.out.ans)
        · exact (S3.out.more (Below.refl _ u3).drew).but.trans ((turned_but ht).mono fun k _ e => .inr (by rw [e]))
        · exact (turned_but ht).at (k := u2.heap.size) F3.out ((S3.out.arm m rfl).ne F3.out)
    go_upto_region 4 with fail
    go_region
    obtain ⟨x0, x1, x2⟩ := cells3 F4.out
    obtain ⟨y0, y1, y2⟩ := cells3 S4.out.ans
    obtain ⟨r0, r1, r2⟩ := frozen3 S4.out.ans
    go_wp2_with fail
    have S5 := hide (S4.out.put f)
    generalize ((u4.setCell ⟨w.heap.size, 0, none⟩ (.int .i64 f.1)).setCell ⟨w.heap.size, 1, none⟩ (.int .i64 f.2.1)).setCell ⟨w.heap.size, 2, none⟩ (.int .i64 f.2.2) = u5 at *
    clear x0 x1 x2 y0 y1 y2 r0 r1 r2 S4 F4
    obtain ⟨x0, x1, x2⟩ := cells3 S5.out.ans
    refine bodyPost_ret (v := fv f) (by simp [results, Try.results30, go_sem, x0, x1, x2]; try rfl) rfl ?_
    exact ⟨rfl, by rw [hc1.out, hc2.out]; exact S5.out.box, S5.out.arm, S5.out.but⟩
#print axioms begin_gen
end Go.Proofs.Ytdelknejmapeaaa.Dk

/-
  strike, strikeRoomless.
-/
namespace Go.Proofs.Ytdelknejmapeaaa.Dk
open Go.RowKit Go.Maps Nm

/-- What a fault of kind k answers. -/
def strF (k : Int) : Int := if k = 1 then 20 else if k = 2 then 21 else if k = 3 then 22 else 0
/-- .. and leaves of the disk. -/
def strC (k : Int) (cs : Array Value) : Array Value := if k = 3 then cs.setIfInBounds 1 (.bool false) else cs
theorem strike_any (w : World) (b : Nat) (cs : Array Value) (f : Ft) (hb : w.heap[b]? = some (.cells cs TD (0, 0))) (h1 : ∃ u, cs[1]? = some u) (hk : f.2.1 ≠ 4) :
    Calls Try.prog 32 #[.pointer (some ⟨b, 0, none⟩), fv f] w fun e w' => e = .returned (.int .i64 (strF f.2.1)) ∧ w'.heap[b]? = some (.cells (strC f.2.1 cs) TD (0, 0)) ∧ But (fun k => k = b) w w' := by
  obtain ⟨a, k, p⟩ := f
  obtain ⟨u, h1⟩ := h1
  dsimp only at hk ⊢
  have hB := hide ((Below.refl _ w).alloc (Nat.le_refl _) (.cells #[.int .i64 a, .int .i64 k, .int .i64 p] 77))
  have hN : Hid ((w.alloc (.cells #[.int .i64 a, .int .i64 k, .int .i64 p] 77)).heap[w.heap.size]? = some (.cells #[.int .i64 a, .int .i64 k, .int .i64 p] 77 (0, 0))) := heap_alloc_new _ _
  obtain ⟨w1, hw1⟩ : ∃ w1, Hid (w.alloc (.cells #[.int .i64 a, .int .i64 k, .int .i64 p] 77) = w1) := ⟨_, rfl⟩
  rw [hw1.out] at hB hN
  have hb1 : w1.heap[b]? = some (.cells cs TD (0, 0)) := (hB.out.block b (heap_lt hb)).trans hb
  obtain ⟨x0, x1, x2⟩ := cells3 hN.out
  have y1 : w1.cell? ⟨b, 1, none⟩ = some u := by simp [World.cell?, hb1, h1]
  have y2 : w1.frozen? ⟨b, 1, none⟩ = false := by simp [World.frozen?, hb1]
  have hG := hide (But.of_grownBy (X := fun k => k = b) (grown_setCell w1 b 1 (.bool false)) fun k e => by cases e; rfl)
  have hC := hide (heap_setCell_same w1 b 1 _ _ (.bool false) hb1)
  replace hb1 := hide hb1
  unfold fv
  dsimp only
  obtain ⟨E, hE⟩ : ∃ E, Hid (strF k = E) := ⟨_, rfl⟩
  obtain ⟨C, hC0⟩ : ∃ C, Hid (strC k cs = C) := ⟨_, rfl⟩
  rw [hE.out, hC0.out]
  clear hb h1
  by_cases k1 : k = 1
  · subst k1
    go_enter Try.func32, Try.ntmps32
    go_upto_region 1 with fail
    rw [hw1.out]
    go_wp2_with fail
    go_ret
    exact ⟨by rw [← hE.out]; rfl, by rw [← hC0.out]; exact hb1.out, But.of_below hB.out _⟩
  have k1' : (k == 1) = false := by simpa using k1
  by_cases k2 : k = 2
  · subst k2
    go_enter Try.func32, Try.ntmps32
    go_upto_region 1 with fail
    rw [hw1.out]
    go_wp2_with fail
    go_ret
    exact ⟨by rw [← hE.out]; rfl, by rw [← hC0.out]; exact hb1.out, But.of_below hB.out _⟩
  have k2' : (k == 2) = false := by simpa using k2
  by_cases k3 : k = 3
  · subst k3
    go_enter Try.func32, Try.ntmps32
    go_upto_region 1 with fail
    rw [hw1.out]
    go_wp2_with fail
    go_ret
    exact ⟨by rw [← hE.out]; rfl, by rw [← hC0.out]; exact hC.out, (But.of_below hB.out _).trans hG.out⟩
  have k3' : (k == 3) = false := by simpa using k3
  have k4' : (k == 4) = false := by simpa using hk
  have e1 : Hid (E = 0) := by show _ = _; rw [← hE.out]; simp [strF, k1, k2, k3]
  have e2 : Hid (C = cs) := by show _ = _; rw [← hC0.out]; simp [strC, k3]
  clear hE hC0
  go_enter Try.func32, Try.ntmps32
  go_upto_region 1 with fail
  rw [hw1.out]
  go_wp2_with fail
  go_ret
  exact ⟨by rw [e1.out]; rfl, by rw [e2.out]; exact hb1.out, But.of_below hB.out _⟩
#print axioms strike_any
/-- strikeRoomless: that the disk is full keeps nothing from being done. -/
def strR (k : Int) : Int := if k = 2 then 0 else strF k
theorem strikeRoomless_any (w : World) (b : Nat) (cs : Array Value) (f : Ft) (hb : w.heap[b]? = some (.cells cs TD (0, 0))) (h1 : ∃ u, cs[1]? = some u) (hk : f.2.1 ≠ 4) :
    Calls Try.prog 43 #[.pointer (some ⟨b, 0, none⟩), fv f] w fun e w' => e = .returned (.int .i64 (strR f.2.1)) ∧ w'.heap[b]? = some (.cells (strC f.2.1 cs) TD (0, 0)) ∧ But (fun k => k = b) w w' := by
  have hB := hide ((Below.refl _ w).alloc (Nat.le_refl _) (.cells #[.int .i64 f.1, .int .i64 f.2.1, .int .i64 f.2.2] 77))
  have hN : Hid ((w.alloc (.cells #[.int .i64 f.1, .int .i64 f.2.1, .int .i64 f.2.2] 77)).heap[w.heap.size]? = some (.cells #[.int .i64 f.1, .int .i64 f.2.1, .int .i64 f.2.2] 77 (0, 0))) := heap_alloc_new _ _
  obtain ⟨w1, hw1⟩ : ∃ w1, Hid (w.alloc (.cells #[.int .i64 f.1, .int .i64 f.2.1, .int .i64 f.2.2] 77) = w1) := ⟨_, rfl⟩
  rw [hw1.out] at hB hN
  have hb1 : w1.heap[b]? = some (.cells cs TD (0, 0)) := (hB.out.block b (heap_lt hb)).trans hb
  have hS := strike_any w1 b cs f hb1 h1 hk
  unfold fv at hS ⊢
  obtain ⟨a, k, p⟩ := f
  dsimp only at *
  obtain ⟨x0, x1, x2⟩ := cells3 hN.out
  replace hb1 := hide hb1
  by_cases k2 : k = 2
  · subst k2
    clear hS hb
    go_enter Try.func43, Try.ntmps43
    go_upto_region 1 with fail
    rw [hw1.out]
    go_wp2_with fail
    go_ret
    exact ⟨rfl, hb1.out, But.of_below hB.out _⟩
  have k2' : (k == 2) = false := by simpa using k2
  obtain ⟨E, hE⟩ : ∃ E, Hid (strF k = E) := ⟨_, rfl⟩
  have hR : Hid (strR k = E) := by show _ = _; rw [← hE.out]; simp [strR, k2]
  rw [hR.out]
  rw [hE.out] at hS
  clear hb
  go_enter Try.func43, Try.ntmps43
  go_upto_region 1 with fail
  rw [hw1.out]
  go_wp2_with (go_at_call 32; refine hS.mono ?_; rintro e w2 ⟨rfl, hc, hbt⟩; replace hc := hide hc; replace hbt := hide hbt)
  go_ret
  exact ⟨rfl, hc.out, (But.of_below hB.out _).trans hbt.out⟩
#print axioms strikeRoomless_any
end Go.Proofs.Ytdelknejmapeaaa.Dk

