/-
  strike, strikeRoomless.
-/
import Derived.Test.YtpflaglfnkmjiaaGreatM02
import Derived.Laws.Externs
import Derived.Carry
import Derived.Deep.AppendLies
import Derived.Shelf.SlGeneric
import Derived.Shelf.SlIter.Nil
import Derived.Shelf.SortM.Plain
import Derived.Shelf.SortM.SortNone
import Derived.Ground.GgzProg
import Derived.Ground.SlgmProg
import Derived.Test.YtpflaglfnkmjiaaGreatProg
import Derived.Shelf.LaysM
import Derived.Shelf.Strconv.Clone
import Derived.Test.YtpflaglfnkmjiaaGreatM01
import Derived.Maps.AppendAt
import Derived.Laws.AppendOwnNone
import Derived.Lib.SliceRun
import Derived.Laws.Strings
set_option maxRecDepth 100000
set_option maxHeartbeats 40000000
set_option linter.unusedVariables false
namespace Go.Proofs.YtpflaglfnkmjiaaGreat.Dk
open Go.RowKit Go.Maps Go.Proofs.YtpflaglfnkmjiaaGreat.Nm
def strF (k : Int) : Int := if k = 1 then 20 else if k = 2 then 21 else if k = 3 then 22 else 0
def strC (k : Int) (cs : Array Value) : Array Value := if k = 3 then cs.setIfInBounds 1 (.bool false) else cs
theorem strike_any (w : World) (b : Nat) (cs : Array Value) (f : Ft) (hb : w.heap[b]? = some (.cells cs TD (0, 0))) (h1 : ∃ u, cs[1]? = some u) (hk : f.2.1 ≠ 4) :
    Calls Tryz.prog 115 #[.pointer (some ⟨b, 0, none⟩), fv f] w fun e w' => e = .returned (.int .i64 (strF f.2.1)) ∧ w'.heap[b]? = some (.cells (strC f.2.1 cs) TD (0, 0)) ∧ But (fun k => k = b) w w' := by
 obtain ⟨a, k, p⟩ := f
 obtain ⟨u, h1⟩ := h1
 dsimp only at hk ⊢
 have hB := hide ((Below.refl _ w).alloc (Nat.le_refl _) (.cells #[.int .i64 a, .int .i64 k, .int .i64 p] 118))
 have hN : Hid ((w.alloc (.cells #[.int .i64 a, .int .i64 k, .int .i64 p] 118)).heap[w.heap.size]? = some (.cells #[.int .i64 a, .int .i64 k, .int .i64 p] 118 (0, 0))) := heap_alloc_new _ _
 obtain ⟨w1, hw1⟩ : ∃ w1, Hid (w.alloc (.cells #[.int .i64 a, .int .i64 k, .int .i64 p] 118) = w1) := ⟨_, rfl⟩
 rw [hw1.out] at hB hN
 have hb1 : w1.heap[b]? = some (.cells cs TD (0, 0)) := (hB.out.block b (heap_lt hb)).trans hb
 obtain ⟨x0, x1, x2⟩ := cells3 hN.out
 have y1 : w1.cell? ⟨b, 1, none⟩ = some u := by simp [World.cell?, hb1, h1]
 have y2 : w1.frozen? ⟨b, 1, none⟩ = false := by simp [World.frozen?, hb1]
 have hG := hide (But.of_grownBy (X := fun k => k = b) (grown_setCell w1 b 1 (.bool false)) fun k e => by cases e; rfl)
 have hC := hide (heap_setCell_same w1 b 1 _ _ (.bool false) hb1)
 replace hb1 := hide hb1
 unfold fv
 dsimp only
 obtain ⟨E, hE⟩ : ∃ E, Hid (strF k = E) := ⟨_, rfl⟩
 obtain ⟨C, hC0⟩ : ∃ C, Hid (strC k cs = C) := ⟨_, rfl⟩
 rw [hE.out, hC0.out]
 clear hb h1
 by_cases k1 : k = 1
 ·subst k1
  go_enter Tryz.func115, Tryz.ntmps115
  go_upto_region 1 with fail
  rw [hw1.out]
  go_wp2_with fail
  go_ret
  exact ⟨by rw [← hE.out]; rfl, by rw [← hC0.out]; exact hb1.out, But.of_below hB.out _⟩
 have k1' : (k == 1) = false := by simpa using k1
 by_cases k2 : k = 2
 ·subst k2
  go_enter Tryz.func115, Tryz.ntmps115
  go_upto_region 1 with fail
  rw [hw1.out]
  go_wp2_with fail
  go_ret
  exact ⟨by rw [← hE.out]; rfl, by rw [← hC0.out]; exact hb1.out, But.of_below hB.out _⟩
 have k2' : (k == 2) = false := by simpa using k2
 by_cases k3 : k = 3
 ·subst k3
  go_enter Tryz.func115, Tryz.ntmps115
  go_upto_region 1 with fail
  rw [hw1.out]
  go_wp2_with fail
  go_ret
  exact ⟨by rw [← hE.out]; rfl, by rw [← hC0.out]; exact hC.out, (But.of_below hB.out _).trans hG.out⟩
 have k3' : (k == 3) = false := by simpa using k3
 have k4' : (k == 4) = false := by simpa using hk
 have e1 : Hid (E = 0) := by show _ = _; rw [← hE.out]; simp [strF, k1, k2, k3]
 have e2 : Hid (C = cs) := by show _ = _; rw [← hC0.out]; simp [strC, k3]
 clear hE hC0
 go_enter Tryz.func115, Tryz.ntmps115
 go_upto_region 1 with fail
 rw [hw1.out]
 go_wp2_with fail
 go_ret
 exact ⟨by rw [e1.out]; rfl, by rw [e2.out]; exact hb1.out, But.of_below hB.out _⟩
def strR (k : Int) : Int := if k = 2 then 0 else strF k
theorem strikeRoomless_any (w : World) (b : Nat) (cs : Array Value) (f : Ft) (hb : w.heap[b]? = some (.cells cs TD (0, 0))) (h1 : ∃ u, cs[1]? = some u) (hk : f.2.1 ≠ 4) :
    Calls Tryz.prog 53 #[.pointer (some ⟨b, 0, none⟩), fv f] w fun e w' => e = .returned (.int .i64 (strR f.2.1)) ∧ w'.heap[b]? = some (.cells (strC f.2.1 cs) TD (0, 0)) ∧ But (fun k => k = b) w w' := by
 have hB := hide ((Below.refl _ w).alloc (Nat.le_refl _) (.cells #[.int .i64 f.1, .int .i64 f.2.1, .int .i64 f.2.2] 118))
 have hN : Hid ((w.alloc (.cells #[.int .i64 f.1, .int .i64 f.2.1, .int .i64 f.2.2] 118)).heap[w.heap.size]? = some (.cells #[.int .i64 f.1, .int .i64 f.2.1, .int .i64 f.2.2] 118 (0, 0))) := heap_alloc_new _ _
 obtain ⟨w1, hw1⟩ : ∃ w1, Hid (w.alloc (.cells #[.int .i64 f.1, .int .i64 f.2.1, .int .i64 f.2.2] 118) = w1) := ⟨_, rfl⟩
 rw [hw1.out] at hB hN
 have hb1 : w1.heap[b]? = some (.cells cs TD (0, 0)) := (hB.out.block b (heap_lt hb)).trans hb
 have hS := strike_any w1 b cs f hb1 h1 hk
 unfold fv at hS ⊢
 obtain ⟨a, k, p⟩ := f
 dsimp only at *
 obtain ⟨x0, x1, x2⟩ := cells3 hN.out
 replace hb1 := hide hb1
 by_cases k2 : k = 2
 ·subst k2
  clear hS hb
  go_enter Tryz.func53, Tryz.ntmps53
  go_upto_region 1 with fail
  rw [hw1.out]
  go_wp2_with fail
  go_ret
  exact ⟨rfl, hb1.out, But.of_below hB.out _⟩
 have k2' : (k == 2) = false := by simpa using k2
 obtain ⟨E, hE⟩ : ∃ E, Hid (strF k = E) := ⟨_, rfl⟩
 have hR : Hid (strR k = E) := by show _ = _; rw [← hE.out]; simp [strR, k2]
 rw [hR.out]
 rw [hE.out] at hS
 clear hb
 go_enter Tryz.func53, Tryz.ntmps53
 go_upto_region 1 with fail
 rw [hw1.out]
 go_wp2_with (go_at_call 115; refine hS.mono ?_; rintro e w2 ⟨rfl, hc, hbt⟩; replace hc := hide hc; replace hbt := hide hbt)
 go_ret
 exact ⟨rfl, hc.out, (But.of_below hB.out _).trans hbt.out⟩
theorem eqlM (w : World) (r : Option Nat) : (binOp .eql 80 (.map r) (.map none)).run Tryz.prog w = .ok (.bool r.isNone) w := run_eql_map_nil w _ _ _ r Tryz.underlying80
theorem run_clone {r : Nat} {es : Array MapEntry} {clock : Nat} (w : World) (t : TypeId) (hb : w.heap[r]? = some (.map es clock)) :
    (callFunc 166 #[.iface t (.map (some r))]).run Tryz.prog w = .ok (.value (.iface t (.map (some w.heap.size)))) (w.alloc (.map es clock)) := by
 have e : Extern.MapsClone.clone #[.iface t (.map (some r))] = (getObj r >>= fun o => match o with
     | .map entries clock => (newObj (.map entries clock) >>= fun n => pure (.iface t (.map (some n))))
     | _ => stuck "maps.clone: a map expected") := rfl
 rw [run_callFunc_extern Tryz.func166 (by kernel_rfl) (by kernel_rfl) (by kernel_rfl) (e := Extern.MapsClone.clone) (by kernel_rfl), e]
 simp [MapKept.run_getObj_map hb, Result.andThen, go_sem]
theorem run_assertM (w : World) (t xT k e : TypeId) (v : Value) (h : Tryz.prog.underlying t = some (.map k e)) : (Instr.typeAssert (.iface t v) xT t false).run Tryz.prog w = .ok v w := by
 simp [Instr.typeAssert, run_underlying h, go_sem, Result.andThen]
theorem clone_mp (w : World) (m : Nat) (l : Dr) (h : Mp w m l) : Calls Tryz.prog 121 #[.map (some m)] w fun e w' => e = .returned (.map (some w.heap.size)) ∧ Mp w' w.heap.size l ∧ Below w.heap.size w w' := by
 have qT := eqlM
 obtain ⟨es, clock, hb, F, hs, hD⟩ := h
 have hE := run_clone w 80 hb
 have hA := run_assertM (w.alloc (.map es clock)) 80 20 _ _ (.map (some w.heap.size)) Tryz.underlying80
 have hB := hide ((Below.refl _ w).alloc (Nat.le_refl _) (.map es clock))
 have hM : Hid (Mp (w.alloc (.map es clock)) w.heap.size l) := ⟨es, clock, heap_alloc_new _ _, F, hs, hD⟩
 clear hb F hs hD
 go_enter Tryz.func121, Tryz.ntmps121
 go_wp2_with fail
 go_ret
 exact ⟨rfl, hM.out, hB.out⟩
theorem Mp.ne {u : World} {m b : Nat} {l : Dr} {cs : Array Value} {T : TypeId} {z : Nat × Nat} (h : Mp u m l) (hb : u.heap[b]? = some (.cells cs T z)) : b ≠ m := by
 rintro rfl
 obtain ⟨es, clock, h, _⟩ := h
 rw [hb] at h
 cases h
theorem Mp.but {X : Nat → Prop} {A B : World} {m : Nat} {l : Dr} (h : Mp A m l) (hb : But X A B) (hx : ¬ X m) : Mp B m l := h.heap (hb.block m h.lt hx)
theorem Am.but {X : Nat → Prop} {A B : World} {m : Nat} {l : Ar} (h : Am A m l) (hb : But X A B) (hx : ¬ X m) : Am B m l := h.heap (hb.block m h.lt hx)
def newC (most : Int) (f g : Nat) : Array Value := dcells ⟨most, true, some f, some g, .slice none 0 0, none, 0, 0, 0, 0, 0, 0, 0, 0, 0⟩
theorem new_any (w : World) (most : Int) (h0 : -9223372036854775808 ≤ most) (h1 : most ≤ 9223372036854775807) :
    Calls Tryz.prog 7 #[.int .i64 most] w fun e w' => Below w.heap.size w w' ∧ ((¬ (0 ≤ most ∧ most ≤ 16777216) ∧ e = .returned (.pointer none) ∧ w' = w) ∨
     (0 ≤ most ∧ most ≤ 16777216 ∧ e = .returned (.pointer (some ⟨w.heap.size + 2, 0, none⟩)) ∧ w'.heap[w.heap.size + 2]? = some (.cells (newC most w.heap.size (w.heap.size + 1)) TD (0, 0)) ∧ Mp w' w.heap.size [] ∧ Mp w' (w.heap.size + 1) [])) := by
 by_cases h2 : 0 ≤ most ∧ most ≤ 16777216
 ·obtain ⟨g1, g2⟩ := h2
  have hmm := @run_makeMap Tryz.prog
  have n1 : ¬ most < 0 := by omega
  have n2 : ¬ 16777216 < most := by omega
  obtain ⟨u, hu⟩ : ∃ u, Hid (((w.alloc (.map #[] 0)).alloc (.map #[] 0)).alloc (.cells (newC most w.heap.size (w.heap.size + 1)) TD) = u) := ⟨_, rfl⟩
  have hB1 := (Below.refl _ w).alloc (Nat.le_refl _) (.map #[] 0)
  have hB2 := (Below.refl _ (w.alloc (.map #[] 0))).alloc (Nat.le_refl _) (.map #[] 0)
  have hB3 := (Below.refl _ ((w.alloc (.map #[] 0)).alloc (.map #[] 0))).alloc (Nat.le_refl _) (.cells (newC most w.heap.size (w.heap.size + 1)) TD)
  have m1 := Mp.made w
  have m2 := Mp.made (w.alloc (.map #[] 0))
  have n3 := heap_alloc_new ((w.alloc (.map #[] 0)).alloc (.map #[] 0)) (.cells (newC most w.heap.size (w.heap.size + 1)) TD)
  have e1 : (w.alloc (.map #[] 0)).heap.size = w.heap.size + 1 := by simp
  have e2 : ((w.alloc (.map #[] 0)).alloc (.map #[] 0)).heap.size = w.heap.size + 2 := by simp
  rw [e1] at m2
  rw [e2, hu.out] at n3
  have k1 : Mp u w.heap.size [] := by rw [← hu.out]; exact (m1.heap (hB2.block _ (by omega))).heap (hB3.block _ (by omega))
  have k2 : Mp u (w.heap.size + 1) [] := by rw [← hu.out]; exact m2.heap (hB3.block _ (by omega))
  have k3 : Below w.heap.size w u := by rw [← hu.out]; exact (hB1.trans (hB2.mono (by omega))).trans (hB3.mono (by omega))
  have K := hide (And.intro n3 (And.intro k1 (And.intro k2 k3)))
  clear n3 k1 k2 k3 m1 m2 hB1 hB2 hB3 e1 e2
  go_enter Tryz.func7, Tryz.ntmps7
  go_wp2_with fail
  go_ret
  obtain ⟨k0, k1, k2, k3⟩ := K.out
  rw [← hu.out] at k0 k1 k2 k3
  exact ⟨k3, rfl, k0, k1, k2⟩
 ·go_enter Tryz.func7, Tryz.ntmps7
  by_cases g1 : most < 0
  ·go_wp2_with fail
   go_ret
   exact ⟨Below.refl _ _, by first | exact .inl ⟨h2, rfl, rfl⟩ | exact .inl ⟨rfl, rfl⟩ | exact .inl rfl⟩
  ·have g2 : 16777216 < most := by omega
   go_wp2_with fail
   go_ret
   exact ⟨Below.refl _ _, by first | exact .inl ⟨h2, rfl, rfl⟩ | exact .inl ⟨rfl, rfl⟩ | exact .inl rfl⟩
theorem settle_any (w : World) (b m : Nat) (cs : Array Value) (l : Dr) (hb : w.heap[b]? = some (.cells cs TD (0, 0))) (hz : cs.size = 15) (h2 : cs[2]? = some (.map (some m))) (hm : Mp w m l) :
    Calls Tryz.prog 55 #[.pointer (some ⟨b, 0, none⟩)] w fun e w' => e = .returned (.tuple #[]) ∧ ∃ m', w.heap.size ≤ m' ∧ Mp w' m' l ∧
     w'.heap[b]? = some (.cells ((cs.setIfInBounds 3 (.map (some m'))).setIfInBounds 4 (.slice none 0 0)) TD (0, 0)) ∧ But (fun k => k = b) w w' := by
 have c2 : w.cell? ⟨b, 2, none⟩ = some (.map (some m)) := by simp [World.cell?, hb, h2]
 have hC := clone_mp w m l hm
 replace hb := hide hb
 clear hm
 go_enter Tryz.func55, Tryz.ntmps55
 go_wp2_with (go_at_call 121; refine hC.mono ?_; rintro e w1 ⟨rfl, M1, B1⟩; replace M1 := hide M1; replace B1 := hide B1; have b1 : Hid (w1.heap[b]? = some (.cells cs TD (0, 0))) := (B1.out.block b (heap_lt hb.out)).trans hb.out; have d3 : w1.cell? ⟨b, 3, none⟩ = some (cs.getD 3 undef) := (by simp [World.cell?, b1.out, hz]); have f3 : w1.frozen? ⟨b, 3, none⟩ = false := (by simp [World.frozen?, b1.out]); have b2 := hide (heap_setCell_same w1 b 3 _ _ (.map (some w.heap.size)) b1.out); have d4 : (w1.setCell ⟨b, 3, none⟩ (.map (some w.heap.size))).cell? ⟨b, 4, none⟩ = some (cs.getD 4 undef) := (by simp [World.cell?, b2.out, hz]); have f4 : (w1.setCell ⟨b, 3, none⟩ (.map (some w.heap.size))).frozen? ⟨b, 4, none⟩ = false := (by simp [World.frozen?, b2.out]))
 have b3 := hide (heap_setCell_same _ b 4 _ _ (.slice none 0 0) b2.out)
 have g3 := But.of_grownBy (X := fun k => k = b) (grown_setCell w1 b 3 (.map (some w.heap.size))) fun k e => by cases e; rfl
 have g4 := But.of_grownBy (X := fun k => k = b) (grown_setCell (w1.setCell ⟨b, 3, none⟩ (.map (some w.heap.size))) b 4 (.slice none 0 0)) fun k e => by cases e; rfl
 go_end0
 exact ⟨rfl, w.heap.size, Nat.le_refl _, (M1.out.but (g3.trans g4) (fun e => M1.out.ne b1.out e.symm)), b3.out, (But.of_below B1.out _).trans (g3.trans g4)⟩
inductive Ch where
 | cr (n : ByteArray) (p : Nat)
 | rn (f t : ByteArray)
 | rm (n : ByteArray)
def Ch.val : Ch → Value
 | .cr n p => .agg #[.string n, .pointer (some ⟨p, 0, none⟩)]
 | .rn f t => .agg #[.string f, .string t]
 | .rm n => .agg #[.string n]
def Ch.ty : Ch → TypeId
 | .cr _ _ => 195
 | .rn _ _ => 170
 | .rm _ => 242
def Ch.ok : Ch → Prop
 | .cr n _ => n.size ≤ maxLen
 | .rn f t => f.size ≤ maxLen ∧ t.size ≤ maxLen
 | .rm n => n.size ≤ maxLen
def Ch.run (l : Dr) : Ch → Dr
 | .cr n p => dput l n.data.toList p
 | .rn f t => match get l f.data.toList with | some p => ddel (dput l t.data.toList p) f.data.toList | none => l
 | .rm n => ddel l n.data.toList
theorem doC_any (w : World) (m : Nat) (l : Dr) (n : ByteArray) (p : Nat) (hm : Mp w m l) (hn : n.size ≤ maxLen) (hl : l.length < maxLen) :
    Calls Tryz.prog 243 #[.agg #[.string n, .pointer (some ⟨p, 0, none⟩)], .map (some m)] w fun e w' => e = .returned (.tuple #[]) ∧ Mp w' m (dput l n.data.toList p) ∧ But (fun k => k = m) w w' := by
 have hB := hide ((Below.refl _ w).alloc (Nat.le_refl _) (.cells #[.string n, .pointer (some ⟨p, 0, none⟩)] 195))
 have m1 : Mp (w.alloc (.cells #[.string n, .pointer (some ⟨p, 0, none⟩)] 195)) m l := hm.heap (hB.out.block m hm.lt)
 obtain ⟨w2, hU, m2, ht⟩ := m1.store (s := n) (p := p) hn hl
 unfold TM at hU
 have k2 := hide (turned_but ht)
 replace m2 := hide m2
 clear m1 ht hm
 go_enter Tryz.func243, Tryz.ntmps243
 go_wp2_with fail
 go_end0
 exact ⟨rfl, m2.out, (But.of_below hB.out _).trans k2.out⟩
theorem doX_any (w : World) (m : Nat) (l : Dr) (n : ByteArray) (hm : Mp w m l) (hn : n.size ≤ maxLen) :
    Calls Tryz.prog 246 #[.agg #[.string n], .map (some m)] w fun e w' => e = .returned (.tuple #[]) ∧ Mp w' m (ddel l n.data.toList) ∧ But (fun k => k = m) w w' := by
 have hB := hide ((Below.refl _ w).alloc (Nat.le_refl _) (.cells #[.string n] 242))
 have m1 : Mp (w.alloc (.cells #[.string n] 242)) m l := hm.heap (hB.out.block m hm.lt)
 obtain ⟨w2, hU, m2, ht⟩ := m1.drop (s := n) hn 0
 unfold TM TS at hU
 have k2 := hide (turned_but ht)
 replace m2 := hide m2
 clear m1 ht hm
 go_enter Tryz.func246, Tryz.ntmps246
 go_wp2_with fail
 go_end0
 exact ⟨rfl, m2.out, (But.of_below hB.out _).trans k2.out⟩
theorem doN_any (w : World) (m p : Nat) (l : Dr) (f t : ByteArray) (hm : Mp w m l) (hf : f.size ≤ maxLen) (ht : t.size ≤ maxLen) (hl : l.length < maxLen) (hg : get l f.data.toList = some p) :
    Calls Tryz.prog 241 #[.agg #[.string f, .string t], .map (some m)] w fun e w' => e = .returned (.tuple #[]) ∧ Mp w' m (ddel (dput l t.data.toList p) f.data.toList) ∧ But (fun k => k = m) w w' := by
 have hB := hide ((Below.refl _ w).alloc (Nat.le_refl _) (.cells #[.string f, .string t] 170))
 have hN := hide (heap_alloc_new w (.cells #[.string f, .string t] 170))
 obtain ⟨w1, hw1⟩ : ∃ w1, Hid (w.alloc (.cells #[.string f, .string t] 170) = w1) := ⟨_, rfl⟩
 rw [hw1.out] at hB hN
 have m1 : Mp w1 m l := hm.heap (hB.out.block m hm.lt)
 have hL := m1.look hf hg
 obtain ⟨w2, hU, m2, t2⟩ := m1.store (s := t) (p := p) ht hl
 have n2 : w2.heap[w.heap.size]? = some (.cells #[.string f, .string t] 170) := (turned_but t2).at hN.out (m1.ne hN.out)
 obtain ⟨w3, hD, m3, t3⟩ := m2.drop (s := f) hf 0
 have x0 : w1.cell? ⟨w.heap.size, 0, none⟩ = some (.string f) := by simp [World.cell?, hN.out]
 have x1 : w1.cell? ⟨w.heap.size, 1, none⟩ = some (.string t) := by simp [World.cell?, hN.out]
 have y0 : w2.cell? ⟨w.heap.size, 0, none⟩ = some (.string f) := by simp [World.cell?, n2]
 have K := hide (((But.of_below hB.out (fun k => k = m)).trans (turned_but t2)).trans (turned_but t3))
 replace m3 := hide m3
 unfold TM at hL hU hD
 unfold TS at hD
 clear m1 m2 t2 t3 n2 hm hg
 go_enter Tryz.func241, Tryz.ntmps241
 go_upto_region 1 with fail
 rw [hw1.out]
 go_wp2_with fail
 go_end0
 exact ⟨rfl, m3.out, K.out⟩
def Ch.fn : Ch → Nat
 | .cr _ _ => 243
 | .rn _ _ => 241
 | .rm _ => 246
def Ch.can (l : Dr) : Ch → Prop
 | .rn f _ => (get l f.data.toList).isSome = true
 | _ => True
theorem do_any (w : World) (m : Nat) (l : Dr) (c : Ch) (hm : Mp w m l) (hc : c.ok) (hk : c.can l) (hl : l.length < maxLen) :
    Calls Tryz.prog c.fn #[c.val, .map (some m)] w fun e w' => e = .returned (.tuple #[]) ∧ Mp w' m (c.run l) ∧ But (fun k => k = m) w w' := by
 cases c with
 | cr n p => exact doC_any w m l n p hm hc hl
 | rm n => exact doX_any w m l n hm hc
 | rn f t =>
  obtain ⟨p, hp⟩ := Option.isSome_iff_exists.1 (show (get l f.data.toList).isSome = true from hk)
  have := doN_any w m p l f t hm hc.1 hc.2 hl hp
  simp only [Ch.run, hp]
  exact this
def wthn (n : Int) (m : Nat) : Nat := min n.toNat m
theorem within_any (w : World) (n : Int) (m : Nat) (h0 : -9223372036854775808 ≤ n) (h1 : n ≤ 9223372036854775807) (hm : (m : Int) ≤ 9223372036854775807) :
    Calls Tryz.prog 125 #[.int .i64 n, .int .i64 (m : Int)] w fun e w' => e = .returned (.int .i64 (wthn n m : Int)) ∧ w' = w := by
 obtain ⟨E, hE⟩ : ∃ E : Nat, Hid (wthn n m = E) := ⟨_, rfl⟩
 rw [hE.out]
 have hq := hE.out
 unfold wthn at hq
 go_enter Tryz.func125, Tryz.ntmps125
 go_wp2_with fail
 all_goals
  go_ret
  refine ⟨?_, rfl⟩
  show Ending.returned (Value.int .i64 _) = _
  congr 2
  omega
def Ch.iface (c : Ch) : Value := .iface c.ty c.val
def Cans : Dr → List Ch → Prop
 | _, [] => True
 | l, c :: r => c.can l ∧ Cans (c.run l) r
def runs (l : Dr) (P : List Ch) : Dr := P.foldl Ch.run l
theorem runs_snoc (l : Dr) (P : List Ch) (c : Ch) : runs l (P ++ [c]) = c.run (runs l P) := by simp [runs]
theorem cans_at {l : Dr} : ∀ {P : List Ch}, Cans l P → ∀ i (h : i < P.length), (P[i]).can (runs l (P.take i)) := by
 intro P
 induction P generalizing l with
 | nil => intro _ i h; simp at h
 | cons c r ih =>
  intro hP i h
  match i with
  | 0 => exact hP.1
  | i + 1 => simpa [runs] using ih hP.2 i (by simpa using h)
theorem dins_len (x : List UInt8 × Nat) (l : Dr) : (dins x l).length = l.length + 1 := by
 induction l with
 | nil => rfl
 | cons y r ih => unfold dins; split <;> simp [ih]
theorem run_len (l : Dr) (c : Ch) : (c.run l).length ≤ l.length + 1 := by
 have hd : ∀ (l : Dr) n, (ddel l n).length ≤ l.length := fun l n => List.length_filter_le _ _
 have hp : ∀ (l : Dr) n p, (dput l n p).length ≤ l.length + 1 := fun l n p => by have := hd l n; rw [dput, dins_len]; omega
 cases c with
 | cr n p => exact hp _ _ _
 | rm n => exact Nat.le_trans (hd _ _) (by omega)
 | rn f t =>
  show List.length (match get l f.data.toList with | some p => ddel (dput l t.data.toList p) f.data.toList | none => l) ≤ _
  split
  ·exact Nat.le_trans (hd _ _) (hp _ _ _)
  ·omega
theorem runs_len (l : Dr) (P : List Ch) : (runs l P).length ≤ l.length + P.length := by
 induction P generalizing l with
 | nil => simp [runs]
 | cons c r ih => have := ih (c.run l); have := run_len l c; simp only [runs, List.foldl_cons, List.length_cons] at *; omega
theorem disp_any (c : Ch) : (∀ q, (method 424 c.ty c.val "flume/disk.do").run Tryz.prog q = .ok (c.fn, c.val) q) ∧ (∀ a q, (callFunc c.fn a).run Tryz.prog q = .ok (.enter c.fn a) q) := by
 cases c with
 | cr n p => exact ⟨fun q => by kernel_rfl, fun a q => by kernel_rfl⟩
 | rn f t => exact ⟨fun q => by kernel_rfl, fun a q => by kernel_rfl⟩
 | rm n => exact ⟨fun q => by kernel_rfl, fun a q => by kernel_rfl⟩
theorem Mp.turned {w u u' : World} {m : Nat} (hB : Below w.heap.size w u) (h : But (fun k => k = m) u u') (hm : w.heap.size ≤ m) : Below w.heap.size w u' :=
 ⟨h.os.trans hB.os, h.tape.trans hB.tape, h.output.trans hB.output, Nat.le_trans hB.size h.size, fun k hk => (h.block k (Nat.lt_of_lt_of_le hk hB.size) (by omega)).trans (hB.block k hk)⟩
theorem directory_any (w : World) (b m : Nat) (cs : Array Value) (l : Dr) (P : List Ch) (pd : Value) (n : Int) (hb : w.heap[b]? = some (.cells cs TD (0, 0))) (h3 : cs[3]? = some (.map (some m))) (h4 : cs[4]? = some pd)
    (hm : Mp w m l) (hp : Row w pd (P.map Ch.iface)) (hok : ∀ c ∈ P, c.ok) (hcan : Cans l P) (hlen : l.length + P.length < maxLen) (n0 : -9223372036854775808 ≤ n) (n1 : n ≤ 9223372036854775807) :
    Calls Tryz.prog 64 #[.pointer (some ⟨b, 0, none⟩), .int .i64 n] w fun e w' => e = .returned (.map (some w.heap.size)) ∧ Mp w' w.heap.size (runs l (P.take (wthn n P.length))) ∧ Below w.heap.size w w' := by
 obtain ⟨N, hN⟩ : ∃ N, Hid (P.length = N) := ⟨_, rfl⟩
 rw [hN.out]
 obtain ⟨ao, ca, rfl, ha, p1, p2, p3⟩ := hp
 rw [List.length_map] at *
 rw [hN.out] at p1
 have c3 : w.cell? ⟨b, 3, none⟩ = some (.map (some m)) := by simp [World.cell?, hb, h3]
 have c4 : w.cell? ⟨b, 4, none⟩ = some (.slice ao P.length ca) := by simp [World.cell?, hb, h4]
 rw [hN.out] at c4
 have N1 : (N : Int) ≤ 9223372036854775807 := by unfold maxLen at p2; omega
 have N2 : (ca : Int) ≤ 9223372036854775807 := by unfold maxLen at p2; omega
 have hC := clone_mp w m l hm
 obtain ⟨K, hK⟩ : ∃ K, Hid (wthn n N = K) := ⟨_, rfl⟩
 have K1 : K ≤ N := by rw [← hK.out]; unfold wthn; omega
 have hW := fun q => within_any q n N n0 n1 N1
 rw [hK.out] at hW ⊢
 replace p3 := hide p3
 replace hok := hide hok
 replace hcan := hide hcan
 replace hlen := hide hlen
 replace hW := hide hW
 clear hm hb h3 h4 ha
 go_enter Tryz.func64, Tryz.ntmps64
 go_upto_region 2 with (go_at_call 121; refine hC.mono ?_; rintro e w1 ⟨rfl, M1, B1⟩; replace M1 := hide M1; replace B1 := hide B1)
 have d4 : w1.cell? ⟨b, 4, none⟩ = some (.slice ao N ca) := by rw [B1.out.cell (p := ⟨b, 4, none⟩) (lt_of_cell c4)]; exact c4
 clear hC c3 c4
 go_quiet ((go_at_call 125; exact Calls.quiet_of_same (hW.out _)))
 have Q1 : Hid (Mp (w1.drewN nq) w.heap.size (runs l (P.take 0)) ∧ Below w.heap.size w (w1.drewN nq)) := ⟨M1.out, B1.out.trans (Qt.below ⟨nq, rfl⟩ _)⟩
 generalize w1.drewN nq = w2 at *
 clear d4 M1 B1 hW
 go_wp2_with fail
 go_loopw [26] (fun i wr => ∃ k : Nat, i = .int .i64 k ∧ k ≤ K ∧ Hid (Mp wr w.heap.size (runs l (P.take k)) ∧ Below w.heap.size w wr)) (fun i _ => K - (intOf i).toNat)
 case atStart => exact ⟨0, rfl, Nat.zero_le _, Q1.out⟩
 case round =>
  obtain ⟨k, rfl, hk, hQ⟩ := hrel
  by_cases hlt : k < K
  ·have i1 : (k : Int) < (K : Int) := by omega
   have hkl : k < P.length := by rw [hN.out]; omega
   obtain ⟨g, off, rfl, hc⟩ := p3.out k (by rw [List.length_map]; exact hkl)
   have hcell : wr.cell? ⟨g, off + k, none⟩ = some (.iface (P[k]).ty (P[k]).val) := by
    rw [hQ.out.2.cell (p := ⟨g, off + k, none⟩) (lt_of_cell hc), hc, List.getElem_map]; rfl
   obtain ⟨d1, d2⟩ := disp_any P[k]
   have hD := do_any wr w.heap.size (runs l (P.take k)) P[k] hQ.out.1 (hok.out _ (List.getElem_mem hkl)) (cans_at hcan.out k hkl) (by have q1 := runs_len l (P.take k); have q2 := hlen.out; rw [List.length_take] at q1; omega)
   rw [← runs_snoc, ← List.take_succ_eq_append_getElem hkl] at hD
   replace hD := hide hD
   clear hc
   generalize P[k] = c at *
   generalize c.fn = f at *
   generalize c.ty = T at *
   generalize c.val = u at *
   go_wp2_with fail
   refine hD.out.mono ?_
   rintro e w3 ⟨rfl, M3, B3⟩
   have Q3 : Hid (Mp w3 w.heap.size (runs l (P.take (k + 1))) ∧ Below w.heap.size w w3) := ⟨M3, Mp.turned hQ.out.2 B3 (Nat.le_refl _)⟩
   clear M3 B3 hD d1 d2
   go_wp2_with fail
   go_roundw
   case rel => exact ⟨k + 1, by go_num, by omega, Q3.out⟩
   case measure => simp [intOf]; omega
  ·obtain rfl : k = K := by omega
   go_wp2_with fail
   go_ret
   exact ⟨rfl, hQ.out⟩
def Pd (w : World) (v : Value) (P : List Ch) : Prop := w.ownsRow 0 203 1 v P.length (P.map Ch.iface)
theorem Pd.nil (w : World) : Pd w (.slice none 0 0) [] := World.ownsRow_nil _ _ _ _
theorem Pd.no {w : World} {v : Value} {P : List Ch} {b : Nat} {cs : Array Value} {T : TypeId} {fz : Nat × Nat} (h : Pd w v P) (hb : w.heap[b]? = some (.cells cs T fz)) (hT : T ≠ 203) : v.ownBlock ≠ some b := fun e1 => by
 rcases h.2 with ⟨rfl, _⟩ | ⟨g, cap, cur, rfl, hg, hh, r⟩
 ·simp [Value.ownBlock] at e1
 ·simp [Value.ownBlock] at e1
  subst e1
  rw [hb] at hh
  simp at hh
  exact hT hh.2.1
theorem Pd.noM {w : World} {v : Value} {P : List Ch} {m : Nat} {l : Dr} (h : Pd w v P) (hm : Mp w m l) : v.ownBlock ≠ some m := fun e1 => by
 rcases h.2 with ⟨rfl, _⟩ | ⟨g, cap, cur, rfl, hg, hh, r⟩
 ·simp [Value.ownBlock] at e1
 ·simp [Value.ownBlock] at e1
  subst e1
  obtain ⟨es, clock, hb, _⟩ := hm
  rw [hb] at hh
  cases hh
theorem Pd.but {X : Nat → Prop} {A B : World} {v : Value} {P : List Ch} (h : Pd A v P) (hb : But X A B) (hx : ∀ k, v.ownBlock = some k → ¬ X k) : Pd B v P := by
 refine ⟨h.1, ?_⟩
 rcases h.2 with h | ⟨g, cap, cur, rfl, hg, hh, r⟩
 ·exact .inl h
 ·exact .inr ⟨g, cap, cur, rfl, hg, hb.at hh (hx g rfl), r⟩
theorem Pd.row {w : World} {v : Value} {P : List Ch} (h : Pd w v P) : Row w v (P.map Ch.iface) := by
 have h0 := h
 rcases h.2 with ⟨rfl, e⟩ | ⟨g, cap, cur, rfl, hg, hh, a, b, c⟩
 ·have : P = [] := List.length_eq_zero_iff.1 e
  subst this
  exact Row.nil w
 ·refine ⟨some ⟨g, 0, none⟩, cap, by rw [List.length_map], fun e => by simp at e, by rw [List.length_map]; exact a, b, fun i hi => ?_⟩
  have q := World.ownsRow.cells h0 (g := g) rfl i _ (List.getElem?_eq_getElem hi)
  exact ⟨g, 0, rfl, by rw [addr_add] at q; exact q⟩
theorem Pd.lt {w : World} {v : Value} {P : List Ch} (h : Pd w v P) : ∀ k, v.ownBlock = some k → k < w.heap.size := fun k hk => (World.ownsRow.lt h k hk).2
theorem infoCh : (Tryz.prog.info? 203).map (fun i => (i.zero, i.size, i.bytes)) = some (some .nilIface, 1, 16) := by kernel_rfl
theorem infoCh2 : ∃ i, Tryz.prog.info? 203 = some i ∧ i.zero = some .nilIface ∧ i.size = 1 ∧ i.bytes = 16 := by
 have h := infoCh
 cases hq : Tryz.prog.info? 203 with
 | none => rw [hq] at h; cases h
 | some i => rw [hq] at h; simp only [Option.map_some, Option.some.injEq, Prod.mk.injEq] at h; exact ⟨i, rfl, h.1, h.2.1, h.2.2⟩
theorem ahead_any (c : Ch) : ∀ q, (nilAhead 424 c.ty c.val "flume/disk.do").run Tryz.prog q = .ok (some false) q := by
 cases c with
 | cr n p => exact fun q => by kernel_rfl
 | rn f t => exact fun q => by kernel_rfl
 | rm n => exact fun q => by kernel_rfl
theorem grownAt {w3 w4 : World} {b : Nat} {o o' : Obj} {r : Option Nat} (hb : w3.heap[b]? = some o) (hg : (w3.alloc o').grownBy w4 r) (hr : r ≠ some b) : w4.heap[b]? = some o := by
 rw [hg.block b (by have := heap_lt hb; simp; omega) (fun e => hr e.symm)]
 exact (Below.heap_alloc _ _ _ (heap_lt hb)).trans hb
theorem change_any (w : World) (b m : Nat) (cs : Array Value) (l : Dr) (P : List Ch) (pd : Value) (c : Ch) (hb : w.heap[b]? = some (.cells cs TD (0, 0))) (h2 : cs[2]? = some (.map (some m))) (h4 : cs[4]? = some pd)
    (hm : Mp w m l) (hp : Pd w pd P) (hc : c.ok) (hk : c.can l) (hl : l.length < maxLen) (hP : P.length < 1000000000) :
    Calls Tryz.prog 100 #[.pointer (some ⟨b, 0, none⟩), c.iface] w fun e w' => e = .returned (.tuple #[]) ∧ Mp w' m (c.run l) ∧ ∃ pd', Pd w' pd' (P ++ [c]) ∧ w'.heap[b]? = some (.cells (cs.setIfInBounds 4 pd') TD (0, 0)) ∧
     But (fun k => k = b ∨ k = m ∨ pd.ownBlock = some k) w w' ∧ (∀ k, pd'.ownBlock = some k → pd.ownBlock = some k ∨ w.heap.size ≤ k) := by
 have c2 : w.cell? ⟨b, 2, none⟩ = some (.map (some m)) := by simp [World.cell?, hb, h2]
 have hD := do_any w.drew m l c hm hc hk hl
 obtain ⟨d1, d2⟩ := disp_any c
 have d3 := ahead_any c
 have hne := hide (hm.ne hb)
 have hnp := hide (hp.no hb (by decide))
 have hnm := hide (hp.noM hm)
 have KC : Hid (∀ q, But (fun k => k = m) w.drew q → q.cell? ⟨b, 2, none⟩ = some (.map (some m))) := by
  intro q B3
  have q1 := B3.at (k := b) hb hne.out
  simp [World.cell?, q1, h2]
 rw [show c.iface = .iface c.ty c.val from rfl]
 obtain ⟨ci, hci⟩ : ∃ ci, Hid (c.iface = ci) := ⟨_, rfl⟩
 have hci2 : Hid (Value.iface c.ty c.val = ci) := hci.out
 replace hb := hide hb
 replace hp := hide hp
 replace hm := hide hm
 obtain ⟨r, hr⟩ : ∃ r, Hid (c.run l = r) := ⟨_, rfl⟩
 rw [hr.out] at hD ⊢
 generalize hfn : c.fn = f at *
 generalize hty : c.ty = T at *
 generalize hvl : c.val = u at *
 replace hD := hide hD
 replace hty := hide hty
 replace hvl := hide hvl
 clear hfn hk hc
 go_enter Tryz.func100, Tryz.ntmps100
 go_upto_region 0 with fail
 go_region_held3 (fun q => q.cell? ⟨b, 2, none⟩ = some (.map (some m)))
  (first | exact c2 | assumption | exact KC.out _ (Hid.out (by assumption)) | fail)
  (first | (refine hD.out.mono ?_; rintro e w3 ⟨rfl, M3, B3⟩; replace M3 := hide M3; replace B3 := hide B3) | fail)
 have hb3 : Hid (w3.heap[b]? = some (.cells cs TD (0, 0))) := B3.out.at (k := b) hb.out hne.out
 have hp3 : Hid (Pd w3 pd P) := hp.out.but (A := w.drew) B3.out (fun k hk e => hnm.out (by rw [← e]; exact hk))
 have hW3 := hide (((But.of_below ((Below.refl _ w).drew) (fun k => k = m)).trans B3.out))
 have c4 : w3.cell? ⟨b, 4, none⟩ = some pd := by simp [World.cell?, hb3.out, h4]
 clear d1 d2 d3 hD KC c2 h2
 obtain ⟨i0, hi, hz0, hz1, hz2⟩ : ∃ i, Tryz.prog.info? 203 = some i ∧ i.zero = some .nilIface ∧ i.size = 1 ∧ i.bytes = 16 := infoCh2
 replace hi := hide hi
 go_wp2_with (first
  | (at_builtin; refine wpList_append_lies _ rfl (.tmp 17) (.tmp 19) 81 rfl 0 203 i0 .nilIface 1 16 Tryz.underlying81 hi.out hz0 hz1 hz2 rfl (by decide) pd P.length (P.map Ch.iface) rfl (World.ownsRow.alloc hp3.out _) ⟨w3.heap.size, 0, none⟩ 1 1 [.iface T u] rfl rfl (cell_one_new _ _ _) (by simp [Value.oneCell']) (by decide) (by unfold maxLen; omega) (by omega) (Nat.zero_le _) (w3.heap.size + 1) (by simp) ?_; intro g2 cap2 w4 ho4 g4 hat hlt4; have hb4 : Hid (w4.heap[b]? = some (.cells cs TD (0, 0))) := hide (grownAt hb3.out g4 hnp.out); have f1 : w4.cell? ⟨b, 4, none⟩ = some pd := (by simp [World.cell?, hb4.out, h4]); have f2 : w4.frozen? ⟨b, 4, none⟩ = false := (by simp [World.frozen?, hb4.out]); replace ho4 := hide ho4; replace g4 := hide g4; replace hat := hide hat)
  | fail)
 go_end0
 have e1 : T = c.ty ∧ u = c.val := ⟨hty.out.symm, hvl.out.symm⟩
 have G4 : But (fun k => pd.ownBlock = some k) w3 w4 := (But.of_below ((Below.refl _ w3).alloc (Nat.le_refl _) _) _).trans (But.of_grownBy g4.out fun k e => e)
 have G5 : But (fun k => k = b) w4 (w4.setCell ⟨b, 4, none⟩ (.slice (some ⟨g2, 0, none⟩) (P.length + 1) cap2)) := But.of_grownBy (grown_setCell _ _ _ _) fun k e => by cases e; rfl
 have p4 : Pd w4 (.slice (some ⟨g2, 0, none⟩) (P.length + 1) cap2) (P ++ [c]) := by
  unfold Pd
  rw [List.length_append, List.map_append]
  have q := ho4.out
  rw [e1.1, e1.2] at q
  exact q
 refine ⟨rfl, ?_, _, p4.but G5 (fun k hk e => p4.no hb4.out (by decide) (by rw [← e]; exact hk)), heap_setCell_same _ _ _ _ _ _ hb4.out, ?_, ?_⟩
 ·have q1 := M3.out.but G4 (fun e => hp3.out.noM M3.out e)
  exact q1.but G5 (fun e => hne.out e.symm)
 ·exact ((hW3.out.mono fun k _ e => .inr (.inl e)).trans (G4.mono fun k _ e => .inr (.inr e))).trans (G5.mono fun k _ e => .inl e)
 ·intro k hk
  simp only [Value.ownBlock, Option.some.injEq] at hk
  subst hk
  rcases hat.out with e | e
  ·exact .inl e
  ·right
   have := hW3.out.size
   omega
structure Dk (w : World) (b : Nat) (x : Dc) (f g : Nat) (l l2 : Dr) (P : List Ch) (al : Ar) : Prop where
 box : Bx w b x
 fm : x.fm = some f
 lm : x.lm = some g
 mf : Mp w f l
 mg : Mp w g l2
 fg : f ≠ g
 pd : Pd w x.pd P
 am : ∀ m, x.am = some m → Am w m al ∧ m ≠ f ∧ m ≠ g
 an : x.am = none → al = []
 run : l = runs l2 P
 can : Cans l2 P
 ok : ∀ c ∈ P, c.ok
 c0 : 0 ≤ x.c0 ∧ 0 ≤ x.c1 ∧ 0 ≤ x.c2 ∧ 0 ≤ x.c3 ∧ 0 ≤ x.c4 ∧ 0 ≤ x.c5 ∧ 0 ≤ x.c6 ∧ 0 ≤ x.c7
 c1 : x.c0 ≤ x.c7 ∧ x.c1 ≤ x.c7 ∧ x.c2 ≤ x.c7 ∧ x.c3 ≤ x.c7 ∧ x.c4 ≤ x.c7 ∧ x.c5 ≤ x.c7 ∧ x.c6 ≤ x.c7
def Own (b : Nat) (x : Dc) (k : Nat) : Prop := k = b ∨ x.fm = some k ∨ x.lm = some k ∨ x.pd.ownBlock = some k ∨ x.am = some k
def inc (x : Dc) : Nat → Dc
 | 0 => { x with c0 := x.c0 + 1, c7 := x.c7 + 1 }
 | 1 => { x with c1 := x.c1 + 1, c7 := x.c7 + 1 }
 | 2 => { x with c2 := x.c2 + 1, c7 := x.c7 + 1 }
 | 3 => { x with c3 := x.c3 + 1, c7 := x.c7 + 1 }
 | 4 => { x with c4 := x.c4 + 1, c7 := x.c7 + 1 }
 | 5 => { x with c5 := x.c5 + 1, c7 := x.c7 + 1 }
 | _ => { x with c6 := x.c6 + 1, c7 := x.c7 + 1 }
def cnt (x : Dc) : Nat → Int
 | 0 => x.c0 | 1 => x.c1 | 2 => x.c2 | 3 => x.c3 | 4 => x.c4 | 5 => x.c5 | _ => x.c6
theorem inc_cells (x : Dc) : ∀ j, j < 7 → ((dcells x).setIfInBounds (6 + j) (.int .i64 (cnt x j + 1))).setIfInBounds 13 (.int .i64 (x.c7 + 1)) = dcells (inc x j) := by
 intro j hj
 match j with
 | 0 => rfl
 | 1 => rfl
 | 2 => rfl
 | 3 => rfl
 | 4 => rfl
 | 5 => rfl
 | 6 => rfl
 | j + 7 => omega
theorem cnt_cell (x : Dc) : ∀ j, j < 7 → (dcells x)[6 + j]? = some (.int .i64 (cnt x j)) := by
 intro j hj
 match j with
 | 0 => rfl
 | 1 => rfl
 | 2 => rfl
 | 3 => rfl
 | 4 => rfl
 | 5 => rfl
 | 6 => rfl
 | j + 7 => omega
theorem inc_rest (x : Dc) (j : Nat) : (inc x j).most = x.most ∧ (inc x j).up = x.up ∧ (inc x j).fm = x.fm ∧ (inc x j).lm = x.lm ∧ (inc x j).pd = x.pd ∧ (inc x j).am = x.am ∧ (inc x j).c7 = x.c7 + 1 ∧ (inc x j).c8 = x.c8 := by
 unfold inc
 split <;> exact ⟨rfl, rfl, rfl, rfl, rfl, rfl, rfl, rfl⟩
theorem cnt_all {w : World} {b : Nat} {x : Dc} {f g : Nat} {l l2 : Dr} {P : List Ch} {al : Ar} (h : Dk w b x f g l l2 P al) (j : Nat) : 0 ≤ cnt x j ∧ cnt x j ≤ x.c7 ∧ 0 ≤ x.c7 := by
 have h0 := h.c0
 have h1 := h.c1
 unfold cnt
 split <;> omega
theorem inc_ok {x : Dc} (h0 : 0 ≤ x.c0 ∧ 0 ≤ x.c1 ∧ 0 ≤ x.c2 ∧ 0 ≤ x.c3 ∧ 0 ≤ x.c4 ∧ 0 ≤ x.c5 ∧ 0 ≤ x.c6 ∧ 0 ≤ x.c7) (h1 : x.c0 ≤ x.c7 ∧ x.c1 ≤ x.c7 ∧ x.c2 ≤ x.c7 ∧ x.c3 ≤ x.c7 ∧ x.c4 ≤ x.c7 ∧ x.c5 ≤ x.c7 ∧ x.c6 ≤ x.c7) (j : Nat) :
    (0 ≤ (inc x j).c0 ∧ 0 ≤ (inc x j).c1 ∧ 0 ≤ (inc x j).c2 ∧ 0 ≤ (inc x j).c3 ∧ 0 ≤ (inc x j).c4 ∧ 0 ≤ (inc x j).c5 ∧ 0 ≤ (inc x j).c6 ∧ 0 ≤ (inc x j).c7) ∧
    ((inc x j).c0 ≤ (inc x j).c7 ∧ (inc x j).c1 ≤ (inc x j).c7 ∧ (inc x j).c2 ≤ (inc x j).c7 ∧ (inc x j).c3 ≤ (inc x j).c7 ∧ (inc x j).c4 ≤ (inc x j).c7 ∧ (inc x j).c5 ≤ (inc x j).c7 ∧ (inc x j).c6 ≤ (inc x j).c7) := by
 unfold inc
 split <;> (dsimp only; omega)
theorem Dk.cells {w : World} {b : Nat} {x : Dc} {f g : Nat} {l l2 : Dr} {P : List Ch} {al : Ar} (h : Dk w b x f g l l2 P al) : w.heap[b]? = some (.cells (dcells x) TD (0, 0)) := h.box
theorem Dk.but {X : Nat → Prop} {A B : World} {b : Nat} {x : Dc} {f g : Nat} {l l2 : Dr} {P : List Ch} {al : Ar} (h : Dk A b x f g l l2 P al) (hb : But X A B) (hx : ∀ k, Own b x k → ¬ X k) : Dk B b x f g l l2 P al :=
 ⟨hb.at h.box (hx b (.inl rfl)), h.fm, h.lm, h.mf.but hb (hx f (.inr (.inl h.fm))), h.mg.but hb (hx g (.inr (.inr (.inl h.lm)))), h.fg, h.pd.but hb (fun k hk => hx k (.inr (.inr (.inr (.inl hk))))),
  fun m e => ⟨(h.am m e).1.but hb (hx m (.inr (.inr (.inr (.inr e))))), (h.am m e).2⟩, h.an, h.run, h.can, h.ok, h.c0, h.c1⟩
theorem Dk.below {A B : World} {b : Nat} {x : Dc} {f g : Nat} {l l2 : Dr} {P : List Ch} {al : Ar} (h : Dk A b x f g l l2 P al) (hb : Below A.heap.size A B) : Dk B b x f g l l2 P al := h.but (But.of_below hb fun _ => False) fun _ _ c => c
theorem Dk.lt {w : World} {b : Nat} {x : Dc} {f g : Nat} {l l2 : Dr} {P : List Ch} {al : Ar} (h : Dk w b x f g l l2 P al) : ∀ k, Own b x k → k < w.heap.size := by
 rintro k (rfl | e | e | e | e)
 ·exact heap_lt h.box
 ·rw [h.fm] at e; cases e; exact h.mf.lt
 ·rw [h.lm] at e; cases e; exact h.mg.lt
 ·exact h.pd.lt k e
 ·exact (h.am k e).1.lt
theorem Dk.dp {w : World} {b : Nat} {x : Dc} {f g : Nat} {l l2 : Dr} {P : List Ch} {al : Ar} (h : Dk w b x f g l l2 P al) : Dp w (.pointer (some ⟨b, 0, none⟩)) (some x) := .inr ⟨b, x, rfl, rfl, h.box⟩
theorem begin_any (w : World) (b : Nat) (x : Dc) (f g : Nat) (l l2 : Dr) (P : List Ch) (al : Ar) (j : Nat) (hj : j < 7) (h : Dk w b x f g l l2 P al) (hc : x.c7 < 4611686018427387904) :
    Calls Tryz.prog 54 #[.pointer (some ⟨b, 0, none⟩), .pointer (some ⟨b, 6 + j, none⟩)] w fun e w' => e = .returned (fv ((aget al (x.c7 + 1)).getD zf)) ∧ Dk w' b (inc x j) f g l l2 P (adel al (x.c7 + 1)) ∧ But (Own b x) w w' := by
 obtain ⟨q0, q1, q2⟩ := cnt_all h j
 refine (begin_gen w b j (dcells x) (cnt x j) x.c7 x.am al h.box rfl hj (cnt_cell x j hj) rfl rfl (fun m e => (h.am m e).1) h.an q0 (by omega) q2 hc).mono ?_
 rintro e w' ⟨rfl, hb, hm, hB⟩
 rw [inc_cells x j hj] at hb
 obtain ⟨e1, e2, e3, e4, e5, e6, e7, e8⟩ := inc_rest x j
 obtain ⟨k0, k1⟩ := inc_ok h.c0 h.c1 j
 refine ⟨rfl, ⟨hb, by rw [e3]; exact h.fm, by rw [e4]; exact h.lm, ?_, ?_, h.fg, ?_, ?_, ?_, h.run, h.can, h.ok, k0, k1⟩, hB.mono ?_⟩
 ·refine h.mf.but hB ?_
  rintro (c | c)
  ·exact h.mf.ne h.box c.symm
  ·exact (h.am f c).2.1 rfl
 ·refine h.mg.but hB ?_
  rintro (c | c)
  ·exact h.mg.ne h.box c.symm
  ·exact (h.am g c).2.2 rfl
 ·rw [e5]
  refine h.pd.but hB fun k hk => ?_
  rintro (c | c)
  ·exact h.pd.no h.box (by decide) (by rw [← c]; exact hk)
  ·rcases h.pd.2 with ⟨q, _⟩ | ⟨g', cap, cur, q, hg, hh, r⟩
   ·rw [q] at hk; simp [Value.ownBlock] at hk
   ·rw [q] at hk; simp [Value.ownBlock] at hk; subst hk; exact (h.am _ c).1.ne hh rfl
 ·rw [e6]
  exact fun m e => ⟨hm m e, (h.am m e).2⟩
 ·rw [e6]
  intro e
  rw [h.an e]
  rfl
 ·rintro k _ (c | c)
  ·exact .inl c
  ·exact .inr (.inr (.inr (.inr c)))
def strX (k : Int) (x : Dc) : Dc := if k = 3 then { x with up := false } else x
theorem str_cells (k : Int) (x : Dc) : strC k (dcells x) = dcells (strX k x) := by
 unfold strC strX
 split <;> rfl
theorem strX_rest (k : Int) (x : Dc) : (strX k x).fm = x.fm ∧ (strX k x).lm = x.lm ∧ (strX k x).pd = x.pd ∧ (strX k x).am = x.am ∧ (strX k x).c0 = x.c0 ∧ (strX k x).c1 = x.c1 ∧ (strX k x).c2 = x.c2 ∧ (strX k x).c3 = x.c3 ∧ (strX k x).c4 = x.c4 ∧ (strX k x).c5 = x.c5 ∧ (strX k x).c6 = x.c6 ∧ (strX k x).c7 = x.c7 := by
 unfold strX
 split <;> exact ⟨rfl, rfl, rfl, rfl, rfl, rfl, rfl, rfl, rfl, rfl, rfl, rfl⟩
theorem Dk.noB {w : World} {b : Nat} {x : Dc} {f g : Nat} {l l2 : Dr} {P : List Ch} {al : Ar} (h : Dk w b x f g l l2 P al) : f ≠ b ∧ g ≠ b ∧ (∀ m, x.am = some m → m ≠ b) ∧ (∀ k, x.pd.ownBlock = some k → k ≠ b) :=
 ⟨fun e => h.mf.ne h.box e.symm, fun e => h.mg.ne h.box e.symm, fun m e c => (h.am m e).1.ne h.box c.symm, fun k e c => h.pd.no h.box (by decide) (by rw [← c]; exact e)⟩
theorem Dk.noP {w : World} {b : Nat} {x : Dc} {f g : Nat} {l l2 : Dr} {P : List Ch} {al : Ar} (h : Dk w b x f g l l2 P al) : ∀ k, x.pd.ownBlock = some k → k ≠ f ∧ k ≠ g ∧ x.am ≠ some k := by
 intro k hk
 refine ⟨fun e => h.pd.noM h.mf (by rw [← e]; exact hk), fun e => h.pd.noM h.mg (by rw [← e]; exact hk), fun c => ?_⟩
 rcases h.pd.2 with ⟨q, _⟩ | ⟨g', cap, cur, q, hg, hh, r⟩
 ·rw [q] at hk; simp [Value.ownBlock] at hk
 ·rw [q] at hk; simp [Value.ownBlock] at hk; subst hk; exact (h.am _ c).1.ne hh rfl
theorem Dk.strX {w w' : World} {b : Nat} {x : Dc} {f g : Nat} {l l2 : Dr} {P : List Ch} {al : Ar} (h : Dk w b x f g l l2 P al) (k : Int) (hc : w'.heap[b]? = some (.cells (strC k (dcells x)) TD (0, 0))) (hB : But (fun k => k = b) w w') : Dk w' b (strX k x) f g l l2 P al := by
 rw [str_cells] at hc
 obtain ⟨e3, e4, e5, e6, r⟩ := strX_rest k x
 obtain ⟨r0, r1, r2, r3, r4, r5, r6, r7⟩ := r
 obtain ⟨n1, n2, n3, n4⟩ := h.noB
 refine ⟨hc, by rw [e3]; exact h.fm, by rw [e4]; exact h.lm, h.mf.but hB n1, h.mg.but hB n2, h.fg, by rw [e5]; exact h.pd.but hB n4, ?_, by rw [e6]; exact h.an, h.run, h.can, h.ok, by rw [r0, r1, r2, r3, r4, r5, r6, r7]; exact h.c0, by rw [r0, r1, r2, r3, r4, r5, r6, r7]; exact h.c1⟩
 rw [e6]
 exact fun m e => ⟨(h.am m e).1.but hB (n3 m e), (h.am m e).2⟩
theorem dk_strike (w : World) (b : Nat) (x : Dc) (f g : Nat) (l l2 : Dr) (P : List Ch) (al : Ar) (t : Ft) (h : Dk w b x f g l l2 P al) (hk : t.2.1 ≠ 4) :
    Calls Tryz.prog 115 #[.pointer (some ⟨b, 0, none⟩), fv t] w fun e w' => e = .returned (.int .i64 (strF t.2.1)) ∧ Dk w' b (strX t.2.1 x) f g l l2 P al ∧ But (fun k => k = b) w w' :=
 (strike_any w b (dcells x) t h.box ⟨_, rfl⟩ hk).mono fun _ _ ⟨he, hc, hB⟩ => ⟨he, h.strX _ hc hB, hB⟩
theorem dk_strikeR (w : World) (b : Nat) (x : Dc) (f g : Nat) (l l2 : Dr) (P : List Ch) (al : Ar) (t : Ft) (h : Dk w b x f g l l2 P al) (hk : t.2.1 ≠ 4) :
    Calls Tryz.prog 53 #[.pointer (some ⟨b, 0, none⟩), fv t] w fun e w' => e = .returned (.int .i64 (strR t.2.1)) ∧ Dk w' b (strX t.2.1 x) f g l l2 P al ∧ But (fun k => k = b) w w' :=
 (strikeRoomless_any w b (dcells x) t h.box ⟨_, rfl⟩ hk).mono fun _ _ ⟨he, hc, hB⟩ => ⟨he, h.strX _ hc hB, hB⟩
theorem dk_settle (w : World) (b : Nat) (x : Dc) (f g : Nat) (l l2 : Dr) (P : List Ch) (al : Ar) (h : Dk w b x f g l l2 P al) :
    Calls Tryz.prog 55 #[.pointer (some ⟨b, 0, none⟩)] w fun e w' => e = .returned (.tuple #[]) ∧ ∃ g', w.heap.size ≤ g' ∧ Dk w' b { x with lm := some g', pd := .slice none 0 0 } f g' l l [] al ∧ But (fun k => k = b) w w' := by
 refine (settle_any w b f (dcells x) l h.box rfl (by rw [← h.fm]; rfl) h.mf).mono ?_
 rintro e w' ⟨rfl, g', hg, mg, hc, hB⟩
 obtain ⟨n1, n2, n3, n4⟩ := h.noB
 refine ⟨rfl, g', hg, ⟨hc, h.fm, rfl, h.mf.but hB n1, mg, ?_, Pd.nil _, ?_, h.an, rfl, trivial, by simp, h.c0, h.c1⟩, hB⟩
 ·have := h.mf.lt; omega
 ·intro m e
  refine ⟨(h.am m e).1.but hB (n3 m e), (h.am m e).2.1, ?_⟩
  have := (h.am m e).1.lt
  omega
theorem cans_snoc {l : Dr} {P : List Ch} {c : Ch} (h : Cans l P) (hc : c.can (runs l P)) : Cans l (P ++ [c]) := by
 induction P generalizing l with
 | nil => exact ⟨hc, trivial⟩
 | cons d r ih => exact ⟨h.1, ih h.2 (by simpa [runs] using hc)⟩
theorem dk_change (w : World) (b : Nat) (x : Dc) (f g : Nat) (l l2 : Dr) (P : List Ch) (al : Ar) (c : Ch) (h : Dk w b x f g l l2 P al) (hc : c.ok) (hk : c.can l) (hl : l.length < maxLen) (hP : P.length < 1000000000) :
    Calls Tryz.prog 100 #[.pointer (some ⟨b, 0, none⟩), c.iface] w fun e w' => e = .returned (.tuple #[]) ∧ ∃ pd', Dk w' b { x with pd := pd' } f g (c.run l) l2 (P ++ [c]) al ∧ But (Own b x) w w' ∧ (∀ k, pd'.ownBlock = some k → x.pd.ownBlock = some k ∨ w.heap.size ≤ k) := by
 refine (change_any w b f (dcells x) l P x.pd c h.box (by rw [← h.fm]; rfl) rfl h.mf h.pd hc hk hl hP).mono ?_
 rintro e w' ⟨rfl, mf, pd', hp, hb, hB, ho⟩
 obtain ⟨n1, n2, n3, n4⟩ := h.noB
 refine ⟨rfl, pd', ⟨hb, h.fm, h.lm, mf, ?_, h.fg, hp, ?_, h.an, by rw [runs_snoc, ← h.run], cans_snoc h.can (by rw [← h.run]; exact hk), ?_, h.c0, h.c1⟩, hB.mono ?_, ho⟩
 ·refine h.mg.but hB ?_
  rintro (q | q | q)
  ·exact n2 q
  ·exact h.fg q.symm
  ·exact (h.noP g q).2.1 rfl
 ·intro m e
  refine ⟨(h.am m e).1.but hB ?_, (h.am m e).2⟩
  rintro (q | q | q)
  ·exact n3 m e q
  ·exact (h.am m e).2.1 q
  ·exact (h.noP m q).2.2 e
 ·intro d hd
  rcases List.mem_append.1 hd with q | q
  ·exact h.ok d q
  ·rw [List.mem_singleton.1 q]; exact hc
 ·rintro k _ (q | q | q)
  ·exact .inl q
  ·rw [q]; exact .inr (.inl h.fm)
  ·exact .inr (.inr (.inr (.inl q)))
def nextF (x : Dc) (al : Ar) : Ft := (aget al (x.c7 + 1)).getD zf
structure Stp (w w' : World) (b : Nat) (x x' : Dc) : Prop where
 but : But (Own b x) w w'
 own : ∀ k, Own b x' k → Own b x k ∨ w.heap.size ≤ k
theorem Stp.of_below {w w' : World} {b : Nat} {x : Dc} (h : Below w.heap.size w w') : Stp w w' b x x := ⟨But.of_below h _, fun _ q => .inl q⟩
theorem Stp.trans {w u w' : World} {b : Nat} {x y z : Dc} (h : Stp w u b x y) (k : Stp u w' b y z) : Stp w w' b x z := by
 refine ⟨⟨k.but.os.trans h.but.os, k.but.tape.trans h.but.tape, k.but.output.trans h.but.output, Nat.le_trans h.but.size k.but.size, fun i hi hx => ?_⟩, fun i hi => ?_⟩
 ·rw [k.but.block i (Nat.lt_of_lt_of_le hi h.but.size) (fun c => ?_)]
  ·exact h.but.block i hi hx
  ·rcases h.own i c with q | q
   ·exact hx q
   ·omega
 ·rcases k.own i hi with q | q
  ·exact h.own i q
  ·exact .inr (Nat.le_trans h.but.size q)
theorem own_inc {b : Nat} {x : Dc} {j k : Nat} : Own b (inc x j) k ↔ Own b x k := by
 obtain ⟨e1, e2, e3, e4, e5, e6, e7, e8⟩ := inc_rest x j
 unfold Own
 rw [e3, e4, e5, e6]
theorem own_strX {b : Nat} {x : Dc} {t : Int} {k : Nat} : Own b (strX t x) k ↔ Own b x k := by
 obtain ⟨e3, e4, e5, e6, _⟩ := strX_rest t x
 unfold Own
 rw [e3, e4, e5, e6]
theorem Stp.inc {w w' : World} {b : Nat} {x : Dc} {j : Nat} (h : But (Own b x) w w') : Stp w w' b x (inc x j) := ⟨h, fun _ q => .inl (own_inc.1 q)⟩
theorem Stp.strX {w w' : World} {b : Nat} {x : Dc} {t : Int} (h : But (fun k => k = b) w w') : Stp w w' b x (strX t x) := ⟨h.mono fun _ _ e => .inl e, fun _ q => .inl (own_strX.1 q)⟩
theorem Stp.settle {w w' : World} {b g' : Nat} {x : Dc} (h : But (fun k => k = b) w w') (hg : w.heap.size ≤ g') : Stp w w' b x { x with lm := some g', pd := .slice none 0 0 } := by
 refine ⟨h.mono fun _ _ e => .inl e, ?_⟩
 rintro k (q | q | q | q | q)
 ·exact .inl (.inl q)
 ·exact .inl (.inr (.inl q))
 ·simp at q; subst q; exact .inr hg
 ·simp [Value.ownBlock] at q
 ·exact .inl (.inr (.inr (.inr (.inr q))))
theorem Stp.change {w w' : World} {b : Nat} {x : Dc} {pd : Value} (h : But (Own b x) w w') (ho : ∀ k, pd.ownBlock = some k → x.pd.ownBlock = some k ∨ w.heap.size ≤ k) : Stp w w' b x { x with pd := pd } := by
 refine ⟨h, ?_⟩
 rintro k (q | q | q | q | q)
 ·exact .inl (.inl q)
 ·exact .inl (.inr (.inl q))
 ·exact .inl (.inr (.inr (.inl q)))
 ·rcases ho k q with r | r
  ·exact .inl (.inr (.inr (.inr (.inl r))))
  ·exact .inr r
 ·exact .inl (.inr (.inr (.inr (.inr q))))
theorem syncDir_any (w : World) (b : Nat) (x : Dc) (f g : Nat) (l l2 : Dr) (P : List Ch) (al : Ar) (h : Dk w b x f g l l2 P al) (hc : x.c7 < 4611686018427387904) (hk : (nextF x al).2.1 ≠ 4) :
    Calls Tryz.prog 14 #[.pointer (some ⟨b, 0, none⟩)] w fun e w' =>
     (refF (some x) [] ≠ 0 ∧ e = .returned (.int .i64 (refF (some x) [])) ∧ Dk w' b x f g l l2 P al ∧ Stp w w' b x x) ∨
     (refF (some x) [] = 0 ∧ e = .returned (.int .i64 (strR (nextF x al).2.1)) ∧ ((strR (nextF x al).2.1 ≠ 0 ∧ Dk w' b (strX (nextF x al).2.1 (inc x 6)) f g l l2 P (adel al (x.c7 + 1)) ∧ Stp w w' b x (strX (nextF x al).2.1 (inc x 6))) ∨
      (strR (nextF x al).2.1 = 0 ∧ ∃ g', Dk w' b { strX (nextF x al).2.1 (inc x 6) with lm := some g', pd := .slice none 0 0 } f g' l l [] (adel al (x.c7 + 1)) ∧ Stp w w' b x { strX (nextF x al).2.1 (inc x 6) with lm := some g', pd := .slice none 0 0 }))) := by
 have hr := refuse_any w _ _ (some x) [] h.dp (row0 w) (by simp)
 obtain ⟨r, hR⟩ : ∃ r, Hid (refF (some x) [] = r) := ⟨_, rfl⟩
 rw [hR.out] at hr ⊢
 have H := hide h
 by_cases r0 : r = 0
 ·subst r0
  have hb := begin_any w b x f g l l2 P al 6 (by omega) h hc
  rw [show (aget al (x.c7 + 1)).getD zf = nextF x al from rfl] at hb
  generalize nextF x al = t at *
  have hS : Hid (∀ u, Dk u b (inc x 6) f g l l2 P (adel al (x.c7 + 1)) → _) := fun u hu => dk_strikeR u b (inc x 6) f g l l2 P (adel al (x.c7 + 1)) t hu hk
  obtain ⟨s, hs⟩ : ∃ s, Hid (strR t.2.1 = s) := ⟨_, rfl⟩
  rw [hs.out] at hS ⊢
  by_cases s0 : s = 0
  ·subst s0
   have hT : Hid (∀ u, Dk u b (strX t.2.1 (inc x 6)) f g l l2 P (adel al (x.c7 + 1)) → _) := fun u hu => dk_settle u b _ f g l l2 P _ hu
   clear h hk
   generalize hX : strX t.2.1 (inc x 6) = y at *
   replace hX := hide hX
   go_enter Tryz.func14, Tryz.ntmps14
   go_wp2_with (first
    | (go_at_call 52; refine hr.mono ?_; rintro e w1 ⟨rfl, e1⟩; subst w1)
    | (go_at_call 54; refine hb.mono ?_; rintro e w1 ⟨rfl, D1, B1⟩; replace D1 := hide D1; replace B1 := hide B1)
    | (go_at_call 53; refine (hS.out _ D1.out).mono ?_; rintro e w2 ⟨rfl, D2, B2⟩; replace D2 := hide D2; replace B2 := hide B2)
    | (go_at_call 55; refine (hT.out _ D2.out).mono ?_; rintro e w3 ⟨rfl, g', hg, D3, B3⟩; replace D3 := hide D3; replace B3 := hide B3; replace hg := hide hg))
   go_ret
   have T2 : Stp w1 w2 b (inc x 6) y := by rw [← hX.out]; exact Stp.strX B2.out
   exact .inr ⟨by trivial, rfl, .inr ⟨by trivial, g', D3.out, ((Stp.inc B1.out).trans T2).trans (Stp.settle B3.out hg.out)⟩⟩
  ·have s0' : (s != 0) = true := by simpa using s0
   clear h hk
   generalize hX : strX t.2.1 (inc x 6) = y at *
   replace hX := hide hX
   replace s0 := hide s0
   go_enter Tryz.func14, Tryz.ntmps14
   go_wp2_with (first
    | (go_at_call 52; refine hr.mono ?_; rintro e w1 ⟨rfl, e1⟩; subst w1)
    | (go_at_call 54; refine hb.mono ?_; rintro e w1 ⟨rfl, D1, B1⟩; replace D1 := hide D1; replace B1 := hide B1)
    | (go_at_call 53; refine (hS.out _ D1.out).mono ?_; rintro e w2 ⟨rfl, D2, B2⟩; replace D2 := hide D2; replace B2 := hide B2))
   go_ret
   have T2 : Stp w1 w2 b (inc x 6) y := by rw [← hX.out]; exact Stp.strX B2.out
   exact .inr ⟨by trivial, rfl, .inl ⟨s0.out, D2.out, (Stp.inc B1.out).trans T2⟩⟩
 ·have r0' : (r != 0) = true := by simpa using r0
  replace r0 := hide r0
  clear h hk hR
  go_enter Tryz.func14, Tryz.ntmps14
  go_wp2_with (go_at_call 52; refine hr.mono ?_; rintro e w1 ⟨rfl, e1⟩; subst w1)
  go_ret
  exact .inl ⟨r0.out, rfl, H.out, Stp.of_below (Below.refl _ _)⟩
end Go.Proofs.YtpflaglfnkmjiaaGreat.Dk
namespace Go.Proofs
open Go.Shelf
def Tryz.keys127_ren : Go.Shelf.Ren := ⟨fun | 7 => 127 | 10 => 171 | n => n, fun | 23 => 80 | 26 => 9 | 3 => 137 | 28 => 207 | 0 => 0 | 27 => 206 | 33 => 198 | 4 => 4 | n => n, fun | n => n⟩
theorem Tryz.keys127 : Go.Proofs.SlLaysZ.n7 Tryz.prog Tryz.keys127_ren := {
 mixed := by kernel_rfl
 f7 := ⟨Tryz.f127.name, by decide, Tryz.func127.trans (congrArg some (by kernel_rfl))⟩
 f10 := ⟨Tryz.f171.name, by decide, Tryz.func171.trans (congrArg some (by kernel_rfl))⟩
 t0 := Tryz.underlying0
 a0 := Tryz.isAgg0
 z0 := Tryz.sizeOf0
 v0 := Tryz.zeroValue0
 t4 := Tryz.underlying4
 a4 := Tryz.isAgg4
 z4 := Tryz.sizeOf4
 v4 := Tryz.zeroValue4
 t23 := Tryz.underlying80
 a23 := Tryz.isAgg80
 z23 := Tryz.sizeOf80
 v23 := Tryz.zeroValue80
 t26 := Tryz.underlying9
 a26 := Tryz.isAgg9
 z26 := Tryz.sizeOf9
 v26 := Tryz.zeroValue9
 t27 := Tryz.underlying206
 a27 := Tryz.isAgg206
 z27 := Tryz.sizeOf206
 v27 := Tryz.zeroValue206
 t28 := Tryz.underlying207
 a28 := Tryz.isAgg207
 z28 := Tryz.sizeOf207
 v28 := Tryz.zeroValue207
 t33 := Tryz.underlying198
 a33 := Tryz.isAgg198
 z33 := Tryz.sizeOf198
 v33 := Tryz.zeroValue198 }
def Tryz.sorted126_ren : Go.Shelf.Ren := ⟨fun | 6 => 126 | 8 => 169 | 9 => 170 | 11 => 195 | 13 => 197 | 12 => 196 | 23 => 214 | 24 => 215 | 14 => 205 | 15 => 206 | 16 => 207 | 17 => 208 | 18 => 209 | 19 => 210 | 20 => 211 | 21 => 212 | 22 => 213 | 25 => 216 | 26 => 217 | 27 => 218 | 28 => 219 | 29 => 220 | 30 => 221 | 31 => 222 | n => n, fun | 26 => 9 | 28 => 207 | 24 => 135 | 0 => 0 | 3 => 3 | 37 => 274 | 48 => 36 | 50 => 234 | 4 => 4 | 40 => 293 | 39 => 292 | 45 => 227 | 5 => 5 | 9 => 9 | 51 => 301 | 55 => 304 | 57 => 306 | 58 => 307 | 33 => 198 | n => n, fun | n => n⟩
theorem Tryz.sorted126 : Go.Proofs.SlLaysZ.n6 Tryz.prog Tryz.sorted126_ren := {
 mixed := by kernel_rfl
 f6 := ⟨Tryz.f126.name, by decide, Tryz.func126.trans (congrArg some (by kernel_rfl))⟩
 f8 := ⟨Tryz.f169.name, by decide, Tryz.func169.trans (congrArg some (by kernel_rfl))⟩
 f11 := ⟨Tryz.f195.name, by decide, Tryz.func195.trans (congrArg some (by kernel_rfl))⟩
 t0 := Tryz.underlying0
 a0 := Tryz.isAgg0
 z0 := Tryz.sizeOf0
 v0 := Tryz.zeroValue0
 t24 := Tryz.underlying135
 a24 := Tryz.isAgg135
 z24 := Tryz.sizeOf135
 v24 := Tryz.zeroValue135
 t26 := Tryz.underlying9
 a26 := Tryz.isAgg9
 z26 := Tryz.sizeOf9
 v26 := Tryz.zeroValue9
 t28 := Tryz.underlying207
 a28 := Tryz.isAgg207
 z28 := Tryz.sizeOf207
 v28 := Tryz.zeroValue207
 i26 := by kernel_rfl }
def Tryz.sort170_ren : Go.Shelf.Ren := ⟨fun | 6 => 170 | 8 => 197 | 9 => 196 | 19 => 214 | 20 => 215 | 21 => 205 | 22 => 206 | 23 => 207 | 24 => 208 | 25 => 209 | 26 => 210 | 27 => 211 | 28 => 212 | 29 => 213 | 36 => 216 | 31 => 217 | 32 => 218 | 37 => 219 | 38 => 220 | 39 => 221 | 41 => 222 | n => n, fun | 27 => 135 | 29 => 9 | 3 => 3 | 32 => 274 | 26 => 135 | 0 => 0 | 44 => 36 | 46 => 234 | 4 => 4 | 36 => 293 | 35 => 292 | 41 => 227 | 5 => 5 | 9 => 9 | 53 => 301 | 57 => 304 | 63 => 306 | 64 => 307 | n => n, fun | n => n⟩
theorem Tryz.sort170 : Go.Proofs.SlLaysM.n6 Tryz.prog Tryz.sort170_ren := {
 mixed := by kernel_rfl
 f6 := ⟨Tryz.f170.name, by decide, Tryz.func170.trans (congrArg some (by kernel_rfl))⟩
 f8 := Tryz.func197.trans (congrArg some (by kernel_rfl))
 f9 := ⟨Tryz.f196.name, by decide, Tryz.func196.trans (congrArg some (by kernel_rfl))⟩
 f19 := Tryz.func214.trans (congrArg some (by kernel_rfl))
 f20 := Tryz.func215.trans (congrArg some (by kernel_rfl))
 f21 := ⟨Tryz.f205.name, by decide, Tryz.func205.trans (congrArg some (by kernel_rfl))⟩
 f22 := ⟨Tryz.f206.name, by decide, Tryz.func206.trans (congrArg some (by kernel_rfl))⟩
 f23 := ⟨Tryz.f207.name, by decide, Tryz.func207.trans (congrArg some (by kernel_rfl))⟩
 f24 := ⟨Tryz.f208.name, by decide, Tryz.func208.trans (congrArg some (by kernel_rfl))⟩
 f25 := ⟨Tryz.f209.name, by decide, Tryz.func209.trans (congrArg some (by kernel_rfl))⟩
 f26 := ⟨Tryz.f210.name, by decide, Tryz.func210.trans (congrArg some (by kernel_rfl))⟩
 f27 := ⟨Tryz.f211.name, by decide, Tryz.func211.trans (congrArg some (by kernel_rfl))⟩
 f28 := ⟨Tryz.f212.name, by decide, Tryz.func212.trans (congrArg some (by kernel_rfl))⟩
 f29 := ⟨Tryz.f213.name, by decide, Tryz.func213.trans (congrArg some (by kernel_rfl))⟩
 f31 := Tryz.func217.trans (congrArg some (by kernel_rfl))
 f32 := Tryz.func218.trans (congrArg some (by kernel_rfl))
 f36 := ⟨Tryz.f216.name, by decide, Tryz.func216.trans (congrArg some (by kernel_rfl))⟩
 f37 := ⟨Tryz.f219.name, by decide, Tryz.func219.trans (congrArg some (by kernel_rfl))⟩
 f38 := ⟨Tryz.f220.name, by decide, Tryz.func220.trans (congrArg some (by kernel_rfl))⟩
 f39 := ⟨Tryz.f221.name, by decide, Tryz.func221.trans (congrArg some (by kernel_rfl))⟩
 f41 := ⟨Tryz.f222.name, by decide, Tryz.func222.trans (congrArg some (by kernel_rfl))⟩
 t0 := Tryz.underlying0
 a0 := Tryz.isAgg0
 z0 := Tryz.sizeOf0
 v0 := Tryz.zeroValue0
 t3 := Tryz.underlying3
 a3 := Tryz.isAgg3
 z3 := Tryz.sizeOf3
 v3 := Tryz.zeroValue3
 t4 := Tryz.underlying4
 a4 := Tryz.isAgg4
 z4 := Tryz.sizeOf4
 v4 := Tryz.zeroValue4
 t5 := Tryz.underlying5
 a5 := Tryz.isAgg5
 z5 := Tryz.sizeOf5
 v5 := Tryz.zeroValue5
 t9 := Tryz.underlying9
 a9 := Tryz.isAgg9
 z9 := Tryz.sizeOf9
 v9 := Tryz.zeroValue9
 t26 := Tryz.underlying135
 a26 := Tryz.isAgg135
 z26 := Tryz.sizeOf135
 v26 := Tryz.zeroValue135
 t27 := Tryz.underlying135
 a27 := Tryz.isAgg135
 z27 := Tryz.sizeOf135
 v27 := Tryz.zeroValue135
 t29 := Tryz.underlying9
 a29 := Tryz.isAgg9
 z29 := Tryz.sizeOf9
 v29 := Tryz.zeroValue9
 t32 := Tryz.underlying274
 a32 := Tryz.isAgg274
 z32 := Tryz.sizeOf274
 v32 := Tryz.zeroValue274
 t35 := Tryz.underlying292
 a35 := Tryz.isAgg292
 z35 := Tryz.sizeOf292
 v35 := Tryz.zeroValue292
 t36 := Tryz.underlying293
 a36 := Tryz.isAgg293
 z36 := Tryz.sizeOf293
 v36 := Tryz.zeroValue293
 t41 := Tryz.underlying227
 a41 := Tryz.isAgg227
 z41 := Tryz.sizeOf227
 v41 := Tryz.zeroValue227
 t44 := Tryz.underlying36
 a44 := Tryz.isAgg36
 z44 := Tryz.sizeOf36
 v44 := Tryz.zeroValue36
 t46 := Tryz.underlying234
 a46 := Tryz.isAgg234
 z46 := Tryz.sizeOf234
 v46 := Tryz.zeroValue234
 t53 := Tryz.underlying301
 a53 := Tryz.isAgg301
 z53 := Tryz.sizeOf301
 v53 := Tryz.zeroValue301
 t57 := Tryz.underlying304
 a57 := Tryz.isAgg304
 z57 := Tryz.sizeOf304
 v57 := Tryz.zeroValue304
 t63 := Tryz.underlying306
 a63 := Tryz.isAgg306
 z63 := Tryz.sizeOf306
 v63 := Tryz.zeroValue306
 t64 := Tryz.underlying307
 a64 := Tryz.isAgg307
 z64 := Tryz.sizeOf307
 v64 := Tryz.zeroValue307 }
end Go.Proofs
namespace Go.Proofs.YtpflaglfnkmjiaaGreat.Dk
open Go.RowKit Go.Maps Go.Sort Go.Shelf Go.Proofs.YtpflaglfnkmjiaaGreat.Nm
theorem sorts_any (m : Nat) : AnyZ.SortsIn Tryz.prog Tryz.sorted126_ren Fence.wide m :=
 ⟨fun blk off cap ss W hH hblk hsz => callsIn_wide.2 (AnyM.slices_Sort_string Tryz.sort170 blk off cap ss W hH hblk hsz),
  fun p cap W => callsIn_wide.2 (AnyM.slices_Sort_string_none Tryz.sort170 p cap W)⟩
theorem keys_any (mb : Option Nat) (W : World) : CallsIn Fence.wide 5 Tryz.prog 127 #[.map mb] W fun e w' => e = .returned (.func (.func 171) #[] #[.pointer (some ⟨W.heap.size, 0, none⟩)]) ∧ w' = W.alloc (.cells #[.map mb] 80) :=
 AnyZ.keys_in Tryz.keys127 Fence.wide 5 trivial rfl mb W
theorem sorted_any (b : Nat) (l : Dr) (w : World) (h : Mp w b l) (hl : l.length ≤ 1000000000) :
    CallsIn Fence.wide 5 Tryz.prog 126 #[.func (.func 171) #[] #[.pointer (some ⟨w.heap.size, 0, none⟩)]] (w.alloc (.cells #[.map (some b)] 80)) fun e w' => ∃ (v : Value) (ss : List (List UInt8)), e = .returned v ∧ ss.Perm (strKeys (dirD l)) ∧
     w'.ownsRow (w.alloc (.cells #[.map (some b)] 80)).heap.size 9 1 v ss.length ((ss.mergeSort (fun x y => decide (x ≤ y))).map encStr) ∧ (v = .slice none 0 0 ↔ ss = []) ∧ Below (w.alloc (.cells #[.map (some b)] 80)).heap.size (w.alloc (.cells #[.map (some b)] 80)) w' := by
 have hbl := h.lt
 have hown : w.ownsMap Tryz.prog 9 ptrR b l.length (dirD l) := h
 have hsz : Maps.size (dirD l) = l.length := dirD_size l
 have hseq : SeqGives Fence.wide 2 Tryz.prog 171 #[.pointer (some ⟨w.heap.size, 0, none⟩)] encStr (fun ss => ss.Perm (strKeys (dirD l))) (Maps.size (dirD l)) (w.alloc (.cells #[.map (some b)] 80)) :=
  AnyZ.keys_gives (ρ := Tryz.keys127_ren) { Tryz.keys127 with } Fence.wide _ trivial rfl (by omega) w.heap.size b l.length (dirD l) _ (by simp) (by simp) (by
   obtain ⟨es, clock, hb, Ft, hs, hD⟩ := hown
   exact ⟨es, clock, (Below.heap_alloc _ _ b hbl).trans hb, Ft, hs, hD⟩)
 exact AnyZ.sorted_in Tryz.sorted126 Fence.wide 5 trivial trivial trivial trivial rfl (by omega) (sorts_any _) (enters_of Tryz.func170 (by kernel_rfl) rfl) 171 #[.pointer (some ⟨w.heap.size, 0, none⟩)] trivial (enters_of Tryz.func171 (by kernel_rfl) rfl) _ _ (by rw [hsz]; unfold maxLen; omega) (by rw [hsz]; omega) _ hseq
theorem names_gen (b : Nat) (l : Dr) (w : World) (h : Mp w b l) (hl : l.length ≤ 1000000000) :
    Calls Tryz.prog 65 #[.map (some b)] w fun e w' => ∃ (v : Value) (ss : List (List UInt8)), e = .returned v ∧ ss.Perm (strKeys (dirD l)) ∧
     w'.ownsRow w.heap.size 9 1 v ss.length ((ss.mergeSort (fun x y => decide (x ≤ y))).map encStr) ∧ (v = .slice none 0 0 ↔ ss = []) ∧ Below w.heap.size w w' := by
 refine (callsIn_wide (n := 6)).1 ?_
 have hfK : Fence.wide.fn 127 := trivial
 have hfS : Fence.wide.fn 126 := trivial
 refine callsIn_of_wp Tryz.func65 rfl trivial ?_ rfl
 simp only [Tryz.ntmps65, List.size_toArray, List.length_cons, List.length_nil, Nat.reduceAdd, Nat.reduceSub, Array.replicate_succ, Array.replicate_zero, List.push_toArray, List.append_toArray, List.nil_append, List.cons_append]
 gi_wp2_with (first
  | (gi_at_call 127; refine (keys_any _ _).mono ?_; rintro e w' ⟨rfl, rfl⟩)
  | (gi_at_call 126; refine (sorted_any b l w h hl).mono ?_; rintro e w' ⟨v, ss, rfl, hS, hrow, hnil, hb⟩))
 go_ret
 exact ⟨v, ss, rfl, hS, ownsRow_base_a hrow (by simp), hnil, ((Below.refl _ w).alloc (Nat.le_refl _) _).trans (hb.mono (by simp))⟩
end Go.Proofs.YtpflaglfnkmjiaaGreat.Dk
namespace Go.Proofs
open Go.Shelf
def Tryz.laysM316_ren : Go.Shelf.Ren := ⟨fun | 316 => 158 | n => n, fun | 9 => 9 | 3 => 3 | 4 => 4 | 37 => 39 | 0 => 0 | 127 => 276 | 5 => 5 | n => n, fun | n => n⟩
theorem Tryz.laysM316 : Go.Proofs.LaysM.n316 Tryz.prog Tryz.laysM316_ren := {
 mixed := by kernel_rfl
 f316 := Tryz.func158.trans (congrArg some (by kernel_rfl))
 t0 := Tryz.underlying0
 a0 := Tryz.isAgg0
 z0 := Tryz.sizeOf0
 v0 := Tryz.zeroValue0
 t3 := Tryz.underlying3
 a3 := Tryz.isAgg3
 z3 := Tryz.sizeOf3
 v3 := Tryz.zeroValue3
 t4 := Tryz.underlying4
 a4 := Tryz.isAgg4
 z4 := Tryz.sizeOf4
 v4 := Tryz.zeroValue4
 t9 := Tryz.underlying9
 a9 := Tryz.isAgg9
 z9 := Tryz.sizeOf9
 v9 := Tryz.zeroValue9
 t37 := Tryz.underlying39
 a37 := Tryz.isAgg39
 z37 := Tryz.sizeOf39
 v37 := Tryz.zeroValue39
 t127 := Tryz.underlying276
 a127 := Tryz.isAgg276
 z127 := Tryz.sizeOf276
 v127 := Tryz.zeroValue276
 t5 := Tryz.underlying5
 a5 := Tryz.isAgg5
 z5 := Tryz.sizeOf5
 v5 := Tryz.zeroValue5
 i0 := by kernel_rfl
 i3 := by kernel_rfl
 i4 := by kernel_rfl
 i5 := by kernel_rfl
 i9 := by kernel_rfl
 i37 := by kernel_rfl
 i127 := by kernel_rfl }
open Go.RowKit in
theorem Tryz.stringslite_Clone (s : ByteArray) (w : World) (hlim : s.size ≤ 281474976710656) :
    Calls Tryz.prog 158 #[.string s] w fun e w' => e = .returned (.string s) ∧ Below w.heap.size w w' := Any.stringslite_Clone Tryz.laysM316 s w hlim
end Go.Proofs
namespace Go.Proofs.YtpflaglfnkmjiaaGreat.Dk
open Go.RowKit Go.Maps Go.Sort Go.Shelf Go.Proofs.YtpflaglfnkmjiaaGreat.Nm
def nms (l : Dr) : List (List UInt8) := (l.map (·.1)).mergeSort fun x y => decide (x ≤ y)
theorem sort_perm {ss tt : List (List UInt8)} (h : ss.Perm tt) : (ss.mergeSort fun x y => decide (x ≤ y)) = tt.mergeSort fun x y => decide (x ≤ y) := by
 have tr : ∀ a b c : List UInt8, decide (a ≤ b) = true → decide (b ≤ c) = true → decide (a ≤ c) = true := fun a b c h1 h2 => by simp only [decide_eq_true_eq] at *; exact List.le_trans h1 h2
 have tt' : ∀ a b : List UInt8, (decide (a ≤ b) || decide (b ≤ a)) = true := fun a b => by simp only [Bool.or_eq_true, decide_eq_true_eq]; exact List.le_total a b
 have p1 := List.pairwise_mergeSort tr tt' ss
 have p2 := List.pairwise_mergeSort tr tt' tt
 refine List.Perm.eq_of_pairwise (le := fun a b => decide (a ≤ b) = true) (fun a b _ _ h1 h2 => ?_) p1 p2 (((List.mergeSort_perm _ _).trans h).trans (List.mergeSort_perm _ _).symm)
 simp only [decide_eq_true_eq] at h1 h2
 exact List.le_antisymm h1 h2
theorem keys_dir (l : Dr) : strKeys (dirD l) = l.map (·.1) := by
 show (l.map dent).map (fun p => strOf p.1) = _
 rw [List.map_map]
 rfl
theorem nms_len (l : Dr) : (nms l).length = l.length := by rw [nms, List.length_mergeSort, List.length_map]
theorem names_any (b : Nat) (l : Dr) (w : World) (h : Mp w b l) (hl : l.length ≤ 1000000000) :
    Calls Tryz.prog 65 #[.map (some b)] w fun e w' => ∃ v : Value, e = .returned v ∧ w'.ownsRow w.heap.size 9 1 v (nms l).length ((nms l).map encStr) ∧ (v = .slice none 0 0 ↔ l = []) ∧ Below w.heap.size w w' := by
 refine (names_gen b l w h hl).mono ?_
 rintro e w' ⟨v, ss, rfl, hp, hr, hn, hB⟩
 rw [keys_dir] at hp
 rw [sort_perm hp] at hr
 refine ⟨v, rfl, ?_, ?_, hB⟩
 ·have e : ss.length = (nms l).length := by rw [nms_len, hp.length_eq, List.length_map]
  rw [← e]
  exact hr
 ·rw [hn]
  constructor
  ·rintro rfl
   exact List.map_eq_nil_iff.1 (List.nil_perm.1 hp)
  ·rintro rfl
   exact List.perm_nil.1 hp
theorem clone_str (s : ByteArray) (w : World) (hs : s.size ≤ 281474976710656) : Calls Tryz.prog 101 #[.string s] w fun e w' => e = .returned (.string s) ∧ Below w.heap.size w w' := by
 have hc := Tryz.stringslite_Clone s w hs
 go_enter Tryz.func101, Tryz.ntmps101
 go_wp2_with (go_at_call 158; refine hc.mono ?_; rintro e w1 ⟨rfl, B1⟩; replace B1 := hide B1)
 go_ret
 exact ⟨rfl, B1.out⟩
inductive Created (w w' : World) (b : Nat) (x : Dc) (f g : Nat) (l l2 : Dr) (P : List Ch) (al : Ar) (s : ByteArray) : Int → Prop where
 | no (r : Int) (hr : refF (some x) [s] = r) (h0 : r ≠ 0) (hd : Dk w' b x f g l l2 P al) (st : Stp w w' b x x) : Created w w' b x f g l l2 P al s r
 | there (hr : refF (some x) [s] = 0) (ht : (get l s.data.toList).isSome = true) (hd : Dk w' b x f g l l2 P al) (st : Stp w w' b x x) : Created w w' b x f g l l2 P al s 7
 | many (hr : refF (some x) [s] = 0) (ht : get l s.data.toList = none) (hm : 256 ≤ l.length) (hd : Dk w' b x f g l l2 P al) (st : Stp w w' b x x) : Created w w' b x f g l l2 P al s 9
 | struck (e : Int) (hr : refF (some x) [s] = 0) (ht : get l s.data.toList = none) (hm : l.length < 256) (he : strF (nextF x al).2.1 = e) (h0 : e ≠ 0) (hd : Dk w' b (strX (nextF x al).2.1 (inc x 0)) f g l l2 P (adel al (x.c7 + 1))) (st : Stp w w' b x (strX (nextF x al).2.1 (inc x 0))) : Created w w' b x f g l l2 P al s e
 | done (hr : refF (some x) [s] = 0) (ht : get l s.data.toList = none) (hm : l.length < 256) (he : strF (nextF x al).2.1 = 0) (p : Nat) (pd : Value) (hp : w.heap.size ≤ p) (ho : ¬ Own b { strX (nextF x al).2.1 (inc x 0) with pd := pd } p) (hf : w'.heap[p]? = some (.cells #[.slice none 0 0, .slice none 0 0, .int .i64 0] 180 (0, 0)))
     (hd : Dk w' b { strX (nextF x al).2.1 (inc x 0) with pd := pd } f g (dput l s.data.toList p) l2 (P ++ [.cr s p]) (adel al (x.c7 + 1))) (st : Stp w w' b x { strX (nextF x al).2.1 (inc x 0) with pd := pd }) : Created w w' b x f g l l2 P al s 0
theorem create_any (w : World) (b : Nat) (x : Dc) (f g : Nat) (l l2 : Dr) (P : List Ch) (al : Ar) (s : ByteArray) (hs : s.size ≤ 140737488355328) (h : Dk w b x f g l l2 P al) (hc : x.c7 < 4611686018427387904) (hk : (nextF x al).2.1 ≠ 4) (hP : P.length < 1000000000) :
    Calls Tryz.prog 48 #[.pointer (some ⟨b, 0, none⟩), .string s] w fun e w' => ∃ r, e = .returned (.int .i64 r) ∧ Created w w' b x f g l l2 P al s r := by
 have hs2 : s.size ≤ maxLen := by unfold maxLen; omega
 have hB := hide ((Below.refl _ w).alloc (Nat.le_refl _) (.cells #[.string s] 9))
 have H1 := hide (h.below hB.out)
 have hr := refuse_any (w.alloc (.cells #[.string s] 9)) _ _ (some x) [s] H1.out.dp (row1 w s _ _) (by simpa using hs2)
 obtain ⟨r, hR⟩ : ∃ r, Hid (refF (some x) [s] = r) := ⟨_, rfl⟩
 rw [hR.out] at hr
 generalize hw1 : w.alloc (.cells #[.string s] 9) = w1 at *
 replace hw1 := hide hw1
 have K1 := hide (Stp.of_below (b := b) (x := x) hB.out)
 by_cases r0 : r = 0
 ·subst r0
  have c2 : w1.cell? ⟨b, 2, none⟩ = some (.map (some f)) := by have := H1.out.box.cells.2.2.1; rw [H1.out.fm] at this; exact this
  by_cases g0 : (get l s.data.toList).isSome = true
  ·obtain ⟨p, hp⟩ := Option.isSome_iff_exists.1 g0
   have hL := H1.out.mf.look_some hs2 hp
   unfold TM at hL
   clear h hk
   replace g0 := hide g0
   go_enter Tryz.func48, Tryz.ntmps48
   go_upto_region 1 with fail
   go_wp2_with (go_at_call 52; rw [hw1.out]; refine hr.mono ?_; rintro e w2 ⟨rfl, e1⟩; subst w2)
   go_ret
   exact ⟨7, rfl, .there hR.out g0.out H1.out K1.out⟩
  ·have hg : get l s.data.toList = none := by simpa using g0
   have hL := H1.out.mf.look_none hs2 hg
   have hLen := fun ty => H1.out.mf.len ty
   unfold TM at hL hLen
   replace hg := hide hg
   by_cases m0 : 256 ≤ l.length
   ·have m1 : (256 : Int) ≤ (l.length : Int) := by omega
    clear h hk g0
    go_enter Tryz.func48, Tryz.ntmps48
    go_wp2_with (go_at_call 52; rw [hw1.out]; refine hr.mono ?_; rintro e w2 ⟨rfl, e1⟩; subst w2)
    go_ret
    exact ⟨9, rfl, .many hR.out hg.out m0 H1.out K1.out⟩
   ·have m1 : ¬ (256 : Int) ≤ (l.length : Int) := by omega
    have m2 : l.length < 256 := by omega
    have hb := begin_any w1 b x f g l l2 P al 0 (by omega) H1.out hc
    rw [show (aget al (x.c7 + 1)).getD zf = nextF x al from rfl] at hb
    have hS : Hid (∀ u, Dk u b (inc x 0) f g l l2 P (adel al (x.c7 + 1)) → _) := fun u hu => dk_strike u b (inc x 0) f g l l2 P (adel al (x.c7 + 1)) (nextF x al) hu hk
    obtain ⟨t, ht⟩ : ∃ t, Hid (nextF x al = t) := ⟨_, rfl⟩
    rw [ht.out] at hS hb hk
    obtain ⟨e0, he⟩ : ∃ e0, Hid (strF t.2.1 = e0) := ⟨_, rfl⟩
    rw [he.out] at hS
    obtain ⟨y, hX⟩ : ∃ y, Hid (strX t.2.1 (inc x 0) = y) := ⟨_, rfl⟩
    rw [hX.out] at hS
    by_cases s0 : e0 = 0
    ·subst s0
     have hC := hide (clone_str s)
     have hT : Hid (∀ u p, Dk u b y f g l l2 P (adel al (x.c7 + 1)) → _) := fun u p hu => dk_change u b y f g l l2 P _ (.cr s p) hu hs2 trivial (by unfold maxLen; omega) hP
     clear h hk g0
     go_enter Tryz.func48, Tryz.ntmps48
     go_wp2_with (first
      | (go_at_call 52; rw [hw1.out]; refine hr.mono ?_; rintro e w2 ⟨rfl, e1⟩; subst w2)
      | (go_at_call 54; refine hb.mono ?_; rintro e w2 ⟨rfl, D2, B2⟩; replace D2 := hide D2; replace B2 := hide B2; clear hL hLen c2)
      | (go_at_call 115; refine (hS.out _ D2.out).mono ?_; rintro e w3 ⟨rfl, D3, B3⟩; replace D3 := hide D3; replace B3 := hide B3)
      | (go_at_call 101; refine (hC.out w3 (by omega)).mono ?_; rintro e w4 ⟨rfl, B4⟩; replace B4 := hide B4; have D4 := hide (D3.out.below B4.out); have B5 := hide ((Below.refl _ w4).alloc (Nat.le_refl _) (.cells #[.slice none 0 0, .slice none 0 0, .int .i64 0] 180)); have N5 := hide (heap_alloc_new w4 (.cells #[.slice none 0 0, .slice none 0 0, .int .i64 0] 180)); have D5 := hide (D4.out.below B5.out))
      | (go_at_call 100; refine (hT.out _ w4.heap.size D5.out).mono ?_; rintro e w6 ⟨rfl, pd, D6, B6, O6⟩; replace D6 := hide D6; replace B6 := hide B6; replace O6 := hide O6))
     go_ret
     have T3 : Stp w2 w3 b (inc x 0) y := by rw [← hX.out]; exact Stp.strX B3.out
     have T5 : Stp w3 (w4.alloc (.cells #[.slice none 0 0, .slice none 0 0, .int .i64 0] 180)) b y y := Stp.of_below (B4.out.trans (B5.out.mono B4.out.size))
     have T6 := Stp.change B6.out O6.out
     have T4 := (K1.out.trans (Stp.inc B2.out)).trans T3
     have z3 := T4.but.size
     have z4 := B4.out.size
     have hno : ¬ Own b y w4.heap.size := fun c => Nat.lt_irrefl _ (D4.out.lt _ c)
     refine ⟨0, rfl, .done hR.out hg.out m2 (by rw [ht.out, he.out]) w4.heap.size pd (by omega) ?_ (B6.out.at N5.out hno) ?_ ?_⟩
     ·rw [ht.out, hX.out]
      intro c
      rcases T6.own _ c with q | q
      ·exact hno q
      ·simp at q
       omega
     ·rw [ht.out, hX.out]; exact D6.out
     ·rw [ht.out, hX.out]; exact (T4.trans T5).trans T6
    ·have s0' : (e0 != 0) = true := by simpa using s0
     replace s0 := hide s0
     clear h hk g0
     go_enter Tryz.func48, Tryz.ntmps48
     go_wp2_with (first
      | (go_at_call 52; rw [hw1.out]; refine hr.mono ?_; rintro e w2 ⟨rfl, e1⟩; subst w2)
      | (go_at_call 54; refine hb.mono ?_; rintro e w2 ⟨rfl, D2, B2⟩; replace D2 := hide D2; replace B2 := hide B2; clear hL hLen c2)
      | (go_at_call 115; refine (hS.out _ D2.out).mono ?_; rintro e w3 ⟨rfl, D3, B3⟩; replace D3 := hide D3; replace B3 := hide B3))
     go_ret
     have T2 : Stp w2 w3 b (inc x 0) y := by rw [← hX.out]; exact Stp.strX B3.out
     refine ⟨e0, rfl, .struck e0 hR.out hg.out m2 (by rw [ht.out, he.out]) s0.out ?_ ?_⟩
     ·rw [ht.out, hX.out]; exact D3.out
     ·rw [ht.out, hX.out]; exact (K1.out.trans (Stp.inc B2.out)).trans T2
 ·have r0' : (r != 0) = true := by simpa using r0
  replace r0 := hide r0
  clear h hk
  go_enter Tryz.func48, Tryz.ntmps48
  go_wp2_with (go_at_call 52; rw [hw1.out]; refine hr.mono ?_; rintro e w2 ⟨rfl, e1⟩; subst w2)
  go_ret
  exact ⟨r, rfl, .no r hR.out r0.out H1.out K1.out⟩
end Go.Proofs.YtpflaglfnkmjiaaGreat.Dk
namespace Go.Proofs.YtpflaglfnkmjiaaGreat.Dk
open Go.RowKit Go.Maps Go.Proofs.YtpflaglfnkmjiaaGreat.Nm
def Ob (B : Nat) (w : World) (v : Value) (l : List UInt8) : Prop := w.ownsRow B 5 1 v l.length (bvals l)
theorem Ob.nil (B : Nat) (w : World) : Ob B w (.slice none 0 0) [] := World.ownsRow_nil _ _ _ _
theorem infoB : (Tryz.prog.info? 5).map (fun i => (i.zero, i.size, i.bytes)) = some (some (.int .u8 0), 1, 1) := by kernel_rfl
theorem Ob.sl {B : Nat} {w : World} {v : Value} {l : List UInt8} (h : Ob B w v l) : Sl w v l := Sl.of_owns h
theorem Ob.low {B C : Nat} {w : World} {v : Value} {l : List UInt8} (h : Ob B w v l) (hb : C ≤ B) : Ob C w v l := by
 refine ⟨h.1, ?_⟩
 rcases h.2 with h | ⟨g, cap, cur, rfl, hg, r⟩
 ·exact .inl h
 ·exact .inr ⟨g, cap, cur, rfl, Nat.le_trans hb hg, r⟩
theorem Ob.but {B : Nat} {X : Nat → Prop} {A C : World} {v : Value} {l : List UInt8} (h : Ob B A v l) (hb : But X A C) (hx : ∀ k, v.ownBlock = some k → ¬ X k) : Ob B C v l := by
 refine ⟨h.1, ?_⟩
 rcases h.2 with h | ⟨g, cap, cur, rfl, hg, hh, r⟩
 ·exact .inl h
 ·exact .inr ⟨g, cap, cur, rfl, hg, hb.at hh (hx g rfl), r⟩
theorem Ob.below {B : Nat} {w w' : World} {v : Value} {l : List UInt8} (h : Ob B w v l) (hb : Below w.heap.size w w') : Ob B w' v l := h.but (But.of_below hb fun _ => False) fun _ _ c => c
theorem Ob.no {B : Nat} {w : World} {v : Value} {l : List UInt8} {b : Nat} {cs : Array Value} {T : TypeId} {fz : Nat × Nat} (h : Ob B w v l) (hb : w.heap[b]? = some (.cells cs T fz)) (hT : T ≠ 5) : v.ownBlock ≠ some b := fun e1 => by
 rcases h.2 with ⟨rfl, _⟩ | ⟨g, cap, cur, rfl, hg, hh, r⟩
 ·simp [Value.ownBlock] at e1
 ·simp [Value.ownBlock] at e1
  subst e1
  rw [hb] at hh
  simp at hh
  exact hT hh.2.1
theorem Ob.lt {B : Nat} {w : World} {v : Value} {l : List UInt8} (h : Ob B w v l) : ∀ k, v.ownBlock = some k → B ≤ k ∧ k < w.heap.size := fun k hk => World.ownsRow.lt h k hk
theorem Ob.form {B : Nat} {w : World} {v : Value} {l : List UInt8} (h : Ob B w v l) : ∃ ao ca, v = .slice ao l.length ca ∧ l.length ≤ ca ∧ ca ≤ 9223372036854775807 := by
 obtain ⟨ao, cap, e, _, h3, h4, _⟩ := h.sl
 exact ⟨ao, cap, e, h3, by unfold maxLen at h4; omega⟩
theorem run_app {B : Nat} {w : World} {v vx : Value} {l m : List UInt8} (h : Ob B w v l) (hm : Sl w vx m) (hl : l.length + m.length ≤ 140737488355328) (hB : B ≤ w.heap.size) (ty : TypeId) :
    ∃ v' w', (Builtin.append_ #[39, 39] ty #[v, vx]).run Tryz.prog w = .ok v' w' ∧ Ob B w' v' (l ++ m) ∧ w.grownBy w' v.ownBlock ∧ (v'.ownBlock = v.ownBlock ∨ v'.ownBlock = some w.heap.size) := by
 obtain ⟨i0, hi, hz0, hz1, hz2⟩ := info_parts infoB
 obtain ⟨ao, cap, rfl, h2, h3, h4, h5⟩ := hm
 cases ao with
 | none =>
  obtain ⟨rfl, rfl⟩ := h2 rfl
  refine ⟨v, w, ?_, by simpa using h, ⟨rfl, rfl, rfl, Nat.le_refl _, fun _ _ _ => rfl⟩, .inl rfl⟩
  exact run_append_owned_none (P := Tryz.prog) (w := w) B 39 ty 5 i0 1 Tryz.underlying39 hi v l.length (bvals l) h
 | some ad =>
  have hcells : ∀ j u, (bvals m)[j]? = some u → w.cell? (ad.add j) = some u := by
   intro j u hu
   have hj : j < m.length := by
    have := (List.getElem?_eq_some_iff.1 hu).1
    simpa [bvals] using this
   obtain ⟨b, off, e1, hc⟩ := h5 j hj
   simp only [Option.some.injEq] at e1
   subst e1
   rw [bvals_get hj] at hu
   simp only [Option.some.injEq] at hu
   subst hu
   rw [addr_add]; exact hc
  obtain ⟨v', w', hr, ho, hg, _, hat⟩ := run_append_own_at (P := Tryz.prog) w B 39 ty 5 i0 (.int .u8 0) 1 1 Tryz.underlying39 hi hz0 hz1 hz2 rfl (by decide) v l.length (bvals l) h ad m.length cap (bvals m) (by simp [bvals]) hcells (by
   intro u hu
   simp only [bvals, List.mem_map] at hu
   obtain ⟨c, _, rfl⟩ := hu
   rfl) (by unfold maxLen; omega) (by omega) hB
  refine ⟨v', w', hr, ?_, hg, hat⟩
  unfold Ob
  rw [List.length_append, bvals_append]
  exact ho
theorem eqlS (w : World) (a : Option Addr) (n c n' c' : Nat) : (binOp .eql 39 (.slice a n c) (.slice none n' c')).run Tryz.prog w = .ok (.bool a.isNone) w := Lib.run_eql_slice_nil w _ _ a n c n' c' Tryz.underlying39
theorem clone_bytes (w : World) (v : Value) (l : List UInt8) (hv : Sl w v l) (hl : l.length ≤ 140737488355328) :
    Calls Tryz.prog 107 #[v] w fun e w' => ∃ v', e = .returned v' ∧ Ob w.heap.size w' v' l ∧ Below w.heap.size w w' := by
 have qT := eqlS
 have V := hide hv
 obtain ⟨ao, cap, rfl, h2, _⟩ := hv
 cases ao with
 | none =>
  obtain ⟨rfl, rfl⟩ := h2 rfl
  clear h2 V
  go_enter Tryz.func107, Tryz.ntmps107
  go_wp2_with fail
  go_ret
  exact ⟨_, rfl, Ob.nil _ _, Below.refl _ _⟩
 | some ad =>
  clear h2
  have hB := hide ((Below.refl _ w).alloc (Nat.le_refl _) (.cells #[] 5))
  have O1 : Ob w.heap.size (w.alloc (.cells #[] 5)) (.slice (some ⟨w.heap.size, 0, none⟩) 0 0) [] := owns_zero (Nat.le_refl _) (heap_alloc_new w _) rfl (Nat.zero_le _)
  obtain ⟨v', w', hr, O2, hg, _⟩ := run_app (ty := 39) O1 (Below.sl hB.out V.out) (by simpa using hl) (by simp)
  have K : Hid (Ob w.heap.size w' v' l ∧ Below w.heap.size w w') := ⟨by simpa using O2, hB.out.grown hg (by simp) (fun k hk => by simp [Value.ownBlock] at hk; omega)⟩
  clear O1 O2 hg
  go_enter Tryz.func107, Tryz.ntmps107
  go_wp2_with (at_builtin; refine Lib.wpList_append_run _ rfl (.tmp 5) (.tmp 6) 39 39 rfl _ _ rfl rfl _ _ hr ?_)
  go_ret
  exact ⟨_, rfl, K.out⟩
structure Fl where
 by_ : List UInt8
 la : List UInt8
 sp : Nat
def TFl : TypeId := 180
structure FlAt (w : World) (p : Nat) (f : Fl) (vb vl : Value) : Prop where
 box : w.heap[p]? = some (.cells #[vb, vl, .int .i64 (f.sp : Int)] TFl (0, 0))
 b : Ob 0 w vb f.by_
 l : Ob 0 w vl f.la
 ne : ∀ k, vb.ownBlock = some k → vl.ownBlock ≠ some k
 le : f.la.length ≤ f.by_.length
 sp : f.sp ≤ f.by_.length - f.la.length
 sz : f.by_.length ≤ 1099511627776
def FOwn (p : Nat) (vb vl : Value) (k : Nat) : Prop := k = p ∨ vb.ownBlock = some k ∨ vl.ownBlock = some k
theorem FlAt.but {X : Nat → Prop} {A B : World} {p : Nat} {f : Fl} {vb vl : Value} (h : FlAt A p f vb vl) (hb : But X A B) (hx : ∀ k, FOwn p vb vl k → ¬ X k) : FlAt B p f vb vl :=
 ⟨hb.at h.box (hx p (.inl rfl)), h.b.but hb fun k hk => hx k (.inr (.inl hk)), h.l.but hb fun k hk => hx k (.inr (.inr hk)), h.ne, h.le, h.sp, h.sz⟩
theorem FlAt.below {A B : World} {p : Nat} {f : Fl} {vb vl : Value} (h : FlAt A p f vb vl) (hb : Below A.heap.size A B) : FlAt B p f vb vl := h.but (But.of_below hb fun _ => False) fun _ _ c => c
theorem FlAt.lt {w : World} {p : Nat} {f : Fl} {vb vl : Value} (h : FlAt w p f vb vl) : ∀ k, FOwn p vb vl k → k < w.heap.size := by
 rintro k (rfl | e | e)
 ·exact heap_lt h.box
 ·exact (h.b.lt k e).2
 ·exact (h.l.lt k e).2
theorem FlAt.new {w : World} {p : Nat} (h : w.heap[p]? = some (.cells #[.slice none 0 0, .slice none 0 0, .int .i64 0] 180 (0, 0))) : FlAt w p ⟨[], [], 0⟩ (.slice none 0 0) (.slice none 0 0) :=
 ⟨h, Ob.nil _ _, Ob.nil _ _, fun k hk => by simp [Value.ownBlock] at hk, Nat.le_refl _, Nat.zero_le _, Nat.zero_le _⟩
theorem tail_any (w : World) (p : Nat) (f : Fl) (vb vl : Value) (h : FlAt w p f vb vl) : Calls Tryz.prog 108 #[.pointer (some ⟨p, 0, none⟩)] w fun e w' => e = .returned (.int .i64 ((f.by_.length - f.la.length : Nat) : Int)) ∧ ∃ n, w' = w.drewN n := by
 obtain ⟨x0, x1, _⟩ := cells3 h.box
 obtain ⟨ao, ca, rfl, _, _⟩ := h.b.form
 obtain ⟨ao2, ca2, rfl, _, _⟩ := h.l.form
 have hle := h.le
 have hsz := h.sz
 clear h
 generalize f.by_.length = n at *
 generalize f.la.length = m at *
 have e1 : ((n - m : Nat) : Int) = (n : Int) - (m : Int) := by omega
 have e2 : IntKind.i64.wrap ((n : Int) - (m : Int)) = (n : Int) - (m : Int) := by rw [IntKind.wrap_i64]; omega
 rw [e1]
 clear e1
 go_enter Tryz.func108, Tryz.ntmps108
 go_upto_region 1 with fail
 go_quiet (fail)
 go_wp2_with fail
 go_ret
 exact ⟨rfl, _, rfl⟩
theorem Ob.zeros {B g cap : Nat} : ∀ (k o : Nat) (w : World) (L : List UInt8), Ob B w (.slice (some ⟨g, 0, none⟩) L.length cap) L → o + k ≤ L.length →
    Ob B (w.setCells g o (List.replicate k (.int .u8 0))) (.slice (some ⟨g, 0, none⟩) L.length cap) (L.take o ++ List.replicate k 0 ++ L.drop (o + k)) ∧ w.grownBy (w.setCells g o (List.replicate k (.int .u8 0))) (some g) := by
 intro k
 induction k with
 | zero =>
  intro o w L h ho
  have e0 : w.setCells g o (List.replicate 0 (.int .u8 0)) = w := by cases o <;> rfl
  refine ⟨?_, by rw [e0]; exact ⟨rfl, rfl, rfl, Nat.le_refl _, fun _ _ _ => rfl⟩⟩
  have e : w.setCells g o (List.replicate 0 (.int .u8 0)) = w := by cases o <;> rfl
  rw [e]
  simpa using h
 | succ k ih =>
  intro o w L h ho
  obtain ⟨s1, g1⟩ := World.ownsRow.stored h o (.int .u8 0)
  have hL : (L.set o 0).length = L.length := by simp
  have s2 : Ob B (w.setCell ⟨g, o, none⟩ (.int .u8 0)) (.slice (some ⟨g, 0, none⟩) (L.set o 0).length cap) (L.set o 0) := by
   unfold Ob
   rw [hL, show bvals (L.set o 0) = (bvals L).set o (.int .u8 0) by unfold bvals; rw [List.map_set]; rfl]
   exact s1
  obtain ⟨i1, i2⟩ := ih (o + 1) _ (L.set o 0) s2 (by rw [hL]; omega)
  rw [hL] at i1
  refine ⟨?_, ?_⟩
  ·have e : (L.set o 0).take (o + 1) ++ List.replicate k 0 ++ (L.set o 0).drop (o + 1 + k) = L.take o ++ List.replicate (k + 1) 0 ++ L.drop (o + (k + 1)) := by
     rw [List.take_succ_eq_append_getElem (by rw [hL]; omega), List.getElem_set_self, List.take_set_of_le (Nat.le_refl _), List.drop_set_of_lt (by omega), List.replicate_succ, show o + 1 + k = o + (k + 1) by omega]
     simp
   rw [e] at i1
   exact i1
  ·refine ⟨i2.os.trans g1.os, i2.tape.trans g1.tape, i2.output.trans g1.output, Nat.le_trans g1.size i2.size, fun j hj hn => ?_⟩
   rw [show w.setCells g o (List.replicate (k + 1) (.int .u8 0)) = (w.setCell ⟨g, o, none⟩ (.int .u8 0)).setCells g (o + 1) (List.replicate k (.int .u8 0)) from rfl, i2.block j (Nat.lt_of_lt_of_le hj g1.size) hn]
   exact g1.block j hj hn
theorem zeroU8 (w : World) : (zeroValue 5).run Tryz.prog w = .ok (.int .u8 0) w := by kernel_rfl
theorem run_clear {B : Nat} {w : World} {ao : Option Addr} {n ca k : Nat} {L : List UInt8} (h : Ob B w (.slice ao n ca) L) (hn : n = L.length) (hk : k ≤ L.length) (ty : TypeId) :
    ∃ w', (Builtin.clear_ #[39] ty #[.slice ao k ca]).run Tryz.prog w = .ok (.tuple #[]) w' ∧ Ob B w' (.slice ao n ca) (List.replicate k 0 ++ L.drop k) ∧ w.grownBy w' (Value.slice ao n ca).ownBlock := by
 by_cases k0 : k = 0
 ·subst k0
  refine ⟨w, ?_, by simpa using h, ⟨rfl, rfl, rfl, Nat.le_refl _, fun _ _ _ => rfl⟩⟩
  cases ao <;> simp [Builtin.clear_, run_underlying Tryz.underlying39]
 ·subst hn
  rcases h.2 with ⟨e, e2⟩ | ⟨g, cap, cur, e, hg, hh, r⟩
  ·omega
  ·simp only [Value.slice.injEq] at e
   obtain ⟨rfl, _, rfl⟩ := e
   obtain ⟨r1, _, r2, _⟩ := r
   have hc : ∀ j, j < k → (w.cell? ⟨g, 0 + j, none⟩).isSome = true := by
    intro j hj
    simp [World.cell?, hh]
    omega
   have hf : ∀ j, j < k → w.frozen? ⟨g, 0 + j, none⟩ = false := fun j _ => World.ownsRow.frozenAt h _
   have hr := Lib.run_clear_slice (P := Tryz.prog) w 39 5 ty (.int .u8 0) Tryz.underlying39 zeroU8 rfl rfl g 0 k ca (by omega) hc hf
   obtain ⟨z1, z2⟩ := Ob.zeros k 0 w L h (by omega)
   exact ⟨_, hr, by simpa using z1, z2⟩
def svd (f : Fl) (n : Nat) : List UInt8 := List.replicate (min f.sp n) 0 ++ ((f.by_.drop f.la.length).take n).drop (min f.sp n)
theorem svd_len (f : Fl) (n : Nat) (h : f.la.length + n ≤ f.by_.length) : (svd f n).length = n := by
 unfold svd
 simp
 omega
theorem run_sub {w : World} {v : Value} {l : List UInt8} (h : Sl w v l) (a n : Nat) (hn : a + n ≤ l.length) :
    ∃ v', (∀ q : World, (Instr.slice 39 v (some (.int .i64 (a : Int))) (some (.int .i64 ((a : Int) + (n : Int)))) none).run Tryz.prog q = .ok v' q) ∧ Sl w v' ((l.drop a).take n) := by
 obtain ⟨ao, ca, rfl, h2, h3, h4, h5⟩ := h
 refine ⟨.slice (if ca = a then ao else ao.map (·.add (a * 1))) n (ca - a), fun q => ?_, ?_⟩
 ·have e1 : (0 : Int) ≤ (a : Int) + (n : Int) ∧ (a : Int) + (n : Int) ≤ (ca : Int) := by omega
  have e2 : ((a : Int) + (n : Int)).toNat = a + n := by omega
  have e3 : (a : Int) ≤ ((a + n : Nat) : Int) := by omega
  have e4 : (sizeOf 5).run Tryz.prog q = .ok 1 q := by kernel_rfl
  simp [Instr.slice, run_underlying Tryz.underlying39, Instr.sliceBounds, Instr.sliceBound, asIntOf, e1, e2, e4, Result.andThen]
 ·have hlen : ((l.drop a).take n).length = n := by simp; omega
  refine ⟨_, _, by rw [hlen], ?_, by rw [hlen]; omega, by omega, ?_⟩
  ·intro e
   cases ao with
   | none => obtain ⟨rfl, rfl⟩ := h2 rfl; simp
   | some ad => split at e <;> simp at e
  ·intro i hi
   rw [hlen] at hi
   obtain ⟨b, off, e, hc⟩ := h5 (a + i) (by omega)
   subst e
   have hne : ca ≠ a := by omega
   refine ⟨b, off + a, by simp [hne, addr_add], ?_⟩
   rw [show off + a + i = off + (a + i) by omega, hc]
   simp
theorem saved_any (w : World) (p n : Nat) (f : Fl) (vb vl : Value) (h : FlAt w p f vb vl) (hn : f.la.length + n ≤ f.by_.length) :
    Calls Tryz.prog 128 #[.pointer (some ⟨p, 0, none⟩), .int .i64 (n : Int)] w fun e w' => ∃ v, e = .returned v ∧ Ob w.heap.size w' v (svd f n) ∧ Below w.heap.size w w' := by
 obtain ⟨x0, x1, x2⟩ := cells3 h.box
 have hsz := h.sz
 have hB := hide h.box
 obtain ⟨vs, hS, VS⟩ := run_sub h.b.sl f.la.length n hn
 have hlen : ((f.by_.drop f.la.length).take n).length = n := by simp; omega
 have hC := clone_bytes w vs _ VS (by rw [hlen]; omega)
 obtain ⟨k, hk⟩ : ∃ k, Hid (min f.sp n = k) := ⟨_, rfl⟩
 have hE : Hid (svd f n = List.replicate k 0 ++ ((f.by_.drop f.la.length).take n).drop k) := by show _ = _; rw [← hk.out]; rfl
 rw [hE.out]
 have hk2 : k ≤ n ∧ k ≤ f.sp := by have := hk.out; omega
 have hkm : (f.sp ≤ n ∧ k = f.sp) ∨ (n < f.sp ∧ k = n) := by have := hk.out; omega
 generalize (f.by_.drop f.la.length).take n = L at *
 obtain ⟨ao2, ca2, rfl, _, _⟩ := h.l.form
 have w1' : IntKind.i64.wrap ((f.la.length : Int) + (n : Int)) = (f.la.length : Int) + (n : Int) := by rw [IntKind.wrap_i64]; omega
 have hsp : f.sp ≤ 1099511627776 := by have := h.sp; omega
 have hF : Hid (∀ q, Below w.heap.size w q → q.cell? ⟨p, 2, none⟩ = some (.int .i64 (f.sp : Int))) := fun q hq => by rw [hq.cell (p := ⟨p, 2, none⟩) (lt_of_cell x2)]; exact x2
 clear h hE VS
 generalize f.la.length = a at *
 generalize f.sp = sp at *
 generalize f.by_.length = N at *
 go_enter Tryz.func128, Tryz.ntmps128
 go_upto_region 3 with (go_at_call 107; refine hC.mono ?_; rintro e w1 ⟨v1, rfl, O1, B1⟩; replace O1 := hide O1; replace B1 := hide B1)
 obtain ⟨ao1, ca1, rfl, c1, c2⟩ := O1.out.form
 obtain ⟨w2, hR, O2, G2⟩ := run_clear (k := k) O1.out rfl (by omega) 0
 have y2 := hF.out w1 B1.out
 have K : Hid (Ob w.heap.size w2 (.slice ao1 L.length ca1) (List.replicate k 0 ++ L.drop k) ∧ Below w.heap.size w w2) := ⟨O2, B1.out.grown G2 B1.out.size (fun j hj => (O1.out.lt j hj).1)⟩
 rw [hlen] at K c1
 rw [hlen]
 clear O1 O2 G2 hC hS x0 x1 x2 hk2 hk
 replace hlen := hide hlen
 replace hn := hide hn
 have hmin : min (sp : Int) (n : Int) = (k : Int) := by omega
 have i2 : (k : Int) ≤ (ca1 : Int) := by omega
 clear hkm
 go_wp2_with fail
 go_ret
 exact ⟨_, rfl, K.out⟩
def jnk (f : Fl) (N : Int) (J : List UInt8) : Nat := min J.length (min (f.by_.length - f.la.length - wthn N (f.by_.length - f.la.length)) 512)
def crF (f : Fl) (N : Int) (J : List UInt8) : List UInt8 := f.la ++ (svd f (wthn N (f.by_.length - f.la.length)) ++ J.take (jnk f N J))
theorem Row.three {w : World} {o : TypeId} (a b c : Value) : Row (w.alloc (.cells #[a, b, c] o)) (.slice (some ⟨w.heap.size, 0, none⟩) 3 3) [a, b, c] := by
 refine ⟨some ⟨w.heap.size, 0, none⟩, 3, rfl, fun e => by simp at e, Nat.le_refl _, by decide, fun i hi => ?_⟩
 have hi2 : i = 0 ∨ i = 1 ∨ i = 2 := by simp at hi; omega
 refine ⟨_, _, rfl, ?_⟩
 rw [Nat.zero_add]
 unfold World.cell?
 simp only [heap_alloc_new]
 rcases hi2 with rfl | rfl | rfl <;> rfl
theorem sls3 {w : World} {a b c : Value} {x y z : List UInt8} (ha : Sl w a x) (hb : Sl w b y) (hc : Sl w c z) : Sls w [a, b, c] [x, y, z] := by
 refine ⟨rfl, fun i h1 h2 => ?_⟩
 have hi2 : i = 0 ∨ i = 1 ∨ i = 2 := by simp at h1; omega
 rcases hi2 with rfl | rfl | rfl
 ·exact ha
 ·exact hb
 ·exact hc
theorem _root_.Go.Proofs.YtpflaglfnkmjiaaGreat.Sl.below4 {w w' : World} {v : Value} {l : List UInt8} (h : Sl w v l) (hb : Below w.heap.size w w') : Sl w' v l := Below.sl hb h
theorem sl_take {w : World} {a : Option Addr} {n c j : Nat} {l : List UInt8} (h : Sl w (.slice a n c) l) (hj : j ≤ l.length) : Sl w (.slice a j c) (l.take j) := by
 obtain ⟨ao, ca, e, h2, h3, h4, h5⟩ := h
 simp only [Value.slice.injEq] at e
 obtain ⟨rfl, _, rfl⟩ := e
 have hl : (l.take j).length = j := by simp; omega
 refine ⟨a, c, by rw [hl], fun e => ?_, by rw [hl]; omega, h4, fun i hi => ?_⟩
 ·obtain ⟨rfl, rfl⟩ := h2 e
  simp
 ·rw [hl] at hi
  obtain ⟨b, off, e, hc⟩ := h5 i (by omega)
  exact ⟨b, off, e, by rw [hc]; simp⟩
theorem FlAt.setSp {w : World} {p : Nat} {f : Fl} {vb vl : Value} (h : FlAt w p f vb vl) (n : Nat) (hn : n ≤ f.by_.length - f.la.length) : FlAt (w.setCell ⟨p, 2, none⟩ (.int .i64 (n : Int))) p ⟨f.by_, f.la, n⟩ vb vl := by
 have g := But.of_grownBy (X := fun k => k = p) (grown_setCell w p 2 (.int .i64 (n : Int))) fun k e => by cases e; rfl
 refine ⟨?_, h.b.but g (fun k hk e => h.b.no h.box (by decide) (by rw [← e]; exact hk)), h.l.but g (fun k hk e => h.l.no h.box (by decide) (by rw [← e]; exact hk)), h.ne, h.le, hn, h.sz⟩
 have := heap_setCell_same w p 2 _ _ (.int .i64 (n : Int)) h.box
 simpa using this
theorem spoil_any (w : World) (p : Nat) (f : Fl) (vb vl : Value) (h : FlAt w p f vb vl) :
    Calls Tryz.prog 117 #[.pointer (some ⟨p, 0, none⟩)] w fun e w' => e = .returned (.tuple #[]) ∧ FlAt w' p ⟨f.by_, f.la, f.by_.length - f.la.length⟩ vb vl ∧ But (fun k => k = p) w w' := by
 have hT := tail_any w p f vb vl h
 have H := hide h
 clear h
 go_enter Tryz.func117, Tryz.ntmps117
 go_wp2_with (go_at_call 108; refine hT.mono ?_; rintro e w1 ⟨rfl, nq, rfl⟩; have x2 := (cells3 (H.out.below (Qt.below ⟨nq, rfl⟩ _)).box).2.2; have x3 := (frozen3 (H.out.below (Qt.below ⟨nq, rfl⟩ _)).box).2.2)
 go_end0
 have H1 : FlAt (w.drewN nq) p f vb vl := H.out.below (Qt.below ⟨nq, rfl⟩ _)
 refine ⟨rfl, H1.setSp _ (Nat.le_refl _), ?_⟩
 exact (But.of_below (Qt.below ⟨nq, rfl⟩ _) _).trans (But.of_grownBy (grown_setCell (w.drewN nq) p 2 _) fun k e => by cases e; rfl)
theorem Dk.find {w : World} {b : Nat} {x : Dc} {f g : Nat} {l l2 : Dr} {P : List Ch} {al : Ar} (h : Dk w b x f g l l2 P al) (s : ByteArray) (hs : s.size ≤ maxLen) :
    Calls Tryz.prog 99 #[.pointer (some ⟨b, 0, none⟩), .string s] w fun e w' => e = .returned (.tuple #[(findF (some x) l s).1, .int .i64 (findF (some x) l s).2]) ∧ Below w.heap.size w w' :=
 find_any w _ (some x) l s h.dp hs (fun y m e1 e2 => by cases e1; rw [h.fm] at e2; cases e2; exact h.mf)
theorem findF_no {x : Option Dc} {l : Dr} {s : ByteArray} (h : (findF x l s).2 ≠ 0) : (findF x l s).1 = .pointer none := by
 revert h
 unfold findF
 split
 ·split
  ·intro h; exact absurd rfl h
  ·intro _; rfl
 ·intro _; rfl
theorem findF_ok {x : Option Dc} {l : Dr} {s : ByteArray} {p : Nat} (hr : refF x [s] = 0) (hg : get l s.data.toList = some p) : findF x l s = (.pointer (some ⟨p, 0, none⟩), 0) := by simp [findF, hr, hg]
theorem size_no {w : World} {b : Nat} {x : Dc} {f g : Nat} {l l2 : Dr} {P : List Ch} {al : Ar} (h : Dk w b x f g l l2 P al) (s : ByteArray) (hs : s.size ≤ maxLen) (hn : (findF (some x) l s).2 ≠ 0) :
    Calls Tryz.prog 90 #[.pointer (some ⟨b, 0, none⟩), .string s] w fun e w' => e = .returned (.tuple #[.int .i64 0, .int .i64 (findF (some x) l s).2]) ∧ Below w.heap.size w w' := by
 have hF := h.find s hs
 rw [findF_no hn] at hF
 generalize (findF (some x) l s).2 = r at *
 have hn' : (r != 0) = true := by simpa using hn
 clear h hn
 go_enter Tryz.func90, Tryz.ntmps90
 go_wp2_with (go_at_call 99; refine hF.mono ?_; rintro e w1 ⟨rfl, B1⟩; replace B1 := hide B1)
 go_ret2
 exact ⟨rfl, B1.out⟩
theorem size_ok {w : World} {b p : Nat} {x : Dc} {f g : Nat} {l l2 : Dr} {P : List Ch} {al : Ar} {t : Fl} {vb vl : Value} (h : Dk w b x f g l l2 P al) (s : ByteArray) (hs : s.size ≤ maxLen) (hr : refF (some x) [s] = 0) (hg : get l s.data.toList = some p) (hf : FlAt w p t vb vl) :
    Calls Tryz.prog 90 #[.pointer (some ⟨b, 0, none⟩), .string s] w fun e w' => e = .returned (.tuple #[.int .i64 (t.by_.length : Int), .int .i64 0]) ∧ Below w.heap.size w w' := by
 have hF := h.find s hs
 rw [findF_ok hr hg] at hF
 have c0 := (cells3 hf.box).1
 obtain ⟨ao, ca, rfl, _, _⟩ := hf.b.form
 clear h hf hr hg
 go_enter Tryz.func90, Tryz.ntmps90
 go_wp2_with (go_at_call 99; refine hF.mono ?_; rintro e w1 ⟨rfl, B1⟩; have d0 := (B1.cell (p := ⟨p, 0, none⟩) (lt_of_cell c0)).trans c0; replace B1 := hide B1)
 go_ret2
 exact ⟨rfl, B1.out⟩
theorem read_no {w : World} {b : Nat} {x : Dc} {f g : Nat} {l l2 : Dr} {P : List Ch} {al : Ar} (h : Dk w b x f g l l2 P al) (s : ByteArray) (hs : s.size ≤ maxLen) (o n : Int) (hn : (findF (some x) l s).2 ≠ 0) :
    Calls Tryz.prog 89 #[.pointer (some ⟨b, 0, none⟩), .string s, .int .i64 o, .int .i64 n] w fun e w' => e = .returned (.tuple #[.slice none 0 0, .int .i64 (findF (some x) l s).2]) ∧ Below w.heap.size w w' := by
 have hF := h.find s hs
 rw [findF_no hn] at hF
 generalize (findF (some x) l s).2 = r at *
 have hn' : (r != 0) = true := by simpa using hn
 clear h hn
 go_enter Tryz.func89, Tryz.ntmps89
 go_wp2_with (go_at_call 99; refine hF.mono ?_; rintro e w1 ⟨rfl, B1⟩; replace B1 := hide B1)
 go_ret2
 exact ⟨rfl, B1.out⟩
theorem read_ok {w : World} {b p : Nat} {x : Dc} {f g : Nat} {l l2 : Dr} {P : List Ch} {al : Ar} {t : Fl} {vb vl : Value} (h : Dk w b x f g l l2 P al) (s : ByteArray) (hs : s.size ≤ maxLen) (o n : Nat) (hr : refF (some x) [s] = 0) (hg : get l s.data.toList = some p) (hf : FlAt w p t vb vl) (hon : o + n ≤ t.by_.length) :
    Calls Tryz.prog 89 #[.pointer (some ⟨b, 0, none⟩), .string s, .int .i64 (o : Int), .int .i64 (n : Int)] w fun e w' => ∃ v, e = .returned (.tuple #[v, .int .i64 0]) ∧ Ob w.heap.size w' v ((t.by_.drop o).take n) ∧ Below w.heap.size w w' := by
 have hF := h.find s hs
 rw [findF_ok hr hg] at hF
 have c0 := (cells3 hf.box).1
 obtain ⟨vs, hS, VS⟩ := run_sub hf.b.sl o n hon
 have hlen : ((t.by_.drop o).take n).length ≤ 140737488355328 := by have := hf.sz; simp; omega
 obtain ⟨ao, ca, rfl, _, _⟩ := hf.b.form
 have hsz := hf.sz
 have hC : Hid (∀ q, Below w.heap.size w q → Calls Tryz.prog 107 #[vs] q fun e w' => ∃ v', e = .returned v' ∧ Ob q.heap.size w' v' ((t.by_.drop o).take n) ∧ Below q.heap.size q w') := fun q hq => clone_bytes q vs _ (Below.sl hq VS) hlen
 clear h hf hr hg VS hlen
 generalize (t.by_.drop o).take n = L at *
 generalize t.by_.length = N at *
 have i1 : ¬ ((o : Int) < 0) := by omega
 have i2 : ¬ ((o : Int) > (N : Int)) := by omega
 have i3 : ¬ ((n : Int) < 0) := by omega
 have i4 : ¬ ((n : Int) > (N : Int) - (o : Int)) := by omega
 have e1 : IntKind.i64.wrap ((N : Int) - (o : Int)) = (N : Int) - (o : Int) := by rw [IntKind.wrap_i64]; omega
 have e2 : IntKind.i64.wrap ((o : Int) + (n : Int)) = (o : Int) + (n : Int) := by rw [IntKind.wrap_i64]; omega
 replace hon := hide hon
 go_enter Tryz.func89, Tryz.ntmps89
 go_wp2_with (first
  | (go_at_call 99; refine hF.mono ?_; rintro e w1 ⟨rfl, B1⟩; have d0 := (B1.cell (p := ⟨p, 0, none⟩) (lt_of_cell c0)).trans c0; replace B1 := hide B1)
  | (go_at_call 107; refine (hC.out _ B1.out).mono ?_; rintro e w2 ⟨v2, rfl, O2, B2⟩; replace O2 := hide O2; replace B2 := hide B2))
 go_ret2
 exact ⟨v2, rfl, O2.out.low B1.out.size, B1.out.trans (B2.out.mono B1.out.size)⟩
structure DS where
 most : Int
 up : Bool
 l2 : Dr
 P : List Ch
 al : Ar
 c0 : Int
 c1 : Int
 c2 : Int
 c3 : Int
 c4 : Int
 c5 : Int
 c6 : Int
 c7 : Int
 c8 : Int
 F : Nat → Fl
def DS.dc (S : DS) (f g : Nat) (pd : Value) (am : Option Nat) : Dc := ⟨S.most, S.up, some f, some g, pd, am, S.c0, S.c1, S.c2, S.c3, S.c4, S.c5, S.c6, S.c7, S.c8⟩
def DS.dir (S : DS) : Dr := runs S.l2 S.P
def Ch.ptr : Ch → Option Nat
 | .cr _ p => some p
 | _ => none
def DS.ps (S : DS) : List Nat := S.l2.map (·.2) ++ S.P.filterMap Ch.ptr
structure DS.ok (S : DS) : Prop where
 most : 0 ≤ S.most ∧ S.most ≤ 16777216
 sz : ∀ p ∈ S.ps, (S.F p).by_.length ≤ 16777216
 cnt : ((S.l2.length + S.P.length : Nat) : Int) ≤ S.c7
 calm : ∀ e ∈ S.al, (1 ≤ e.2.2.1 ∧ e.2.2.1 ≤ 3) ∧ 0 ≤ e.2.2.2
 by8 : 0 ≤ S.c8 ∧ S.c8 ≤ 16777216 * S.c7
structure Fs (w : World) (Ow : Nat → Prop) (ps : List Nat) (F : Nat → Fl) (VB VL : Nat → Value) : Prop where
 at_ : ∀ p ∈ ps, FlAt w p (F p) (VB p) (VL p)
 ap : ∀ p ∈ ps, ∀ q ∈ ps, p ≠ q → ∀ k, FOwn p (VB p) (VL p) k → ¬ FOwn q (VB q) (VL q) k
 no : ∀ p ∈ ps, ∀ k, FOwn p (VB p) (VL p) k → ¬ Ow k
structure Sgo (w w' : World) (O O' : Nat → Prop) : Prop where
 but : But O w w'
 own : ∀ k, O' k → O k ∨ w.heap.size ≤ k
theorem Sgo.of_below {w w' : World} {O : Nat → Prop} (h : Below w.heap.size w w') : Sgo w w' O O := ⟨But.of_below h _, fun _ q => .inl q⟩
theorem Sgo.trans {w u w' : World} {O O1 O2 : Nat → Prop} (h : Sgo w u O O1) (k : Sgo u w' O1 O2) : Sgo w w' O O2 := by
 refine ⟨⟨k.but.os.trans h.but.os, k.but.tape.trans h.but.tape, k.but.output.trans h.but.output, Nat.le_trans h.but.size k.but.size, fun i hi hx => ?_⟩, fun i hi => ?_⟩
 ·rw [k.but.block i (Nat.lt_of_lt_of_le hi h.but.size) (fun c => ?_)]
  ·exact h.but.block i hi hx
  ·rcases h.own i c with q | q
   ·exact hx q
   ·omega
 ·rcases k.own i hi with q | q
  ·exact h.own i q
  ·exact .inr (Nat.le_trans h.but.size q)
theorem Sgo.low {w w' : World} {O O' : Nat → Prop} {B : Nat} (h : Sgo w w' O O') (hB : B ≤ w.heap.size) (lo : ∀ k, O k → B ≤ k) : ∀ k, O' k → B ≤ k := fun k hk => by
 rcases h.own k hk with q | q
 ·exact lo k q
 ·omega
theorem Sgo.under {w0 w w' : World} {O O' : Nat → Prop} {B : Nat} (h : Sgo w w' O O') (lo : ∀ k, O k → B ≤ k) (hB : B ≤ w0.heap.size) (hb : Below B w0 w) : Below B w0 w' :=
 ⟨h.but.os.trans hb.os, h.but.tape.trans hb.tape, h.but.output.trans hb.output, Nat.le_trans hb.size h.but.size, fun k hk => (h.but.block k (Nat.lt_of_lt_of_le (Nat.lt_of_lt_of_le hk hB) hb.size) (fun c => by have := lo k c; omega)).trans (hb.block k hk)⟩
theorem Fs.but {X : Nat → Prop} {A B : World} {Ow : Nat → Prop} {ps : List Nat} {F : Nat → Fl} {VB VL : Nat → Value} (h : Fs A Ow ps F VB VL) (hb : But X A B) (hx : ∀ p ∈ ps, ∀ k, FOwn p (VB p) (VL p) k → ¬ X k) : Fs B Ow ps F VB VL :=
 ⟨fun p hp => (h.at_ p hp).but hb (hx p hp), h.ap, h.no⟩
theorem Fs.lt {w : World} {Ow : Nat → Prop} {ps : List Nat} {F : Nat → Fl} {VB VL : Nat → Value} (h : Fs w Ow ps F VB VL) {p : Nat} (hp : p ∈ ps) : ∀ k, FOwn p (VB p) (VL p) k → k < w.heap.size := (h.at_ p hp).lt
theorem Fs.stp {w w' : World} {b : Nat} {x x' : Dc} {ps : List Nat} {F : Nat → Fl} {VB VL : Nat → Value} (h : Fs w (Own b x) ps F VB VL) (st : Stp w w' b x x') : Fs w' (Own b x') ps F VB VL := by
 refine ⟨fun p hp => (h.at_ p hp).but st.but (h.no p hp), h.ap, fun p hp k hk c => ?_⟩
 rcases st.own k c with q | q
 ·exact h.no p hp k hk q
 ·have := h.lt hp k hk
  omega
theorem Fs.sub {w : World} {Ow : Nat → Prop} {ps qs : List Nat} {F : Nat → Fl} {VB VL : Nat → Value} (h : Fs w Ow ps F VB VL) (hs : ∀ q ∈ qs, q ∈ ps) : Fs w Ow qs F VB VL :=
 ⟨fun p hp => h.at_ p (hs p hp), fun p hp q hq => h.ap p (hs p hp) q (hs q hq), fun p hp => h.no p (hs p hp)⟩
def upd {α : Type} (F : Nat → α) (p : Nat) (t : α) : Nat → α := fun q => if q = p then t else F q
theorem upd_same {α : Type} (F : Nat → α) (p : Nat) (t : α) : upd F p t p = t := if_pos rfl
theorem upd_ne {α : Type} (F : Nat → α) {p q : Nat} (t : α) (h : q ≠ p) : upd F p t q = F q := if_neg h
theorem Fs.one {w w' : World} {Ow : Nat → Prop} {ps : List Nat} {F : Nat → Fl} {VB VL : Nat → Value} {p : Nat} {t : Fl} {vb vl : Value} (h : Fs w Ow ps F VB VL) (hp : p ∈ ps) (ht : FlAt w' p t vb vl) (hb : But (FOwn p (VB p) (VL p)) w w') (ho : ∀ k, FOwn p vb vl k → FOwn p (VB p) (VL p) k ∨ w.heap.size ≤ k)
    (hO : ∀ k, Ow k → k < w.heap.size) : Fs w' Ow ps (upd F p t) (upd VB p vb) (upd VL p vl) := by
 refine ⟨fun q hq => ?_, fun q hq r hr hne k hk c => ?_, fun q hq k hk c => ?_⟩
 ·by_cases e : q = p
  ·subst e; rw [upd_same, upd_same, upd_same]; exact ht
  ·rw [upd_ne _ _ e, upd_ne _ _ e, upd_ne _ _ e]; exact (h.at_ q hq).but hb (fun k hk c => h.ap q hq p hp e k hk c)
 ·by_cases e : q = p
  ·subst e
   rw [upd_same, upd_same] at hk
   rw [upd_ne _ _ (Ne.symm hne), upd_ne _ _ (Ne.symm hne)] at c
   rcases ho k hk with z | z
   ·exact h.ap q hq r hr hne k z c
   ·have := h.lt hr k c; omega
  ·rw [upd_ne _ _ e, upd_ne _ _ e] at hk
   by_cases e2 : r = p
   ·subst e2
    rw [upd_same, upd_same] at c
    rcases ho k c with z | z
    ·exact h.ap q hq r hr hne k hk z
    ·have := h.lt hq k hk; omega
   ·rw [upd_ne _ _ e2, upd_ne _ _ e2] at c
    exact h.ap q hq r hr hne k hk c
 ·by_cases e : q = p
  ·subst e
   rw [upd_same, upd_same] at hk
   rcases ho k hk with z | z
   ·exact h.no q hq k z c
   ·have := hO k c; omega
  ·rw [upd_ne _ _ e, upd_ne _ _ e] at hk
   exact h.no q hq k hk c
structure Dsk (w : World) (b : Nat) (S : DS) (O : Nat → Prop) (f g : Nat) (pd : Value) (am : Option Nat) (VB VL : Nat → Value) : Prop where
 dk : Dk w b (S.dc f g pd am) f g S.dir S.l2 S.P S.al
 fs : Fs w (Own b (S.dc f g pd am)) S.ps S.F VB VL
 ow : ∀ k, Own b (S.dc f g pd am) k → O k
 of : ∀ p ∈ S.ps, ∀ k, FOwn p (VB p) (VL p) k → O k
 lt : ∀ k, O k → k < w.heap.size
 ok : S.ok
def DskE (w : World) (b : Nat) (S : DS) (O : Nat → Prop) : Prop := ∃ f g pd am VB VL, Dsk w b S O f g pd am VB VL
theorem Dsk.but {X : Nat → Prop} {A B : World} {b : Nat} {S : DS} {O : Nat → Prop} {f g : Nat} {pd : Value} {am : Option Nat} {VB VL : Nat → Value} (h : Dsk A b S O f g pd am VB VL) (hb : But X A B) (hx : ∀ k, O k → ¬ X k) : Dsk B b S O f g pd am VB VL :=
 ⟨h.dk.but hb fun k hk => hx k (h.ow k hk), h.fs.but hb fun p hp k hk => hx k (h.of p hp k hk), h.ow, h.of, fun k hk => Nat.lt_of_lt_of_le (h.lt k hk) hb.size, h.ok⟩
theorem Dsk.below {A B : World} {b : Nat} {S : DS} {O : Nat → Prop} {f g : Nat} {pd : Value} {am : Option Nat} {VB VL : Nat → Value} (h : Dsk A b S O f g pd am VB VL) (hb : Below A.heap.size A B) : Dsk B b S O f g pd am VB VL := h.but (But.of_below hb fun _ => False) fun _ _ c => c
theorem DskE.but {X : Nat → Prop} {A B : World} {b : Nat} {S : DS} {O : Nat → Prop} (h : DskE A b S O) (hb : But X A B) (hx : ∀ k, O k → ¬ X k) : DskE B b S O := by
 obtain ⟨f, g, pd, am, VB, VL, h⟩ := h
 exact ⟨f, g, pd, am, VB, VL, h.but hb hx⟩
theorem DskE.below {A B : World} {b : Nat} {S : DS} {O : Nat → Prop} (h : DskE A b S O) (hb : Below A.heap.size A B) : DskE B b S O := h.but (But.of_below hb fun _ => False) fun _ _ c => c
theorem DskE.lt {w : World} {b : Nat} {S : DS} {O : Nat → Prop} (h : DskE w b S O) : ∀ k, O k → k < w.heap.size := by
 obtain ⟨f, g, pd, am, VB, VL, h⟩ := h
 exact h.lt
theorem ddel_mem {l : Dr} {n : List UInt8} {e : List UInt8 × Nat} (h : e ∈ ddel l n) : e ∈ l := (List.mem_filter.1 h).1
theorem dins_mem {x e : List UInt8 × Nat} {l : Dr} (h : e ∈ dins x l) : e = x ∨ e ∈ l := by
 induction l with
 | nil => simp [dins] at h; exact .inl h
 | cons y r ih =>
  unfold dins at h
  split at h
  ·rcases List.mem_cons.1 h with q | q
   ·exact .inl q
   ·exact .inr q
  ·rcases List.mem_cons.1 h with q | q
   ·exact .inr (by rw [q]; simp)
   ·rcases ih q with z | z
    ·exact .inl z
    ·exact .inr (by simp [z])
theorem dput_mem {l : Dr} {n : List UInt8} {p : Nat} {e : List UInt8 × Nat} (h : e ∈ dput l n p) : e = (n, p) ∨ e ∈ l := by
 rcases dins_mem h with q | q
 ·exact .inl q
 ·exact .inr (ddel_mem q)
theorem get_mem {l : Dr} {n : List UInt8} {p : Nat} (h : get l n = some p) : (n, p) ∈ l := by
 unfold get at h
 cases hf : l.find? fun e => e.1 == n with
 | none => rw [hf] at h; simp at h
 | some e =>
  rw [hf] at h
  simp at h
  have h1 := List.mem_of_find?_eq_some hf
  have h2 := List.find?_some hf
  have : e = (n, p) := by
   obtain ⟨a, c⟩ := e
   simp at h2 h
   rw [h2, h]
  rw [← this]
  exact h1
theorem run_mem {l : Dr} {c : Ch} {p : Nat} (h : p ∈ (c.run l).map (·.2)) : p ∈ l.map (·.2) ∨ c.ptr = some p := by
 rw [List.mem_map] at h
 obtain ⟨e, he, rfl⟩ := h
 cases c with
 | cr n p =>
  rcases dput_mem he with q | q
  ·rw [q]; exact .inr rfl
  ·exact .inl (List.mem_map.2 ⟨e, q, rfl⟩)
 | rm n => exact .inl (List.mem_map.2 ⟨e, ddel_mem he, rfl⟩)
 | rn f t =>
  left
  simp only [Ch.run] at he
  split at he
  ·rename_i p hp
   rcases dput_mem (ddel_mem he) with q | q
   ·rw [q]; exact List.mem_map.2 ⟨_, get_mem hp, rfl⟩
   ·exact List.mem_map.2 ⟨e, q, rfl⟩
  ·exact List.mem_map.2 ⟨e, he, rfl⟩
theorem runs_mem {l : Dr} : ∀ {P : List Ch} {p : Nat}, p ∈ (runs l P).map (·.2) → p ∈ l.map (·.2) ++ P.filterMap Ch.ptr := by
 intro P
 induction P generalizing l with
 | nil => intro p h; simpa [runs] using h
 | cons c r ih =>
  intro p h
  have := ih (l := c.run l) h
  rcases List.mem_append.1 this with q | q
  ·rcases run_mem q with z | z
   ·exact List.mem_append.2 (.inl z)
   ·exact List.mem_append.2 (.inr (List.mem_filterMap.2 ⟨c, by simp, z⟩))
  ·refine List.mem_append.2 (.inr ?_)
   rw [List.mem_filterMap] at q ⊢
   obtain ⟨d, hd, e⟩ := q
   exact ⟨d, by simp [hd], e⟩
theorem DS.mem_dir {S : DS} {n : List UInt8} {p : Nat} (h : get S.dir n = some p) : p ∈ S.ps := runs_mem (List.mem_map.2 ⟨_, get_mem h, rfl⟩)
theorem DS.mem_front {S : DS} {k : Nat} {p : Nat} (h : p ∈ (runs S.l2 (S.P.take k)).map (·.2)) : p ∈ S.ps := by
 have := runs_mem h
 rcases List.mem_append.1 this with q | q
 ·exact List.mem_append.2 (.inl q)
 ·refine List.mem_append.2 (.inr ?_)
  rw [List.mem_filterMap] at q ⊢
  obtain ⟨d, hd, e⟩ := q
  exact ⟨d, List.mem_of_mem_take hd, e⟩
theorem Dsk.one {w w' : World} {b : Nat} {S : DS} {O : Nat → Prop} {f g : Nat} {pd : Value} {am : Option Nat} {VB VL : Nat → Value} {p : Nat} {t : Fl} {vb vl : Value} (h : Dsk w b S O f g pd am VB VL) (hp : p ∈ S.ps) (ht : FlAt w' p t vb vl) (hb : But (FOwn p (VB p) (VL p)) w w') (ho : ∀ k, FOwn p vb vl k → FOwn p (VB p) (VL p) k ∨ w.heap.size ≤ k)
    (hz : t.by_.length ≤ 16777216) : ∃ O', Dsk w' b { S with F := upd S.F p t } O' f g pd am (upd VB p vb) (upd VL p vl) ∧ Sgo w w' O O' := by
 refine ⟨fun k => O k ∨ (w.heap.size ≤ k ∧ k < w'.heap.size), ⟨?_, ?_, fun k hk => .inl (h.ow k hk), ?_, ?_, ?_⟩, ⟨hb.mono fun k _ c => h.of p hp k c, fun k hk => ?_⟩⟩
 ·exact h.dk.but hb fun k hk c => h.fs.no p hp k c hk
 ·exact h.fs.one hp ht hb ho fun k hk => h.lt k (h.ow k hk)
 ·intro q hq k hk
  by_cases e : q = p
  ·subst e
   rw [upd_same, upd_same] at hk
   rcases ho k hk with z | z
   ·exact .inl (h.of q hp k z)
   ·exact .inr ⟨z, ht.lt k hk⟩
  ·rw [upd_ne _ _ e, upd_ne _ _ e] at hk
   exact .inl (h.of q hq k hk)
 ·rintro k (q | q)
  ·exact Nat.lt_of_lt_of_le (h.lt k q) hb.size
  ·exact q.2
 ·refine ⟨h.ok.most, fun q hq => ?_, h.ok.cnt, h.ok.calm, h.ok.by8⟩
  by_cases e : q = p
  ·subst e; show (upd S.F q t q).by_.length ≤ _; rw [upd_same]; exact hz
  ·show (upd S.F p t q).by_.length ≤ _; rw [upd_ne _ _ e]; exact h.ok.sz q hq
 ·rcases hk with q | q
  ·exact .inl q
  ·exact .inr q.1
end Go.Proofs.YtpflaglfnkmjiaaGreat.Dk
