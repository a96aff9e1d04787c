/-
  A Reader in memory; what wire.check, rest, take and stop do.
-/
import Derived.Test.YtdhjlongdfgejaaGen
import Derived.Test.YtdhjlongdfgejaaRString
import Derived.Defers
import Derived.Recover
namespace Go.Proofs.Ytdhjlongdfgejaa
open Go.RowKit

/-- At block rb lies a Reader over the bytes l that stands at k, its error's number er. -/
def RdrAt (w : World) (rb : Nat) (l : List UInt8) (k : Nat) (er : Int) : Prop :=
  ∃ v, w.heap[rb]? = some (.cells #[v, .int .i64 (k : Int), .int .i64 er] 83 (0, 0)) ∧ w.ownsRow 0 5 1 v l.length (bvals l) ∧ k ≤ l.length ∧ l.length ≤ 140737488355328

theorem sl_drop {w : World} {ao : Option Addr} {ca : Nat} {l : List UInt8} (k : Nat) (hk : k ≤ l.length) (g2 : ao = none → l = [] ∧ ca = 0) (g3 : l.length ≤ ca) (g4 : ca ≤ maxLen) (g5 : Rd w ao l) :
    Sl w (.slice (if ca = k then ao else Option.map (fun x => x.add k) ao) (l.length - k) (ca - k)) (l.drop k) := by
  refine ⟨_, _, by rw [List.length_drop], ?_, by rw [List.length_drop]; omega, by omega, ?_⟩
  · intro e
    have : ao = none := by
      split at e
      · exact e
      · simpa using e
    obtain ⟨rfl, rfl⟩ := g2 this
    exact ⟨by simp, by omega⟩
  · intro i hi
    have hi2 : k + i < l.length := by simp at hi; omega
    obtain ⟨b, off, rfl, hc⟩ := g5 (k + i) hi2
    rw [if_neg (by omega)]
    refine ⟨b, off + k, by simp [addr_add], ?_⟩
    rw [Nat.add_assoc, hc]
    simp

theorem check_ok (w : World) : Calls Try.prog 70 #[.int .i64 0] w fun e w' => e = .returned (.tuple #[]) ∧ w' = w := by
  go_enter Try.func70, Try.ntmps70
  go_wp2
  go_end0
  exact ⟨rfl, rfl⟩
theorem check_no (w : World) (er : Int) (h : (er != 0) = true) : Calls Try.prog 70 #[.int .i64 er] w fun e w' => e = .panicked [{ v := .iface 100 (.int .i64 er), recovered := false }] ∧ w' = w := by
  go_enter Try.func70, Try.ntmps70
  go_wp2
  exact ⟨rfl, rfl, rfl⟩

theorem stop_nil (w : World) (r : Option Addr) : Calls Try.prog 56 #[.pointer r, .nilIface] w fun e w' => e = .returned (.tuple #[]) ∧ w' = w := by
  have he : ∀ u : World, (binOp .eql 20 .nilIface .nilIface).run Try.prog u = .ok (.bool true) u := fun _ => by kernel_rfl
  go_enter Try.func56, Try.ntmps56
  go_wp2
  go_end0
  exact ⟨rfl, rfl⟩
theorem stop_some (w : World) (rb : Nat) (er : Int) (v : Value) (k : Int) (e0 : Int) (hr : w.heap[rb]? = some (.cells #[v, .int .i64 k, .int .i64 e0] 83 (0, 0))) :
    Calls Try.prog 56 #[.pointer (some ⟨rb, 0, none⟩), .iface 100 (.int .i64 er)] w fun e w' => e = .returned (.tuple #[]) ∧ w' = w.setCell ⟨rb, 2, none⟩ (.int .i64 er) := by
  have h2 : w.cell? ⟨rb, 2, none⟩ = some (.int .i64 e0) := by simp [World.cell?, hr]
  have hf2 : w.frozen? ⟨rb, 2, none⟩ = false := by simp [World.frozen?, hr]
  have he : ∀ (er : Int) (u : World), (binOp .eql 20 (.iface 100 (.int .i64 er)) .nilIface).run Try.prog u = .ok (.bool false) u := fun _ _ => by kernel_rfl
  have ht : ∀ (er : Int) (u : World), (Instr.typeAssert (.iface 100 (.int .i64 er)) 20 100 true).run Try.prog u = .ok (.tuple #[.int .i64 er, .bool true]) u := fun _ _ => by kernel_rfl
  clear hr
  go_enter Try.func56, Try.ntmps56
  go_wp2
  go_end0
  exact ⟨rfl, rfl⟩
theorem stop_none (w : World) (er : Int) :
    Calls Try.prog 56 #[.pointer none, .iface 100 (.int .i64 er)] w fun e w' => e = .returned (.tuple #[]) ∧ w' = w := by
  have he : ∀ (er : Int) (u : World), (binOp .eql 20 (.iface 100 (.int .i64 er)) .nilIface).run Try.prog u = .ok (.bool false) u := fun _ _ => by kernel_rfl
  have ht : ∀ (er : Int) (u : World), (Instr.typeAssert (.iface 100 (.int .i64 er)) 20 100 true).run Try.prog u = .ok (.tuple #[.int .i64 er, .bool true]) u := fun _ _ => by kernel_rfl
  go_enter Try.func56, Try.ntmps56
  go_wp2
  go_end0
  exact ⟨rfl, rfl⟩

theorem rest_nil (w : World) : Calls Try.prog 69 #[.pointer none] w fun e w' => e = .returned (.slice none 0 0) ∧ w' = w := by
  go_enter Try.func69, Try.ntmps69
  go_wp2
  go_ret
  exact ⟨rfl, rfl⟩

set_option maxHeartbeats 400000 in
theorem rest_no (w : World) (rb : Nat) (l : List UInt8) (k : Nat) (er : Int) (h : RdrAt w rb l k er) (he : (er != 0) = true) :
    Calls Try.prog 69 #[.pointer (some ⟨rb, 0, none⟩)] w fun e w' => e = .panicked [{ v := .iface 100 (.int .i64 er), recovered := false }] ∧ w' = w := by
  obtain ⟨v, hr, _⟩ := h
  have h2 : w.cell? ⟨rb, 2, none⟩ = some (.int .i64 er) := by simp [World.cell?, hr]
  clear hr
  go_enter Try.func69, Try.ntmps69
  go_wp2_with fail
  refine (check_no _ er he).mono ?_
  rintro e w2 ⟨rfl, rfl⟩
  go_wp2
  exact ⟨rfl, rfl, rfl⟩

set_option maxHeartbeats 400000 in
theorem rest_ok (w : World) (rb : Nat) (l : List UInt8) (k : Nat) (h : RdrAt w rb l k 0) :
    Calls Try.prog 69 #[.pointer (some ⟨rb, 0, none⟩)] w fun e w' => ∃ v', e = .returned v' ∧ Sl w v' (l.drop k) ∧ Qt w w' := by
  obtain ⟨v, hr, ho, hk, hl⟩ := h
  have hsl := Sl.of_owns ho
  obtain ⟨ao, ca, rfl, g2, g3, g4, g5⟩ := hsl
  have h0 : w.cell? ⟨rb, 0, none⟩ = some (.slice ao l.length ca) := by simp [World.cell?, hr]
  have h1 : w.cell? ⟨rb, 1, none⟩ = some (.int .i64 (k : Int)) := by simp [World.cell?, hr]
  have h2 : w.cell? ⟨rb, 2, none⟩ = some (.int .i64 0) := by simp [World.cell?, hr]
  have hm : ca ≤ 9223372036854775807 := by unfold maxLen at g4; omega
  clear hr ho
  go_enter Try.func69, Try.ntmps69
  go_wp2_with fail
  refine (check_ok _).mono ?_
  rintro e w2 ⟨rfl, rfl⟩
  go_wp2
  have HS := fun (u : World) (hu : Qt w2 u) => hu.sl (sl_drop k hk g2 g3 g4 g5)
  generalize hz : (if ca = k then ao else Option.map (fun x : Addr => x.add k) ao) = zo at *
  clear g2 g3 g4 g5
  go_quiet (fail)
  clear hz
  go_wp2
  go_ret
  exact ⟨_, rfl, HS _ (Qt.refl _), ⟨_, rfl⟩⟩

theorem RdrAt.lt {w : World} {rb : Nat} {l : List UInt8} {k : Nat} {er : Int} (h : RdrAt w rb l k er) : rb < w.heap.size := by
  obtain ⟨v, hr, _⟩ := h; exact heap_lt hr
theorem RdrAt.below {w w' : World} {rb : Nat} {l : List UInt8} {k : Nat} {er : Int} (h : RdrAt w rb l k er) (hb : Below w.heap.size w w') : RdrAt w' rb l k er := by
  obtain ⟨v, hr, ho, hk⟩ := h
  exact ⟨v, by rw [hb.block rb (heap_lt hr)]; exact hr, ownsRow_below ho hb, hk⟩
theorem RdrAt.apart {w : World} {rb : Nat} {v x y z : Value} {n : Nat} {xs : List Value} (hr : w.heap[rb]? = some (.cells #[x, y, z] 83 (0, 0))) (ho : w.ownsRow 0 5 1 v n xs) : v.ownBlock ≠ some rb := by
  obtain ⟨h1, h2⟩ := ho
  rcases h2 with ⟨rfl, _⟩ | ⟨g, cap, cur, rfl, hg, hh, _⟩
  · simp [Value.ownBlock]
  · intro e
    simp [Value.ownBlock] at e
    subst e
    rw [hr] at hh
    simp at hh
theorem RdrAt.setAt {w : World} {rb : Nat} {l : List UInt8} {k : Nat} {er : Int} (h : RdrAt w rb l k er) (k' : Nat) (hk' : k' ≤ l.length) : RdrAt (w.setCell ⟨rb, 1, none⟩ (.int .i64 (k' : Int))) rb l k' er := by
  obtain ⟨v, hr, ho, hk, hl⟩ := h
  refine ⟨v, ?_, ownsRow_setCell_other ho (RdrAt.apart hr ho) _, hk', hl⟩
  rw [heap_setCell_same w rb 1 _ _ _ hr]; simp
theorem RdrAt.setErr {w : World} {rb : Nat} {l : List UInt8} {k : Nat} {er : Int} (h : RdrAt w rb l k er) (er' : Int) : RdrAt (w.setCell ⟨rb, 2, none⟩ (.int .i64 er')) rb l k er' := by
  obtain ⟨v, hr, ho, hk, hl⟩ := h
  refine ⟨v, ?_, ownsRow_setCell_other ho (RdrAt.apart hr ho) _, hk, hl⟩
  rw [heap_setCell_same w rb 2 _ _ _ hr]; simp
theorem own_slice {w : World} {base e n : Nat} {v : Value} {xs : List Value} (ho : w.ownsRow base e 1 v n xs) : ∃ ao ca, v = .slice ao n ca := by
  obtain ⟨h1, h2⟩ := ho
  rcases h2 with ⟨rfl, rfl⟩ | ⟨g, cap, cur, rfl, _⟩
  · exact ⟨_, _, rfl⟩
  · exact ⟨_, _, rfl⟩
theorem RdrAt.noByte {w : World} {rb : Nat} {m : List UInt8} {k : Nat} {er : Int} (h : RdrAt w rb m k er) {j : Nat} {c : Int} (hc : w.cell? ⟨rb, j, none⟩ = some (.int .u8 c)) : False := by
  obtain ⟨v, hr, ho, _⟩ := h
  obtain ⟨ao, ca, rfl⟩ := own_slice ho
  simp [World.cell?, hr] at hc
  match j, hc with
  | 0, hc => simp at hc
  | 1, hc => simp at hc
  | 2, hc => simp at hc
  | j + 3, hc => simp at hc
/-- A slice of bytes lies elsewhere than the Reader. -/
theorem Sl.setRdr {w : World} {rb o : Nat} {u v : Value} {l m : List UInt8} {k : Nat} {er : Int} (h : Sl w v l) (hr : RdrAt w rb m k er) : Sl (w.setCell ⟨rb, o, none⟩ u) v l := by
  obtain ⟨ao, cap, rfl, h2, h3, h4, h5⟩ := h
  refine ⟨ao, cap, rfl, h2, h3, h4, fun i hi => ?_⟩
  obtain ⟨b, off, rfl, hc⟩ := h5 i hi
  refine ⟨b, off, rfl, ?_⟩
  by_cases hb : b = rb
  · subst hb; exact (hr.noByte hc).elim
  · rw [World.cell?_of_block (w := w) (heap_setCell_other w ⟨rb, o, none⟩ b u hb)]
    exact hc

set_option maxHeartbeats 400000 in
theorem take_nil (w : World) (n : Int) (hn : 0 < n) : Calls Try.prog 58 #[.pointer none, .int .i64 n] w fun e w' => e = .panicked [{ v := .iface 100 (.int .i64 2), recovered := false }] ∧ w' = w := by
  go_enter Try.func58, Try.ntmps58
  go_wp2_with fail
  refine (rest_nil _).mono ?_
  rintro e w2 ⟨rfl, rfl⟩
  go_wp2_with fail
  refine (check_no _ 2 rfl).mono ?_
  rintro e w2 ⟨rfl, rfl⟩
  go_wp2
  exact ⟨rfl, rfl, rfl⟩
set_option maxHeartbeats 400000 in
theorem take_no (w : World) (rb : Nat) (l : List UInt8) (k : Nat) (er n : Int) (h : RdrAt w rb l k er) (he : (er != 0) = true) :
    Calls Try.prog 58 #[.pointer (some ⟨rb, 0, none⟩), .int .i64 n] w fun e w' => e = .panicked [{ v := .iface 100 (.int .i64 er), recovered := false }] ∧ w' = w := by
  go_enter Try.func58, Try.ntmps58
  go_wp2_with fail
  refine (rest_no _ rb l k er h he).mono ?_
  rintro e w2 ⟨rfl, rfl⟩
  go_wp2
  exact ⟨rfl, rfl, rfl⟩
set_option maxHeartbeats 400000 in
theorem take_short (w : World) (rb : Nat) (l : List UInt8) (k : Nat) (n : Int) (h : RdrAt w rb l k 0) (hn : (l.length : Int) - k < n) :
    Calls Try.prog 58 #[.pointer (some ⟨rb, 0, none⟩), .int .i64 n] w fun e w' => e = .panicked [{ v := .iface 100 (.int .i64 2), recovered := false }] ∧ Qt w w' := by
  have hk : k ≤ l.length := by obtain ⟨_, _, _, hk, _⟩ := h; exact hk
  go_enter Try.func58, Try.ntmps58
  go_wp2_with fail
  refine (rest_ok _ rb l k h).mono ?_
  rintro e w2 ⟨v, rfl, hs, hq⟩
  obtain ⟨ao, ca, rfl, g2, g3, g4, g5⟩ := hs
  have hlt : ((l.length - k : Nat) : Int) < n := by omega
  clear g2 g3 g4 g5 hn
  go_wp2_with fail
  refine (check_no _ 2 rfl).mono ?_
  rintro e w2 ⟨rfl, rfl⟩
  go_wp2
  exact ⟨rfl, rfl, hq⟩
set_option maxHeartbeats 400000 in
theorem take_ok (w : World) (rb : Nat) (l : List UInt8) (k n : Nat) (h : RdrAt w rb l k 0) (hn : k + n ≤ l.length) :
    Calls Try.prog 58 #[.pointer (some ⟨rb, 0, none⟩), .int .i64 (n : Int)] w fun e w' => ∃ v', e = .returned v' ∧ Sl w' v' ((l.drop k).take n) ∧ RdrAt w' rb l (k + n) 0 ∧ w.grownBy w' (some rb) := by
  go_enter Try.func58, Try.ntmps58
  go_wp2_with fail
  refine (rest_ok _ rb l k h).mono ?_
  rintro e w2 ⟨v, rfl, hs, hq⟩
  have h' := h.below (hq.below _)
  have hs2 := hq.sl hs
  have hk : (l.drop k).length = l.length - k := by simp
  obtain ⟨ao, ca, rfl, g2, g3, g4, g5⟩ := hs2
  obtain ⟨v0, hr, ho, hkl, hl⟩ := h'
  have h1 : w2.cell? ⟨rb, 1, none⟩ = some (.int .i64 (k : Int)) := by simp [World.cell?, hr]
  have hf1 : w2.frozen? ⟨rb, 1, none⟩ = false := by simp [World.frozen?, hr]
  have HS : Hid (Sl w2 (.slice ao n ca) ((l.drop k).take n)) := by
    have hl2 : ((l.drop k).take n).length = n := by simp; omega
    refine ⟨ao, ca, by rw [hl2], fun e => ?_, by omega, g4, fun i hi => ?_⟩
    · obtain ⟨e1, e2⟩ := g2 e
      exact ⟨by rw [e1]; simp, e2⟩
    · obtain ⟨b, off, e1, hc⟩ := g5 i (by omega)
      exact ⟨b, off, e1, by rw [hc]; simp⟩
  have HR : Hid (RdrAt w2 rb l k 0) := ⟨v0, hr, ho, hkl, hl⟩
  have hlen : ((l.drop k).length : Int) = (l.length : Int) - k := by simp; omega
  rw [hk] at g3 ⊢
  clear g2 g4 g5 hr ho hs h hk hlen
  go_wp2
  go_ret
  refine ⟨_, rfl, ?_, ?_, grown_trans (hq.grown _) (grown_setCell _ _ _ _)⟩
  · exact HS.out.setRdr HR.out
  · exact HR.out.setAt (k + n) hn
end Go.Proofs.Ytdhjlongdfgejaa
