/-
  The reading methods of a Reader: Varint, Signed, Fixed32, Fixed64, Byte, where they fail and where they don't.
-/
import Derived.Test.YtdhjlongdfgejaaRdVarint
import Derived.Test.YtdhjlongdfgejaaFixed
namespace Go.Proofs.Ytdhjlongdfgejaa
open Go.RowKit

theorem box_cell {w w2 : World} {rb : Nat} {v : Value} {t : TypeId} (hlt : rb < w.heap.size) (hg : (w.alloc (.cells #[v] t)).grownBy w2 (some rb)) : w2.cell? ⟨w.heap.size, 0, none⟩ = some v := by
  refine hg.cell (a := ⟨w.heap.size, 0, none⟩) (by simp [go_sem]) (by simp; omega)
theorem box_cell_below {w w2 : World} {v : Value} {t : TypeId} (hg : Below (w.heap.size + 1) (w.alloc (.cells #[v] t)) w2) : w2.cell? ⟨w.heap.size, 0, none⟩ = some v := by
  rw [hg.cell (p := ⟨w.heap.size, 0, none⟩) (by simp)]; simp [go_sem]
theorem box_grown {w w2 : World} {rb : Nat} {o : Obj} (hg : (w.alloc o).grownBy w2 (some rb)) : w.grownBy w2 (some rb) := grown_trans (Below.grownAny (box_below w o) _) hg
theorem grown_drew {w w2 : World} {row : Option Nat} (hg : w.grownBy w2 row) : w.grownBy w2.drew row := ⟨hg.os, hg.tape, hg.output, hg.size, hg.block⟩
theorem RdrAt.drew {w : World} {rb : Nat} {l : List UInt8} {k : Nat} {er : Int} (h : RdrAt w rb l k er) : RdrAt w.drew rb l k er := h
theorem box_below_drew (w : World) (o : Obj) : Below w.heap.size w (w.alloc o).drew := (box_below w o).drew

set_option maxHeartbeats 400000 in
theorem Varint_bad (w : World) (rb : Nat) (l : List UInt8) (k : Nat) (er0 er most : Int) (h : RdrAt w rb l k er0)
    (hc : ∀ u, RdrAt u rb l k er0 → Calls Try.prog 72 #[.pointer (some ⟨rb, 0, none⟩), .int .u64 most] u fun e w' => e = .panicked [{ v := .iface 100 (.int .i64 er), recovered := false }] ∧ Qt u w') :
    Calls Try.prog 60 #[.pointer (some ⟨rb, 0, none⟩), .int .u64 most] w fun e w' => e = .returned (.int .u64 0) ∧ RdrAt w' rb l k er ∧ w.grownBy w' (some rb) := by
  have hmf : ∀ (fn : Fn) (first cap : Array Value) (w : World), (Instr.makeFunc fn first cap).run Try.prog w = .ok (.func fn first cap) w := fun _ _ _ _ => rfl
  have HC : Hid (∀ u, RdrAt u rb l k er0 → Calls Try.prog 72 #[.pointer (some ⟨rb, 0, none⟩), .int .u64 most] u fun e w' => e = .panicked [{ v := .iface 100 (.int .i64 er), recovered := false }] ∧ Qt u w') := hc
  clear hc
  have hlt := h.lt
  go_enter_defers Try.func60, Try.ntmps60
  go_wp2_with fail
  refine (HC.out _ (h.below (box_below w _))).mono ?_
  rintro e w2 ⟨rfl, hq⟩
  have hr2 := (h.below (box_below w _)).below (hq.below _)
  have hg2 := hq.grown (some rb)
  have hbx := box_cell hlt hg2
  go_wp2
  obtain ⟨v, hb, _⟩ := id hr2
  refine leaves_cons (f := 71) (args := #[.pointer (some ⟨w.heap.size, 0, none⟩)]) (by simp) (by simp [go_sem]) ?_
  refine (shut_some_Varint w2 ⟨w.heap.size, 0, none⟩ rb er v k er0 [] hbx hb).mono ?_
  rintro e u' w'' ⟨rfl, rfl, rfl⟩
  simp [Leaves, settle, results, Try.results60, go_sem]
  exact ⟨hr2.setErr er, grown_trans (box_grown hg2) (grown_drew (grown_setCell _ _ _ _))⟩
theorem Varint_nil (w : World) (most : Int) :
    Calls Try.prog 60 #[.pointer none, .int .u64 most] w fun e w' => e = .returned (.int .u64 0) ∧ Below w.heap.size w w' := by
  have hmf : ∀ (fn : Fn) (first cap : Array Value) (w : World), (Instr.makeFunc fn first cap).run Try.prog w = .ok (.func fn first cap) w := fun _ _ _ _ => rfl
  go_enter_defers Try.func60, Try.ntmps60
  go_wp2_with fail
  refine (varint_nil _ _).mono ?_
  rintro e w2 ⟨rfl, rfl⟩
  go_wp2
  refine leaves_cons (f := 71) (args := #[.pointer (some ⟨w.heap.size, 0, none⟩)]) (by simp) (by simp [go_sem]) ?_
  refine (shut_none_Varint (w.alloc (.cells #[.pointer none] 70)) ⟨w.heap.size, 0, none⟩ 2 [] (by simp [go_sem])).mono ?_
  rintro e u' w'' ⟨rfl, rfl, rfl⟩
  simp [Leaves, settle, results, Try.results60, go_sem]
  exact box_below_drew w _


set_option maxHeartbeats 400000 in
theorem Fixed32_bad (w : World) (rb : Nat) (l : List UInt8) (k : Nat) (er0 er : Int) (h : RdrAt w rb l k er0)
    (hc : ∀ u, RdrAt u rb l k er0 → Calls Try.prog 58 #[.pointer (some ⟨rb, 0, none⟩), .int .i64 4] u fun e w' => e = .panicked [{ v := .iface 100 (.int .i64 er), recovered := false }] ∧ Qt u w') :
    Calls Try.prog 43 #[.pointer (some ⟨rb, 0, none⟩)] w fun e w' => e = .returned (.int .u32 0) ∧ RdrAt w' rb l k er ∧ w.grownBy w' (some rb) := by
  have hmf : ∀ (fn : Fn) (first cap : Array Value) (w : World), (Instr.makeFunc fn first cap).run Try.prog w = .ok (.func fn first cap) w := fun _ _ _ _ => rfl
  have HC : Hid (∀ u, RdrAt u rb l k er0 → Calls Try.prog 58 #[.pointer (some ⟨rb, 0, none⟩), .int .i64 4] u fun e w' => e = .panicked [{ v := .iface 100 (.int .i64 er), recovered := false }] ∧ Qt u w') := hc
  clear hc
  have hlt := h.lt
  go_enter_defers Try.func43, Try.ntmps43
  go_wp2_with fail
  refine (HC.out _ (h.below (box_below w _))).mono ?_
  rintro e w2 ⟨rfl, hq⟩
  have hr2 := (h.below (box_below w _)).below (hq.below _)
  have hg2 := hq.grown (some rb)
  have hbx := box_cell hlt hg2
  go_wp2
  obtain ⟨v, hb, _⟩ := id hr2
  refine leaves_cons (f := 55) (args := #[.pointer (some ⟨w.heap.size, 0, none⟩)]) (by simp) (by simp [go_sem]) ?_
  refine (shut_some_Fixed32 w2 ⟨w.heap.size, 0, none⟩ rb er v k er0 [] hbx hb).mono ?_
  rintro e u' w'' ⟨rfl, rfl, rfl⟩
  simp [Leaves, settle, results, Try.results43, go_sem]
  exact ⟨hr2.setErr er, grown_trans (box_grown hg2) (grown_drew (grown_setCell _ _ _ _))⟩
theorem Fixed32_nil (w : World) :
    Calls Try.prog 43 #[.pointer none] w fun e w' => e = .returned (.int .u32 0) ∧ Below w.heap.size w w' := by
  have hmf : ∀ (fn : Fn) (first cap : Array Value) (w : World), (Instr.makeFunc fn first cap).run Try.prog w = .ok (.func fn first cap) w := fun _ _ _ _ => rfl
  go_enter_defers Try.func43, Try.ntmps43
  go_wp2_with fail
  refine (take_nil _ _ (by decide)).mono ?_
  rintro e w2 ⟨rfl, rfl⟩
  go_wp2
  refine leaves_cons (f := 55) (args := #[.pointer (some ⟨w.heap.size, 0, none⟩)]) (by simp) (by simp [go_sem]) ?_
  refine (shut_none_Fixed32 (w.alloc (.cells #[.pointer none] 70)) ⟨w.heap.size, 0, none⟩ 2 [] (by simp [go_sem])).mono ?_
  rintro e u' w'' ⟨rfl, rfl, rfl⟩
  simp [Leaves, settle, results, Try.results43, go_sem]
  exact box_below_drew w _



set_option maxHeartbeats 400000 in
theorem Varint_good (w : World) (rb : Nat) (l : List UInt8) (k : Nat) (most : Int) (h : RdrAt w rb l k 0) (hm : 0 ≤ most ∧ most < 18446744073709551616) (hv : (vr l k most).2.2 = 0) :
    Calls Try.prog 60 #[.pointer (some ⟨rb, 0, none⟩), .int .u64 most] w fun e w' => e = .returned (.int .u64 ((vr l k most).1 : Int)) ∧ RdrAt w' rb l (k + (vr l k most).2.1) 0 ∧ w.grownBy w' (some rb) := by
  have hmf : ∀ (fn : Fn) (first cap : Array Value) (w : World), (Instr.makeFunc fn first cap).run Try.prog w = .ok (.func fn first cap) w := fun _ _ _ _ => rfl
  have hlt := h.lt
  have HV : Hid ((vr l k most).2.2 = 0) := hv
  clear hv
  go_enter_defers Try.func60, Try.ntmps60
  go_wp2_with fail
  refine (varint_good _ rb l k most (h.below (box_below w _)) hm HV.out).mono ?_
  rintro e w2 ⟨rfl, hr2, hg2⟩
  have hbx := box_cell hlt hg2
  have hg3 := box_grown hg2
  clear hg2 hm
  go_wp2
  refine leaves_cons (f := 71) (args := #[.pointer (some ⟨w.heap.size, 0, none⟩)]) (by simp) (by simp [go_sem]) ?_
  refine (shut_idle_Varint _ (some ⟨rb, 0, none⟩) ⟨w.heap.size, 0, none⟩ hbx).mono ?_
  rintro e u' w'' ⟨rfl, rfl, rfl⟩
  simp [Leaves, settle, results, Try.results60, go_sem]
  exact ⟨hr2, grown_drew hg3⟩

set_option maxHeartbeats 400000 in
theorem Fixed32_good (w : World) (rb : Nat) (l : List UInt8) (k : Nat) (h : RdrAt w rb l k 0) (hk : k + 4 ≤ l.length) :
    Calls Try.prog 43 #[.pointer (some ⟨rb, 0, none⟩)] w fun e w' => e = .returned (.int .u32 (num ((l.drop k).take 4) : Int)) ∧ RdrAt w' rb l (k + 4) 0 ∧ w.grownBy w' (some rb) := by
  have hmf : ∀ (fn : Fn) (first cap : Array Value) (w : World), (Instr.makeFunc fn first cap).run Try.prog w = .ok (.func fn first cap) w := fun _ _ _ _ => rfl
  have hlt := h.lt
  go_enter_defers Try.func43, Try.ntmps43
  go_wp2_with fail
  refine (take_ok _ rb l k 4 (h.below (box_below w _)) hk).mono ?_
  rintro e w2 ⟨v2, rfl, hs2, hr2, hg2⟩
  have hbx := box_cell hlt hg2
  have hg3 := box_grown hg2
  have hnl := num_le ((l.drop k).take 4) 4 (by simp; omega)
  have HL : Hid (((l.drop k).take 4).length ≤ 8) := by show _ ≤ _; simp; omega
  clear hg2 hk
  obtain ⟨n, hn⟩ : ∃ n, n = num ((l.drop k).take 4) := ⟨_, rfl⟩
  rw [← hn] at hnl
  simp only [show (256 : Nat) ^ 4 = 4294967296 from rfl] at hnl
  go_wp2_with fail
  refine (readFixed_any _ _ _ hs2 HL.out).mono ?_
  rintro e w3 ⟨rfl, rfl⟩
  rw [← hn]
  have HN : Hid (n = num ((l.drop k).take 4)) := hn
  clear hn
  go_wp2
  refine leaves_cons (f := 55) (args := #[.pointer (some ⟨w.heap.size, 0, none⟩)]) (by simp) (by simp [go_sem]) ?_
  refine (shut_idle_Fixed32 _ (some ⟨rb, 0, none⟩) ⟨w.heap.size, 0, none⟩ hbx).mono ?_
  rintro e u' w'' ⟨rfl, rfl, rfl⟩
  simp [Leaves, settle, results, Try.results43, go_sem]
  exact ⟨by rw [HN.out], hr2, grown_drew hg3⟩



end Go.Proofs.Ytdhjlongdfgejaa
