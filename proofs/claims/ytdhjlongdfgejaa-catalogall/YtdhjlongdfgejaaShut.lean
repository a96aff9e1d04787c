/-
  The deferred function literals of the reading methods: recover's answer goes to stop, in whatever order the two operands are read.
-/
import Derived.Test.YtdhjlongdfgejaaRdr
namespace Go.Proofs.Ytdhjlongdfgejaa
open Go.RowKit

theorem wpS_region_draw {P : Program} {Q : Exit → Act → List Frame → World → Prop} {a : Act} {cs : List Frame} {w : World} {id : Nat} {ops : Array Oper}
    (h : ∀ t, wpOpsS P ops Q (Region.schedule (P.follows .mixedOrders) ops t) a cs { w with drawn := w.drawn + 1 }) : (Code.region id ops true).wpS P Q a cs w :=
  fun b k hb hr => let ⟨e, a', cs', w', q, r⟩ := wp_opsS _ a cs _ (h _) b k hb hr; ⟨e, a', cs', w', q, .of_steps (.one step_region_draw) r⟩

theorem go_step {md : Region.Mode} {ops : Array Oper} {fuel t : Nat} {listed : Array Bool} {acc r : List Nat} {i : Nat} (h : Region.ready md ops listed = r) (hi : r[t % r.length]? = some i) :
    Region.linearise.go md ops (fuel + 1) t listed acc = Region.linearise.go md ops fuel (t / r.length) (listed.setIfInBounds i true) (i :: acc) := by
  show (match (Region.ready md ops listed)[t % (Region.ready md ops listed).length]? with
      | some i => Region.linearise.go md ops fuel (t / (Region.ready md ops listed).length) (listed.setIfInBounds i true) (i :: acc)
      | none => acc.reverse) = _
  rw [h, hi]
/-- Three operations, the first two in either order, then the third. -/
theorem schedule_two {ops : Array Oper} (hs : ops.size = 3) (h0 : Region.ready .any ops #[false, false, false] = [0, 1]) (h1 : Region.ready .any ops #[true, false, false] = [1]) (h2 : Region.ready .any ops #[false, true, false] = [0]) (h3 : Region.ready .any ops #[true, true, false] = [2]) (t : Nat) :
    Region.schedule true ops t = [0, 1, 2] ∨ Region.schedule true ops t = [1, 0, 2] := by
  have e : Region.schedule true ops t = Region.linearise.go .any ops 3 t #[false, false, false] [] := by
    show Region.linearise.go .any ops ops.size t (Array.replicate ops.size false) [] = _
    rw [hs]; rfl
  rw [e]
  rcases Nat.mod_two_eq_zero_or_one t with ht | ht
  · left
    rw [go_step h0 (i := 0) (by simp [ht])]
    show Region.linearise.go .any ops 2 (t / 2) #[true, false, false] [0] = _
    rw [go_step h1 (i := 1) (by simp [Nat.mod_one])]
    show Region.linearise.go .any ops 1 (t / 2 / 1) #[true, true, false] [1, 0] = _
    rw [go_step h3 (i := 2) (by simp [Nat.mod_one])]
    rfl
  · right
    rw [go_step h0 (i := 1) (by simp [ht])]
    show Region.linearise.go .any ops 2 (t / 2) #[false, true, false] [1] = _
    rw [go_step h2 (i := 0) (by simp [Nat.mod_one])]
    show Region.linearise.go .any ops 1 (t / 2 / 1) #[true, true, false] [0, 1] = _
    rw [go_step h3 (i := 2) (by simp [Nat.mod_one])]
    rfl

theorem shut_idle_Varint (w : World) (rp : Option Addr) (p : Addr) (hp : w.cell? p = some (.pointer rp)) :
    CallsD Try.prog 71 #[.pointer (some p)] .returning w fun e u' w' => e = .returned (.tuple #[]) ∧ u' = .returning ∧ w' = w.drew := by
  refine callsD_of_wpS Try.func71 rfl fun c₀ cs hu => ?_
  refine wpS_region_draw fun t => ?_
  rw [show Try.prog.follows .mixedOrders = true by kernel_rfl]
  rcases schedule_two (t := t) (by kernel_rfl) (by kernel_rfl) (by kernel_rfl) (by kernel_rfl) (by kernel_rfl) with h | h
  all_goals
    rw [h]
    simp [wpOpsS, go_sem, recoverD, hu, Try.ntmps71, hp]
    refine (stop_nil _ rp).mono ?_
    rintro e w2 ⟨rfl, rfl⟩
    cases c₀
    simp_all [bodyPostS, results, Try.results71]
theorem shut_none_Varint (w : World) (p : Addr) (er : Int) (older : List PanicEntry) (hp : w.cell? p = some (.pointer none)) :
    CallsD Try.prog 71 #[.pointer (some p)] (.panicking ({ v := .iface 100 (.int .i64 er), recovered := false } :: older)) w fun e u' w' => e = .returned (.tuple #[]) ∧ u' = .panicking ({ v := .iface 100 (.int .i64 er), recovered := true } :: older) ∧ w' = w.drew := by
  refine callsD_of_wpS Try.func71 rfl fun c₀ cs hu => ?_
  refine wpS_region_draw fun t => ?_
  rw [show Try.prog.follows .mixedOrders = true by kernel_rfl]
  rcases schedule_two (t := t) (by kernel_rfl) (by kernel_rfl) (by kernel_rfl) (by kernel_rfl) (by kernel_rfl) with h | h
  all_goals
    rw [h]
    simp [wpOpsS, go_sem, recoverD, hu, Try.ntmps71, hp]
    refine (stop_none _ er).mono ?_
    rintro e w2 ⟨rfl, rfl⟩
    cases c₀
    simp_all [bodyPostS, results, Try.results71]
theorem shut_some_Varint (w : World) (p : Addr) (rb : Nat) (er : Int) (v : Value) (k e0 : Int) (older : List PanicEntry) (hp : w.cell? p = some (.pointer (some ⟨rb, 0, none⟩))) (hr : w.heap[rb]? = some (.cells #[v, .int .i64 k, .int .i64 e0] 83 (0, 0))) :
    CallsD Try.prog 71 #[.pointer (some p)] (.panicking ({ v := .iface 100 (.int .i64 er), recovered := false } :: older)) w fun e u' w' => e = .returned (.tuple #[]) ∧ u' = .panicking ({ v := .iface 100 (.int .i64 er), recovered := true } :: older) ∧ w' = w.drew.setCell ⟨rb, 2, none⟩ (.int .i64 er) := by
  refine callsD_of_wpS Try.func71 rfl fun c₀ cs hu => ?_
  refine wpS_region_draw fun t => ?_
  rw [show Try.prog.follows .mixedOrders = true by kernel_rfl]
  rcases schedule_two (t := t) (by kernel_rfl) (by kernel_rfl) (by kernel_rfl) (by kernel_rfl) (by kernel_rfl) with h | h
  all_goals
    rw [h]
    simp [wpOpsS, go_sem, recoverD, hu, Try.ntmps71, hp]
    refine (stop_some w.drew rb er v k e0 hr).mono ?_
    rintro e w2 ⟨rfl, rfl⟩
    cases c₀
    simp_all [bodyPostS, results, Try.results71]
    rfl
theorem shut_idle_Fixed32 (w : World) (rp : Option Addr) (p : Addr) (hp : w.cell? p = some (.pointer rp)) :
    CallsD Try.prog 55 #[.pointer (some p)] .returning w fun e u' w' => e = .returned (.tuple #[]) ∧ u' = .returning ∧ w' = w.drew := by
  refine callsD_of_wpS Try.func55 rfl fun c₀ cs hu => ?_
  refine wpS_region_draw fun t => ?_
  rw [show Try.prog.follows .mixedOrders = true by kernel_rfl]
  rcases schedule_two (t := t) (by kernel_rfl) (by kernel_rfl) (by kernel_rfl) (by kernel_rfl) (by kernel_rfl) with h | h
  all_goals
    rw [h]
    simp [wpOpsS, go_sem, recoverD, hu, Try.ntmps55, hp]
    refine (stop_nil _ rp).mono ?_
    rintro e w2 ⟨rfl, rfl⟩
    cases c₀
    simp_all [bodyPostS, results, Try.results55]
theorem shut_none_Fixed32 (w : World) (p : Addr) (er : Int) (older : List PanicEntry) (hp : w.cell? p = some (.pointer none)) :
    CallsD Try.prog 55 #[.pointer (some p)] (.panicking ({ v := .iface 100 (.int .i64 er), recovered := false } :: older)) w fun e u' w' => e = .returned (.tuple #[]) ∧ u' = .panicking ({ v := .iface 100 (.int .i64 er), recovered := true } :: older) ∧ w' = w.drew := by
  refine callsD_of_wpS Try.func55 rfl fun c₀ cs hu => ?_
  refine wpS_region_draw fun t => ?_
  rw [show Try.prog.follows .mixedOrders = true by kernel_rfl]
  rcases schedule_two (t := t) (by kernel_rfl) (by kernel_rfl) (by kernel_rfl) (by kernel_rfl) (by kernel_rfl) with h | h
  all_goals
    rw [h]
    simp [wpOpsS, go_sem, recoverD, hu, Try.ntmps55, hp]
    refine (stop_none _ er).mono ?_
    rintro e w2 ⟨rfl, rfl⟩
    cases c₀
    simp_all [bodyPostS, results, Try.results55]
theorem shut_some_Fixed32 (w : World) (p : Addr) (rb : Nat) (er : Int) (v : Value) (k e0 : Int) (older : List PanicEntry) (hp : w.cell? p = some (.pointer (some ⟨rb, 0, none⟩))) (hr : w.heap[rb]? = some (.cells #[v, .int .i64 k, .int .i64 e0] 83 (0, 0))) :
    CallsD Try.prog 55 #[.pointer (some p)] (.panicking ({ v := .iface 100 (.int .i64 er), recovered := false } :: older)) w fun e u' w' => e = .returned (.tuple #[]) ∧ u' = .panicking ({ v := .iface 100 (.int .i64 er), recovered := true } :: older) ∧ w' = w.drew.setCell ⟨rb, 2, none⟩ (.int .i64 er) := by
  refine callsD_of_wpS Try.func55 rfl fun c₀ cs hu => ?_
  refine wpS_region_draw fun t => ?_
  rw [show Try.prog.follows .mixedOrders = true by kernel_rfl]
  rcases schedule_two (t := t) (by kernel_rfl) (by kernel_rfl) (by kernel_rfl) (by kernel_rfl) (by kernel_rfl) with h | h
  all_goals
    rw [h]
    simp [wpOpsS, go_sem, recoverD, hu, Try.ntmps55, hp]
    refine (stop_some w.drew rb er v k e0 hr).mono ?_
    rintro e w2 ⟨rfl, rfl⟩
    cases c₀
    simp_all [bodyPostS, results, Try.results55]
    rfl
end Go.Proofs.Ytdhjlongdfgejaa
