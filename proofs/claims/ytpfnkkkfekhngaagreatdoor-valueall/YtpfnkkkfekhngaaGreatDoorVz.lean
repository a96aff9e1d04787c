/-
  Things as plain values.
-/
import Derived.Test.YtpfnkkkfekhngaaGreatDoorVx
import Derived.Test.YtpfnkkkfekhngaaGreatDoorVf
import Derived.Test.YtpfnkkkfekhngaaGreatDoorShelf
namespace Go.Proofs.YtpfnkkkfekhngaaGreatDoor.Va
open Go.RowKit Go.Proofs.YtpfnkkkfekhngaaGreatDoor.Rl
set_option maxRecDepth 100000

def put5 (w : World) (b o : Nat) (a0 a1 a2 a3 a4 : Value) : World := ((((w.setCell ⟨b, o, none⟩ a0).setCell ⟨b, o + 1, none⟩ a1).setCell ⟨b, o + 2, none⟩ a2).setCell ⟨b, o + 3, none⟩ a3).setCell ⟨b, o + 4, none⟩ a4
theorem put5_block (w : World) (b o : Nat) (a0 a1 a2 a3 a4 : Value) : But b w (put5 w b o a0 a1 a2 a3 a4) := by
  unfold put5
  exact (But.set b w o a0).trans ((But.set b _ (o + 1) a1).trans ((But.set b _ (o + 2) a2).trans ((But.set b _ (o + 3) a3).trans (But.set b _ (o + 4) a4))))
theorem put5_size (w : World) (b o : Nat) (a0 a1 a2 a3 a4 : Value) : (put5 w b o a0 a1 a2 a3 a4).heap.size = w.heap.size := by
  unfold put5
  simp [World.setCell]
theorem put5_cells {w : World} {b o : Nat} {a0 a1 a2 a3 a4 : Value} {cs : Array Value} {T : TypeId} (h : w.heap[b]? = some (.cells cs T (0, 0))) (ho : o + 4 < cs.size) :
    ∃ cs' : Array Value, (put5 w b o a0 a1 a2 a3 a4).heap[b]? = some (.cells cs' T (0, 0)) ∧ cs'.size = cs.size ∧ cs'[o]? = some a0 ∧ cs'[o + 1]? = some a1 ∧ cs'[o + 2]? = some a2 ∧ cs'[o + 3]? = some a3 ∧ cs'[o + 4]? = some a4 ∧ ∀ j, j < o → cs'[j]? = cs[j]? := by
  refine ⟨((((cs.set! o a0).set! (o + 1) a1).set! (o + 2) a2).set! (o + 3) a3).set! (o + 4) a4, ?_, by simp, ?_, ?_, ?_, ?_, ?_, ?_⟩
  · unfold put5
    exact heap_setCell_same _ _ _ _ _ _ (heap_setCell_same _ _ _ _ _ _ (heap_setCell_same _ _ _ _ _ _ (heap_setCell_same _ _ _ _ _ _ (heap_setCell_same _ _ _ _ _ _ h))))
  all_goals simp only [Array.set!_eq_setIfInBounds, Array.getElem?_setIfInBounds, Array.size_setIfInBounds]
  · rw [if_neg (by omega), if_neg (by omega), if_neg (by omega), if_neg (by omega), if_pos trivial, if_pos (by omega)]
  · rw [if_neg (by omega), if_neg (by omega), if_neg (by omega), if_pos trivial, if_pos (by omega)]
  · rw [if_neg (by omega), if_neg (by omega), if_pos trivial, if_pos (by omega)]
  · rw [if_neg (by omega), if_pos trivial, if_pos (by omega)]
  · rw [if_pos trivial, if_pos (by omega)]
  · intro j hj
    rw [if_neg (by omega), if_neg (by omega), if_neg (by omega), if_neg (by omega), if_neg (by omega)]
theorem put5_reads {w : World} {b : Nat} {v0 v1 v2 v3 v4 : Value} (h0 : w.cell? ⟨b, 0, none⟩ = some v0) (h1 : w.cell? ⟨b, 1, none⟩ = some v1) (h2 : w.cell? ⟨b, 2, none⟩ = some v2) (h3 : w.cell? ⟨b, 3, none⟩ = some v3) (h4 : w.cell? ⟨b, 4, none⟩ = some v4) (a0 a1 a2 a3 a4 : Value) :
    (put5 w b 0 a0 a1 a2 a3 a4).cell? ⟨b, 0, none⟩ = some a0 ∧ (put5 w b 0 a0 a1 a2 a3 a4).cell? ⟨b, 1, none⟩ = some a1 ∧ (put5 w b 0 a0 a1 a2 a3 a4).cell? ⟨b, 2, none⟩ = some a2 ∧ (put5 w b 0 a0 a1 a2 a3 a4).cell? ⟨b, 3, none⟩ = some a3 ∧ (put5 w b 0 a0 a1 a2 a3 a4).cell? ⟨b, 4, none⟩ = some a4 := by
  have ne : ∀ (u : World) (i j : Nat) (x : Value), i ≠ j → (u.setCell ⟨b, i, none⟩ x).cell? ⟨b, j, none⟩ = u.cell? ⟨b, j, none⟩ := fun u i j x hij => World.cell?_setCell_other _ _ _ _ (fun e => hij (by simpa using e.symm))
  unfold put5
  refine ⟨?_, ?_, ?_, ?_, ?_⟩
  · rw [ne _ _ _ _ (by omega), ne _ _ _ _ (by omega), ne _ _ _ _ (by omega), ne _ _ _ _ (by omega)]
    exact World.cell?_setCell_same _ _ _ h0
  · rw [ne _ _ _ _ (by omega), ne _ _ _ _ (by omega), ne _ _ _ _ (by omega)]
    exact World.cell?_setCell_same _ _ _ ((ne _ _ _ _ (by omega)).trans h1)
  · rw [ne _ _ _ _ (by omega), ne _ _ _ _ (by omega)]
    exact World.cell?_setCell_same _ _ _ ((ne _ _ _ _ (by omega)).trans ((ne _ _ _ _ (by omega)).trans h2))
  · rw [ne _ _ _ _ (by omega)]
    exact World.cell?_setCell_same _ _ _ ((ne _ _ _ _ (by omega)).trans ((ne _ _ _ _ (by omega)).trans ((ne _ _ _ _ (by omega)).trans h3)))
  · exact World.cell?_setCell_same _ _ _ ((ne _ _ _ _ (by omega)).trans ((ne _ _ _ _ (by omega)).trans ((ne _ _ _ _ (by omega)).trans ((ne _ _ _ _ (by omega)).trans h4))))
theorem infoV : (Tryz.prog.info? 35).map (fun i => (i.zero.isSome, i.size, i.bytes)) = some (true, 5, 64) := by kernel_rfl
theorem zeroV_some : ∃ i z, Tryz.prog.info? 35 = some i ∧ i.zero = some z ∧ i.size = 5 ∧ i.bytes = 64 := by
  have h := infoV
  cases hi : Tryz.prog.info? 35 with
  | none => rw [hi] at h; cases h
  | some i =>
    rw [hi] at h
    simp only [Option.map_some, Option.some.injEq, Prod.mk.injEq] at h
    obtain ⟨z, hz⟩ := Option.isSome_iff_exists.1 h.1
    exact ⟨i, z, rfl, hz, h.2.1, h.2.2⟩
theorem make_vals (n : Nat) (hn : n ≤ 65536) : ∃ C : Array Value, C.size = n * 5 ∧ ∀ u : World, (Instr.makeSlice 22 (.int .i64 (n : Int)) (.int .i64 (n : Int))).run Tryz.prog u = .ok (.slice (some ⟨u.heap.size, 0, none⟩) n n) (u.alloc (.cells C 35)) := by
  obtain ⟨i0, z, hi, hz0, hz1, hz2⟩ := zeroV_some
  refine ⟨madeCells z.cells (n * 5), size_madeCells _ _, fun u => ?_⟩
  rw [run_make u 22 35 i0 z Tryz.underlying22 hi hz0 .i64 .i64 (n : Int) (n : Int) (by omega) (by omega) (by rw [hz2]; omega) (by omega), hz1]
  simp only [Int.toNat_natCast]
/-- What a plain value that a call makes comes to. -/
def Plains (w : World) (y : Val) (e : Ending) (w' : World) : Prop := ∃ v, e = .returned v ∧ NewV w' w.heap.size w'.heap.size v y ∧ Below w.heap.size w w'
theorem newV_plain (w : World) (lo hi : Nat) (k n : Int) (r : Nat) (t : List UInt8) (ht : t.length ≤ 140737488355328) : NewV w lo hi (.agg #[.int .i64 k, .int .i64 n, .float .f64 r, .string (bstr t), .slice none 0 0]) (.mk k n r t []) := by
  rw [NewV]
  exact ⟨none, 0, rfl, ht, Or.inl ⟨rfl, rfl, rfl⟩⟩
theorem nilPlain (w : World) : Calls Tryz.prog 108 #[.agg #[]] w (Plains w (.mk 1 0 0 [] [])) := by
  have ksf : ∀ (w : World) (a : Addr) (x : Nat) (m : Mode), (store a (.float .f64 x) m).run Tryz.prog w = stored Tryz.prog w a (.float .f64 x) m := fun w a x m => run_store Tryz.prog w a _ m rfl
  go_enter Tryz.func108, Tryz.ntmps108
  go_wp2
  go_returns
  exact ⟨_, rfl, newV_plain _ _ _ 1 0 0 [] (by simp), (box_below _ _).alloc (by simp) _⟩
theorem boolPlain (w : World) (n : Int) : Calls Tryz.prog 113 #[.int .i64 n] w (Plains w (.mk 2 n 0 [] [])) := by
  have ksf : ∀ (w : World) (a : Addr) (x : Nat) (m : Mode), (store a (.float .f64 x) m).run Tryz.prog w = stored Tryz.prog w a (.float .f64 x) m := fun w a x m => run_store Tryz.prog w a _ m rfl
  go_enter Tryz.func113, Tryz.ntmps113
  go_wp2
  go_returns
  exact ⟨_, rfl, newV_plain _ _ _ 2 n 0 [] (by simp), box_below _ _⟩
theorem intPlain (w : World) (n : Int) : Calls Tryz.prog 120 #[.int .i64 n] w (Plains w (.mk 3 n 0 [] [])) := by
  have ksf : ∀ (w : World) (a : Addr) (x : Nat) (m : Mode), (store a (.float .f64 x) m).run Tryz.prog w = stored Tryz.prog w a (.float .f64 x) m := fun w a x m => run_store Tryz.prog w a _ m rfl
  go_enter Tryz.func120, Tryz.ntmps120
  go_wp2
  go_returns
  exact ⟨_, rfl, newV_plain _ _ _ 3 n 0 [] (by simp), box_below _ _⟩
theorem realPlain (w : World) (r : Nat) (hr : r < 18446744073709551616) : Calls Tryz.prog 128 #[.float .f64 r] w (Plains w (.mk 4 0 (canonB r) [] [])) := by
  have hk : Hid (∀ q, Calls Tryz.prog 132 #[.float .f64 r] q fun e w' => e = .returned (.float .f64 (canonB r)) ∧ w' = q) := fun q => canon_any q r hr
  obtain ⟨m, hm⟩ : ∃ m, Hid (canonB r = m) := ⟨_, rfl⟩
  rw [hm.out] at hk ⊢
  have ksf : ∀ (w : World) (a : Addr) (x : Nat) (m : Mode), (store a (.float .f64 x) m).run Tryz.prog w = stored Tryz.prog w a (.float .f64 x) m := fun w a x m => run_store Tryz.prog w a _ m rfl
  clear hr
  go_enter Tryz.func128, Tryz.ntmps128
  go_wp2_with fail
  refine (hk.out _).mono ?_
  rintro e _ ⟨rfl, rfl⟩
  go_wp2_with fail
  go_returns
  exact ⟨_, rfl, newV_plain _ _ _ 4 0 m [] (by simp), box_below _ _⟩
theorem textPlain (w : World) (t : List UInt8) (ht : t.length ≤ 65536) : Calls Tryz.prog 139 #[.string (bstr t)] w (Plains w (.mk 5 0 0 t [])) := by
  have hk : Hid (∀ q : World, Calls Tryz.prog 144 #[.string (bstr t)] q fun e w' => e = .returned (.string (bstr t)) ∧ Below q.heap.size q w') := fun q => Tryz.stringslite_Clone (bstr t) q (by show t.length ≤ _; omega)
  have hc : Hid (∀ q : World, Calls Tryz.prog 142 #[.string (bstr t)] q fun e w' => e = .returned (.string (bstr t)) ∧ Below q.heap.size q w') := fun q => by
    go_enter Tryz.func142, Tryz.ntmps142
    go_wp2_with fail
    refine (hk.out _).mono ?_
    rintro e w1 ⟨rfl, hb⟩
    go_wp2_with fail
    go_ret
    exact ⟨rfl, hb⟩
  go_enter Tryz.func139, Tryz.ntmps139
  go_wp2_with fail
  refine (hc.out _).mono ?_
  rintro e w1 ⟨rfl, hb⟩
  have hB : Hid (Below w.heap.size w w1) := keepV hb (box_below _ _)
  have hh := hb.block w.heap.size (by simp)
  rw [heap_alloc_new] at hh
  have hcl : ∀ (j : Nat) (v : Value), #[.int .i64 0, .int .i64 0, .float .f64 0, .string ⟨#[]⟩, .slice none 0 0][j]? = some v → w1.cell? ⟨w.heap.size, j, none⟩ = some v := fun j v hv => by
    unfold World.cell?
    simp only [hh]
    exact hv
  have hfz : ∀ j, w1.frozen? ⟨w.heap.size, j, none⟩ = false := fun j => by simp [World.frozen?, hh]
  have c0 := hcl 0 _ rfl
  have c1 := hcl 1 _ rfl
  have c2 := hcl 2 _ rfl
  have c3 := hcl 3 _ rfl
  have c4 := hcl 4 _ rfl
  have f0 := hfz 0
  have f1 := hfz 1
  have f2 := hfz 2
  have f3 := hfz 3
  have f4 := hfz 4
  clear hb hh hcl hfz
  have ksf : ∀ (w : World) (a : Addr) (x : Nat) (m : Mode), (store a (.float .f64 x) m).run Tryz.prog w = stored Tryz.prog w a (.float .f64 x) m := fun w a x m => run_store Tryz.prog w a _ m rfl
  have hfin : Hid (∀ a0 a1 a2 a3 a4, Below w.heap.size w (put5 w1 w.heap.size 0 a0 a1 a2 a3 a4)) := fun a0 a1 a2 a3 a4 => hB.out.trans ((put5_block w1 w.heap.size 0 a0 a1 a2 a3 a4).below (Nat.le_refl _) hB.out.size)
  have hrd := put5_reads c0 c1 c2 c3 c4 (.int .i64 5) (.int .i64 0) (.float .f64 0) (.string (bstr t)) (.slice none 0 0)
  have hfi : Hid (Below w.heap.size w (put5 w1 w.heap.size 0 (.int .i64 5) (.int .i64 0) (.float .f64 0) (.string (bstr t)) (.slice none 0 0))) := hfin.out _ _ _ _ _
  replace hrd : Hid _ := hrd
  go_wp2_with fail
  show bodyPost _ _ _ _ _ (put5 w1 w.heap.size 0 (.int .i64 5) (.int .i64 0) (.float .f64 0) (.string (bstr t)) (.slice none 0 0))
  obtain ⟨w5, hw5⟩ : ∃ w5, Hid (put5 w1 w.heap.size 0 (.int .i64 5) (.int .i64 0) (.float .f64 0) (.string (bstr t)) (.slice none 0 0) = w5) := ⟨_, rfl⟩
  rw [hw5.out] at hrd hfi ⊢
  obtain ⟨k0, k1, k2, k3, k4⟩ := hrd.out
  refine bodyPost_ret (by simp [results, Tryz.results139, go_sem, k0, k1, k2, k3, k4]; rfl) rfl ?_
  exact ⟨_, rfl, newV_plain _ _ _ 5 0 0 t (by omega), hfi.out⟩
def DoesPlain (x : Val) : Prop := ∀ (S : Nat → Prop) (w : World) (tv : Value) (d : Nat), okV d x = true → szV x ≤ 65536 → wtV x → IsT S w tv x → Disp "flume/value.plain" tv [] w (Plains w (canonV x))
/-- The plain values that lie in block b so far. -/
def Row5 (w q : World) (b : Nat) (ls : List Val) (i : Nat) (f : Nat → Nat) : Prop :=
  Below w.heap.size w q ∧ b = w.heap.size + 1 ∧ f 0 = b + 1 ∧ f i = q.heap.size ∧ (∃ Z, Z.size = 5 ∧ q.heap[w.heap.size]? = some (.cells Z 35 (0, 0))) ∧ ∃ cs : Array Value, q.heap[b]? = some (.cells cs 35 (0, 0)) ∧ cs.size = ls.length * 5 ∧
    ∀ j (h : j < ls.length), j < i → f j ≤ f (j + 1) ∧ ∃ c0 c1 c2 c3 c4, cs[j * 5]? = some c0 ∧ cs[j * 5 + 1]? = some c1 ∧ cs[j * 5 + 2]? = some c2 ∧ cs[j * 5 + 3]? = some c3 ∧ cs[j * 5 + 4]? = some c4 ∧ NewV q (f j) (f (j + 1)) (.agg #[c0, c1, c2, c3, c4]) (canonV ls[j])
theorem canonL_map : ∀ l : List Val, canonL l = l.map canonV
  | [] => by rw [canonL]; rfl
  | x :: r => by rw [canonL, canonL_map r]; rfl
theorem NewV.cells {w : World} {lo hi : Nat} {v : Value} : ∀ {x : Val}, NewV w lo hi v x → ∃ k n r t ao m c, v = .agg #[.int .i64 k, .int .i64 n, .float .f64 r, .string t, .slice ao m c]
  | .mk k n r t l, h => by
    rw [NewV] at h
    obtain ⟨ao, cap, e, _⟩ := h
    exact ⟨k, n, r, _, ao, _, cap, e⟩
set_option maxHeartbeats 2000000 in
theorem listPlain (ls : List Val) (ih : ∀ x ∈ ls, DoesPlain x) (S : Nat → Prop) (w : World) (ao : Option Addr) (cap d : Nat) (hok : okL d ls = true) (hsz : szL ls ≤ 65535) (hwt : wtL ls) (hl : IsTL S w ao 0 ls) (h2 : ls.length ≤ cap) :
    Calls Tryz.prog 148 #[.slice ao ls.length cap] w (Plains w (.mk 6 0 0 [] (canonL ls))) := by
  have hln := szL_len ls
  obtain ⟨n, hn⟩ : ∃ n, Hid (ls.length = n) := ⟨_, rfl⟩
  rw [hn.out] at h2 hln ⊢
  have hcap : n ≤ 65535 := by omega
  replace hl : Hid (IsTL S w ao 0 ls) := hl
  replace ih : Hid (∀ x ∈ ls, DoesPlain x) := ih
  replace hok : Hid (okL d ls = true) := hok
  replace hsz : Hid (szL ls ≤ 65535) := hsz
  replace hwt : Hid (wtL ls) := hwt
  obtain ⟨C, hC, hmk⟩ := make_vals n (by omega)
  replace hC : Hid (C.size = n * 5) := hC
  have ksf : ∀ (w : World) (a : Addr) (x : Nat) (m : Mode), (store a (.float .f64 x) m).run Tryz.prog w = stored Tryz.prog w a (.float .f64 x) m := fun w a x m => run_store Tryz.prog w a _ m rfl
  clear hln
  go_enter Tryz.func148, Tryz.ntmps148
  go_wp2_with fail
  go_loopw [11] (fun v11 wr => ∃ (i : Nat), i ≤ n ∧ v11 = .int .i64 (i : Int) ∧ Hid (∃ f, Row5 w wr (w.heap.size + 1) ls i f)) (fun v _ => n - (intOf v).toNat)
  case atStart =>
    refine ⟨0, by omega, rfl, fun _ => w.heap.size + 2, (box_below _ _).alloc (by simp) _, rfl, rfl, by simp, ⟨#[.int .i64 0, .int .i64 0, .float .f64 0, .string ⟨#[]⟩, .slice none 0 0], rfl, ?_⟩, C, ?_, by rw [hC.out, hn.out], fun j _ h => by omega⟩
    · rw [Below.heap_alloc _ _ _ (by simp), heap_alloc_new]
    · have := heap_alloc_new (w.alloc (.cells #[.int .i64 0, .int .i64 0, .float .f64 0, .string ⟨#[]⟩, .slice none 0 0] 35)) (.cells C 35)
      rw [show (w.alloc (.cells #[.int .i64 0, .int .i64 0, .float .f64 0, .string ⟨#[]⟩, .slice none 0 0] 35)).heap.size = w.heap.size + 1 by simp] at this
      exact this
  case round =>
    obtain ⟨i, hi, rfl, hR⟩ := hrel
    obtain ⟨f, r1, _, r2, r3, ⟨Z, z1, z2⟩, cs, r4, r5, r6⟩ := hR.out
    by_cases hin : i = n
    · have hnew : Hid (∀ q, (∀ b, w.heap.size < b → b < wr.heap.size → q.heap[b]? = wr.heap[b]?) → wr.heap.size ≤ q.heap.size → NewV q w.heap.size q.heap.size (.agg #[.int .i64 6, .int .i64 0, .float .f64 0, .string ⟨#[]⟩, .slice (some ⟨w.heap.size + 1, 0, none⟩) n n]) (.mk 6 0 0 [] (canonL ls))) := fun q hq hqs => by
        have hcl : (canonL ls).length = n := by rw [canonL_map, List.length_map, hn.out]
        rw [NewV, hcl]
        have hb0 : w.heap.size + 1 < wr.heap.size := heap_lt r4
        have hqb := hq (w.heap.size + 1) (by omega) hb0
        refine ⟨_, _, rfl, by simp, Or.inr ⟨w.heap.size + 1, cs, f, rfl, rfl, by omega, by omega, by omega, by rw [← hin, r3]; exact hqs, hqb.trans r4, by rw [r5, hn.out], newL_of _ 0 fun j hj => ?_⟩⟩
        have hj2 : j < ls.length := by rw [hcl] at hj; rw [hn.out]; exact hj
        have hji : j < i := by rw [hcl] at hj; omega
        obtain ⟨g, c0, c1, c2, c3, c4, d0, d1, d2, d3, d4, hx⟩ := r6 j hj2 hji
        have hch : ∀ j, j < n → f j ≤ f (j + 1) := fun j hj => (r6 j (by rw [hn.out]; exact hj) (by omega)).1
        have cell : ∀ o c, cs[o]? = some c → q.cell? ⟨w.heap.size + 1, o, none⟩ = some c := fun o c hc => by
          unfold World.cell?
          simp only [hqb.trans r4]
          exact hc
        have hlo := chain_le hch j (by omega) 0 (by omega)
        have hhi := chain_le hch n (Nat.le_refl _) (j + 1) (by omega)
        simp only [Nat.zero_add]
        refine ⟨g, c0, c1, c2, c3, c4, cell _ _ d0, cell _ _ d1, cell _ _ d2, cell _ _ d3, cell _ _ d4, ?_⟩
        have : (canonL ls)[j] = canonV ls[j] := by simp [canonL_map]
        rw [this]
        exact NewV.keep _ _ _ _ (fun b b1 b2 => hq b (by omega) (by rw [← hin] at hhi; omega)) hx
      have hfin : Hid (∀ a0 a1 a2 a3 a4, Below w.heap.size w (put5 wr w.heap.size 0 a0 a1 a2 a3 a4)) := fun a0 a1 a2 a3 a4 => r1.trans ((put5_block wr w.heap.size 0 a0 a1 a2 a3 a4).below (Nat.le_refl _) r1.size)
      have hcl : ∀ j, j < 5 → ∃ v, wr.cell? ⟨w.heap.size, j, none⟩ = some v := fun j hj => by
        unfold World.cell?
        simp only [z2]
        exact ⟨Z[j]'(by omega), by simp [z1, hj]⟩
      have hfz : ∀ j, wr.frozen? ⟨w.heap.size, j, none⟩ = false := fun j => by simp [World.frozen?, z2]
      obtain ⟨v0, x0⟩ := hcl 0 (by omega)
      obtain ⟨v1, x1⟩ := hcl 1 (by omega)
      obtain ⟨v2, x2⟩ := hcl 2 (by omega)
      obtain ⟨v3, x3⟩ := hcl 3 (by omega)
      obtain ⟨v4, x4⟩ := hcl 4 (by omega)
      have f0 := hfz 0
      have f1 := hfz 1
      have f2 := hfz 2
      have f3 := hfz 3
      have f4 := hfz 4
      clear hcl hfz r1 r2 r3 z1 z2 r4 r5 r6 hR
      subst hin
      have hrd := put5_reads x0 x1 x2 x3 x4 (.int .i64 6) (.int .i64 0) (.float .f64 0) (.string ⟨#[]⟩) (.slice (some ⟨w.heap.size + 1, 0, none⟩) i i)
      have hfi : Hid (Below w.heap.size w (put5 wr w.heap.size 0 (.int .i64 6) (.int .i64 0) (.float .f64 0) (.string ⟨#[]⟩) (.slice (some ⟨w.heap.size + 1, 0, none⟩) i i))) := hfin.out _ _ _ _ _
      have hne : Hid _ := hnew.out (put5 wr w.heap.size 0 (.int .i64 6) (.int .i64 0) (.float .f64 0) (.string ⟨#[]⟩) (.slice (some ⟨w.heap.size + 1, 0, none⟩) i i)) (fun b b1 b2 => (put5_block wr w.heap.size 0 _ _ _ _ _).block b b2 (by omega)) (by rw [put5_size]; exact Nat.le_refl _)
      replace hrd : Hid _ := hrd
      clear hnew hfin
      go_wp2_with fail
      show bodyPost _ _ _ _ _ (put5 wr w.heap.size 0 (.int .i64 6) (.int .i64 0) (.float .f64 0) (.string ⟨#[]⟩) (.slice (some ⟨w.heap.size + 1, 0, none⟩) i i))
      obtain ⟨w5, hw5⟩ : ∃ w5, Hid (put5 wr w.heap.size 0 (.int .i64 6) (.int .i64 0) (.float .f64 0) (.string ⟨#[]⟩) (.slice (some ⟨w.heap.size + 1, 0, none⟩) i i) = w5) := ⟨_, rfl⟩
      rw [hw5.out] at hrd hfi hne ⊢
      obtain ⟨k0, k1, k2, k3, k4⟩ := hrd.out
      refine bodyPost_ret (by simp [results, Tryz.results148, go_sem, k0, k1, k2, k3, k4]; rfl) rfl ?_
      exact ⟨_, rfl, hne.out, hfi.out⟩
    · have hil : i < ls.length := by have := hn.out; omega
      have i1 : (i : Int) < (n : Int) := by omega
      have i2 : (0 : Int) ≤ (i : Int) := by omega
      obtain ⟨bb, off, c, rfl, _, hc, hx⟩ := IsTL.get hl.out i hil
      rw [Nat.zero_add] at hc
      replace hc := (r1.cell (lt_of_cell hc)).trans hc
      replace hx := hx.below r1
      have hst := szL_split ls (i + 1)
      rw [szL_take hil] at hst
      obtain ⟨T, u, g, rfl, hme, hen, hcall⟩ := ih.out ls[i] (List.getElem_mem hil) S wr c d (okL_at hok.out hil) (by have := hsz.out; omega) (wtL_at hwt.out i hil) hx
      replace hcall : Hid (Calls Tryz.prog g [u].toArray wr (Plains wr (canonV ls[i]))) := hcall
      have hb0 : Hid (w.heap.size + 1 < wr.heap.size) := heap_lt r4
      have R : Hid (Row5 w wr (w.heap.size + 1) ls i f) := ⟨r1, rfl, r2, r3, ⟨Z, z1, z2⟩, cs, r4, r5, r6⟩
      have R4 : Hid (wr.heap[w.heap.size + 1]? = some (.cells cs 35 (0, 0)) ∧ cs.size = n * 5) := ⟨r4, by rw [r5, hn.out]⟩
      clear hst hx r1 r2 r3 z1 z2 r4 r5 r6 hR
      go_wp2_with fail
      refine hcall.out.mono ?_
      rintro e w1 ⟨v, rfl, hnv, hb⟩
      obtain ⟨xk, xn, xr, xt, xo, xm, xc, rfl⟩ := hnv.cells
      have hh : w1.heap[w.heap.size + 1]? = some (.cells cs 35 (0, 0)) := (hb.block _ hb0.out).trans R4.out.1
      have hcl : ∀ j, j < 5 → ∃ v, w1.cell? ⟨w.heap.size + 1, i * 5 + j, none⟩ = some v := fun j hj => by
        have := R4.out.2
        unfold World.cell?
        simp only [hh]
        exact ⟨cs[i * 5 + j]'(by omega), Array.getElem?_eq_getElem (by omega)⟩
      have hfz : ∀ j, w1.frozen? ⟨w.heap.size + 1, j, none⟩ = false := fun j => by simp [World.frozen?, hh]
      obtain ⟨v0, x0⟩ := hcl 0 (by omega)
      obtain ⟨v1, x1⟩ := hcl 1 (by omega)
      obtain ⟨v2, x2⟩ := hcl 2 (by omega)
      obtain ⟨v3, x3⟩ := hcl 3 (by omega)
      obtain ⟨v4, x4⟩ := hcl 4 (by omega)
      replace x0 : w1.cell? ⟨w.heap.size + 1, i * 5, none⟩ = some v0 := x0
      have f0 := hfz (i * 5)
      have f1 := hfz (i * 5 + 1)
      have f2 := hfz (i * 5 + 2)
      have f3 := hfz (i * 5 + 3)
      have f4 := hfz (i * 5 + 4)
      have hrow : Hid (∃ f, Row5 w (put5 w1 (w.heap.size + 1) (i * 5) (.int .i64 xk) (.int .i64 xn) (.float .f64 xr) (.string xt) (.slice xo xm xc)) (w.heap.size + 1) ls (i + 1) f) := by
        obtain ⟨r1, _, r2, r3, ⟨Z, z1, z2⟩, cs', r4, r5, r6⟩ := R.out
        have hce : cs' = cs := by rw [R4.out.1] at r4; simpa using r4.symm
        subst hce
        have hpb := put5_block w1 (w.heap.size + 1) (i * 5) (.int .i64 xk) (.int .i64 xn) (.float .f64 xr) (.string xt) (.slice xo xm xc)
        have hps := put5_size w1 (w.heap.size + 1) (i * 5) (.int .i64 xk) (.int .i64 xn) (.float .f64 xr) (.string xt) (.slice xo xm xc)
        obtain ⟨cs2, p1, p2, p3, p4, p5, p6, p7, p8⟩ := put5_cells (a0 := .int .i64 xk) (a1 := .int .i64 xn) (a2 := .float .f64 xr) (a3 := .string xt) (a4 := .slice xo xm xc) hh (show i * 5 + 4 < cs'.size by rw [r5]; omega)
        have hb1 := hb0.out
        have hbs := hb.size
        have hch : ∀ j, j < i → f j ≤ f (j + 1) := fun j hj => (r6 j (by omega) hj).1
        refine ⟨fun j => if j ≤ i then f j else w1.heap.size, (r1.trans (hb.mono (by omega))).trans (hpb.below (by omega) (by omega)), rfl, by simpa using r2, by simp only [hps]; rw [if_neg (by omega)], ⟨Z, z1, ((hpb.block _ (by omega) (by omega)).trans (hb.block _ (by omega))).trans z2⟩, cs2, p1, by rw [p2, r5], fun j hj hji => ?_⟩
        by_cases hj2 : j = i
        · subst hj2
          refine ⟨by simp only [Nat.le_refl, if_true]; rw [if_neg (by omega), r3]; exact hbs, _, _, _, _, _, p3, p4, p5, p6, p7, ?_⟩
          simp only [Nat.le_refl, if_true, show ¬ j + 1 ≤ j by omega, if_false]
          exact NewV.keep _ _ _ _ (fun b b1 b2 => hpb.block b b2 (by rw [r3] at b1; omega)) (by rw [r3]; exact hnv)
        · obtain ⟨g1, c0, c1, c2, c3, c4, d0, d1, d2, d3, d4, hx⟩ := r6 j hj (by omega)
          have hlo := chain_le hch j (by omega) 0 (by omega)
          have hhi := chain_le hch i (Nat.le_refl _) (j + 1) (by omega)
          simp only [show j ≤ i by omega, show j + 1 ≤ i by omega, if_true]
          refine ⟨g1, c0, c1, c2, c3, c4, (p8 _ (by omega)).trans d0, (p8 _ (by omega)).trans d1, (p8 _ (by omega)).trans d2, (p8 _ (by omega)).trans d3, (p8 _ (by omega)).trans d4, ?_⟩
          exact NewV.keep _ _ _ _ (fun b b1 b2 => (hpb.block b (by omega) (by omega)).trans (hb.block b (by omega))) hx
      have ne : ∀ (u : World) (a b : Nat) (x : Value), a ≠ b → (u.setCell ⟨w.heap.size + 1, a, none⟩ x).cell? ⟨w.heap.size + 1, b, none⟩ = u.cell? ⟨w.heap.size + 1, b, none⟩ := fun u a b x hab => World.cell?_setCell_other _ _ _ _ (fun e => hab (by simpa using e.symm))
      have y1 : (w1.setCell ⟨w.heap.size + 1, i * 5, none⟩ (.int .i64 xk)).cell? ⟨w.heap.size + 1, i * 5 + 1, none⟩ = some v1 := (ne _ _ _ _ (by omega)).trans x1
      have y2 : ((w1.setCell ⟨w.heap.size + 1, i * 5, none⟩ (.int .i64 xk)).setCell ⟨w.heap.size + 1, i * 5 + 1, none⟩ (.int .i64 xn)).cell? ⟨w.heap.size + 1, i * 5 + 2, none⟩ = some v2 := (ne _ _ _ _ (by omega)).trans ((ne _ _ _ _ (by omega)).trans x2)
      have y3 : (((w1.setCell ⟨w.heap.size + 1, i * 5, none⟩ (.int .i64 xk)).setCell ⟨w.heap.size + 1, i * 5 + 1, none⟩ (.int .i64 xn)).setCell ⟨w.heap.size + 1, i * 5 + 2, none⟩ (.float .f64 xr)).cell? ⟨w.heap.size + 1, i * 5 + 3, none⟩ = some v3 := (ne _ _ _ _ (by omega)).trans ((ne _ _ _ _ (by omega)).trans ((ne _ _ _ _ (by omega)).trans x3))
      have y4 : ((((w1.setCell ⟨w.heap.size + 1, i * 5, none⟩ (.int .i64 xk)).setCell ⟨w.heap.size + 1, i * 5 + 1, none⟩ (.int .i64 xn)).setCell ⟨w.heap.size + 1, i * 5 + 2, none⟩ (.float .f64 xr)).setCell ⟨w.heap.size + 1, i * 5 + 3, none⟩ (.string xt)).cell? ⟨w.heap.size + 1, i * 5 + 4, none⟩ = some v4 := (ne _ _ _ _ (by omega)).trans ((ne _ _ _ _ (by omega)).trans ((ne _ _ _ _ (by omega)).trans ((ne _ _ _ _ (by omega)).trans x4)))
      clear ne x1 x2 x3 x4
      clear hcl hfz hh hnv hb hc
      go_wp2_with fail
      go_roundw
      case rel => exact ⟨i + 1, by omega, by go_num, hrow.out⟩
      case measure => simp [intOf]; omega
theorem plain_any (x : Val) : DoesPlain x := by
  induction x using Val.ind with
  | h k n r t l ih =>
    intro S w tv d ho hs hw ht
    obtain ⟨f1, f2, f3, f4, f5, f6, f7⟩ := ok_free ho
    rw [szV] at hs
    rw [wtV] at hw
    rw [IsT] at ht
    have z0 : szL ([] : List Val) = 0 := by rw [szL]
    have c0 : canonL ([] : List Val) = [] := by rw [canonL]
    rw [canonV]
    rcases ht with ⟨rfl, rfl⟩ | ⟨rfl, rfl⟩ | ⟨rfl, rfl⟩ | ⟨rfl, rfl⟩ | ⟨rfl, rfl⟩ | ⟨rfl, ao, cap, rfl, h2, h3, h4⟩
    · rw [f1 (by omega), f2 (by omega), f3 (by omega), f4 (by omega) (by omega), canon0, c0]
      exact ⟨_, _, 108, rfl, fun q => by kernel_rfl, fun a q => by kernel_rfl, nilPlain w⟩
    · rw [f1 (by omega), f2 (by omega), f3 (by omega), canon0, c0]
      exact ⟨_, _, 113, rfl, fun q => by kernel_rfl, fun a q => by kernel_rfl, boolPlain w n⟩
    · rw [f1 (by omega), f2 (by omega), f3 (by omega), canon0, c0]
      exact ⟨_, _, 120, rfl, fun q => by kernel_rfl, fun a q => by kernel_rfl, intPlain w n⟩
    · rw [f1 (by omega), f2 (by omega), f4 (by omega) (by omega), c0]
      exact ⟨_, _, 128, rfl, fun q => by kernel_rfl, fun a q => by kernel_rfl, realPlain w r hw.2.2.1⟩
    · rw [f1 (by omega), f3 (by omega), f4 (by omega) (by omega), canon0, c0]
      exact ⟨_, _, 139, rfl, fun q => by kernel_rfl, fun a q => by kernel_rfl, textPlain w t (by omega)⟩
    · rw [f2 (by omega), f3 (by omega), f4 (by omega) (by omega), canon0]
      exact ⟨_, _, 148, rfl, fun q => by kernel_rfl, fun a q => by kernel_rfl, listPlain l ih S w ao cap (d + 1) f7 (by omega) hw.2.2.2 h4 h2⟩
#print axioms plain_any
end Go.Proofs.YtpfnkkkfekhngaaGreatDoor.Va
