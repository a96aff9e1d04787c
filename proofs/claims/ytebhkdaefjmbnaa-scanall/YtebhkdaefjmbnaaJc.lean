/-
  scan.steps: its iterator's contract.
-/
import Derived.Test.YtebhkdaefjmbnaaIt
import Derived.Test.YtebhkdaefjmbnaaJb
import Derived.RangeFuncBound
import Derived.Shelf.Abstract
import Derived.WalkKit
import Derived.OwnWalkIn
import Derived.TacticsInMore
import Derived.LoopNIn
import Derived.LoopIn
namespace Go.Proofs.Ytebhkdaefjmbnaa
open Go.RowKit Go.Shelf
set_option maxRecDepth 100000
attribute [local go_sem] Oper.semAt_some

theorem steps_any (w : World) (ao : Option Addr) (nn ca : Nat) (base : Int) (seed : Crc.R) :
    Calls Try.prog 19 #[.slice ao nn ca, .int .i64 base, .int .u32 (seed.toNat : Int)] w fun e w' =>
      e = .returned (.func (.func 28) #[] #[.pointer (some ⟨w.heap.size + 1, 0, none⟩), .pointer (some ⟨w.heap.size + 1 + 1, 0, none⟩), .pointer (some ⟨w.heap.size, 0, none⟩)]) ∧
      w' = ((w.alloc (.cells #[.slice ao nn ca] 22)).alloc (.cells #[.int .i64 base] 2)).alloc (.cells #[.int .u32 (seed.toNat : Int)] 23) := by
  have hmf : ∀ (fn : Fn) (first cap : Array Value) (w : World), (Instr.makeFunc fn first cap).run Try.prog w = .ok (.func fn first cap) w := fun _ _ _ _ => rfl
  go_enter Try.func19, Try.ntmps19
  go_wp2_with fail
  go_ret
  exact ⟨rfl, rfl⟩

/-- How what steps hands over lies in memory. -/
def RepS (L : List UInt8) (x : Sc) (args : Array Value) (W : World) (D : Nat → Prop) : Prop :=
  ∃ v, args = #[scv x (whyS L x), .agg #[.int .i64 (recS L x).1, v]] ∧ W.ownsRow 0 5 1 v (recS L x).2.length (bvals (recS L x).2) ∧ (∀ k, D k ↔ v.ownBlock = some k)
/-- What steps reads: three boxes and the bytes. -/
def RdOf (b1 b2 b3 : Nat) (v : Value) (L : List UInt8) (k : Nat) : Prop := k = b1 ∨ k = b2 ∨ k = b3 ∨ (0 < L.length ∧ v.ownBlock = some k)
theorem Sl.keep {w W : World} {v : Value} {l : List UInt8} (h : Sl w v l) (hk : ∀ k, 0 < l.length → v.ownBlock = some k → W.heap[k]? = w.heap[k]?) : Sl W v l := by
  obtain ⟨ao, cap, rfl, g2, g3, g4, g5⟩ := h
  refine ⟨ao, cap, rfl, g2, g3, g4, fun i hi => ?_⟩
  obtain ⟨b, off, rfl, hc⟩ := g5 i hi
  exact ⟨b, off, rfl, by rw [World.cell?_of_block (hk b (by omega) rfl)]; exact hc⟩
theorem Sl.blk {w : World} {v : Value} {l : List UInt8} (h : Sl w v l) (hl : 0 < l.length) : ∀ k, v.ownBlock = some k → k < w.heap.size := by
  obtain ⟨ao, cap, rfl, g2, g3, g4, g5⟩ := h
  obtain ⟨b, off, rfl, hc⟩ := g5 0 hl
  rintro k e
  simp [Value.ownBlock] at e
  subst e
  exact lt_of_cell hc

theorem st_n {L : List UInt8} {x0 : Sc} {k : Nat} (h : Good L x0 k) (h0 : x0.n ≤ 9223372036854775807) : (Sst L x0 k).n ≤ 9223372036854775807 := by
  cases k with
  | zero => exact h0
  | succ k =>
    obtain ⟨_, _, _, _, h5, _⟩ := why_zero (h k (by omega))
    show (Sst L x0 k).n + 1 ≤ _
    omega
/-- How the scan stands behind a step. -/
def stz (L : List UInt8) (x : Sc) : Sc := if whyS L x = 0 then nxt L x else x
theorem stepR_eq (L : List UInt8) (x : Sc) : stepR L x = scv (stz L x) (whyS L x) := by
  unfold stepR stz
  by_cases h : whyS L x = 0
  · rw [if_pos h, if_pos h, h]
  · rw [if_neg h, if_neg h]
def msS (wr : World) (hb K : Nat) : Nat := 2 * (K - (intOf ((wr.cell? ⟨hb, 0, none⟩).getD undef)).toNat) + (if intOf ((wr.cell? ⟨hb, 4, none⟩).getD undef) = 0 then 1 else 0)
theorem msS_eq {wr : World} {hb : Nat} {x : Sc} {y : Int} (h : wr.heap[hb]? = some (.cells (scc x y) 28 (0, 0))) (K : Nat) : msS wr hb K = 2 * (K - x.c) + (if y = 0 then 1 else 0) := by
  simp [msS, World.cell?, h, scc, intOf]
theorem list_at {α : Type} (f : Nat → α) {n k : Nat} (h : k < n) : (List.range n).map f = ((List.range n).map f).take k ++ f k :: ((List.range n).map f).drop (k + 1) := by
  have e : ((List.range n).map f)[k]'(by simpa using h) = f k := by simp
  rw [← e, ← List.drop_eq_getElem_cons, List.take_append_drop]
theorem list_take {α : Type} (f : Nat → α) {n k : Nat} (h : k < n) : ((List.range n).map f).take k ++ [f k] = ((List.range n).map f).take (k + 1) := by
  have e : ((List.range n).map f)[k]'(by simpa using h) = f k := by simp
  rw [← e, ← List.take_succ_eq_append_getElem]
/-- Where the loop of steps stands. -/
def SLoop (J : List Sc → (Nat → Prop) → World → Prop) (L : List UInt8) (x0 : Sc) (K : Nat) (W : World) (Rd : Nat → Prop) (hb : Nat) (wr : World) : Prop :=
  ∃ (k : Nat) (C1 : Nat → Prop) (x : Sc) (y : Int), wr.heap[hb]? = some (.cells (scc x y) 28 (0, 0)) ∧ J (((List.range (K + 1)).map (Sst L x0)).take k) C1 wr ∧ ¬ C1 hb ∧ (∀ j, Rd j → ¬ C1 j ∧ wr.heap[j]? = W.heap[j]?) ∧ (∀ j, C1 j → j < wr.heap.size) ∧ W.heap.size ≤ wr.heap.size ∧
    ((y = 0 ∧ k ≤ K ∧ x = Sst L x0 k) ∨ (y ≠ 0 ∧ k = K + 1 ∧ x = Sst L x0 K))

set_option maxHeartbeats 2000000 in
theorem steps_seq (w : World) (b1 b2 b3 : Nat) (v : Value) (L : List UInt8) (base : Int) (seed : Crc.R) (xs : List Sc) (hx : EvS L base seed xs) (g0 : -9223372036854775808 ≤ base) (g1 : base ≤ 9223372036854775807)
    (h1 : w.heap[b1]? = some (.cells #[.int .i64 base] 2 (0, 0))) (h2 : w.heap[b2]? = some (.cells #[.int .u32 (seed.toNat : Int)] 23 (0, 0))) (h3 : w.heap[b3]? = some (.cells #[v] 22 (0, 0))) (hv : Sl w v L) :
    Seq Try.prog 28 #[.pointer (some ⟨b1, 0, none⟩), .pointer (some ⟨b2, 0, none⟩), .pointer (some ⟨b3, 0, none⟩)] xs (RepS L) (RdOf b1 b2 b3 v L) w := by
  intro l J Jx C W hsz hRd hC hJ hJx hY h0
  refine callsIn_wide.2 ?_
  have c1 : W.cell? ⟨b1, 0, none⟩ = some (.int .i64 base) := by rw [World.cell?_of_block (hRd b1 (.inl rfl))]; simp [World.cell?, h1]
  have c2 : W.cell? ⟨b2, 0, none⟩ = some (.int .u32 (seed.toNat : Int)) := by rw [World.cell?_of_block (hRd b2 (.inr (.inl rfl)))]; simp [World.cell?, h2]
  have H3 : W.heap[b3]? = some (.cells #[v] 22 (0, 0)) := (hRd b3 (.inr (.inr (.inl rfl)))).trans h3
  have HV : Sl W v L := hv.keep fun k hl hk => hRd k (.inr (.inr (.inr ⟨hl, hk⟩)))
  have lt3 : b3 < W.heap.size := heap_lt H3
  replace H3 := hide H3
  replace HV := hide HV
  replace hC := hide hC
  replace hJ := hide hJ
  replace hJx := hide hJx
  replace hY := hide hY
  have HV0 := hide hv
  clear h1 h2 h3 hv hRd hsz
  by_cases hb1 : base < 1
  · rcases hx with ⟨_, rfl⟩ | ⟨h, _⟩
    · go_enter Try.func28, Try.ntmps28
      go_wp2_with fail
      go_returns
      exact ⟨⟨_, rfl⟩, .inl ⟨C, h0⟩⟩
    · omega
  · rcases hx with ⟨h, _⟩ | ⟨hb, K, hK, rfl⟩
    · omega
    obtain ⟨bn, rfl⟩ : ∃ bn : Nat, base = (bn : Int) := ⟨base.toNat, by omega⟩
    rw [Int.toNat_natCast] at hK hY ⊢
    generalize hx : (⟨0, 0, bn, seed⟩ : Sc) = x0 at *
    have hx0 := hide hx.symm
    clear hx
    go_enter Try.func28, Try.ntmps28
    go_wp2_with fail
    go_loopw [] (fun wr => Hid (SLoop J L x0 K W (RdOf b1 b2 b3 v L) W.heap.size wr)) (fun wr => msS wr W.heap.size K)
    case atStart =>
      refine ⟨0, C, x0, 0, ?_, hJ.out _ _ _ _ h0 (But.alloc _ _ _), fun h => absurd (hC.out _ h).2 (Nat.lt_irrefl _), fun j hj => ⟨fun h => (hC.out _ h).1 hj, ?_⟩, fun j hj => by have := (hC.out j hj).2; simp; omega, by simp, .inl ⟨rfl, Nat.zero_le _, rfl⟩⟩
      · have e : scc x0 0 = #[.int .i64 0, .int .i64 0, .int .i64 (bn : Int), .int .u32 (seed.toNat : Int), .int .i64 0] := by rw [hx0.out]; rfl
        rw [e]; exact heap_alloc_new _ _
      · refine Below.heap_alloc _ _ _ ?_
        rcases hj with rfl | rfl | rfl | ⟨hl, hk⟩
        · exact lt_of_cell c1
        · exact lt_of_cell c2
        · exact lt3
        · exact HV.out.blk hl _ hk
    case round =>
      obtain ⟨k, C1, x, y, hh, hj, nb, hrd, hcl, hsz, hcase⟩ := hrel.out
      clear hrel
      have hh' := hide hh
      have k0 : wr.cell? ⟨W.heap.size, 0, none⟩ = some (.int .i64 (x.c : Int)) := by simp [World.cell?, hh, scc]
      have k1 : wr.cell? ⟨W.heap.size, 1, none⟩ = some (.int .i64 (x.e : Int)) := by simp [World.cell?, hh, scc]
      have k2 : wr.cell? ⟨W.heap.size, 2, none⟩ = some (.int .i64 (x.n : Int)) := by simp [World.cell?, hh, scc]
      have k3 : wr.cell? ⟨W.heap.size, 3, none⟩ = some (.int .u32 (x.s.toNat : Int)) := by simp [World.cell?, hh, scc]
      have k4 : wr.cell? ⟨W.heap.size, 4, none⟩ = some (.int .i64 y) := by simp [World.cell?, hh, scc]
      have k5 : wr.cell? ⟨b3, 0, none⟩ = some v := by rw [World.cell?_of_block (hrd b3 (.inr (.inr (.inl rfl)))).2]; simp [World.cell?, H3.out]
      replace hj := hide hj
      replace nb := hide nb
      replace hrd := hide hrd
      replace hcl := hide hcl
      replace hsz := hide hsz
      clear hh
      rcases hcase with ⟨rfl, hk, hxe⟩ | ⟨hy, hk, hxe⟩
      · have hG : Good L x0 k := fun j hj => hK.1 j (by omega)
        obtain ⟨e1, e2, e3, e4⟩ := good_e hG (by rw [hx0.out]; exact Nat.zero_le _)
        have e5 := st_n hG (by rw [hx0.out]; show bn ≤ _; omega)
        rw [← hxe] at e1 e2 e3 e4 e5
        have e6 : x.c ≤ x.e := by have : x0.c = 0 := by rw [hx0.out]
                                  omega
        have SV := hide (Sl.keep HV.out fun j hl hb => (hrd.out j (.inr (.inr (.inr ⟨hl, hb⟩)))).2)
        have HST := hide (step_any wr v L x SV.out e1 e6 e5)
        rw [stepR_eq] at HST
        unfold scv at HST
        obtain ⟨rl, rd, hR⟩ : ∃ rl rd, Hid (recS L x = (rl, rd)) := ⟨_, _, rfl⟩
        obtain ⟨y1, hy1⟩ : ∃ y1, Hid (whyS L x = y1) := ⟨_, rfl⟩
        obtain ⟨z, hz⟩ : ∃ z, Hid (stz L x = z) := ⟨_, rfl⟩
        obtain ⟨rn, hrn⟩ : ∃ rn, Hid (rd.length = rn) := ⟨_, rfl⟩
        rw [hR.out, hy1.out, hz.out] at HST
        simp only at HST
        rw [hrn.out] at HST
        obtain ⟨ao, ca, hvv, -⟩ := id SV.out
        obtain ⟨nn, hnn⟩ : ∃ nn, Hid (L.length = nn) := ⟨_, rfl⟩
        rw [hnn.out] at hvv
        subst hvv
        replace hG := hide hG
        replace hxe := hide hxe
        replace e1 := hide e1
        clear e2 e3 e4 e5 e6
        go_upto_region 4 with (go_at_call 29; refine HST.out.mono ?_; rintro e u ⟨v', rfl, ho, hb⟩; obtain ⟨ao', ca', rfl⟩ := own_slice ho)
        have lh := hide (heap_lt hh'.out)
        have qh : Hid (((u.alloc (.cells #[.int .i64 rl, .slice ao' rn ca'] 41)).alloc (.cells #[.int .i64 (z.c : Int), .int .i64 (z.e : Int), .int .i64 (z.n : Int), .int .u32 (z.s.toNat : Int), .int .i64 y1] 28)).heap[W.heap.size]? = some (.cells (scc x 0) 28 (0, 0))) := by
          have l1 := lh.out
          have l2 := hb.size
          show _ = _
          rw [Below.heap_alloc _ _ _ (by simp; omega), Below.heap_alloc _ _ _ (by omega), hb.block _ l1]; exact hh'.out
        have q1 : Hid (((u.alloc (.cells #[.int .i64 rl, .slice ao' rn ca'] 41)).alloc (.cells #[.int .i64 (z.c : Int), .int .i64 (z.e : Int), .int .i64 (z.n : Int), .int .u32 (z.s.toNat : Int), .int .i64 y1] 28)).heap[u.heap.size]? = some (.cells #[.int .i64 rl, .slice ao' rn ca'] 41 (0, 0))) := by
          show _ = _
          rw [Below.heap_alloc _ _ _ (by simp)]; exact heap_alloc_new _ _
        have q2 : Hid (((u.alloc (.cells #[.int .i64 rl, .slice ao' rn ca'] 41)).alloc (.cells #[.int .i64 (z.c : Int), .int .i64 (z.e : Int), .int .i64 (z.n : Int), .int .u32 (z.s.toNat : Int), .int .i64 y1] 28)).heap[u.heap.size + 1]? = some (.cells (scc z y1) 28 (0, 0))) := by
          show _ = _
          have := heap_alloc_new (u.alloc (.cells #[.int .i64 rl, .slice ao' rn ca'] 41)) (.cells #[.int .i64 (z.c : Int), .int .i64 (z.e : Int), .int .i64 (z.n : Int), .int .u32 (z.s.toNat : Int), .int .i64 y1] 28)
          rwa [World.size_alloc] at this
        have qB := hide ((hb.alloc hb.size (.cells #[.int .i64 rl, .slice ao' rn ca'] 41)).alloc (by have := hb.size; simp; omega) (.cells #[.int .i64 (z.c : Int), .int .i64 (z.e : Int), .int .i64 (z.n : Int), .int .u32 (z.s.toNat : Int), .int .i64 y1] 28))
        have qO := hide ((ho.alloc (.cells #[.int .i64 rl, .slice ao' rn ca'] 41)).alloc (.cells #[.int .i64 (z.c : Int), .int .i64 (z.e : Int), .int .i64 (z.n : Int), .int .u32 (z.s.toNat : Int), .int .i64 y1] 28))
        have ul := hide hb.size
        revert qh q1 q2 qB qO
        generalize (u.alloc (.cells #[.int .i64 rl, .slice ao' rn ca'] 41)).alloc (.cells #[.int .i64 (z.c : Int), .int .i64 (z.e : Int), .int .i64 (z.n : Int), .int .u32 (z.s.toNat : Int), .int .i64 y1] 28) = q
        intro qh q1 q2 qB qO
        generalize u.heap.size = ub at *
        clear ho hb k0 k1 k2 k3 k4 k5 HST
        have m4 : q.frozen? ⟨W.heap.size, 4, none⟩ = false := by simp [World.frozen?, qh.out, scc]
        have n4 : q.cell? ⟨ub + 1, 4, none⟩ = some (.int .i64 y1) := by simp [World.cell?, q2.out, scc]
        have m5 : q.cell? ⟨W.heap.size, 4, none⟩ = some (.int .i64 0) := by simp [World.cell?, qh.out, scc]
        go_upto_region 5 with fail
        clear m4 n4 m5
        have ne1 : ub ≠ W.heap.size := by have := lh.out; have := ul.out; omega
        have ne2 : ub + 1 ≠ W.heap.size := by have := lh.out; have := ul.out; omega
        have ph := hide (set5 qh.out (.int .i64 y1))
        have p1 := hide ((heap_setCell_other q ⟨W.heap.size, 4, none⟩ ub (.int .i64 y1) ne1).trans q1.out)
        have p2 := hide ((heap_setCell_other q ⟨W.heap.size, 4, none⟩ (ub + 1) (.int .i64 y1) ne2).trans q2.out)
        have pO := hide (ownsRow_setCell_other qO.out (a := ⟨W.heap.size, 4, none⟩) (owns_ne qO.out qh.out (by decide)) (.int .i64 y1))
        have pB : Hid (But (fun k => k = W.heap.size) wr (q.setCell ⟨W.heap.size, 4, none⟩ (.int .i64 y1))) :=
          (But.of_below qB.out _).trans (But.of_grownBy (grown_setCell _ _ _ _) (fun k e => by cases e; rfl))
        have bl := hide (owns_ne qO.out qh.out (by decide))
        revert ph p1 p2 pO pB
        generalize q.setCell ⟨W.heap.size, 4, none⟩ (.int .i64 y1) = p
        intro ph p1 p2 pO pB
        clear qh q1 q2 qB qO
        have hkK : k < K + 1 := by omega
        have hxs := list_at (Sst L x0) hkK
        rw [← hxe.out] at hxs
        have J1 := hJ.out _ _ _ _ hj.out (pB.out.mono fun j _ e => ⟨by omega, by rw [e]; exact nb.out⟩)
        have szp : wr.heap.size ≤ p.heap.size := pB.out.size
        have szW := hsz.out
        obtain ⟨fn, tmps, assign, body, hy, hRn⟩ := hY.out _ x _ C1 (fun j => (Value.slice ao' rn ca').ownBlock = some j) #[scv x y1, .agg #[.int .i64 rl, .slice ao' rn ca']] p hxs J1
          ⟨.slice ao' rn ca', by rw [hR.out, hy1.out], by rw [hR.out]; simp only; rw [hrn.out]; exact owns_lower pO.out (Nat.zero_le _), fun j => Iff.rfl⟩ (by omega)
          (fun j hj' => ⟨fun h => by have := hcl.out j h; have := (pO.out.lt j hj').1; omega, by have := (pO.out.lt j hj').1; omega, (pO.out.lt j hj').2⟩)
        have t0 : p.cell? ⟨W.heap.size, 0, none⟩ = some (.int .i64 (x.c : Int)) := by simp [World.cell?, ph.out]
        have t1 : p.cell? ⟨W.heap.size, 1, none⟩ = some (.int .i64 (x.e : Int)) := by simp [World.cell?, ph.out]
        have t2 : p.cell? ⟨W.heap.size, 2, none⟩ = some (.int .i64 (x.n : Int)) := by simp [World.cell?, ph.out]
        have t3 : p.cell? ⟨W.heap.size, 3, none⟩ = some (.int .u32 (x.s.toNat : Int)) := by simp [World.cell?, ph.out]
        have t4 : p.cell? ⟨W.heap.size, 4, none⟩ = some (.int .i64 y1) := by simp [World.cell?, ph.out]
        have t5 : p.cell? ⟨ub, 0, none⟩ = some (.int .i64 rl) := by simp [World.cell?, p1.out]
        have t6 : p.cell? ⟨ub, 1, none⟩ = some (.slice ao' rn ca') := by simp [World.cell?, p1.out]
        unfold scv at hy
        replace hRn := hide hRn
        refine (wpIn_wide (n := 0)).1 ?_
        gi_wp2
        clear hy t0 t1 t2 t3 t4 t5 t6
        refine ⟨rfl, hRn.out.mono ?_⟩
        clear hRn
        rintro e W3 (⟨rfl, C2, hJ2, hB2, hC2⟩ | ⟨rfl, C2, hJx2, -, -⟩)
        · have nub : ¬ C1 (ub + 1) := fun h => by have := hcl.out _ h; have := ul.out; omega
          have w2 := hide (hB2.at p2.out nub)
          have wh := hide (hB2.at ph.out nb.out)
          have szb := hide (heap_lt p2.out)
          replace hJ2 := hide hJ2
          replace hB2 := hide hB2
          replace hC2 := hide hC2
          replace hxs := hide hxs
          replace J1 := hide J1
          have t0 : W3.cell? ⟨ub + 1, 0, none⟩ = some (.int .i64 (z.c : Int)) := by simp [World.cell?, w2.out, scc]
          have t1 : W3.cell? ⟨ub + 1, 1, none⟩ = some (.int .i64 (z.e : Int)) := by simp [World.cell?, w2.out, scc]
          have t2 : W3.cell? ⟨ub + 1, 2, none⟩ = some (.int .i64 (z.n : Int)) := by simp [World.cell?, w2.out, scc]
          have t3 : W3.cell? ⟨ub + 1, 3, none⟩ = some (.int .u32 (z.s.toNat : Int)) := by simp [World.cell?, w2.out, scc]
          have t4 : W3.cell? ⟨ub + 1, 4, none⟩ = some (.int .i64 y1) := by simp [World.cell?, w2.out, scc]
          have s0 : W3.cell? ⟨W.heap.size, 0, none⟩ = some (.int .i64 (x.c : Int)) := by simp [World.cell?, wh.out]
          have s1 : W3.cell? ⟨W.heap.size, 1, none⟩ = some (.int .i64 (x.e : Int)) := by simp [World.cell?, wh.out]
          have s2 : W3.cell? ⟨W.heap.size, 2, none⟩ = some (.int .i64 (x.n : Int)) := by simp [World.cell?, wh.out]
          have s3 : W3.cell? ⟨W.heap.size, 3, none⟩ = some (.int .u32 (x.s.toNat : Int)) := by simp [World.cell?, wh.out]
          have s4 : W3.cell? ⟨W.heap.size, 4, none⟩ = some (.int .i64 y1) := by simp [World.cell?, wh.out]
          have f0 : W3.frozen? ⟨W.heap.size, 0, none⟩ = false := by simp [World.frozen?, wh.out]
          have f1 : W3.frozen? ⟨W.heap.size, 1, none⟩ = false := by simp [World.frozen?, wh.out]
          have f2 : W3.frozen? ⟨W.heap.size, 2, none⟩ = false := by simp [World.frozen?, wh.out]
          have f3 : W3.frozen? ⟨W.heap.size, 3, none⟩ = false := by simp [World.frozen?, wh.out]
          have f4 : W3.frozen? ⟨W.heap.size, 4, none⟩ = false := by simp [World.frozen?, wh.out]
          gi_wp2
          go_wp2_with fail
          show Hid (SLoop J L x0 K W (RdOf b1 b2 b3 (.slice ao nn ca) L) W.heap.size (put5 W3 W.heap.size (.int .i64 (z.c : Int)) (.int .i64 (z.e : Int)) (.int .i64 (z.n : Int)) (.int .u32 (z.s.toNat : Int)) (.int .i64 y1))) ∧ msS (put5 W3 W.heap.size (.int .i64 (z.c : Int)) (.int .i64 (z.e : Int)) (.int .i64 (z.n : Int)) (.int .u32 (z.s.toNat : Int)) (.int .i64 y1)) W.heap.size K < msS wr W.heap.size K
          have h5 : (put5 W3 W.heap.size (.int .i64 (z.c : Int)) (.int .i64 (z.e : Int)) (.int .i64 (z.n : Int)) (.int .u32 (z.s.toNat : Int)) (.int .i64 y1)).heap[W.heap.size]? = some (.cells (scc z y1) 28 (0, 0)) := put5_heap wh.out _ _ _ _ _
          have hgr := put5_grown W3 W.heap.size (.int .i64 (z.c : Int)) (.int .i64 (z.e : Int)) (.int .i64 (z.n : Int)) (.int .u32 (z.s.toNat : Int)) (.int .i64 y1)
          have hot : ∀ j, j ≠ W.heap.size → (put5 W3 W.heap.size (.int .i64 (z.c : Int)) (.int .i64 (z.e : Int)) (.int .i64 (z.n : Int)) (.int .u32 (z.s.toNat : Int)) (.int .i64 y1)).heap[j]? = W3.heap[j]? := fun j hj => put5_other _ _ _ _ _ _ _ _ hj
          revert h5 hgr hot
          generalize put5 W3 W.heap.size (.int .i64 (z.c : Int)) (.int .i64 (z.e : Int)) (.int .i64 (z.n : Int)) (.int .u32 (z.s.toNat : Int)) (.int .i64 y1) = U
          intro h5 hgr hot
          have hxc : x.c = k := by rw [hxe.out, (good_e hG.out (by rw [hx0.out]; exact Nat.zero_le _)).2.2.1, hx0.out]; simp
          have hyK : (y1 = 0 ∧ k < K ∧ z = Sst L x0 (k + 1)) ∨ (y1 ≠ 0 ∧ k = K ∧ z = x) := by
            by_cases h : y1 = 0
            · refine .inl ⟨h, ?_, ?_⟩
              · by_cases e : k = K
                · exfalso
                  apply hK.2
                  rw [← e, ← hxe.out, hy1.out, h]
                · omega
              · rw [← hz.out, stz, if_pos (by rw [hy1.out, h]), hxe.out]; rfl
            · refine .inr ⟨h, ?_, ?_⟩
              · by_cases e : k < K
                · exfalso
                  apply h
                  rw [← hy1.out, hxe.out]
                  exact hK.1 k e
                · omega
              · rw [← hz.out, stz, if_neg (by rw [hy1.out]; exact h)]
          have nC2 : ¬ C2 W.heap.size := fun h => by
            rcases (hC2.out _ h).1 with h | h | h
            · exact nb.out h
            · exact bl.out h
            · have := heap_lt ph.out; omega
          refine ⟨⟨k + 1, C2, z, y1, h5, ?_, nC2, fun j hj' => ?_, fun j hj' => Nat.lt_of_lt_of_le (hC2.out j hj').2 hgr.size, Nat.le_trans szW (Nat.le_trans szp (Nat.le_trans hB2.out.size hgr.size)), ?_⟩, ?_⟩
          · refine hJ.out _ _ W3 _ ?_ (But.of_grownBy hgr fun j e => by cases e; exact ⟨Nat.le_refl _, nC2⟩)
            have := hJ2.out
            rwa [hxe.out, list_take (Sst L x0) hkK] at this
          · have hjl : j < W.heap.size := by
              rcases hj' with rfl | rfl | rfl | ⟨hl, hk⟩
              · exact lt_of_cell c1
              · exact lt_of_cell c2
              · exact lt3
              · exact HV.out.blk hl _ hk
            have hn1 := (hrd.out j hj').1
            refine ⟨fun h => ?_, ?_⟩
            · rcases (hC2.out _ h).1 with h | h | h
              · exact hn1 h
              · have := (pO.out.lt j h).1; omega
              · omega
            · rw [hot j (by omega), hB2.out.block j (by omega) hn1, pB.out.block j (by omega) (by omega)]
              exact (hrd.out j hj').2
          · rcases hyK with ⟨h, hk', hz'⟩ | ⟨h, hk', hz'⟩
            · exact .inl ⟨h, by omega, hz'⟩
            · exact .inr ⟨h, by omega, by rw [hz', hxe.out, hk']⟩
          · rw [msS_eq h5, msS_eq hh'.out, if_pos rfl, hxc]
            rcases hyK with ⟨h, hk', hz'⟩ | ⟨h, hk', hz'⟩
            · have : z.c = k + 1 := by
                rw [hz']; show (Sst L x0 k).c + 1 = _; rw [← hxe.out, hxc]
              rw [if_pos h, this]; omega
            · rw [if_neg h, hz', hxc]; omega
        · gi_wp2
          go_wp2_with fail
          go_returns
          refine ⟨⟨_, rfl⟩, .inr ⟨_, C2, ?_, hJx2⟩⟩
          rw [hxe.out, list_take (Sst L x0) hkK]
          exact List.take_prefix _ _
      · have hyb : (y == 0) = false := by simpa using hy
        go_wp2_with fail
        go_returns
        refine ⟨⟨_, rfl⟩, .inl ⟨C1, ?_⟩⟩
        have := hj.out
        rwa [List.take_of_length_le (by simp; omega)] at this

end Go.Proofs.Ytebhkdaefjmbnaa
