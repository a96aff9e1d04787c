/-
  Pace: the document's Plan; begun.
-/
import Derived.Test.YtikjgonlngcglaaR01
import Derived.Deep.Strs
import Derived.Deep.Slices
namespace Go.Proofs.Ytikjgonlngcglaa.Pc
open Go.RowKit Rl Gg
set_option linter.unusedVariables false
set_option maxRecDepth 100000
/-- The params of begun. -/
def q8 : Q := ⟨8, 1000, 4602678819172646912, 4602678819172646912⟩
theorem q8_may : mayB q8 = true := by decide +kernel
theorem p8a : planF q8 4607182418800017408 0 0 0 = (false, 4602678819172646912) := by decide +kernel
theorem p8b : planF q8 4607182418800017408 1 10 0 = (true, 0) := by decide +kernel
theorem s8 : seenF q8 4607182418800017408 8 = 4616752568008179712 := by decide +kernel
theorem w8 : wantF q8 4616752568008179712 = 5 := by decide +kernel
set_option maxHeartbeats 1000000 in
theorem begun_any (w : World) : Calls Try.prog 6 #[] w fun e w' => e = .returned (.bool true) ∧ Below w.heap.size w w' := by
  have hN := hide (fun u => new_any u q8 (by decide) (by decide))
  unfold q8 Q.val at hN
  simp only at hN
  go_enter Try.func6, Try.ntmps6
  go_wp2_with fail
  go_at_call 8
  refine (hN.out _).mono ?_
  rintro e w1 ⟨b1, ⟨hm, rfl⟩ | ⟨hm, b, hb, rfl, A⟩⟩
  · exact absurd ((show mayB q8 = false from hm).symm.trans q8_may) (by decide)
  have ok := Ok.new hm
  replace A := hide (show At 53 w1 b q8 4607182418800017408 from A)
  have OK := hide (show Ok q8 4607182418800017408 from ok)
  have BW := hide b1
  have HB := hide hb
  clear b1 ok hm hN hb
  go_upto_region 4 with fail
  go_wp2_with fail
  go_at_call 12
  refine (plan_any A.out OK.out 0 0 (age := 0) (by omega)).mono ?_
  rw [p8a]
  rintro e w2 ⟨rfl, b2⟩
  replace A := hide (A.out.below b2)
  replace BW := hide (keepF BW.out b2)
  clear b2
  unfold planV
  simp only
  go_wp2_with fail
  go_at_call 12
  refine (plan_any A.out OK.out 1 10 (age := 0) (by omega)).mono ?_
  rw [p8b]
  rintro e w3 ⟨rfl, b2⟩
  replace A := hide (A.out.below b2)
  replace BW := hide (keepF BW.out b2)
  clear b2
  unfold planV
  simp only
  have sf : ∀ (W : World) (a : Addr) (x : Nat), (store a (.float .f64 x)).run Try.prog W = stored Try.prog W a (.float .f64 x) .plain := fun W a x => run_store _ W a _ _ rfl
  go_upto_region 5 with fail
  obtain ⟨w4, hw4⟩ : ∃ w4, Hid (w3.alloc (.cells #[.bool false, .float .f64 4602678819172646912] 39) = w4) := ⟨_, rfl⟩
  have B4 := box_below w3 (.cells #[.bool false, .float .f64 4602678819172646912] 39)
  have N4 : Pn (w3.alloc (.cells #[.bool false, .float .f64 4602678819172646912] 39)) w3.heap.size _ _ := heap_alloc_new w3 (.cells #[.bool false, .float .f64 4602678819172646912] 39)
  rw [hw4.out] at B4 N4 ⊢
  have hz : w4.heap.size = w3.heap.size + 1 := by rw [← hw4.out]; simp
  have B5 := box_below w4 (.cells #[.bool true, .float .f64 0] 39)
  have N5 : Pn (w4.alloc (.cells #[.bool true, .float .f64 0] 39)) w4.heap.size _ _ := heap_alloc_new w4 (.cells #[.bool true, .float .f64 0] 39)
  rw [hz] at N5
  have hbl := A.out.lt
  replace A := hide ((A.out.below B4).below B5)
  replace N4 := N4.below B5
  replace BW := hide (keepF (keepF BW.out B4) B5)
  clear B4 B5 hw4 hz sf
  generalize w4.alloc (.cells #[.bool true, .float .f64 0] 39) = w5 at *
  generalize w3.heap.size = p at *
  go_wp2_with fail
  go_at_call 10
  refine (seen_any A.out OK.out 8).mono ?_
  rw [s8]
  rintro e w6 ⟨rfl, A6, b6⟩
  replace OK := hide (by have := OK.out.seen 8; rwa [s8] at this)
  replace N4 : Pn w6 p _ _ := b6.at N4 (by omega)
  replace N5 : Pn w6 (p + 1) _ _ := b6.at N5 (by omega)
  replace BW := hide (BW.out.trans (b6.below BW.out.size fun k hk => by rw [show k = b from hk]; exact HB.out))
  have hW := hide (want_any A6 OK.out)
  rw [w8] at hW
  obtain ⟨y0, y1⟩ := N4.cells
  obtain ⟨y2, y3⟩ := N5.cells
  have o1 : FloatKind.f64.format.order 4602678819172646912 4602678819172646912 = some .eq := by decide +kernel
  have o2 : FloatKind.f64.format.order 0 0 = some .eq := by decide +kernel
  clear b6 A A6 OK N4 N5
  go_wp2_with fail
  go_at_call 11
  refine hW.out.mono ?_
  rintro e w7 ⟨rfl, k, rfl⟩
  go_wp2_with fail
  go_ret
  exact ⟨rfl, below_drewN BW.out k⟩
end Go.Proofs.Ytikjgonlngcglaa.Pc

/-
  PaceWaits: quarters by data; its walk.
-/
namespace Go.Proofs.Ytikjgonlngcglaa.Pc
open Go.RowKit Rl Gg
set_option linter.unusedVariables false
set_option maxRecDepth 100000
end Go.Proofs.Ytikjgonlngcglaa.Pc

/-
  PaceWaits: its walk.
-/
namespace Go.Proofs.Ytikjgonlngcglaa.Pc
open Go.RowKit Rl Gg
set_option linter.unusedVariables false
set_option maxRecDepth 100000
theorem fld_go (u : World) (x : Bool) (y : Nat) : (Instr.field 39 (.agg #[.bool x, .float .f64 y]) 0).run Try.prog u = .ok (.bool x) u := by kernel_rfl
end Go.Proofs.Ytikjgonlngcglaa.Pc

/-
  Pace: params by their bits; what rises.
-/
namespace Go.Proofs.Ytikjgonlngcglaa.Pc
open Go.RowKit Rl Gg
set_option linter.unusedVariables false
set_option maxRecDepth 100000
theorem parSize : (Try.prog.info? 27).map (·.size) = some 4 := by kernel_rfl
theorem of_any (w : World) (mo bb : Int) (l a : Nat) : Calls Try.prog 7 #[.int .i64 mo, .int .i64 bb, .int .u64 (l : Int), .int .u64 (a : Int)] w fun e w' => e = .returned (Q.val ⟨mo, bb, l, a⟩) ∧ Below w.heap.size w w' := by
  have k := of_run
  have k1 := k (l : Int)
  have k2 := k (a : Int)
  rw [Int.toNat_natCast] at k1 k2
  clear k
  have sf : ∀ (W : World) (a : Addr) (x : Nat), (store a (.float .f64 x)).run Try.prog W = stored Try.prog W a (.float .f64 x) .plain := fun W a x => run_store _ W a _ _ rfl
  unfold Q.val
  simp only
  go_enter Try.func7, Try.ntmps7
  go_wp2_with fail
  try simp only [Exit.inBlock, Exit.then]
  refine bodyPost_ret (v := .agg _) (results_cell_row rfl _ _ w.heap.size 27 _ (0, 0) _ rfl (heap_alloc_new w (.cells #[.int .i64 mo, .int .i64 bb, .float .f64 l, .float .f64 a] 27)) Try.underlying27 rfl parSize) rfl ?_
  exact ⟨rfl, box_below w (.cells #[.int .i64 mo, .int .i64 bb, .float .f64 l, .float .f64 a] 27)⟩
theorem pa_mono {x y : Nat} (hx : x < 18446744073709551616) (hy : y < 18446744073709551616) (h : geB y x = true) : paF x ≤ paF y := by
  unfold paF
  by_cases h1 : 0 < x ∧ x ≤ 9218868437227405312
  · rw [if_pos h1]
    unfold geB at h
    rcases fcase hy with g | g | g | g
    · rw [order_nan (.inl g)] at h; exact absurd h (by decide)
    · rw [ord_pos g h1.2] at h
      rcases Nat.lt_trichotomy y x with q | q | q
      · rw [Nat.compare_eq_lt.2 q] at h; exact absurd h (by decide)
      · rw [if_pos (by omega)]; omega
      · rw [if_pos (by omega)]; omega
    · subst g
      rw [ord_mz h1.2, Nat.compare_eq_lt.2 h1.1] at h
      exact absurd h (by decide)
    · rw [ord_neg g.1 g.2 h1.2] at h; exact absurd h (by decide)
  · rw [if_neg h1]; omega
theorem ge_mono {x y l : Nat} (hx : x ≤ y) (hy : y ≤ 9218868437227405312) (hl : liB l = true) (h : geB x l = true) : geB y l = true := by
  rw [ge_eq (by omega) hl] at h
  rw [ge_eq hy hl]
  have := of_decide_eq_true h
  exact decide_eq_true (by omega)
theorem go_mono {q : Q} {s : Nat} {n n' b b' : Int} {x y : Nat} (hl : liB q.li = true) (hn : n ≤ n') (hb : b ≤ b') (hx : x ≤ y) (hy : y ≤ 9218868437227405312) (h : goF q s n b x = true) : goF q s n' b' y = true := by
  unfold goF at h ⊢
  simp only [Bool.or_eq_true, Bool.and_eq_true, decide_eq_true_eq] at h ⊢
  rcases h with ((h | h) | h) | h
  · exact .inl (.inl (.inl (by omega)))
  · exact .inl (.inl (.inr (by omega)))
  · exact .inl (.inr (ge_mono hx hy hl h))
  · exact .inr (by omega)
theorem nan_pa {x : Nat} (h : nanB x = true) : paF x = 0 := by
  have := nan_big h
  unfold paF
  rw [if_neg (by omega)]
theorem ge_nan {x y : Nat} (h : geB y x = true) : nanB x = false := by
  cases hx : nanB x
  · rfl
  · unfold geB at h
    rw [order_nan (.inr hx)] at h
    exact absurd h (by decide)
theorem self_eq {x : Nat} (hx : x < 18446744073709551616) : (FloatKind.f64.format.order x x == some .eq) = !nanB x := by
  cases hn : nanB x
  · rw [order_eq hx hx hn hn]; simp
  · rw [order_nan (.inl hn)]; rfl
theorem want_1 {q : Q} {s : Nat} (ok : Ok q s) : 1 ≤ wantF q s ∧ (wantF q s : Int) ≤ q.mo := by
  have := ok.m1
  unfold wantF
  omega
/-- What is so of a plan: it goes, or waits a time above 0, at most Linger. -/
theorem plan_ok {q : Q} {s : Nat} (ok : Ok q s) (n b : Int) (age : Nat) : (goF q s n b (paF age) = true ∧ planF q s n b age = (true, 0)) ∨ (goF q s n b (paF age) = false ∧ ∃ r, planF q s n b age = (false, r) ∧ 1 ≤ r ∧ r ≤ q.li ∧ 1 ≤ q.li ∧ q.li ≤ 4697254411347427328) := by
  cases hg : goF q s n b (paF age)
  · right
    refine ⟨rfl, wtF q (paF age), by unfold planF; rw [hg, if_neg (by decide)], ?_⟩
    have hge : geB (paF age) q.li = false := by
      rcases go_split q s n b (paF age) with h | h | h | h | h | h
      all_goals first | exact h.2.2.2.1 | (rw [hg] at h; exact absurd h.1 (by decide))
    obtain ⟨g1, g2, g3, g4, g5⟩ := wt_some ok.l (pa_le age) hge
    exact ⟨g4, g5, by omega, g2⟩
  · left
    exact ⟨rfl, by unfold planF; rw [hg, if_pos rfl]⟩
theorem Row.readI {w : World} {ao : Option Addr} {n ca : Nat} {l : List Int} (h : Row w (.slice ao n ca) (l.map (Value.int .i64))) (i : Nat) (hi : i < l.length) : ∃ b off, ao = some ⟨b, off, none⟩ ∧ w.cell? ⟨b, off + i, none⟩ = some (.int .i64 (l.getD i 0)) := by
  obtain ⟨ao', ca', e, _, _, _, h5⟩ := h
  simp at e
  obtain ⟨rfl, _, rfl⟩ := e
  obtain ⟨b, off, e1, hc⟩ := h5 i (by simpa using hi)
  refine ⟨b, off, e1, ?_⟩
  rw [hc]
  simp [List.getD, hi]
end Go.Proofs.Ytikjgonlngcglaa.Pc

/-
  PaceRises: its walk.
-/
namespace Go.Proofs.Ytikjgonlngcglaa.Pc
open Go.RowKit Rl Gg
set_option linter.unusedVariables false
set_option maxRecDepth 100000
def opC (sn N B : Int) (ag : Nat) : Array Value := #[.int .i64 sn, .int .i64 N, .int .i64 B, .int .u64 (ag : Int)]
def qC (q : Q) : Array Value := #[.int .i64 q.mo, .int .i64 q.by', .float .f64 q.li, .float .f64 q.al]
/-- What stands between PaceRises' calls: the argument's box, the params' box, the pace. -/
structure Rs (W w : World) (ob qb b : Nat) (oc : Array Value) (q : Q) (s : Nat) : Prop where
  o : w.heap[ob]? = some (.cells oc 42 (0, 0))
  q' : w.heap[qb]? = some (.cells (qC q) 27 (0, 0))
  a : At 53 w b q s
  ok : Ok q s
  be : Below W.heap.size W w
  n1 : ob ≠ b
  n2 : qb ≠ b
  lo : W.heap.size ≤ b
theorem Rs.below {W w w' : World} {ob qb b : Nat} {oc : Array Value} {q : Q} {s : Nat} (h : Rs W w ob qb b oc q s) (hb : Below w.heap.size w w') : Rs W w' ob qb b oc q s :=
  ⟨(But.of_below hb fun _ => False).at h.o (fun c => c), (But.of_below hb fun _ => False).at h.q' (fun c => c), h.a.below hb, h.ok, keepF h.be hb, h.n1, h.n2, h.lo⟩
theorem Rs.drew {W w : World} {ob qb b : Nat} {oc : Array Value} {q : Q} {s : Nat} (h : Rs W w ob qb b oc q s) (k : Nat) : Rs W (w.drewN k) ob qb b oc q s := h.below (below_drewN (Below.refl _ _) k)
theorem Rs.seen {W w : World} {ob qb b : Nat} {oc : Array Value} {q : Q} {s : Nat} (h : Rs W w ob qb b oc q s) (n : Int) : Calls Try.prog 10 #[.pointer (some ⟨b, 0, none⟩), .int .i64 n] w fun e w' => e = .returned (.tuple #[]) ∧ Rs W w' ob qb b oc q (seenF q s n) := by
  refine (seen_any h.a h.ok n).mono ?_
  rintro e w' ⟨rfl, A, B⟩
  refine ⟨rfl, B.at h.o h.n1, B.at h.q' h.n2, A, h.ok.seen n, h.be.trans (B.below h.be.size fun k hk => by rw [show k = b from hk]; exact h.lo), h.n1, h.n2, h.lo⟩
theorem Rs.want {W w : World} {ob qb b : Nat} {oc : Array Value} {q : Q} {s : Nat} (h : Rs W w ob qb b oc q s) : Calls Try.prog 11 #[.pointer (some ⟨b, 0, none⟩)] w fun e w' => e = .returned (.int .i64 (wantF q s : Int)) ∧ Rs W w' ob qb b oc q s ∧ ∀ p x y, Pn w p x y → Pn w' p x y := by
  refine (want_any h.a h.ok).mono ?_
  rintro e w' ⟨rfl, k, rfl⟩
  exact ⟨rfl, h.drew k, fun p x y hp => hp.below (below_drewN (Below.refl _ _) k)⟩
theorem Rs.ocells {W w : World} {ob qb b : Nat} {sn N B : Int} {ag : Nat} {q : Q} {s : Nat} (h : Rs W w ob qb b (opC sn N B ag) q s) : w.cell? ⟨ob, 0, none⟩ = some (.int .i64 sn) ∧ w.cell? ⟨ob, 1, none⟩ = some (.int .i64 N) ∧ w.cell? ⟨ob, 2, none⟩ = some (.int .i64 B) ∧ w.cell? ⟨ob, 3, none⟩ = some (.int .u64 (ag : Int)) := by
  refine ⟨?_, ?_, ?_, ?_⟩ <;> (rw [cell_of h.o]; rfl)
theorem Rs.qcells {W w : World} {ob qb b : Nat} {oc : Array Value} {q : Q} {s : Nat} (h : Rs W w ob qb b oc q s) : w.cell? ⟨qb, 0, none⟩ = some (.int .i64 q.mo) ∧ w.cell? ⟨qb, 1, none⟩ = some (.int .i64 q.by') ∧ w.cell? ⟨qb, 2, none⟩ = some (.float .f64 q.li) ∧ w.cell? ⟨qb, 3, none⟩ = some (.float .f64 q.al) := by
  refine ⟨?_, ?_, ?_, ?_⟩ <;> (rw [cell_of h.q']; rfl)
set_option maxHeartbeats 4000000 in
theorem rises_walk (W : World) (mo bb : Int) (li al : Nat) (v : Value) (l : List Int) (sn N B : Int) (ag : Nat) (n m : Int) (y : Nat) (hl : li < 18446744073709551616) (ha : al < 18446744073709551616) (hag : ag < 18446744073709551616) (hy : y < 18446744073709551616) (hN : -9223372036854775808 ≤ N) (hB : -9223372036854775808 ≤ B)
    (hrow : Row W v (l.map (Value.int .i64))) :
    Calls Try.prog 4 #[.int .i64 mo, .int .i64 bb, .int .u64 (li : Int), .int .u64 (al : Int), v, .agg #[.int .i64 sn, .int .i64 N, .int .i64 B, .int .u64 (ag : Int)], .int .i64 n, .int .i64 m, .int .u64 (y : Int)] W fun e w' => e = .returned (.bool true) ∧ Below W.heap.size W w' := by
  have hR0 := hide hrow
  obtain ⟨ao, ca, rfl, _, h2, h3, _⟩ := hrow
  simp only [List.length_map] at hR0 h2 ⊢
  obtain ⟨len, hlen⟩ : ∃ n, Hid (l.length = n) := ⟨_, rfl⟩
  rw [hlen.out] at hR0 h2 ⊢
  have hn63 : len ≤ 9223372036854775807 := by unfold maxLen at h3; omega
  have B0 := box_below W (.cells (opC sn N B ag) 42)
  have N0 := heap_alloc_new W (.cells (opC sn N B ag) 42)
  replace B0 := hide B0
  replace N0 := hide N0
  unfold opC at B0 N0
  clear h2 h3
  go_enter Try.func4, Try.ntmps4
  go_wp2_with fail
  go_at_call 6
  refine (begun_any _).mono ?_
  rintro e w0 ⟨rfl, b0⟩
  replace N0 := hide ((But.of_below b0 fun _ => False).at N0.out (fun c => c))
  replace B0 := hide (keepF B0.out b0)
  clear b0
  go_wp2_with fail
  go_at_call 7
  refine (of_any _ mo bb li al).mono ?_
  rintro e w1 ⟨rfl, b0⟩
  replace N0 := hide ((But.of_below b0 fun _ => False).at N0.out (fun c => c))
  replace B0 := hide (keepF B0.out b0)
  clear b0
  have b1 := box_below w1 (.cells (qC ⟨mo, bb, li, al⟩) 27)
  have n1 := heap_alloc_new w1 (.cells (qC ⟨mo, bb, li, al⟩) 27)
  replace N0 := hide ((But.of_below b1 fun _ => False).at N0.out (fun c => c))
  have N1 := hide n1
  have B1 := hide (keepF B0.out b1)
  have sf : ∀ (W : World) (a : Addr) (x : Nat), (store a (.float .f64 x)).run Try.prog W = stored Try.prog W a (.float .f64 x) .plain := fun W a x => run_store _ W a _ _ rfl
  clear b1 n1 B0
  unfold Q.val
  unfold qC at N0 N1 B1
  simp only at N1 B1 N0 ⊢
  go_upto_region 4 with fail
  generalize w1.alloc (.cells #[.int .i64 mo, .int .i64 bb, .float .f64 li, .float .f64 al] 27) = w2 at *
  generalize w1.heap.size = qb at *
  clear sf
  have c0 : w2.cell? ⟨qb, 0, none⟩ = some (.int .i64 mo) := by rw [cell_of N1.out]; rfl
  have c1 : w2.cell? ⟨qb, 1, none⟩ = some (.int .i64 bb) := by rw [cell_of N1.out]; rfl
  have c2 : w2.cell? ⟨qb, 2, none⟩ = some (.float .f64 li) := by rw [cell_of N1.out]; rfl
  have c3 : w2.cell? ⟨qb, 3, none⟩ = some (.float .f64 al) := by rw [cell_of N1.out]; rfl
  have hNw := hide (new_any w2 ⟨mo, bb, li, al⟩ hl ha)
  unfold Q.val at hNw
  simp only at hNw
  go_wp2_with fail
  go_at_call 8
  refine hNw.out.mono ?_
  rintro e w3 ⟨b3, ⟨hm, rfl⟩ | ⟨hm, b, hb, rfl, A⟩⟩
  · go_wp2_with fail
    go_ret
    exact ⟨rfl, keepF B1.out b3⟩
  have RS : Hid (Rs W w3 W.heap.size qb b (opC sn N B ag) ⟨mo, bb, li, al⟩ 4607182418800017408) := hide ⟨(But.of_below b3 fun _ => False).at N0.out (fun c => c), (But.of_below b3 fun _ => False).at N1.out (fun c => c), A, Ok.new hm, keepF B1.out b3, by have := heap_lt N0.out; omega, by have := heap_lt N1.out; omega, Nat.le_trans B1.out.size hb⟩
  clear b3 hm hb A hNw c0 c1 c2 c3 N0 N1 B1
  generalize hob : W.heap.size = ob at RS
  replace hob := hide hob
  go_wp2_with fail
  go_loopw [22] (fun v22 wr => ∃ i s : Nat, i ≤ len ∧ i ≤ 50 ∧ v22 = .int .i64 (i : Int) ∧ Hid (Rs W wr ob qb b (opC sn N B ag) ⟨mo, bb, li, al⟩ s)) (fun v _ => 50 - (intOf v).toNat)
  case atStart => exact ⟨0, _, by omega, by omega, rfl, RS.out⟩
  case round =>
    clear RS
    obtain ⟨i, s, hi, hi2, rfl, RS⟩ := hrel
    by_cases hlt : i < len ∧ i < 50
    · obtain ⟨hlt, hlt2⟩ := hlt
      have i1 : (i : Int) < (len : Int) := by omega
      have i2 : (i : Int) < 50 := by omega
      have i0 : (0 : Int) ≤ (i : Int) := by omega
      obtain ⟨rb, off, rfl, d0⟩ := Row.readI (Below.row RS.out.be hR0.out) i (by rw [hlen.out]; exact hlt)
      generalize l.getD i 0 = z at *
      go_wp2_with fail
      go_at_call 10
      refine (RS.out.seen z).mono ?_
      rintro e w4 ⟨rfl, R4⟩
      replace R4 := hide R4
      clear RS d0
      go_wp2_with fail
      go_roundw
      case rel => exact ⟨i + 1, _, by omega, by omega, by go_num, R4.out⟩
      case measure => simp [intOf]; omega
    clear hR0
    have KB := of_run
    have k1 := KB (ag : Int)
    have k2 := KB (y : Int)
    rw [Int.toNat_natCast] at k1 k2
    clear KB
    obtain ⟨o0, o1, o2, o3⟩ := RS.out.ocells
    have hex : ¬ ((i : Int) < (len : Int)) ∨ ((i : Int) < (len : Int) ∧ ¬ ((i : Int) < 50)) := by omega
    clear hlt
    have o5 : FloatKind.f64.format.order 0 0 = some .eq := by decide +kernel
    have sf : ∀ (W : World) (a : Addr) (x : Nat), (store a (.float .f64 x)).run Try.prog W = stored Try.prog W a (.float .f64 x) .plain := fun W a x => run_store _ W a _ _ rfl
    have fg := fld_go
    have hIs := hide (fun u => mathIsNaN_any u ag hag)
    have hse := self_eq hag
    have HG := hide (pa_mono hag hy)
    obtain ⟨wa, hwa⟩ : ∃ wa, Hid (wantF ⟨mo, bb, li, al⟩ s = wa) := ⟨_, rfl⟩
    have hW1 := want_1 RS.out.ok
    rw [hwa.out] at hW1
    obtain ⟨W1, W2⟩ := hW1
    simp only at W2
    have W3 : ¬ ((wa : Int) < 1) := by omega
    have W4 : ¬ (mo < (wa : Int)) := by omega
    clear W1 W2
    rcases hex with hx | ⟨hx, hx2⟩
    all_goals
      go_upto_region 12 with fail
      rcases plan_ok RS.out.ok N B ag with ⟨hgo, hpl⟩ | ⟨hgo, r, hpl, r1, r2, r3, r4⟩
      · go_wp2_with fail
        go_at_call 12
        refine (plan_any RS.out.a RS.out.ok N B (age := ag) hag).mono ?_
        rw [hpl]
        rintro e w5 ⟨rfl, b5⟩
        have R5 := RS.out.below b5
        have b6 := box_below w5 (.cells #[.bool true, .float .f64 0] 39)
        have N6 : Hid (Pn (w5.alloc (.cells #[.bool true, .float .f64 0] 39)) w5.heap.size _ _) := hide (heap_alloc_new w5 (.cells #[.bool true, .float .f64 0] 39))
        have R6 := hide (R5.below b6)
        clear b5 R5 b6 o0 o1 o2 o3 RS
        unfold planV
        simp only
        go_upto_region 13 with fail
        generalize w5.alloc (.cells #[.bool true, .float .f64 0] 39) = w6 at *
        generalize w5.heap.size = pb at *
        go_wp2_with fail
        go_at_call 11
        refine R6.out.want.mono ?_
        rw [hwa.out]
        rintro e w7 ⟨rfl, R7, K7⟩
        replace N6 := hide (K7 _ _ _ N6.out)
        replace R6 := hide R7
        clear R7 K7
        go_wp2_with fail
        go_at_call 11
        refine R6.out.want.mono ?_
        rw [hwa.out]
        rintro e w8 ⟨rfl, R7, K7⟩
        replace N6 := K7 _ _ _ N6.out
        replace R6 := hide R7
        clear R7 K7
        obtain ⟨y0, y1⟩ := N6.cells
        obtain ⟨o0, o1, o2, o3⟩ := R6.out.ocells
        clear N6
        go_upto_region 15 with fail
        by_cases q1 : n < 0
        · go_wp2_with fail
          go_ret
          exact ⟨rfl, R6.out.be⟩
        by_cases q2 : m < 0
        · go_wp2_with fail
          go_ret
          exact ⟨rfl, R6.out.be⟩
        by_cases q3 : 1099511627776 < n
        · go_wp2_with fail
          go_ret
          exact ⟨rfl, R6.out.be⟩
        by_cases q4 : 1099511627776 < m
        · go_wp2_with fail
          go_ret
          exact ⟨rfl, R6.out.be⟩
        by_cases q5 : 1099511627776 < N
        · go_wp2_with fail
          go_ret
          exact ⟨rfl, R6.out.be⟩
        by_cases q6 : 1099511627776 < B
        · go_wp2_with fail
          go_ret
          exact ⟨rfl, R6.out.be⟩
        have hNn : IntKind.i64.wrap (N + n) = N + n := by simp [IntKind.wrap, IntKind.bits, IntKind.signed]; omega
        have hBm : IntKind.i64.wrap (B + m) = B + m := by simp [IntKind.wrap, IntKind.bits, IntKind.signed]; omega
        cases hge : geB y ag
        · unfold geB at hge
          cases hnn : nanB ag
          · rw [hnn] at hse
            simp only [Bool.not_false] at hse
            go_wp2_with fail
            go_ret
            exact ⟨rfl, R6.out.be⟩
          · rw [hnn] at hse hIs
            simp only [Bool.not_true] at hse
            go_wp2_with (go_at_call 18; refine (hIs.out _).mono ?_; rintro e w9 ⟨rfl, hw⟩; rw [hw]; clear hw w9)
            go_at_call 12
            have hgo2 := go_mono (q := ⟨mo, bb, li, al⟩) (s := s) R6.out.ok.l (show N ≤ N + n by omega) (show B ≤ B + m by omega) (show paF ag ≤ paF 0 by rw [nan_pa hnn]; omega) (pa_le _) hgo
            have hpl2 : planF ⟨mo, bb, li, al⟩ s (N + n) (B + m) 0 = (true, 0) := by unfold planF; rw [hgo2, if_pos rfl]
            refine (plan_any R6.out.a R6.out.ok (N + n) (B + m) (age := 0) (by omega)).mono ?_
            rw [hpl2]
            rintro e w9 ⟨rfl, b9⟩
            have BE := hide (keepF R6.out.be b9)
            clear b9
            unfold planV
            simp only
            go_wp2_with fail
            go_ret
            exact ⟨rfl, BE.out⟩
        · have hnn := ge_nan hge
          rw [hnn] at hIs
          have hpa := hide (HG.out hge)
          unfold geB at hge
          go_wp2_with (go_at_call 18; refine (hIs.out _).mono ?_; rintro e w9 ⟨rfl, hw⟩; rw [hw]; clear hw w9)
          go_at_call 12
          have hgo2 := go_mono (q := ⟨mo, bb, li, al⟩) (s := s) R6.out.ok.l (show N ≤ N + n by omega) (show B ≤ B + m by omega) hpa.out (pa_le _) hgo
          have hpl2 : planF ⟨mo, bb, li, al⟩ s (N + n) (B + m) y = (true, 0) := by unfold planF; rw [hgo2, if_pos rfl]
          refine (plan_any R6.out.a R6.out.ok (N + n) (B + m) (age := y) hy).mono ?_
          rw [hpl2]
          rintro e w9 ⟨rfl, b9⟩
          have BE := hide (keepF R6.out.be b9)
          clear b9
          unfold planV
          simp only
          go_wp2_with fail
          go_ret
          exact ⟨rfl, BE.out⟩
      · have hgt : (FloatKind.f64.format.order r 0 == some .gt) = true := by rw [pos_eq (by omega), decide_eq_true (by omega)]
        have hmx := fun u ts t => max_tiny (r := li) r3 r4 u ts t
        have hle : (FloatKind.f64.format.order r li == some .lt || FloatKind.f64.format.order r li == some .eq) = true := by
          simp only at r2 r3 r4
          rw [ord_pos (by omega) (by omega)]
          rcases Nat.lt_or_eq_of_le r2 with q | q
          · rw [Nat.compare_eq_lt.2 q]; rfl
          · rw [Nat.compare_eq_eq.2 q]; rfl
        clear r1 r2 r3 r4
        go_wp2_with fail
        go_at_call 12
        refine (plan_any RS.out.a RS.out.ok N B (age := ag) hag).mono ?_
        rw [hpl]
        rintro e w5 ⟨rfl, b5⟩
        have R5 := RS.out.below b5
        have b6 := box_below w5 (.cells #[.bool false, .float .f64 r] 39)
        have N6 : Hid (Pn (w5.alloc (.cells #[.bool false, .float .f64 r] 39)) w5.heap.size _ _) := hide (heap_alloc_new w5 (.cells #[.bool false, .float .f64 r] 39))
        have R6 := hide (R5.below b6)
        clear b5 R5 b6 o0 o1 o2 o3 RS
        unfold planV
        simp only
        go_upto_region 13 with fail
        generalize w5.alloc (.cells #[.bool false, .float .f64 r] 39) = w6 at *
        generalize w5.heap.size = pb at *
        go_wp2_with fail
        go_at_call 11
        refine R6.out.want.mono ?_
        rw [hwa.out]
        rintro e w7 ⟨rfl, R7, K7⟩
        replace N6 := hide (K7 _ _ _ N6.out)
        replace R6 := hide R7
        clear R7 K7
        go_wp2_with fail
        go_at_call 11
        refine R6.out.want.mono ?_
        rw [hwa.out]
        rintro e w8 ⟨rfl, R7, K7⟩
        replace N6 := K7 _ _ _ N6.out
        replace R6 := hide R7
        clear R7 K7
        obtain ⟨y0, y1⟩ := N6.cells
        obtain ⟨o0, o1, o2, o3⟩ := R6.out.ocells
        obtain ⟨z0, z1, z2, z3⟩ := R6.out.qcells
        simp only at z0 z1 z2 z3
        clear N6
        go_upto_region 15 with fail
        clear z0 z1 z2 z3
        by_cases q1 : n < 0
        · go_wp2_with fail
          go_ret
          exact ⟨rfl, R6.out.be⟩
        by_cases q2 : m < 0
        · go_wp2_with fail
          go_ret
          exact ⟨rfl, R6.out.be⟩
        by_cases q3 : 1099511627776 < n
        · go_wp2_with fail
          go_ret
          exact ⟨rfl, R6.out.be⟩
        by_cases q4 : 1099511627776 < m
        · go_wp2_with fail
          go_ret
          exact ⟨rfl, R6.out.be⟩
        by_cases q5 : 1099511627776 < N
        · go_wp2_with fail
          go_ret
          exact ⟨rfl, R6.out.be⟩
        by_cases q6 : 1099511627776 < B
        · go_wp2_with fail
          go_ret
          exact ⟨rfl, R6.out.be⟩
        have hNn : IntKind.i64.wrap (N + n) = N + n := by simp [IntKind.wrap, IntKind.bits, IntKind.signed]; omega
        have hBm : IntKind.i64.wrap (B + m) = B + m := by simp [IntKind.wrap, IntKind.bits, IntKind.signed]; omega
        cases hge : geB y ag
        · unfold geB at hge
          cases hnn : nanB ag
          · rw [hnn] at hse
            simp only [Bool.not_false] at hse
            go_wp2_with fail
            go_ret
            exact ⟨rfl, R6.out.be⟩
          · rw [hnn] at hse hIs
            simp only [Bool.not_true] at hse
            go_wp2_with (go_at_call 18; refine (hIs.out _).mono ?_; rintro e w9 ⟨rfl, hw⟩; rw [hw]; clear hw w9)
            go_ret
            exact ⟨rfl, R6.out.be⟩
        · have hnn := ge_nan hge
          rw [hnn] at hIs
          have hpa := hide (HG.out hge)
          unfold geB at hge
          go_wp2_with (go_at_call 18; refine (hIs.out _).mono ?_; rintro e w9 ⟨rfl, hw⟩; rw [hw]; clear hw w9)
          go_ret
          exact ⟨rfl, R6.out.be⟩
theorem rises_law (W : World) (mo bb li al : Int) (v : Value) (l : List Int) (sn N B : Int) (ag : Nat) (n m y : Int) (hl : 0 ≤ li ∧ li < 18446744073709551616) (ha : 0 ≤ al ∧ al < 18446744073709551616) (hag : ag < 18446744073709551616) (hy : 0 ≤ y ∧ y < 18446744073709551616) (hN : -9223372036854775808 ≤ N) (hB : -9223372036854775808 ≤ B)
    (hrow : Row W v (l.map (Value.int .i64))) :
    Calls Try.prog 4 #[.int .i64 mo, .int .i64 bb, .int .u64 li, .int .u64 al, v, .agg #[.int .i64 sn, .int .i64 N, .int .i64 B, .int .u64 (ag : Int)], .int .i64 n, .int .i64 m, .int .u64 y] W fun e w' => e = .returned (.bool true) ∧ Below W.heap.size W w' := by
  obtain ⟨p, rfl⟩ : ∃ p : Nat, li = (p : Int) := ⟨li.toNat, by omega⟩
  obtain ⟨q, rfl⟩ : ∃ q : Nat, al = (q : Int) := ⟨al.toNat, by omega⟩
  obtain ⟨r, rfl⟩ : ∃ r : Nat, y = (r : Int) := ⟨y.toNat, by omega⟩
  exact rises_walk W mo bb p q v l sn N B ag n m r (by omega) (by omega) hag (by omega) hN hB hrow
end Go.Proofs.Ytikjgonlngcglaa.Pc

/-
  Arguments that are calls of a pace, opened.
-/
namespace Go.Proofs.Ytikjgonlngcglaa.Pc
open Go.ChangeShapes Go.WideShapes Go.ChangeAt Go.RowKit Go.Deep
set_option maxRecDepth 100000
theorem cellsPop : Try.prog.cellsOf 42 = 4 := by kernel_rfl
theorem cellsU64 : Try.prog.cellsOf 22 = 1 := by kernel_rfl
theorem cellsInt : Try.prog.cellsOf 3 = 1 := by kernel_rfl
/-- A batch that went, and a plan that is asked for. -/
structure Pop where
  sn : Int
  n : Int
  b : Int
  ag : Nat
structure PopOk (o : Pop) : Prop where
  a1 : -9223372036854775808 ≤ o.sn
  a2 : o.sn ≤ 9223372036854775807
  b1 : -9223372036854775808 ≤ o.n
  b2 : o.n ≤ 9223372036854775807
  c1 : -9223372036854775808 ≤ o.b
  c2 : o.b ≤ 9223372036854775807
  d : o.ag < 18446744073709551616
theorem open_pop {H : Type} {enc : TypeId × Value → H} {w : World} {base : Nat} {spare : Nat → Bool} {held : Bool} {fuel : Nat} {cs : List Value} {y : DataW H × List MemPlace}
    (h : DataW.trod enc Try.prog w base spare held fuel 42 cs = some y) :
    ∃ o : Pop, cs = [.int .i64 o.sn, .int .i64 o.n, .int .i64 o.b, .int .u64 (o.ag : Int)] ∧ PopOk o := by
  obtain ⟨xs, n, _, rfl, hlen, hxl, hf⟩ := DataW.trod_struct Try.underlying42 h
  rw [cellsPop] at hlen
  obtain ⟨c0, c1, c2, c3, rfl⟩ : ∃ c0 c1 c2 c3, cs = [c0, c1, c2, c3] := by
    match cs, hlen with
    | [c0, c1, c2, c3], _ => exact ⟨c0, c1, c2, c3, rfl⟩
  match xs, hxl with
  | [y0, y1, y2, y3], _ =>
    have h0 := hf 0 _ rfl
    have h1 := hf 1 _ rfl
    have h2 := hf 2 _ rfl
    have h3 := hf 3 _ rfl
    simp [cellsU64, cellsInt] at h0 h1 h2 h3
    obtain ⟨a0, e0, _, w0⟩ := DataW.trod_int Try.underlying3 h0
    obtain ⟨a1, e1, _, w1⟩ := DataW.trod_int Try.underlying3 h1
    obtain ⟨a2, e2, _, w2⟩ := DataW.trod_int Try.underlying3 h2
    obtain ⟨a3, e3, _, w3⟩ := DataW.trod_int Try.underlying22 h3
    simp at e0 e1 e2 e3
    subst e0 e1 e2 e3
    have b3 := u64_bounds w3
    obtain ⟨s, rfl⟩ : ∃ s : Nat, a3 = (s : Int) := ⟨a3.toNat, by omega⟩
    exact ⟨⟨a0, a1, a2, s⟩, rfl, (i64_bounds w0).1, (i64_bounds w0).2, (i64_bounds w1).1, (i64_bounds w1).2, (i64_bounds w2).1, (i64_bounds w2).2, by simp only; omega⟩
end Go.Proofs.Ytikjgonlngcglaa.Pc

