/-
  After of the clock.
-/
import Derived.Test.YtjplkffghfikgaaM02
import Derived.Deep.CutRange
import Derived.RangeFuncBound
import Derived.Shelf.Abstract
import Derived.WalkKit
import Derived.OwnWalkIn
import Derived.TacticsInMore
import Derived.LoopNIn
import Derived.LoopIn
import Derived.Handy
import Derived.Maps.OwnIn
import Derived.Test.YtjplkffghfikgaaM01
import Derived.Sort.OwnSorted
import Derived.Shelf.SlGeneric
import Derived.Shelf.SlSortCmp.NoneTotal
import Derived.Ground.SlsfProg
import Derived.Test.YtjplkffghfikgaaProg
import Derived.Laws.AppendOwnNone
namespace Go.Proofs.Ytjplkffghfikgaa.Ck
open Go.RowKit Rl
set_option linter.unusedVariables false
open Ix (wp_region_T wpAnyT wpAnyT_take wpAnyT_one wpAnyT_done vac)
/-- Two may come up. -/
theorem wpAnyT_two {P : Program} {ops : Array Oper} {Q : Exit → Act → World → Prop} {md : Region.Mode} {S : World → Prop} {d : Nat} {i j : Nat} {oi oj : Oper} {fuel : Nat} {listed : Array Bool} {a : Act} {w : World} (hr : Region.ready md ops listed = [i, j]) (hoi : ops[i]? = some oi) (hoj : ops[j]? = some oj)
    (hI : ∀ K' : Act → World → Prop, Shut (∀ a w, ((listed.setIfInBounds i true).getD d false = false → S w) → wpAnyT P md ops Q S d fuel (listed.setIfInBounds i true) a w → K' a w) → if Region.wanted oi (yielded ops a.tmps) = true then Oper.wp P oi a w K' Q else K' (a.put oi.dst undef) w)
    (hJ : ∀ K' : Act → World → Prop, Shut (∀ a w, ((listed.setIfInBounds j true).getD d false = false → S w) → wpAnyT P md ops Q S d fuel (listed.setIfInBounds j true) a w → K' a w) → if Region.wanted oj (yielded ops a.tmps) = true then Oper.wp P oj a w K' Q else K' (a.put oj.dst undef) w) :
    wpAnyT P md ops Q S d (fuel + 1) listed a w := by
  refine ⟨fun h0 => (by rw [h0] at hr; cases hr), fun k hk => ?_⟩
  rw [hr] at hk
  simp only [List.mem_cons, List.not_mem_nil, or_false] at hk
  rcases hk with rfl | rfl
  · exact wpOp_step hoi (fun K' hK => hI K' (fun a w hS hW => hK a w ⟨hS, hW⟩))
  · exact wpOp_step hoj (fun K' hK => hJ K' (fun a w hS hW => hK a w ⟨hS, hW⟩))
/-- May a length of time be? -/
def okD (d : Nat) : Bool := decide (d ≤ 9218868437227405312 ∨ d = 9223372036854775808)
/-- After: the number, the error's, the timers, the next number. -/
def aftF (now : Nat) (nx : Int) (d : Nat) (S : List Tm) : Int × Int × List Tm × Int :=
  if okD d = false then (0, 1, S, nx) else if 256 ≤ S.length then (0, 9, S, nx) else (nx, 0, ins ⟨nx, tsB now (plusB d)⟩ S, nx + 1)
theorem plus_ok {d : Nat} (h : okD d = true) : plusB d ≤ 9218868437227405312 := by
  unfold okD at h
  simp at h
  unfold plusB
  split <;> omega
theorem order_ok {d : Nat} (hd : d < 18446744073709551616) (h : okD d = true) : FloatKind.f64.format.order d 0 = some .gt ∨ FloatKind.f64.format.order d 0 = some .eq := by
  unfold okD at h
  simp at h
  rcases h with h | h
  · rw [ord_pos h (by omega)]
    by_cases h0 : d = 0
    · subst h0; exact .inr (by simp)
    · exact .inl (by rw [cmp0 (by omega)])
  · subst h; rw [ord_mz (by omega)]; exact .inr (by decide)
theorem order_no {d : Nat} (hd : d < 18446744073709551616) (h : okD d = false) : FloatKind.f64.format.order d 0 = none ∨ FloatKind.f64.format.order d 0 = some .lt := by
  unfold okD at h
  simp at h
  rcases fcase hd with q | q | q | q
  · exact .inl (order_nan (.inl q))
  · omega
  · omega
  · exact .inr (ord_neg q.1 q.2 (by omega))
/-- Numbers of timers: below the next one. -/
def Nb (nx : Int) (S : List Tm) : Prop := ∀ t ∈ S, t.id < nx
theorem Ck.after {w w' : World} {b : Nat} {c : C} {v v' : Value} {l l' S : List Tm} {t : Nat} (h : Ck w b c v l S) (hnb : Nb c.nx S) (hs : S.length < 256) (ht : t ≤ 9218868437227405312) (ha : At w' b ⟨c.now, c.nx + 1⟩ v' l') (hp : Hp l') (hq : l'.Perm (⟨c.nx, t⟩ :: l)) : Ck w' b ⟨c.now, c.nx + 1⟩ v' l' (ins ⟨c.nx, t⟩ S) where
  at_ := ha
  hp := hp
  perm := hq.trans ((h.perm.cons _).trans (ins_perm _ S).symm)
  srt := ins_srt h.srt fun y hy => by have := hnb y hy; simp; omega
  tt := fun x hx => by
    rcases List.mem_cons.1 ((ins_perm _ S).mem_iff.1 hx) with e | e
    · rw [e]; exact ht
    · exact h.tt x e
  nx := by have := h.nx; simp; omega
  len := by rw [ins_len]; omega
  now := h.now
set_option maxRecDepth 100000 in
set_option maxHeartbeats 4000000 in
theorem after_any (w : World) (b d : Nat) (c : C) (v : Value) (l S : List Tm) (h : Ck w b c v l S) (hnb : Nb c.nx S) (hd : d < 18446744073709551616) (hnx : c.nx ≤ 1000000) : Calls Try.prog 11 #[.pointer (some ⟨b, 0, none⟩), .float .f64 d] w fun e w' => e = .returned (.tuple #[.int .i64 (aftF c.now c.nx d S).1, .int .i64 (aftF c.now c.nx d S).2.1]) ∧ ∃ v' l', Ck w' b ⟨c.now, (aftF c.now c.nx d S).2.2.2⟩ v' l' (aftF c.now c.nx d S).2.2.1 ∧ Stp b v v' w w' := by
  have sf : ∀ (W : World) (a : Addr) (x : Nat), (store a (.float .f64 x)).run Try.prog W = stored Try.prog W a (.float .f64 x) .plain := fun W a x => run_store _ W a _ _ rfl
  have hM := made_any w b c v l h.at_ h.nx
  have hP := plus_any w d hd
  obtain ⟨c0, c1, c2⟩ := h.at_.cells
  obtain ⟨f0, f1, f2⟩ := h.at_.frozen
  obtain ⟨z, hz⟩ : ∃ z, Hid (aftF c.now c.nx d S = z) := ⟨_, rfl⟩
  rw [hz.out]
  cases hok : okD d
  · obtain rfl : z = (0, 1, S, c.nx) := by rw [← hz.out]; simp [aftF, hok]
    have H := hide h
    clear h
    rcases order_no hd hok with e | e
    all_goals
      go_enter Try.func11, Try.ntmps11
      go_wp2_with (go_at_call 30; refine hM.mono ?_; rintro e w' ⟨rfl, hw⟩; rw [hw]; clear hw w')
      go_ret2
      exact ⟨rfl, v, l, H.out, Stp.refl _ _ _⟩
  · obtain ⟨ao, ca, rfl, q1, q2⟩ := h.at_.row.form
    by_cases hs : 256 ≤ S.length
    · obtain rfl : z = (0, 9, S, c.nx) := by rw [← hz.out]; simp [aftF, hok, hs]
      have hl : (256 : Int) ≤ (l.length : Int) := by rw [h.perm.length_eq]; omega
      have H := hide h
      clear h
      generalize l.length = N at *
      rcases order_ok hd hok with e | e
      all_goals
        go_enter Try.func11, Try.ntmps11
        go_wp2_with (go_at_call 30; refine hM.mono ?_; rintro e w' ⟨rfl, hw⟩; rw [hw]; clear hw w')
        go_ret2
        exact ⟨rfl, _, l, H.out, Stp.refl _ _ _⟩
    · obtain ⟨T, hT⟩ : ∃ T, Hid (tsB c.now (plusB d) = T) := ⟨_, rfl⟩
      obtain rfl : z = (c.nx, 0, ins ⟨c.nx, T⟩ S, c.nx + 1) := by rw [← hz.out, ← hT.out]; simp [aftF, hok, hs]
      have hTle : Hid (T ≤ 9218868437227405312) := by rw [← hT.out]; exact (tsB_some (Nat.le_of_lt h.now) (plus_ok hok)).2
      have hA := add_run (Nat.le_of_lt h.now) (plus_ok hok)
      rw [hT.out] at hA
      have hl : ¬ ((256 : Int) ≤ (l.length : Int)) := by rw [h.perm.length_eq]; omega
      have hl3 : Hid (l.length ≤ 255) := by show _ ≤ _; omega
      have hs' := hide hs
      have H := hide h
      have hnb' := hide hnb
      have hn1 := h.nx
      clear h hs hnb hz
      obtain ⟨N, hN⟩ : ∃ N, Hid (l.length = N) := ⟨_, rfl⟩
      rw [hN.out] at hl c2 H ⊢
      rcases order_ok hd hok with e | e
      all_goals
        go_enter Try.func11, Try.ntmps11
        go_upto_region 5 with (first | (go_at_call 30; refine hM.mono ?_; rintro e w' ⟨rfl, hw⟩; rw [hw]; clear hw w') | fail)
        go_cut [6] from 23 to 34 (fun y wx => y = .pointer (some ⟨w.heap.size, 0, none⟩) ∧ Hid (Below w.heap.size w wx ∧ Tw wx w.heap.size ⟨c.nx, T⟩))
        case first =>
          have KP : Hid (Bx w.drew b c (.slice ao N ca)) := H.out.at_.box
          have KB : Hid (Below w.heap.size w w.drew) := (Below.refl _ _).drew
          have hgs : Hid (w.drew.heap.size = w.heap.size) := rfl
          refine wp_region_T (fun q => Bx q b c (.slice ao N ca)) 13 (by kernel_rfl) ?_
          generalize w.drew = q at *
          refine wpAnyT_take (i := 0) (oi := { dst := some 23, op := Op.move (Operand.tmp 0), type := 25, pos := "clock.go:60", after := #[], guard := none }) (v := .pointer (some ⟨b, 0, none⟩)) [1, 2, 3, 11, 13] rfl (by kernel_rfl) (by kernel_rfl) (by kernel_rfl) (by kernel_rfl) (fun _ _ _ h => h) (Or.inl ⟨by rfl, ?_⟩) KP.out ?_
          · intro wq hSw
            obtain ⟨y0, y1, y2⟩ := trc hSw
            go_simp
          (try simp only [Act.put, List.setIfInBounds_toArray, List.set_cons_zero, List.set_cons_succ])
          refine wpAnyT_take (i := 1) (oi := { dst := some 24, op := Op.nilCheck (Operand.tmp 23), type := 0, pos := "clock.go:60", after := #[{ on := 0, ground := Ground.data }], guard := none }) (v := .pointer (some ⟨b, 0, none⟩)) [2, 3, 11, 13] rfl (by kernel_rfl) (by kernel_rfl) (by kernel_rfl) (by kernel_rfl) (fun _ _ _ h => h) (Or.inl ⟨by rfl, ?_⟩) KP.out ?_
          · intro wq hSw
            obtain ⟨y0, y1, y2⟩ := trc hSw
            go_simp
          (try simp only [Act.put, List.setIfInBounds_toArray, List.set_cons_zero, List.set_cons_succ])
          refine wpAnyT_take (i := 2) (oi := { dst := some 25, op := Op.fieldAddr 56 (Operand.tmp 24) 1, type := 0, pos := "clock.go:60", after := #[{ on := 1, ground := Ground.data }], guard := none }) (v := .pointer (some ⟨b, 1, none⟩)) [3, 11, 13] rfl (by kernel_rfl) (by kernel_rfl) (by kernel_rfl) (by kernel_rfl) (fun _ _ _ h => h) (Or.inl ⟨by rfl, ?_⟩) KP.out ?_
          · intro wq hSw
            obtain ⟨y0, y1, y2⟩ := trc hSw
            go_simp
          (try simp only [Act.put, List.setIfInBounds_toArray, List.set_cons_zero, List.set_cons_succ])
          refine wpAnyT_take (i := 3) (oi := { dst := some 26, op := Op.load 3 (Operand.tmp 25), type := 3, pos := "clock.go:60", after := #[{ on := 2, ground := Ground.data }], guard := none }) (v := .int .i64 c.nx) [11, 13] rfl (by kernel_rfl) (by kernel_rfl) (by kernel_rfl) (by kernel_rfl) (fun _ _ _ h => h) (Or.inl ⟨by rfl, ?_⟩) KP.out ?_
          · intro wq hSw
            obtain ⟨y0, y1, y2⟩ := trc hSw
            go_simp
          (try simp only [Act.put, List.setIfInBounds_toArray, List.set_cons_zero, List.set_cons_succ])
          refine wpAnyT_take (i := 4) (oi := { dst := some 27, op := Op.move (Operand.tmp 0), type := 25, pos := "clock.go:60", after := #[], guard := none }) (v := .pointer (some ⟨b, 0, none⟩)) [5, 6, 7, 10, 11, 13] rfl (by kernel_rfl) (by kernel_rfl) (by kernel_rfl) (by kernel_rfl) (fun _ _ _ h => h) (Or.inl ⟨by rfl, ?_⟩) KP.out ?_
          · intro wq hSw
            obtain ⟨y0, y1, y2⟩ := trc hSw
            go_simp
          (try simp only [Act.put, List.setIfInBounds_toArray, List.set_cons_zero, List.set_cons_succ])
          refine wpAnyT_take (i := 5) (oi := { dst := some 28, op := Op.nilCheck (Operand.tmp 27), type := 0, pos := "clock.go:60", after := #[{ on := 4, ground := Ground.data }], guard := none }) (v := .pointer (some ⟨b, 0, none⟩)) [6, 7, 10, 11, 13] rfl (by kernel_rfl) (by kernel_rfl) (by kernel_rfl) (by kernel_rfl) (fun _ _ _ h => h) (Or.inl ⟨by rfl, ?_⟩) KP.out ?_
          · intro wq hSw
            obtain ⟨y0, y1, y2⟩ := trc hSw
            go_simp
          (try simp only [Act.put, List.setIfInBounds_toArray, List.set_cons_zero, List.set_cons_succ])
          refine wpAnyT_take (i := 6) (oi := { dst := some 29, op := Op.fieldAddr 56 (Operand.tmp 28) 0, type := 0, pos := "clock.go:60", after := #[{ on := 5, ground := Ground.data }], guard := none }) (v := .pointer (some ⟨b, 0, none⟩)) [7, 10, 11, 13] rfl (by kernel_rfl) (by kernel_rfl) (by kernel_rfl) (by kernel_rfl) (fun _ _ _ h => h) (Or.inl ⟨by rfl, ?_⟩) KP.out ?_
          · intro wq hSw
            obtain ⟨y0, y1, y2⟩ := trc hSw
            go_simp
          (try simp only [Act.put, List.setIfInBounds_toArray, List.set_cons_zero, List.set_cons_succ])
          refine wpAnyT_take (i := 7) (oi := { dst := some 30, op := Op.load 29 (Operand.tmp 29), type := 29, pos := "clock.go:60", after := #[{ on := 6, ground := Ground.data }], guard := none }) (v := .float .f64 c.now) [10, 11, 13] rfl (by kernel_rfl) (by kernel_rfl) (by kernel_rfl) (by kernel_rfl) (fun _ _ _ h => h) (Or.inl ⟨by rfl, ?_⟩) KP.out ?_
          · intro wq hSw
            obtain ⟨y0, y1, y2⟩ := trc hSw
            go_simp
          (try simp only [Act.put, List.setIfInBounds_toArray, List.set_cons_zero, List.set_cons_succ])
          refine wpAnyT_take (i := 8) (oi := { dst := some 31, op := Op.move (Operand.tmp 1), type := 29, pos := "clock.go:60", after := #[], guard := none }) (v := .float .f64 d) [9, 10, 11, 13] rfl (by kernel_rfl) (by kernel_rfl) (by kernel_rfl) (by kernel_rfl) (fun _ _ _ h => h) (Or.inl ⟨by rfl, ?_⟩) KP.out ?_
          · intro wq hSw
            obtain ⟨y0, y1, y2⟩ := trc hSw
            go_simp
          (try simp only [Act.put, List.setIfInBounds_toArray, List.set_cons_zero, List.set_cons_succ])
          refine wpAnyT_two (i := 9) (j := 12) (oi := { dst := some 32, op := Op.call { callee := Callee.value (Operand.func 28), args := #[Operand.tmp 31], argTypes := #[29] }, type := 29, pos := "clock.go:60", after := #[{ on := 8, ground := Ground.data }], guard := none }) (oj := { dst := some 6, op := Op.alloc 70, type := 0, pos := "clock.go:60", after := #[], guard := none }) (by kernel_rfl) rfl rfl (fun K hK => ?_) (fun K hK => ?_)
          · go_simp
            go_at_call 28
            refine (plus_any _ d hd).mono ?_
            rintro e w' ⟨rfl, hw⟩
            rw [hw]
            clear hw w'
            (try go_simp)
            refine hK.out _ _ (fun _ => KP.out) ?_
            clear hK K
            (try simp only [Act.put, List.setIfInBounds_toArray, List.set_cons_zero, List.set_cons_succ])
            refine wpAnyT_take (i := 10) (oi := { dst := some 33, op := Op.binOp BinOp.add 29 (Operand.tmp 30) (Operand.tmp 32) 29, type := 29, pos := "clock.go:60", after := #[{ on := 7, ground := Ground.data }, { on := 9, ground := Ground.data }], guard := none }) (v := .float .f64 T) [11, 13] rfl (by kernel_rfl) (by kernel_rfl) (by kernel_rfl) (by kernel_rfl) (fun _ _ _ h => h) (Or.inl ⟨by rfl, ?_⟩) KP.out ?_
            · intro wq hSw
              obtain ⟨y0, y1, y2⟩ := trc hSw
              go_simp
            (try simp only [Act.put, List.setIfInBounds_toArray, List.set_cons_zero, List.set_cons_succ])
            refine wpAnyT_take (i := 11) (oi := { dst := some 34, op := Op.build 70 #[(0, Operand.tmp 26), (1, Operand.tmp 33)], type := 70, pos := "clock.go:60", after := #[{ on := 3, ground := Ground.data }, { on := 10, ground := Ground.data }], guard := none }) (v := .agg #[.int .i64 c.nx, .float .f64 T]) [13] rfl (by kernel_rfl) (by kernel_rfl) (by kernel_rfl) (by kernel_rfl) (fun _ _ _ h => h) (Or.inl ⟨by rfl, ?_⟩) KP.out ?_
            · intro wq hSw
              obtain ⟨y0, y1, y2⟩ := trc hSw
              go_simp
            (try simp only [Act.put, List.setIfInBounds_toArray, List.set_cons_zero, List.set_cons_succ])
            have BK : Hid (Bx (q.alloc (.cells #[.int .i64 0, .float .f64 0] 70)) b c (.slice ao N ca)) := ((box_below q (.cells #[.int .i64 0, .float .f64 0] 70)).block b (heap_lt KP.out)).trans KP.out
            have FIN : Hid (Below w.heap.size w (q.alloc (.cells #[.int .i64 c.nx, .float .f64 T] 70)) ∧ Tw (q.alloc (.cells #[.int .i64 c.nx, .float .f64 T] 70)) w.heap.size ⟨c.nx, T⟩) := ⟨keepF KB.out (box_below q (.cells #[.int .i64 c.nx, .float .f64 T] 70)), by rw [← hgs.out]; exact heap_alloc_new q (.cells #[.int .i64 c.nx, .float .f64 T] 70)⟩
            refine wpAnyT_one (i := 12) (o := { dst := some 6, op := Op.alloc 70, type := 0, pos := "clock.go:60", after := #[], guard := none }) (by kernel_rfl) rfl (fun K hK => ?_)
            go_simp
            refine hK.out _ _ (fun _ => (BK.out : Bx _ b c (.slice ao N ca))) ?_
            clear hK K
            (try simp only [Act.put, List.setIfInBounds_toArray, List.set_cons_zero, List.set_cons_succ])
            refine wpAnyT_one (i := 13) (o := { dst := none, op := Op.store 70 (Operand.tmp 6) (Operand.tmp 34), type := 0, pos := "clock.go:60", after := #[{ on := 12, ground := Ground.data }, { on := 11, ground := Ground.data }, { on := 9, ground := Ground.chain }, { on := 0, ground := Ground.phase }, { on := 1, ground := Ground.phase }, { on := 2, ground := Ground.phase }, { on := 3, ground := Ground.phase }, { on := 4, ground := Ground.phase }, { on := 5, ground := Ground.phase }, { on := 6, ground := Ground.phase }, { on := 7, ground := Ground.phase }, { on := 8, ground := Ground.phase }, { on := 9, ground := Ground.phase }, { on := 10, ground := Ground.phase }, { on := 11, ground := Ground.phase }, { on := 12, ground := Ground.phase }], guard := none }) (by kernel_rfl) rfl (fun K hK => ?_)
            go_simp
            refine hK.out _ _ (vac (by kernel_rfl)) ?_
            clear hK K
            (try simp only [Act.put, List.setIfInBounds_toArray, List.set_cons_zero, List.set_cons_succ])
            refine wpAnyT_done (by kernel_rfl) ?_ _
            go_wp2_with fail
            go_meet
            case rel => exact ⟨by rw [← hgs.out], FIN.out⟩
          · have BK : Hid (Bx (q.alloc (.cells #[.int .i64 0, .float .f64 0] 70)) b c (.slice ao N ca)) := ((box_below q (.cells #[.int .i64 0, .float .f64 0] 70)).block b (heap_lt KP.out)).trans KP.out
            have FIN : Hid (Below w.heap.size w (q.alloc (.cells #[.int .i64 c.nx, .float .f64 T] 70)) ∧ Tw (q.alloc (.cells #[.int .i64 c.nx, .float .f64 T] 70)) w.heap.size ⟨c.nx, T⟩) := ⟨keepF KB.out (box_below q (.cells #[.int .i64 c.nx, .float .f64 T] 70)), by rw [← hgs.out]; exact heap_alloc_new q (.cells #[.int .i64 c.nx, .float .f64 T] 70)⟩
            go_simp
            refine hK.out _ _ (fun _ => (BK.out : Bx _ b c (.slice ao N ca))) ?_
            clear hK K
            (try simp only [Act.put, List.setIfInBounds_toArray, List.set_cons_zero, List.set_cons_succ])
            refine wpAnyT_one (i := 9) (o := { dst := some 32, op := Op.call { callee := Callee.value (Operand.func 28), args := #[Operand.tmp 31], argTypes := #[29] }, type := 29, pos := "clock.go:60", after := #[{ on := 8, ground := Ground.data }], guard := none }) (by kernel_rfl) rfl (fun K hK => ?_)
            go_simp
            go_at_call 28
            refine (plus_any _ d hd).mono ?_
            rintro e w' ⟨rfl, hw⟩
            rw [hw]
            clear hw w'
            (try go_simp)
            refine hK.out _ _ (fun _ => BK.out) ?_
            clear hK K
            (try simp only [Act.put, List.setIfInBounds_toArray, List.set_cons_zero, List.set_cons_succ])
            refine wpAnyT_take (i := 10) (oi := { dst := some 33, op := Op.binOp BinOp.add 29 (Operand.tmp 30) (Operand.tmp 32) 29, type := 29, pos := "clock.go:60", after := #[{ on := 7, ground := Ground.data }, { on := 9, ground := Ground.data }], guard := none }) (v := .float .f64 T) [11, 13] rfl (by kernel_rfl) (by kernel_rfl) (by kernel_rfl) (by kernel_rfl) (fun _ _ _ h => h) (Or.inl ⟨by rfl, ?_⟩) BK.out ?_
            · intro wq hSw
              obtain ⟨y0, y1, y2⟩ := trc hSw
              go_simp
            (try simp only [Act.put, List.setIfInBounds_toArray, List.set_cons_zero, List.set_cons_succ])
            refine wpAnyT_take (i := 11) (oi := { dst := some 34, op := Op.build 70 #[(0, Operand.tmp 26), (1, Operand.tmp 33)], type := 70, pos := "clock.go:60", after := #[{ on := 3, ground := Ground.data }, { on := 10, ground := Ground.data }], guard := none }) (v := .agg #[.int .i64 c.nx, .float .f64 T]) [13] rfl (by kernel_rfl) (by kernel_rfl) (by kernel_rfl) (by kernel_rfl) (fun _ _ _ h => h) (Or.inl ⟨by rfl, ?_⟩) BK.out ?_
            · intro wq hSw
              obtain ⟨y0, y1, y2⟩ := trc hSw
              go_simp
            (try simp only [Act.put, List.setIfInBounds_toArray, List.set_cons_zero, List.set_cons_succ])
            refine wpAnyT_one (i := 13) (o := { dst := none, op := Op.store 70 (Operand.tmp 6) (Operand.tmp 34), type := 0, pos := "clock.go:60", after := #[{ on := 12, ground := Ground.data }, { on := 11, ground := Ground.data }, { on := 9, ground := Ground.chain }, { on := 0, ground := Ground.phase }, { on := 1, ground := Ground.phase }, { on := 2, ground := Ground.phase }, { on := 3, ground := Ground.phase }, { on := 4, ground := Ground.phase }, { on := 5, ground := Ground.phase }, { on := 6, ground := Ground.phase }, { on := 7, ground := Ground.phase }, { on := 8, ground := Ground.phase }, { on := 9, ground := Ground.phase }, { on := 10, ground := Ground.phase }, { on := 11, ground := Ground.phase }, { on := 12, ground := Ground.phase }], guard := none }) (by kernel_rfl) rfl (fun K hK => ?_)
            go_simp
            refine hK.out _ _ (vac (by kernel_rfl)) ?_
            clear hK K
            (try simp only [Act.put, List.setIfInBounds_toArray, List.set_cons_zero, List.set_cons_succ])
            refine wpAnyT_done (by kernel_rfl) ?_ _
            go_wp2_with fail
            go_meet
            case rel => exact ⟨by rw [← hgs.out], FIN.out⟩
        case rest =>
          obtain ⟨rfl, hcu⟩ := hcut
          clear c0 c1 c2 f0 f1 f2 hM hP hA sf
          have H2 : Hid (Ck wc b c (.slice ao N ca) l S) := H.out.below hcu.out.1
          have hU := hide (fun wq (hq : Ck wq b c (.slice ao N ca) l S) => hpush_any wq b c (.slice ao N ca) l ⟨c.nx, T⟩ hq.at_ hq.hp (hq.tt.perm hq.perm).bt (by have := hTle.out; show T < _; omega) (by have := hl3.out; omega))
          have hvg : Hid (¬ Own b (.slice ao N ca) w.heap.size) := fun q => by have := H.out.at_.lt _ q; omega
          refine (‹∀ (a : Act) (w : World), Code.wp Try.prog _ _ a w → _›) _ _ ?_
          go_upto_region 6 with fail
          have KP : Hid (Bx wc.drew b c (.slice ao N ca) ∧ Tw wc.drew w.heap.size ⟨c.nx, T⟩) := ⟨H2.out.at_.box, hcu.out.2⟩
          have KQ : Hid (Ck wc.drew b c (.slice ao N ca) l S) := H2.out.below (Below.refl _ _).drew
          have KB : Hid (Below w.heap.size w wc.drew) := hcu.out.1.drew
          obtain ⟨g4, hg4⟩ : ∃ g4, Hid (w.heap.size = g4) := ⟨_, rfl⟩
          rw [hg4.out] at KP hvg ⊢
          refine wp_region_T (fun q => Bx q b c (.slice ao N ca) ∧ Tw q g4 ⟨c.nx, T⟩) 6 (by kernel_rfl) ?_
          clear H2 hcu
          generalize wc.drew = q at *
          refine wpAnyT_take (i := 0) (oi := { dst := some 35, op := Op.move (Operand.tmp 0), type := 25, pos := "clock.go:61", after := #[], guard := none }) (v := .pointer (some ⟨b, 0, none⟩)) [1, 2, 3, 6] rfl (by kernel_rfl) (by kernel_rfl) (by kernel_rfl) (by kernel_rfl) (fun _ _ _ h => h) (Or.inl ⟨by rfl, ?_⟩) KP.out ?_
          · intro wq hSw
            obtain ⟨y0, y1, y2⟩ := trc hSw.1
            obtain ⟨y3, y4⟩ := prc hSw.2
            go_simp
          (try simp only [Act.put, List.setIfInBounds_toArray, List.set_cons_zero, List.set_cons_succ])
          refine wpAnyT_take (i := 1) (oi := { dst := some 36, op := Op.nilCheck (Operand.tmp 35), type := 0, pos := "clock.go:61", after := #[{ on := 0, ground := Ground.data }], guard := none }) (v := .pointer (some ⟨b, 0, none⟩)) [2, 3, 6] rfl (by kernel_rfl) (by kernel_rfl) (by kernel_rfl) (by kernel_rfl) (fun _ _ _ h => h) (Or.inl ⟨by rfl, ?_⟩) KP.out ?_
          · intro wq hSw
            obtain ⟨y0, y1, y2⟩ := trc hSw.1
            obtain ⟨y3, y4⟩ := prc hSw.2
            go_simp
          (try simp only [Act.put, List.setIfInBounds_toArray, List.set_cons_zero, List.set_cons_succ])
          refine wpAnyT_take (i := 2) (oi := { dst := some 37, op := Op.fieldAddr 56 (Operand.tmp 36) 2, type := 0, pos := "clock.go:61", after := #[{ on := 1, ground := Ground.data }], guard := none }) (v := .pointer (some ⟨b, 2, none⟩)) [3, 6] rfl (by kernel_rfl) (by kernel_rfl) (by kernel_rfl) (by kernel_rfl) (fun _ _ _ h => h) (Or.inl ⟨by rfl, ?_⟩) KP.out ?_
          · intro wq hSw
            obtain ⟨y0, y1, y2⟩ := trc hSw.1
            obtain ⟨y3, y4⟩ := prc hSw.2
            go_simp
          (try simp only [Act.put, List.setIfInBounds_toArray, List.set_cons_zero, List.set_cons_succ])
          refine wpAnyT_take (i := 3) (oi := { dst := some 38, op := Op.makeInterface 72 (Operand.tmp 37), type := 84, pos := "clock.go:61", after := #[{ on := 2, ground := Ground.data }], guard := none }) (v := .iface 72 (.pointer (some ⟨b, 2, none⟩))) [6] rfl (by kernel_rfl) (by kernel_rfl) (by kernel_rfl) (by kernel_rfl) (fun _ _ _ h => h) (Or.inl ⟨by rfl, ?_⟩) KP.out ?_
          · intro wq hSw
            obtain ⟨y0, y1, y2⟩ := trc hSw.1
            obtain ⟨y3, y4⟩ := prc hSw.2
            go_simp
          (try simp only [Act.put, List.setIfInBounds_toArray, List.set_cons_zero, List.set_cons_succ])
          refine wpAnyT_take (i := 4) (oi := { dst := some 39, op := Op.load 70 (Operand.tmp 6), type := 70, pos := "clock.go:61", after := #[], guard := none }) (v := .agg #[.int .i64 c.nx, .float .f64 T]) [5, 6] rfl (by kernel_rfl) (by kernel_rfl) (by kernel_rfl) (by kernel_rfl) (fun _ _ _ h => h) (Or.inl ⟨by rfl, ?_⟩) KP.out ?_
          · intro wq hSw
            obtain ⟨y0, y1, y2⟩ := trc hSw.1
            obtain ⟨y3, y4⟩ := prc hSw.2
            go_simp
          (try simp only [Act.put, List.setIfInBounds_toArray, List.set_cons_zero, List.set_cons_succ])
          refine wpAnyT_take (i := 5) (oi := { dst := some 40, op := Op.makeInterface 70 (Operand.tmp 39), type := 20, pos := "clock.go:61", after := #[{ on := 4, ground := Ground.data }], guard := none }) (v := .iface 70 (.agg #[.int .i64 c.nx, .float .f64 T])) [6] rfl (by kernel_rfl) (by kernel_rfl) (by kernel_rfl) (by kernel_rfl) (fun _ _ _ h => h) (Or.inl ⟨by rfl, ?_⟩) KP.out ?_
          · intro wq hSw
            obtain ⟨y0, y1, y2⟩ := trc hSw.1
            obtain ⟨y3, y4⟩ := prc hSw.2
            go_simp
          (try simp only [Act.put, List.setIfInBounds_toArray, List.set_cons_zero, List.set_cons_succ])
          refine wpAnyT_one (i := 6) (o := { dst := some 41, op := Op.call { callee := Callee.value (Operand.func 31), args := #[Operand.tmp 38, Operand.tmp 40], argTypes := #[84, 20] }, type := 0, pos := "clock.go:61", after := #[{ on := 3, ground := Ground.data }, { on := 5, ground := Ground.data }], guard := none }) (by kernel_rfl) rfl (fun K hK => ?_)
          go_simp
          go_at_call 31
          refine (hU.out q KQ.out).mono ?_
          rintro e w3 ⟨rfl, v3, l3, A3, P3, Q3, S3⟩
          (try go_simp)
          refine hK.out _ _ (vac (by kernel_rfl)) ?_
          clear hK K
          (try simp only [Act.put, List.setIfInBounds_toArray, List.set_cons_zero, List.set_cons_succ])
          refine wpAnyT_done (by kernel_rfl) ?_ _
          have T3 := (S3.1.block g4 (heap_lt KP.out.2) hvg.out).trans KP.out.2
          obtain ⟨c0, c1, c2⟩ := A3.cells
          obtain ⟨f0, f1, f2⟩ := A3.frozen
          have A4 := A3.setNx (c.nx + 1)
          have bg : ¬ (b = g4) := fun q => hvg.out (.inl q.symm)
          have y3 : w3.cell? ⟨g4, 0, none⟩ = some (.int .i64 c.nx) := by rw [cell_of T3]; rfl
          have FIN : Hid (Ck (w3.setCell ⟨b, 1, none⟩ (.int .i64 (c.nx + 1))) b ⟨c.now, c.nx + 1⟩ v3 l3 (ins ⟨c.nx, T⟩ S) ∧ Stp b (.slice ao N ca) v3 w (w3.setCell ⟨b, 1, none⟩ (.int .i64 (c.nx + 1)))) := ⟨KQ.out.after hnb'.out (by have := hs'.out; omega) hTle.out A4 P3 Q3, ((Stp.below KB.out).trans S3).trans ⟨but_set _ _ _ _ _, fun j hj => .inl hj⟩⟩
          have y5 : (w3.setCell ⟨b, 1, none⟩ (.int .i64 (c.nx + 1))).cell? ⟨g4, 0, none⟩ = some (.int .i64 c.nx) := by rw [World.cell?_setCell_far _ _ _ _ (by simpa using bg)]; exact y3
          clear A3 P3 Q3 S3 A4 T3 KP KQ
          go_wp2_with fail
          go_ret2
          first | exact ⟨rfl, v3, l3, FIN.out⟩ | exact ⟨rfl, v3, ⟨l3, FIN.out.1⟩, FIN.out.2⟩
end Go.Proofs.Ytjplkffghfikgaa.Ck

/-
  slices.Values of the timers: its iterator's contract.
-/
namespace Go.Proofs.Ytjplkffghfikgaa.Ck
open Go.RowKit Go.Shelf Rl
set_option maxRecDepth 100000
set_option linter.unusedVariables false
attribute [local go_sem] Oper.semAt_some
theorem values_any (w : World) (v : Value) (hv : ∃ ao n ca, v = .slice ao n ca) :
    Calls Try.prog 41 #[v] w fun e w' =>
      e = .returned (.func (.func 50) #[] #[.pointer (some ⟨w.heap.size, 0, none⟩)]) ∧ w' = w.alloc (.cells #[v] 54) := by
  have hmf : ∀ (fn : Fn) (first cap : Array Value) (w : World), (Instr.makeFunc fn first cap).run Try.prog w = .ok (.func fn first cap) w := fun _ _ _ _ => rfl
  obtain ⟨ao, n, ca, rfl⟩ := hv
  go_enter Try.func41, Try.ntmps41
  go_wp2_with fail
  go_ret
  exact ⟨rfl, rfl⟩
/-- How what is handed over lies: a timer. -/
def RepT (t : Tm) (args : Array Value) (W : World) (D : Nat → Prop) : Prop := args = #[.agg #[.int .i64 t.id, .float .f64 t.b]] ∧ ∀ k, ¬ D k
def RdT (vb : Nat) (v : Value) : Nat → Prop := fun k => k = vb ∨ v.ownBlock = some k
theorem Tms.keep {w w' : World} {v : Value} {l : List Tm} (h : Tms w v l) (hk : ∀ k, v.ownBlock = some k → w'.heap[k]? = w.heap[k]?) : Tms w' v l := by
  refine ⟨h.1, ?_⟩
  rcases h.2 with h | ⟨g, cap, cur, rfl, hg, hh, r⟩
  · exact .inl h
  · exact .inr ⟨g, cap, cur, rfl, hg, (hk g rfl).trans hh, r⟩
theorem take_at {l : List Tm} {k : Nat} (h : k < l.length) : l = l.take k ++ g l k :: l.drop (k + 1) := by
  rw [g_get h]
  conv => lhs; rw [← List.take_append_drop k l, List.drop_eq_getElem_cons h]
theorem take_one {l : List Tm} {k : Nat} (h : k < l.length) : l.take k ++ [g l k] = l.take (k + 1) := by
  rw [g_get h, List.take_succ_eq_append_getElem h]
def VLoop (J : List Tm → (Nat → Prop) → World → Prop) (l : List Tm) (W : World) (Rd : Nat → Prop) (k : Nat) (wr : World) : Prop :=
  ∃ C1, J (l.take k) C1 wr ∧ (∀ j, Rd j → ¬ C1 j ∧ wr.heap[j]? = W.heap[j]?) ∧ (∀ j, C1 j → j < wr.heap.size) ∧ W.heap.size ≤ wr.heap.size
set_option maxHeartbeats 2000000 in
theorem values_seq (w : World) (vb : Nat) (v : Value) (l : List Tm) (h1 : w.heap[vb]? = some (.cells #[v] 54 (0, 0))) (hv : Tms w v l) :
    Seq Try.prog 50 #[.pointer (some ⟨vb, 0, none⟩)] l RepT (RdT vb v) w := by
  intro y J Jx C W hsz hRd hC hJ hJx hY h0
  refine callsIn_wide.2 ?_
  have sf : ∀ (W : World) (a : Addr) (x : Nat), (store a (.float .f64 x)).run Try.prog W = stored Try.prog W a (.float .f64 x) .plain := fun W a x => run_store _ W a _ _ rfl
  have c1 : W.cell? ⟨vb, 0, none⟩ = some v := by rw [World.cell?_of_block (hRd vb (.inl rfl))]; simp [World.cell?, h1]
  have HV : Tms W v l := hv.keep fun k hk => hRd k (.inr hk)
  obtain ⟨ao, ca, rfl, q1, q2⟩ := HV.form
  obtain ⟨N, hN⟩ : ∃ N, Hid (l.length = N) := ⟨_, rfl⟩
  rw [hN.out] at HV c1 q2 hRd hC
  have vlt : ∀ k, RdT vb (.slice ao N ca) k → k < W.heap.size := by
    rintro k (rfl | hk)
    · exact lt_of_cell c1
    · exact HV.lt k hk
  have H0 : Hid (VLoop J l W (RdT vb (.slice ao N ca)) 0 W) := ⟨C, h0, fun j hj => ⟨fun c => (hC j c).1 hj, rfl⟩, fun j hj => (hC j hj).2, Nat.le_refl _⟩
  replace HV := hide HV
  replace hC := hide hC
  replace hJ := hide hJ
  replace hJx := hide hJx
  replace hY := hide hY
  replace vlt := hide vlt
  clear h1 hv hRd hsz
  go_enter Try.func50, Try.ntmps50
  go_wp2_with fail
  go_loopw [7] (fun iv wr => ∃ k : Nat, iv = .int .i64 k ∧ k ≤ N ∧ Hid (VLoop J l W (RdT vb (.slice ao N ca)) k wr)) (fun iv _ => N - (intOf iv).toNat)
  case atStart => exact ⟨0, rfl, Nat.zero_le _, H0.out⟩
  case round =>
    obtain ⟨k, rfl, hk, hQ⟩ := hrel
    by_cases hlt : k < N
    · have i1 : (k : Int) < (N : Int) := by omega
      have i0 : (0 : Int) ≤ (k : Int) := by omega
      have hkl : Hid (k < l.length) := by rw [hN.out]; exact hlt
      obtain ⟨C1, hj, hrd, hcl, hsz⟩ := hQ.out
      obtain ⟨tb, ca', cs, e, _⟩ := HV.out.at (fun e => by have := hkl.out; rw [e] at this; simp at this)
      simp at e
      obtain ⟨rfl, eN, rfl⟩ := e
      clear eN
      have H2 : Tms wr (.slice (some ⟨tb, 0, none⟩) N ca) l := HV.out.keep fun j hj' => (hrd j (.inr hj')).2
      obtain ⟨d0, d1⟩ := H2.read k hkl.out
      obtain ⟨t, ht⟩ : ∃ t, Hid (g l k = t) := ⟨_, rfl⟩
      rw [ht.out] at d0 d1
      replace hj := hide hj
      replace hrd := hide hrd
      replace hcl := hide hcl
      replace hsz := hide hsz
      have B1 := hide (But.alloc wr (.cells #[.int .i64 t.id, .float .f64 t.b] 70) (fun j => W.heap.size ≤ j ∧ ¬ C1 j))
      have N1 := hide (heap_alloc_new wr (.cells #[.int .i64 t.id, .float .f64 t.b] 70))
      have B2 := hide (box_below wr (.cells #[.int .i64 t.id, .float .f64 t.b] 70))
      clear H2 hQ
      go_upto_region 3 with fail
      obtain ⟨t0, t1⟩ := prc N1.out
      obtain ⟨p, hp⟩ : ∃ p, Hid (wr.alloc (.cells #[.int .i64 t.id, .float .f64 t.b] 70) = p) := ⟨_, rfl⟩
      rw [hp.out] at t0 t1 B1 B2 N1 ⊢
      obtain ⟨ub, hub⟩ : ∃ ub, Hid (wr.heap.size = ub) := ⟨_, rfl⟩
      rw [hub.out] at t0 t1 ⊢
      have J1 := hJ.out _ _ _ _ hj.out B1.out
      have szp : wr.heap.size ≤ p.heap.size := B2.out.size
      obtain ⟨fn, tmps, assign, body, hy, hRn⟩ := hY.out (l.take k) t (l.drop (k + 1)) C1 (fun _ => False) #[.agg #[.int .i64 t.id, .float .f64 t.b]] p (by rw [← ht.out]; exact take_at hkl.out) J1 ⟨rfl, fun _ c => c⟩ (by have := hsz.out; omega) (fun j c => c.elim)
      replace hRn := hide hRn
      refine (wpIn_wide (n := 0)).1 ?_
      gi_wp2
      clear hy t0 t1 d0 d1
      refine ⟨rfl, hRn.out.mono ?_⟩
      clear hRn
      rintro e W3 (⟨rfl, C2, hJ2, hB2, hC2⟩ | ⟨rfl, C2, hJx2, -, -⟩)
      · have H3 : Hid (VLoop J l W (RdT vb (.slice (some ⟨tb, 0, none⟩) N ca)) (k + 1) W3) := by
          refine ⟨C2, ?_, fun j hj' => ?_, fun j hj' => (hC2 j hj').2, ?_⟩
          · have := hJ2
            rwa [← ht.out, take_one hkl.out] at this
          · have hjl := vlt.out j hj'
            have hw := hsz.out
            obtain ⟨r1, r2⟩ := hrd.out j hj'
            refine ⟨fun c => ?_, ?_⟩
            · rcases (hC2 j c).1 with c | c | c
              · exact r1 c
              · exact c
              · omega
            · rw [hB2.block j (by omega) r1, B2.out.block j (by omega)]
              exact r2
          · have := hsz.out; have := hB2.size; omega
        clear hJ2 hB2 hC2 J1
        gi_wp2
        go_wp2_with fail
        go_roundw
        case rel => exact ⟨k + 1, by go_num, by omega, H3.out⟩
        case measure => simp [intOf]; omega
      · gi_wp2
        go_wp2_with fail
        go_returns
        refine ⟨⟨_, rfl⟩, .inr ⟨_, C2, ?_, hJx2⟩⟩
        rw [← ht.out, take_one hkl.out]
        exact List.take_prefix _ _
    · obtain rfl : k = N := by omega
      obtain ⟨C1, hj, _⟩ := hQ.out
      rw [List.take_of_length_le (by rw [hN.out]; exact Nat.le_refl _)] at hj
      replace hj := hide hj
      go_wp2_with fail
      go_end0
      exact ⟨⟨_, rfl⟩, .inl ⟨C1, hj.out⟩⟩
end Go.Proofs.Ytjplkffghfikgaa.Ck

/-
  slices.AppendSeq, slices.Collect of the timers.
-/
namespace Go.Proofs.Ytjplkffghfikgaa.Ck
open Go.RowKit Go.Shelf Rl
set_option maxRecDepth 100000
set_option linter.unusedVariables false
attribute [local go_sem] Oper.semAt_some
theorem calls_marks {P : Program} {f : FuncId} {fn : Func} {c : Code} {args : Array Value} {w : World} {R : Ending → World → Prop} (hf : P.funcs[f]? = some fn) (hb : fn.body = some c)
    (h : c.wp P (bodyPostM Fence.wide 0 P fn R) { tmps := args ++ Array.replicate (fn.ntmps - args.size) undef, defers := [] } w) : Calls P f args w R :=
  callsIn_wide.1 (callsIn_of_wp_marks (n := 0) hf hb trivial ((wpIn_wide (n := 0)).2 h) rfl)
/-- Timers as a list v of memory from block B on. -/
def TmB (B : Nat) (w : World) (v : Value) (l : List Tm) : Prop := w.ownsRow B 70 2 v l.length (tcells l)
/-- What has been collected: the variable's block sb holds the list vf. -/
structure Col (w0 : World) (sb : Nat) (W : World) (C : Nat → Prop) (pre : List Tm) (vf : Value) : Prop where
  box : W.heap[sb]? = some (.cells #[vf] 39 (0, 0))
  row : TmB w0.heap.size W vf pre
  own : ∀ k, C k ↔ k = sb ∨ vf.ownBlock = some k
  below : Below w0.heap.size w0 W
theorem rows_but {X : Nat → Prop} {A B : World} {base e size n : Nat} {v : Value} {xs : List Value} (h : A.ownsRow base e size v n xs) (hb : But X A B) (hx : ∀ k, v.ownBlock = some k → ¬ X k) : B.ownsRow base e size v n xs := by
  refine ⟨h.1, ?_⟩
  rcases h.2 with h | ⟨g, cap, cur, rfl, hg, hh, r⟩
  · exact .inl h
  · exact .inr ⟨g, cap, cur, rfl, hg, hb.at hh (hx g rfl), r⟩
theorem rows_no {w : World} {b base e size n : Nat} {v : Value} {xs : List Value} {cs : Array Value} {T : TypeId} {fz : Nat × Nat} (h : w.ownsRow base e size v n xs) (hb : w.heap[b]? = some (.cells cs T fz)) (hT : T ≠ e) : v.ownBlock ≠ some b := fun e1 => by
  rcases h.2 with ⟨rfl, _⟩ | ⟨g, cap, cur, rfl, hg, hh, r⟩
  · simp [Value.ownBlock] at e1
  · simp [Value.ownBlock] at e1
    subst e1
    rw [hb] at hh
    simp at hh
    exact hT hh.2.1
theorem rows_form {w : World} {base e size n : Nat} {v : Value} {xs : List Value} (h : w.ownsRow base e size v n xs) : ∃ ao ca, v = .slice ao n ca := by
  rcases h.2 with ⟨rfl, rfl⟩ | ⟨g, cap, cur, rfl, _⟩
  · exact ⟨_, _, rfl⟩
  · exact ⟨_, _, rfl⟩
theorem Col.lt {w0 : World} {sb : Nat} {W : World} {C : Nat → Prop} {pre : List Tm} {vf : Value} (h : Col w0 sb W C pre vf) : ∀ k, C k → k < W.heap.size := by
  intro k hk
  rcases (h.own k).1 hk with rfl | hk
  · exact heap_lt h.box
  · exact (h.row.lt k hk).2
theorem Col.but {w0 : World} {sb : Nat} {W W' : World} {C : Nat → Prop} {pre : List Tm} {vf : Value} {X : Nat → Prop} (h : Col w0 sb W C pre vf) (hb : But X W W') (hX : ∀ k, X k → w0.heap.size ≤ k ∧ ¬ C k) : Col w0 sb W' C pre vf where
  box := hb.at h.box fun hx => (hX _ hx).2 ((h.own _).2 (.inl rfl))
  row := rows_but h.row hb fun k hk hx => (hX _ hx).2 ((h.own _).2 (.inr hk))
  own := h.own
  below := h.below.trans (hb.below h.below.size fun k hx => (hX k hx).1)
/-- One more. -/
theorem Col.more {w0 : World} {sb : Nat} {W w1 : World} {C : Nat → Prop} {pre : List Tm} {vf vf' : Value} {x : Tm} {o : Obj} (h : Col w0 sb W C pre vf) (hsb : w0.heap.size ≤ sb)
    (hg : (W.alloc o).grownBy w1 vf.ownBlock) (hrow : w1.ownsRow w0.heap.size 70 2 vf' (pre.length + 1) (tcells pre ++ [.int .i64 x.id, .float .f64 x.b])) (hat : vf'.ownBlock = vf.ownBlock ∨ vf'.ownBlock = some (W.alloc o).heap.size) :
    Col w0 sb (w1.setCell ⟨sb, 0, none⟩ vf') (fun k => k = sb ∨ vf'.ownBlock = some k) (pre ++ [x]) vf' ∧ w1.heap[sb]? = some (.cells #[vf] 39 (0, 0)) ∧ But C W (w1.setCell ⟨sb, 0, none⟩ vf') ∧ (∀ k, (k = sb ∨ vf'.ownBlock = some k) → C k ∨ W.heap.size ≤ k) := by
  have hbx : w1.heap[sb]? = some (.cells #[vf] 39 (0, 0)) := by
    rw [hg.block sb (by have := heap_lt h.box; simp; omega) (fun e => rows_no h.row h.box (by decide) e.symm), Below.heap_alloc _ _ _ (heap_lt h.box)]
    exact h.box
  have b0 : But (fun k => vf.ownBlock = some k) W w1 := ((But.alloc W o _).trans (But.of_grownBy hg fun k e => e))
  have b1 : But (fun k => k = sb) w1 (w1.setCell ⟨sb, 0, none⟩ vf') := But.of_grownBy (grown_setCell _ _ _ _) fun k e => by cases e; rfl
  refine ⟨⟨?_, ?_, fun k => Iff.rfl, ?_⟩, hbx, ?_, ?_⟩
  · exact Boxed.set vf' hbx
  · unfold TmB
    rw [tcells_snoc, List.length_append]
    exact rows_but hrow b1 (fun k hk e => rows_no hrow hbx (by decide) (by rw [← e]; exact hk))
  · refine (h.below.trans (b0.below h.below.size fun k hk => (h.row.lt k hk).1)).trans (b1.below ?_ fun k e => by rw [e]; exact hsb)
    exact Nat.le_trans h.below.size b0.size
  · exact (b0.mono fun k _ hk => (h.own k).2 (.inr hk)).trans (b1.mono fun k _ e => (h.own k).2 (.inl e))
  · rintro k (rfl | hk)
    · exact .inl ((h.own _).2 (.inl rfl))
    · rcases hat with e | e
      · exact .inl ((h.own _).2 (.inr (by rw [← e]; exact hk)))
      · rw [e] at hk
        simp at hk
        exact .inr (by omega)
theorem two_new (w : World) (a b : Value) (T : TypeId) : ∀ (j : Nat) (u : Value), [a, b][j]? = some u → (w.alloc (.cells #[a, b] T)).cell? ((⟨w.heap.size, 0, none⟩ : Addr).add j) = some u := by
  intro j u h
  rw [addr_add]
  match j with
  | 0 => simp at h; subst h; unfold World.cell?; rw [show (w.alloc (.cells #[a, b] T)).heap[(⟨w.heap.size, 0 + 0, none⟩ : Addr).block]? = _ from heap_alloc_new _ _]; rfl
  | 1 => simp at h; subst h; unfold World.cell?; rw [show (w.alloc (.cells #[a, b] T)).heap[(⟨w.heap.size, 0 + 1, none⟩ : Addr).block]? = _ from heap_alloc_new _ _]; rfl
  | j + 2 => simp at h
set_option maxHeartbeats 2000000 in
theorem appendSeq_any (w : World) (vb : Nat) (v : Value) (l : List Tm) (h1 : w.heap[vb]? = some (.cells #[v] 54 (0, 0))) (hv : Tms w v l) (hlen : l.length ≤ 1000000) :
    Calls Try.prog 55 #[.slice none 0 0, .func (.func 50) #[] #[.pointer (some ⟨vb, 0, none⟩)]] w fun e w' => ∃ vf, e = .returned vf ∧ TmB w.heap.size w' vf l ∧ Below w.heap.size w w' := by
  have sf : ∀ (W : World) (a : Addr) (x : Nat), (store a (.float .f64 x)).run Try.prog W = stored Try.prog W a (.float .f64 x) .plain := fun W a x => run_store _ W a _ _ rfl
  have hvb := heap_lt h1
  have H1 := hide h1
  have HV := hide hv
  clear h1 hv
  refine calls_marks Try.func55 rfl ?_
  simp only [Try.ntmps55, List.size_toArray, List.length_cons, List.length_nil, Nat.reduceAdd, Nat.reduceSub, Array.replicate_succ, Array.replicate_zero, List.push_toArray, List.append_toArray, List.nil_append, List.cons_append]
  go_wp2_with fail
  obtain ⟨W0, hW0⟩ : ∃ W0, w.alloc (.cells #[.slice none 0 0] 39) = W0 := ⟨_, rfl⟩
  have aB : Below w.heap.size w W0 := by rw [← hW0]; exact box_below _ _
  have hs : W0.heap.size = w.heap.size + 1 := by rw [← hW0]; simp
  have a0 : W0.heap[w.heap.size]? = some (.cells #[.slice none 0 0] 39 (0, 0)) := by rw [← hW0]; exact heap_alloc_new _ _
  rw [hW0]
  have rlt : ∀ k, RdT vb v k → k < w.heap.size := by
    rintro k (rfl | hk)
    · exact hvb
    · exact HV.out.lt k hk
  refine wp_range (gf := 50) rfl (enters_of Try.func50 (by kernel_rfl) rfl) (values_seq W0 vb v l ((aB.block _ hvb).trans H1.out) (HV.out.below aB)) (Nat.le_refl _) (fun k hk => ⟨rfl, by have := rlt k hk; omega⟩)
    (fun x args W D h => by obtain ⟨rfl, _⟩ := h; rfl)
    (fun pre C W => ∃ vf, Col w w.heap.size W C pre vf) (fun c pre C W => False) ?hI ?hIx (fun k => k = w.heap.size) (fun k hk => ⟨fun h => by have := rlt k h; omega, by omega⟩)
    ⟨.slice none 0 0, ⟨a0, World.ownsRow_nil _ _ _ _, fun k => by simp [Value.ownBlock], aB⟩⟩ ?round ?done ?stop
  case hI =>
    rintro pre C A B ⟨vf, i3⟩ hb
    exact ⟨vf, i3.but hb fun k hk => ⟨by omega, hk.2⟩⟩
  case hIx =>
    rintro c pre C A B h hb
    exact h
  case stop =>
    rintro c pre C2 W hp h
    exact h.elim
  case round =>
    rintro m pre x rest C1 D args W1 hxs ⟨vf, i3⟩ ⟨rfl, hDk⟩ hlt hD hl hlW nl nD
    have hpx : pre.length < l.length := by rw [hxs]; simp
    replace i3 := hide i3
    simp only [List.zip_toArray, List.zip_cons_cons, List.zip_nil_right, List.foldl_toArray, List.foldl_cons, List.foldl_nil]
    gi_wp2
    refine ⟨But.alloc _ _ _, ?_⟩
    intro Wb hWb hsb
    have sb : Wb.heap.size = W1.heap.size + 1 := by rw [hsb]; simp
    have n1 := hide (hWb.at (heap_alloc_new _ _) (by omega))
    have bW : Hid (But (fun k => k = m) W1 Wb) := (But.alloc _ _ _).trans hWb
    have n3 := hide (i3.out.but bW.out fun k e => ⟨by omega, by rw [e]; exact nl⟩)
    clear hWb hsb i3 a0
    obtain ⟨i0, hi, hz0, hz1, hz2⟩ := info_parts infoTm
    obtain ⟨k0, k1⟩ := prc n1.out
    have k2 : Wb.cell? ⟨w.heap.size, 0, none⟩ = some vf := by simp [World.cell?, n3.out.box]
    obtain ⟨gv, cv, rfl⟩ := rows_form n3.out.row
    obtain ⟨N, hN⟩ : ∃ N, Hid (pre.length = N) := ⟨_, rfl⟩
    have AL : Hid (∀ (o : Obj) (w1 : World) (vf' : Value), (Wb.alloc o).grownBy w1 (Value.slice gv N cv).ownBlock → w1.ownsRow w.heap.size 70 2 vf' (N + 1) (tcells pre ++ [.int .i64 x.id, .float .f64 x.b]) → (vf'.ownBlock = (Value.slice gv N cv).ownBlock ∨ vf'.ownBlock = some (Wb.alloc o).heap.size) →
        Col w w.heap.size (w1.setCell ⟨w.heap.size, 0, none⟩ vf') (fun k => k = w.heap.size ∨ vf'.ownBlock = some k) (pre ++ [x]) vf' ∧ w1.heap[w.heap.size]? = some (.cells #[.slice gv N cv] 39 (0, 0)) ∧ But C1 Wb (w1.setCell ⟨w.heap.size, 0, none⟩ vf') ∧ (∀ k, (k = w.heap.size ∨ vf'.ownBlock = some k) → C1 k ∨ Wb.heap.size ≤ k)) := by
      rw [← hN.out]
      exact fun o w1 vf' h1 h2 h3 => n3.out.more (Nat.le_refl _) h1 h2 h3
    have ROW : Hid (Wb.ownsRow w.heap.size 70 2 (.slice gv N cv) N (tcells pre)) := by have := n3.out.row; unfold TmB at this; rw [hN.out] at this; exact this
    rw [hN.out] at k2 hpx
    have hbw : w.heap.size ≤ Wb.heap.size := by omega
    clear n3 n1 bW
    replace sb := hide sb
    replace hxs := hide hxs
    gi_wp2_with (gi_at_builtin; refine wpListIn_append_own_at _ rfl _ _ 39 rfl w.heap.size 70 i0 (.agg #[.int .i64 0, .float .f64 0]) 2 16 Try.underlying39 hi hz0 hz1 hz2 rfl (by decide) _ N (tcells pre) rfl (ROW.out.alloc _) ⟨Wb.heap.size, 0, none⟩ 1 1 [.int .i64 x.id, .float .f64 x.b] rfl rfl (two_new _ _ _ _) (by simp [Value.oneCell']) (by unfold maxLen; omega) (by omega) (by simp; omega) ?_; intro vf' w1 hown' hgrow _ hat; obtain ⟨g', cap', rfl⟩ := ownsRow_succ hown'; obtain ⟨F1, F2, F3, F4⟩ := AL.out _ _ _ hgrow hown' hat; have hc1 := Boxed.cell F2; have hf1 := Boxed.frozen F2; replace F1 := hide F1; replace F2 := hide F2; replace F3 := hide F3; replace F4 := hide F4)
    refine ⟨_, ⟨_, F1.out⟩, F3.out, fun k hk => ⟨?_, F1.out.lt k hk⟩⟩
    rcases F4.out k hk with h | h
    · exact .inl h
    · have := sb.out; exact .inr (.inr (by omega))
  case done =>
    rintro C2 W ⟨vf, i3⟩ hK nD
    have c0 := Boxed.cell i3.box
    obtain ⟨gv, cv, rfl⟩ := rows_form i3.row
    replace i3 := hide i3
    replace hK := hide hK
    have hsz : w.heap.size ≤ W0.heap.size := by omega
    clear a0 hW0 hs
    dsimp only
    go_wp2_with fail
    refine ⟨by simp, .inl ⟨_, _, rfl, run_takeDeferred hK.out, ?_⟩⟩
    have i4 := fun o => i3.out.but (But.putObj (X := fun k => k = W0.heap.size) W W0.heap.size o rfl) (fun k e => ⟨by rw [e]; exact hsz, by rw [e]; exact nD⟩)
    exact ⟨_, results_tmp rfl _ _ _, _, rfl, (i4 _).row, (i4 _).below⟩
end Go.Proofs.Ytjplkffghfikgaa.Ck

/-
  What slices.SortFunc leaves of a list of timers.
-/
namespace Go.Proofs.Ytjplkffghfikgaa.Ck
open Go.RowKit Go.Shelf Rl Go.Sort
set_option linter.unusedVariables false
def to6 (l : List Tm) (h : Bt l) : Array T6 := (l.attach.map fun t => (⟨t.1, h t.1 t.2⟩ : T6)).toArray
theorem to6_val (l : List Tm) (h : Bt l) : (to6 l h).toList.map (·.1) = l := by
  show (l.attach.map fun t => (⟨t.1, h t.1 t.2⟩ : T6)).map (·.1) = l
  rw [List.map_map]
  exact List.attach_map_subtype_val l
theorem to6_size (l : List Tm) (h : Bt l) : (to6 l h).size = l.length := by simp [to6]
theorem val_g (d : Array T6) (i : Nat) (h : i < d.size) : g (d.toList.map (·.1)) i = (d[i]!).1 := by
  rw [g_get (by simpa using h)]
  simp [h]
theorem flat6 (d : Array T6) (j : Nat) (h : j < d.size * 2) : (tcells (d.toList.map (·.1)))[j]? = some (flatK enc6 2 d)[j]! := by
  rw [get_flatK _ _ _ _ h]
  obtain ⟨e1, e2⟩ := tcells_get (d.toList.map (·.1)) (j / 2) (by simp; omega)
  rw [val_g d (j / 2) (by omega)] at e1 e2
  rcases Nat.mod_two_eq_zero_or_one j with q | q
  · rw [show j / 2 * 2 = j by omega] at e1
    rw [e1, q]; rfl
  · rw [show j / 2 * 2 + 1 = j by omega] at e2
    rw [e2, q]; rfl
theorem holds6 {w : World} {b : Nat} {cur : Array Value} {e : TypeId} {d : Array T6} (hb : w.heap[b]? = some (.cells cur e (0, 0))) (ht : cur.toList.take (d.size * 2) = tcells (d.toList.map (·.1))) : HoldsK enc6 2 w b 0 d := by
  intro j hj
  rw [size_flatK] at hj
  refine ⟨?_, by simp [World.frozen?, hb]⟩
  rw [Nat.zero_add, cell_of hb, ← Array.getElem?_toList]
  have h1 : (cur.toList.take (d.size * 2))[j]? = (tcells (d.toList.map (·.1)))[j]? := by rw [ht]
  rw [List.getElem?_take_of_lt hj] at h1
  rw [h1, flat6 d j hj]; rfl
theorem heap6 {w : World} {b n : Nat} {os : Array Obj} {cur : Array Value} {e : TypeId} {fr : Nat × Nat} (d : Array T6) (hb : w.heap[b]? = some (.cells cur e fr)) :
    (sortWorldK enc6 2 w b 0 n d os).heap[b]? = some (.cells (putCells id 0 (flatK enc6 2 d) cur) e fr) := by
  have hg : b < w.heap.size := (Array.getElem?_eq_some_iff.1 hb).1
  unfold sortWorldK putRowK
  rw [heap_grow_old _ _ (by simpa using hg)]
  simp [putRow, mapBlock, Sort.ahead, Array.getElem?_modify, hb, onCells]
theorem grown6 {w : World} {b n : Nat} {os : Array Obj} (d : Array T6) : w.grownBy (sortWorldK enc6 2 w b 0 n d os) (some b) := by
  unfold sortWorldK putRowK
  refine ⟨rfl, rfl, rfl, by simp, fun k hk hne => ?_⟩
  rw [heap_grow_old _ _ (by simpa using hk)]
  have : b ≠ k := fun e => hne (by rw [e])
  simp [putRow, mapBlock, Sort.ahead, Array.getElem?_modify, this]
theorem take6 (cur : Array Value) (d : Array T6) (h : d.size * 2 ≤ cur.size) : (putCells id 0 (flatK enc6 2 d) cur).toList.take (d.size * 2) = tcells (d.toList.map (·.1)) := by
  apply List.ext_getElem?
  intro j
  by_cases hj : j < d.size * 2
  · rw [List.getElem?_take_of_lt hj, Array.getElem?_toList, flat6 d j hj]
    simp [putCells, hj, show j < cur.size by omega]
  · rw [List.getElem?_take_eq_none (by omega), List.getElem?_eq_none (by rw [tcells_len]; simp; omega)]
theorem Srt.tri {S : List Tm} (h : Srt S) : ∀ a ∈ S, ∀ b ∈ S, a = b ∨ Lt a b ∨ Lt b a := by
  induction S with
  | nil => intro a ha; cases ha
  | cons x r ih =>
    obtain ⟨h1, h2⟩ := List.pairwise_cons.1 h
    intro a ha b hb
    rcases List.mem_cons.1 ha with ea | ha2 <;> rcases List.mem_cons.1 hb with eb | hb2
    · exact .inl (ea.trans eb.symm)
    · rw [ea]; exact .inr (.inl (h1 b hb2))
    · rw [eb]; exact .inr (.inr (h1 a ha2))
    · exact ih h2 a ha2 b hb2
/-- There is one order. -/
theorem Srt.one {S L : List Tm} (h : Srt S) (hp : L.Perm S) (hL : L.Pairwise fun a b => ¬ Lt b a) : L = S := by
  refine List.Perm.eq_of_pairwise (le := fun a b => ¬ Lt b a) (fun a b ha hb h1 h2 => ?_) hL (h.imp fun q c => q.asym c) hp
  rcases h.tri a (hp.mem_iff.1 ha) b hb with e | e | e
  · exact e
  · exact absurd e h2
  · exact absurd e h1
theorem sorted6 {d d' : Array T6} {S : List Tm} (hp : PermIn 0 d.size d d') (hs : SortedIn (ltOf cf6) 0 d.size d') (hS : Srt S) (hd : (d.toList.map (·.1)).Perm S) : d'.toList.map (·.1) = S := by
  obtain ⟨h1, _, h3⟩ := hp
  have h3' : d'.toList.Perm d.toList := by
    have e1 : d'.extract 0 d.size = d' := by rw [← h1]; simp
    have e2 : d.extract 0 d.size = d := by simp
    rwa [e1, e2] at h3
  refine hS.one ((h3'.map _).trans hd) ?_
  rw [List.pairwise_map, List.pairwise_iff_getElem]
  intro i j hi hj hij
  have := hs i j (Nat.zero_le _) hij (by rw [← h1]; simpa using hj)
  rw [lt6] at this
  have q := of_decide_eq_false this
  simp at hi hj
  rw [getElem!_pos d' i hi, getElem!_pos d' j hj] at q
  simpa using q
end Go.Proofs.Ytjplkffghfikgaa.Ck

/-
  Functions of the library at this program: their bodies are the ones that the library's contracts speak of.
-/
namespace Go.Proofs
open Go.Shelf
def Try.sortTm_ren : Go.Shelf.Ren := ⟨fun | 6 => 49 | 15 => 57 | 14 => 56 | 28 => 69 | 29 => 70 | 20 => 61 | 21 => 62 | 22 => 63 | 23 => 64 | 24 => 65 | 25 => 66 | 26 => 67 | 27 => 68 | 46 => 73 | 47 => 74 | 48 => 75 | 49 => 76 | 50 => 77 | 57 => 78 | n => n, fun | 22 => 39 | 24 => 70 | 25 => 81 | 3 => 3 | 39 => 100 | 0 => 0 | 53 => 112 | 55 => 22 | 4 => 4 | 46 => 105 | 45 => 104 | 50 => 109 | 5 => 5 | 9 => 9 | 66 => 115 | 70 => 119 | 76 => 121 | 77 => 122 | n => n, fun | n => n⟩
theorem Try.sortTm : Go.Proofs.SlLaysF0.n6 Try.prog Try.sortTm_ren := {
  mixed := by kernel_rfl
  f6 := ⟨Try.f49.name, by decide, Try.func49.trans (congrArg some (by kernel_rfl))⟩
  f14 := ⟨Try.f56.name, by decide, Try.func56.trans (congrArg some (by kernel_rfl))⟩
  f15 := Try.func57.trans (congrArg some (by kernel_rfl))
  f20 := ⟨Try.f61.name, by decide, Try.func61.trans (congrArg some (by kernel_rfl))⟩
  f21 := ⟨Try.f62.name, by decide, Try.func62.trans (congrArg some (by kernel_rfl))⟩
  f22 := ⟨Try.f63.name, by decide, Try.func63.trans (congrArg some (by kernel_rfl))⟩
  f23 := ⟨Try.f64.name, by decide, Try.func64.trans (congrArg some (by kernel_rfl))⟩
  f24 := ⟨Try.f65.name, by decide, Try.func65.trans (congrArg some (by kernel_rfl))⟩
  f25 := ⟨Try.f66.name, by decide, Try.func66.trans (congrArg some (by kernel_rfl))⟩
  f26 := ⟨Try.f67.name, by decide, Try.func67.trans (congrArg some (by kernel_rfl))⟩
  f27 := ⟨Try.f68.name, by decide, Try.func68.trans (congrArg some (by kernel_rfl))⟩
  f28 := Try.func69.trans (congrArg some (by kernel_rfl))
  f29 := Try.func70.trans (congrArg some (by kernel_rfl))
  f46 := ⟨Try.f73.name, by decide, Try.func73.trans (congrArg some (by kernel_rfl))⟩
  f47 := Try.func74.trans (congrArg some (by kernel_rfl))
  f48 := Try.func75.trans (congrArg some (by kernel_rfl))
  f49 := ⟨Try.f76.name, by decide, Try.func76.trans (congrArg some (by kernel_rfl))⟩
  f50 := ⟨Try.f77.name, by decide, Try.func77.trans (congrArg some (by kernel_rfl))⟩
  f57 := ⟨Try.f78.name, by decide, Try.func78.trans (congrArg some (by kernel_rfl))⟩
  t0 := Try.underlying0
  a0 := Try.isAgg0
  z0 := Try.sizeOf0
  v0 := Try.zeroValue0
  t3 := Try.underlying3
  a3 := Try.isAgg3
  z3 := Try.sizeOf3
  v3 := Try.zeroValue3
  t4 := Try.underlying4
  a4 := Try.isAgg4
  z4 := Try.sizeOf4
  v4 := Try.zeroValue4
  t5 := Try.underlying5
  a5 := Try.isAgg5
  z5 := Try.sizeOf5
  v5 := Try.zeroValue5
  t9 := Try.underlying9
  a9 := Try.isAgg9
  z9 := Try.sizeOf9
  v9 := Try.zeroValue9
  t22 := Try.underlying39
  a22 := Try.isAgg39
  z22 := Try.sizeOf39
  v22 := Try.zeroValue39
  t25 := Try.underlying81
  a25 := Try.isAgg81
  z25 := Try.sizeOf81
  v25 := Try.zeroValue81
  t39 := Try.underlying100
  a39 := Try.isAgg100
  z39 := Try.sizeOf100
  v39 := Try.zeroValue100
  t45 := Try.underlying104
  a45 := Try.isAgg104
  z45 := Try.sizeOf104
  v45 := Try.zeroValue104
  t46 := Try.underlying105
  a46 := Try.isAgg105
  z46 := Try.sizeOf105
  v46 := Try.zeroValue105
  t50 := Try.underlying109
  a50 := Try.isAgg109
  z50 := Try.sizeOf109
  v50 := Try.zeroValue109
  t53 := Try.underlying112
  a53 := Try.isAgg112
  z53 := Try.sizeOf112
  v53 := Try.zeroValue112
  t55 := Try.underlying22
  a55 := Try.isAgg22
  z55 := Try.sizeOf22
  v55 := Try.zeroValue22
  t66 := Try.underlying115
  a66 := Try.isAgg115
  z66 := Try.sizeOf115
  v66 := Try.zeroValue115
  t70 := Try.underlying119
  a70 := Try.isAgg119
  z70 := Try.sizeOf119
  v70 := Try.zeroValue119
  t76 := Try.underlying121
  a76 := Try.isAgg121
  z76 := Try.sizeOf121
  v76 := Try.zeroValue121
  t77 := Try.underlying122
  a77 := Try.isAgg122
  z77 := Try.sizeOf122
  v77 := Try.zeroValue122 }
end Go.Proofs

/-
  slices.SortFunc, slices.SortedFunc of the timers; Timers of the clock.
-/
namespace Go.Proofs.Ytjplkffghfikgaa.Ck
open Go.RowKit Go.Shelf Rl Go.Sort
set_option linter.unusedVariables false
theorem agg6 (w : World) : (isAgg 70).run Try.prog w = .ok true w := by kernel_rfl
theorem size6 (w : World) : (Go.sizeOf 70).run Try.prog w = .ok 2 w := by kernel_rfl
theorem sortFunc_any (B : Nat) (w : World) (v : Value) (l S : List Tm) (h : TmB B w v l) (hB : Bt l) (hp : l.Perm S) (hS : Srt S) (hlen : l.length ≤ 1000000) :
    Calls Try.prog 49 #[v, .func (.func 42) #[] #[]] w fun e w' => e = .returned (.tuple #[]) ∧ TmB B w' v S ∧ w.grownBy w' v.ownBlock := by
  have hl := hp.length_eq
  rcases h.2 with ⟨rfl, e⟩ | ⟨b, cap, cur, rfl, hb, hh, q1, q2, q3, q4⟩
  · have : l = [] := List.length_eq_zero_iff.1 e
    subst this
    have : S = [] := hp.symm.eq_nil
    subst this
    have hN := AnyF.slices_SortFunc_none Try.sortTm none 0 (.func (.func 42) #[] #[]) w
    change Calls Try.prog 49 _ _ _ at hN
    refine hN.mono ?_
    rintro e w' ⟨rfl, rfl⟩
    exact ⟨rfl, h, ⟨rfl, rfl, rfl, Nat.le_refl _, fun _ _ _ => rfl⟩⟩
  · have eg : ∀ args w, (callFunc 42 args).run Try.prog w = .ok (.enter 42 args) w := enters_of Try.func42 (by kernel_rfl) rfl
    have hd := to6_val l hB
    have hsz := to6_size l hB
    obtain ⟨d, hdd⟩ : ∃ d, to6 l hB = d := ⟨_, rfl⟩
    rw [hdd] at hd hsz
    have hH : HoldsK enc6 2 w b 0 d := holds6 hh (by rw [hd, hsz]; exact q4)
    have hcon := AnyQ.slices_SortFunc Try.sortTm 2 agg6 size6 enc6 (fun _ => rfl) (fun x v hv => by simp [enc6] at hv; rcases hv with rfl | rfl <;> rfl) cf6 swo6 42 #[] b 0 cap d w eg (cmp6 b 0 d.size w) hH (heap_lt hh) (by omega)
    change Calls Try.prog 49 _ _ _ at hcon
    rw [hsz] at hcon
    refine hcon.mono ?_
    rintro e w' ⟨rfl, d', n, os, hpm, hso, rfl⟩
    rw [← hsz] at hpm hso
    have hs := sorted6 hpm hso hS (by rw [hd]; exact hp)
    have hsz' : d'.size = l.length := by rw [hpm.1, hsz]
    refine ⟨rfl, ⟨by rw [tcells_len], .inr ⟨b, cap, _, by rw [hl], hb, heap6 d' hh, by omega, q2, by simp [putCells, q3], ?_⟩⟩, grown6 d'⟩
    rw [← hl, ← hsz', ← hs]
    exact take6 cur d' (by omega)
theorem collect_any (w : World) (vb : Nat) (v : Value) (l : List Tm) (h1 : w.heap[vb]? = some (.cells #[v] 54 (0, 0))) (hv : Tms w v l) (hlen : l.length ≤ 1000000) :
    Calls Try.prog 48 #[.func (.func 50) #[] #[.pointer (some ⟨vb, 0, none⟩)]] w fun e w' => ∃ vf, e = .returned vf ∧ TmB w.heap.size w' vf l ∧ Below w.heap.size w w' := by
  have hA := appendSeq_any w vb v l h1 hv hlen
  clear h1 hv
  go_enter Try.func48, Try.ntmps48
  go_wp2_with (go_at_call 55; refine hA.mono ?_; rintro e w2 ⟨vf, rfl, T2, b2⟩)
  go_ret
  exact ⟨_, rfl, T2, b2⟩
theorem sortedFunc_any (w : World) (vb : Nat) (v : Value) (l S : List Tm) (h1 : w.heap[vb]? = some (.cells #[v] 54 (0, 0))) (hv : Tms w v l) (hB : Bt l) (hp : l.Perm S) (hS : Srt S) (hlen : l.length ≤ 1000000) :
    Calls Try.prog 40 #[.func (.func 50) #[] #[.pointer (some ⟨vb, 0, none⟩)], .func (.func 42) #[] #[]] w fun e w' => ∃ vf, e = .returned vf ∧ TmB w.heap.size w' vf S ∧ Below w.heap.size w w' := by
  have hC := collect_any w vb v l h1 hv hlen
  have hS2 := hide (fun (w2 : World) (vf : Value) (q : TmB w.heap.size w2 vf l) => sortFunc_any w.heap.size w2 vf l S q hB hp hS hlen)
  clear h1 hv hB hp hS
  go_enter Try.func40, Try.ntmps40
  go_wp2_with (first | (go_at_call 48; refine hC.mono ?_; rintro e w2 ⟨vf, rfl, T2, b2⟩; replace T2 := hide T2; replace b2 := hide b2) | (go_at_call 49; refine (hS2.out w2 vf T2.out).mono ?_; rintro e w3 ⟨rfl, T3, g3⟩))
  go_ret
  exact ⟨_, rfl, T3, b2.out.grown g3 b2.out.size (fun k hk => (T2.out.lt k hk).1)⟩
theorem timers_any (w : World) (b : Nat) (c : C) (v : Value) (l S : List Tm) (h : Ck w b c v l S) : Calls Try.prog 23 #[.pointer (some ⟨b, 0, none⟩)] w fun e w' => ∃ vf, e = .returned vf ∧ TmB w.heap.size w' vf S ∧ Below w.heap.size w w' := by
  have hM := made_any w b c v l h.at_ h.nx
  obtain ⟨c0, c1, c2⟩ := h.at_.cells
  have hV := values_any w v (slice_of h.at_.row)
  have B1 := box_below w (.cells #[v] 54)
  have hSo := sortedFunc_any (w.alloc (.cells #[v] 54)) w.heap.size v l S (heap_alloc_new _ _) (h.at_.row.below B1) (h.tt.perm h.perm).bt h.perm h.srt (by have := h.len; rw [h.perm.length_eq]; omega)
  replace B1 := hide B1
  clear h
  go_enter Try.func23, Try.ntmps23
  go_wp2_with (first | (go_at_call 30; refine hM.mono ?_; rintro e w' ⟨rfl, hw⟩; rw [hw]; clear hw w') | (go_at_call 41; refine hV.mono ?_; rintro e w' ⟨rfl, hw⟩; rw [hw]; clear hw w') | (go_at_call 40; refine hSo.mono ?_; rintro e w3 ⟨vf, rfl, T3, b3⟩))
  go_ret
  refine ⟨_, rfl, ?_, keepF B1.out b3⟩
  have : w.heap.size ≤ (w.alloc (.cells #[v] 54)).heap.size := B1.out.size
  exact ⟨T3.1, T3.2.imp id (by rintro ⟨g, cap, cur, e, hg, r⟩; exact ⟨g, cap, cur, e, by omega, r⟩)⟩
end Go.Proofs.Ytjplkffghfikgaa.Ck

/-
  A nil clock, and the zero one: what each call answers.
-/
namespace Go.Proofs.Ytjplkffghfikgaa.Ck
open Go.RowKit Rl
set_option linter.unusedVariables false
/-- No clock, or one that New did not make. -/
def Nc (w : World) (p : Value) : Prop := p = .pointer none ∨ ∃ b, p = .pointer (some ⟨b, 0, none⟩) ∧ w.heap[b]? = some (.cells #[.float .f64 0, .int .i64 0, .slice none 0 0] 56 (0, 0))
theorem Nc.below {w w' : World} {p : Value} (h : Nc w p) (hb : Below w.heap.size w w') : Nc w' p := by
  rcases h with h | ⟨b, e, h⟩
  · exact .inl h
  · exact .inr ⟨b, e, (hb.block _ (heap_lt h)).trans h⟩
theorem inf_any (w : World) : Calls Try.prog 26 #[.int .i64 1] w fun e w' => e = .returned (.float .f64 9218868437227405312) ∧ w' = w := by
  have kf := of_run
  go_enter Try.func26, Try.ntmps26
  go_wp2_with fail
  go_ret
  exact ⟨rfl, rfl⟩
end Go.Proofs.Ytjplkffghfikgaa.Ck

/-
  ids: are two lists of numbers the same?
-/
namespace Go.Proofs.Ytjplkffghfikgaa.Ck
open Go.RowKit Rl
set_option linter.unusedVariables false
/-- Numbers as they are read. -/
def Nm (w : World) (v : Value) (l : List Int) : Prop := Row w v (l.map (Value.int .i64))
theorem Ids.nm {B : Nat} {w : World} {v : Value} {l : List Int} (h : Ids B w v l) : Nm w v l := by
  rcases h.2 with ⟨rfl, e⟩ | ⟨g, cap, cur, rfl, _, hh, a, b, c, d⟩
  · have : l = [] := List.length_eq_zero_iff.1 e
    subst this
    exact Row.nil _
  · refine ⟨some ⟨g, 0, none⟩, cap, by simp, fun e => by simp at e, by simpa using a, b, fun i hi => ⟨g, 0, rfl, ?_⟩⟩
    have hi' : i < l.length := by simpa using hi
    rw [Nat.zero_add, cell_of hh, ← Array.getElem?_toList]
    have h1 : (cur.toList.take (l.length * 1))[i]? = (l.map (Value.int .i64))[i]? := by rw [d]
    rw [List.getElem?_take_of_lt (by omega)] at h1
    rw [h1, List.getElem?_eq_getElem hi]
theorem Nm.below {w w' : World} {v : Value} {l : List Int} (h : Nm w v l) (hb : Below w.heap.size w w') : Nm w' v l := Below.row hb h
theorem Nm.read {w : World} {ao : Option Addr} {n ca : Nat} {l : List Int} (h : Nm w (.slice ao n ca) l) (i : Nat) (hi : i < l.length) : ∃ b off, ao = some ⟨b, off, none⟩ ∧ w.cell? ⟨b, off + i, none⟩ = some (.int .i64 (l.getD i 0)) := by
  obtain ⟨ao', ca', e, _, _, _, h5⟩ := h
  simp at e
  obtain ⟨rfl, _, rfl⟩ := e
  obtain ⟨b, off, e1, hc⟩ := h5 i (by simpa using hi)
  refine ⟨b, off, e1, ?_⟩
  rw [hc]
  simp [List.getD, hi]
theorem Nm.form {w : World} {v : Value} {l : List Int} (h : Nm w v l) : ∃ ao ca, v = .slice ao l.length ca := by
  obtain ⟨ao, ca, e, _⟩ := h
  exact ⟨ao, ca, by rw [e]; simp⟩
end Go.Proofs.Ytjplkffghfikgaa.Ck

/-
  begun: the clock's few first calls.
-/
namespace Go.Proofs.Ytjplkffghfikgaa.Ck
open Go.RowKit Rl
set_option linter.unusedVariables false
/-- A clock of the call's own memory, from w0 on. -/
structure Mine (w0 w : World) (b : Nat) (c : C) (v : Value) (l S : List Tm) : Prop where
  ck : Ck w b c v l S
  un : Un S
  nb : Nb c.nx S
  below : Below w0.heap.size w0 w
  own : ∀ k, Own b v k → w0.heap.size ≤ k
theorem Stp.below_of {b : Nat} {v v' : Value} {w w' : World} {B : Nat} (h : Stp b v v' w w') (hB : B ≤ w.heap.size) (ho : ∀ k, Own b v k → B ≤ k) : Below B w w' ∧ ∀ k, Own b v' k → B ≤ k := by
  refine ⟨h.1.below hB ho, ?_⟩
  rintro k (rfl | hk)
  · exact ho _ (.inl rfl)
  · rcases h.2 k hk with e | e
    · exact ho k (.inr e)
    · omega
theorem Mine.step {w0 w w' : World} {b : Nat} {c c' : C} {v v' : Value} {l l' S S' : List Tm} (h : Mine w0 w b c v l S) (hc : Ck w' b c' v' l' S') (hs : Stp b v v' w w') (hu : Un S') (hn : Nb c'.nx S') : Mine w0 w' b c' v' l' S' := by
  obtain ⟨h1, h2⟩ := hs.below_of h.below.size h.own
  exact ⟨hc, hu, hn, h.below.trans h1, h2⟩
theorem Mine.quiet {w0 w w' : World} {b : Nat} {c : C} {v : Value} {l S : List Tm} (h : Mine w0 w b c v l S) (hb : Below w.heap.size w w') : Mine w0 w' b c v l S := ⟨h.ck.below hb, h.un, h.nb, h.below.trans (hb.mono h.below.size), h.own⟩
/-- What is left, or is one more, has numbers as before. -/
theorem Un.sub {S S' : List Tm} (h : Un S) (hs : S'.Sublist S) : Un S' := h.sublist hs
theorem Nb.sub {n : Int} {S S' : List Tm} (h : Nb n S) (hs : S'.Sublist S) : Nb n S' := fun t ht => h t (hs.subset ht)
theorem on_sub (now : Nat) (S : List Tm) : (onS now S).Sublist S := List.dropWhile_sublist _
theorem go_sub (now x : Nat) (S : List Tm) : (goF now x S).2.1.Sublist S := by
  unfold goF
  split
  · exact on_sub _ _
  · exact List.Sublist.refl _
theorem jump_sub (now : Nat) (S : List Tm) : (jumpF now S).2.1.Sublist S := by
  unfold jumpF
  split
  · exact go_sub _ _ _
  · exact List.Sublist.refl _
theorem aft_ok {now d : Nat} {nx : Int} {S : List Tm} (hu : Un S) (hn : Nb nx S) : Un (aftF now nx d S).2.2.1 ∧ Nb (aftF now nx d S).2.2.2 (aftF now nx d S).2.2.1 ∧ nx ≤ (aftF now nx d S).2.2.2 ∧ (aftF now nx d S).2.2.2 ≤ nx + 1 := by
  unfold aftF
  split
  · exact ⟨hu, hn, by simp, by simp; omega⟩
  · split
    · exact ⟨hu, hn, by simp, by simp; omega⟩
    · refine ⟨?_, ?_, by simp; omega, by simp⟩
      · refine Un.perm (S := ⟨nx, tsB now (plusB d)⟩ :: S) (List.pairwise_cons.2 ⟨fun y hy => ?_, hu⟩) (ins_perm _ S).symm
        have := hn y hy
        simp
        omega
      · intro t ht
        rcases List.mem_cons.1 ((ins_perm _ S).mem_iff.1 ht) with e | e
        · rw [e]; simp; omega
        · have := hn t e; simp; omega
theorem Mine.new {w0 w w' : World} {b n : Nat} (hb : Below w0.heap.size w0 w) (h2 : Below w.heap.size w w') (hwb : w.heap.size ≤ b) (ha : At w' b ⟨n, 1⟩ (.slice none 0 0) []) (hn : n < 9218868437227405312) : Mine w0 w' b ⟨n, 1⟩ (.slice none 0 0) [] [] where
  ck := ⟨ha, fun k _ h => by simp at h, List.Perm.refl _, List.Pairwise.nil, fun t h => by simp at h, by simp, by simp, hn⟩
  un := List.Pairwise.nil
  nb := fun t h => by simp at h
  below := hb.trans (h2.mono hb.size)
  own := by
    rintro k (rfl | hk)
    · exact Nat.le_trans hb.size hwb
    · simp [Value.ownBlock] at hk
/-- After, of a clock of one's own. -/
theorem mine_after {w0 w : World} {b : Nat} {c : C} {v : Value} {l S : List Tm} (h : Mine w0 w b c v l S) (d : Nat) (hd : d < 18446744073709551616) (hnx : c.nx ≤ 1000000) : Calls Try.prog 11 #[.pointer (some ⟨b, 0, none⟩), .float .f64 d] w fun e w' => e = .returned (.tuple #[.int .i64 (aftF c.now c.nx d S).1, .int .i64 (aftF c.now c.nx d S).2.1]) ∧ ∃ v' l', Mine w0 w' b ⟨c.now, (aftF c.now c.nx d S).2.2.2⟩ v' l' (aftF c.now c.nx d S).2.2.1 ∧ Stp b v v' w w' := by
  refine (after_any w b d c v l S h.ck h.nb hd hnx).mono ?_
  rintro e w' ⟨rfl, v', l', C2, S2⟩
  obtain ⟨q1, q2, _⟩ := aft_ok (now := c.now) (d := d) h.un h.nb
  exact ⟨rfl, v', l', h.step C2 S2 q1 q2, S2⟩
theorem mine_go {w0 w : World} {b : Nat} {c : C} {v : Value} {l S : List Tm} (h : Mine w0 w b c v l S) (x : Nat) (hto : x < 18446744073709551616) : Calls Try.prog 15 #[.pointer (some ⟨b, 0, none⟩), .float .f64 x] w fun e w' => ∃ ids v' l', e = .returned (.tuple #[ids, .int .i64 (goF c.now x S).2.2.2]) ∧ Mine w0 w' b ⟨(goF c.now x S).2.2.1, c.nx⟩ v' l' (goF c.now x S).2.1 ∧ Ids w.heap.size w' ids (goF c.now x S).1 ∧ Stp b v v' w w' ∧ (∀ j, v'.ownBlock = some j → ids.ownBlock ≠ some j) := by
  refine (go_any w b x c v l S h.ck hto).mono ?_
  rintro e w' ⟨ids, rfl, v', l', C2, I2, S2, D2⟩
  exact ⟨ids, v', l', rfl, h.step C2 S2 (h.un.sub (go_sub _ _ _)) (h.nb.sub (go_sub _ _ _)), I2, S2, D2⟩
theorem mine_jump {w0 w : World} {b : Nat} {c : C} {v : Value} {l S : List Tm} (h : Mine w0 w b c v l S) : Calls Try.prog 18 #[.pointer (some ⟨b, 0, none⟩)] w fun e w' => ∃ ids v' l', e = .returned ids ∧ Mine w0 w' b ⟨(jumpF c.now S).2.2.1, c.nx⟩ v' l' (jumpF c.now S).2.1 ∧ Ids w.heap.size w' ids (jumpF c.now S).1 ∧ Stp b v v' w w' ∧ (∀ j, v'.ownBlock = some j → ids.ownBlock ≠ some j) := by
  refine (jump_any w b c v l S h.ck).mono ?_
  rintro e w' ⟨ids, rfl, v', l', C2, I2, S2, D2⟩
  exact ⟨ids, v', l', rfl, h.step C2 S2 (h.un.sub (jump_sub _ _)) (h.nb.sub (jump_sub _ _)), I2, S2, D2⟩
end Go.Proofs.Ytjplkffghfikgaa.Ck

/-
  begun.
-/
namespace Go.Proofs.Ytjplkffghfikgaa.Ck
open Go.RowKit Rl
set_option linter.unusedVariables false
theorem ts1 : tsB 4607182418800017408 4611686018427387904 = 4613937818241073152 := by decide +kernel
theorem ts2 : tsB 4607182418800017408 9218868437227405312 = 9218868437227405312 := by decide +kernel
theorem bg1 : aftF 4607182418800017408 1 4611686018427387904 [] = (1, 0, [⟨1, 4613937818241073152⟩], 2) := by
  unfold aftF
  rw [if_neg (by decide), if_neg (by decide), show plusB 4611686018427387904 = 4611686018427387904 by decide, ts1]
  rfl
theorem bg2 : aftF 4607182418800017408 2 9218868437227405312 [⟨1, 4613937818241073152⟩] = (2, 0, [⟨1, 4613937818241073152⟩, ⟨2, 9218868437227405312⟩], 3) := by
  unfold aftF
  rw [if_neg (by decide), if_neg (by decide), show plusB 9218868437227405312 = 9218868437227405312 by decide, ts2]
  have : ins ⟨2, 9218868437227405312⟩ [⟨1, 4613937818241073152⟩] = [⟨1, 4613937818241073152⟩, ⟨2, 9218868437227405312⟩] := by
    simp only [ins]
    rw [if_pos (by decide)]
  rw [this]
  rfl
theorem bg3 : jumpF 4607182418800017408 [⟨1, 4613937818241073152⟩, ⟨2, 9218868437227405312⟩] = ([1], [⟨2, 9218868437227405312⟩], 4613937818241073152, 0) := by kernel_rfl
theorem bg4 : nxS [⟨2, 9218868437227405312⟩] = (0, false) := by decide
theorem bg5 : timeB 4607182418800017408 = true := by decide
theorem bg6 : plusB 4607182418800017408 = 4607182418800017408 := by decide
set_option maxRecDepth 100000 in
set_option maxHeartbeats 4000000 in
theorem begun16_any (w : World) : Calls Try.prog 7 #[] w fun e w' => e = .returned (.bool true) ∧ Below w.heap.size w w' := by
  have hN := new_any w 4607182418800017408 (by omega)
  rw [bg5, bg6] at hN
  have oe : FloatKind.f64.format.order 4613937818241073152 4613937818241073152 = some .eq := by rw [ord_pos (by omega) (by omega)]; rfl
  go_enter Try.func7, Try.ntmps7
  go_upto_region 4 with (first | (go_at_call 8; refine hN.mono ?_; rintro e w1 ⟨b1, ⟨c, _⟩ | ⟨_, b, hb, rfl, A1⟩⟩; (exact absurd c (by decide)); have M1 := hide (Mine.new (Below.refl _ _) b1 hb A1 (by omega)); clear b1 hb A1) | fail)
  clear hN
  have hA := mine_after M1.out 4611686018427387904 (by omega) (by show (1 : Int) ≤ _; omega)
  simp only [bg1] at hA
  go_upto_region 5 with (first | (go_at_call 11; refine hA.mono ?_; rintro e w2 ⟨rfl, v2, l2, M2, _⟩; replace M2 := hide M2) | fail)
  clear hA M1
  have hA := mine_after M2.out 9218868437227405312 (by omega) (by show (2 : Int) ≤ _; omega)
  simp only [bg2] at hA
  go_upto_region 6 with (first | (go_at_call 26; refine (inf_any _).mono ?_; rintro e w' ⟨rfl, hw⟩; rw [hw]; clear hw w') | (go_at_call 11; refine hA.mono ?_; rintro e w3 ⟨rfl, v3, l3, M3, _⟩; replace M3 := hide M3) | fail)
  clear hA M2
  have hJ := mine_jump M3.out
  simp only [bg3] at hJ
  go_upto_region 7 with (first | (go_at_call 18; refine hJ.mono ?_; rintro e w4 ⟨ids, v4, l4, rfl, M4, I4, _⟩; replace M4 := hide M4; obtain ⟨ao, ca, rfl⟩ := I4.form; clear I4) | fail)
  clear hJ M3
  have hX := next_any _ _ _ _ _ _ M4.out.ck
  simp only [bg4] at hX
  go_upto_region 8 with (first | (go_at_call 24; refine hX.mono ?_; rintro e w5 ⟨rfl, q5⟩; have M5 := hide (M4.out.quiet (q5.below _)); clear q5) | fail)
  clear hX M4
  have hW := now_any _ _ _ _ _ M5.out.ck.at_ M5.out.ck.nx
  have hT := timers_any _ _ _ _ _ _ M5.out.ck
  go_wp2_with (first | (go_at_call 22; refine hW.mono ?_; rintro e w' ⟨rfl, hw⟩; rw [hw]; clear hw w') | (go_at_call 23; refine hT.mono ?_; rintro e w6 ⟨vf, rfl, T6', b6⟩; obtain ⟨ao6, ca6, rfl⟩ := rows_form T6'; clear T6'; replace b6 := hide b6))
  go_ret
  exact ⟨rfl, M5.out.below.trans (b6.out.mono M5.out.below.size)⟩
end Go.Proofs.Ytjplkffghfikgaa.Ck

/-
  Two clocks side by side; what goes off in two steps, by data.
-/
namespace Go.Proofs.Ytjplkffghfikgaa.Ck
open Go.RowKit Rl
set_option linter.unusedVariables false
theorem Mine.but {X : Nat → Prop} {W w w' : World} {b : Nat} {c : C} {v : Value} {l S : List Tm} (h : Mine W w b c v l S) (hb : But X w w') (hx : ∀ k, Own b v k → ¬ X k) (hX : ∀ k, X k → W.heap.size ≤ k) : Mine W w' b c v l S :=
  ⟨h.ck.but hb hx, h.un, h.nb, h.below.trans (hb.below h.below.size hX), h.own⟩
/-- Two clocks of the call's own memory, no block of both. -/
structure Two (W w : World) (ba : Nat) (ca : C) (va : Value) (la Sa : List Tm) (bb : Nat) (cb : C) (vb : Value) (lb Sb : List Tm) : Prop where
  a : Mine W w ba ca va la Sa
  b : Mine W w bb cb vb lb Sb
  dj : ∀ k, Own ba va k → ¬ Own bb vb k
theorem Two.symm {W w : World} {ba bb : Nat} {ca cb : C} {va vb : Value} {la Sa lb Sb : List Tm} (h : Two W w ba ca va la Sa bb cb vb lb Sb) : Two W w bb cb vb lb Sb ba ca va la Sa := ⟨h.b, h.a, fun k hb ha => h.dj k ha hb⟩
theorem Two.step {W w w' : World} {ba bb : Nat} {ca cb ca' : C} {va vb va' : Value} {la Sa lb Sb la' Sa' : List Tm} (h : Two W w ba ca va la Sa bb cb vb lb Sb) (m : Mine W w' ba ca' va' la' Sa') (s : Stp ba va va' w w') : Two W w' ba ca' va' la' Sa' bb cb vb lb Sb := by
  refine ⟨m, h.b.but s.1 (fun k hb ha => h.dj k ha hb) (fun k hk => h.a.own k hk), ?_⟩
  rintro k (rfl | hk) hb
  · exact h.dj k (.inl rfl) hb
  · rcases s.2 k hk with e | e
    · exact h.dj k (.inr e) hb
    · have := h.b.ck.at_.lt k hb; omega
theorem Two.quiet {W w w' : World} {ba bb : Nat} {ca cb : C} {va vb : Value} {la Sa lb Sb : List Tm} (h : Two W w ba ca va la Sa bb cb vb lb Sb) (hb : Below w.heap.size w w') : Two W w' ba ca va la Sa bb cb vb lb Sb := ⟨h.a.quiet hb, h.b.quiet hb, h.dj⟩
theorem Two.but {X : Nat → Prop} {W w w' : World} {ba bb : Nat} {ca cb : C} {va vb : Value} {la Sa lb Sb : List Tm} (h : Two W w ba ca va la Sa bb cb vb lb Sb) (hb : But X w w') (h1 : ∀ k, Own ba va k → ¬ X k) (h2 : ∀ k, Own bb vb k → ¬ X k) (hX : ∀ k, X k → W.heap.size ≤ k) : Two W w' ba ca va la Sa bb cb vb lb Sb := ⟨h.a.but hb h1 hX, h.b.but hb h2 hX, h.dj⟩
/-- A list apart from both. -/
def Far (ba : Nat) (va : Value) (bb : Nat) (vb ids : Value) : Prop := ∀ k, ids.ownBlock = some k → ¬ Own ba va k ∧ ¬ Own bb vb k
theorem Far.symm {ba bb : Nat} {va vb ids : Value} (h : Far ba va bb vb ids) : Far bb vb ba va ids := fun k hk => ⟨(h k hk).2, (h k hk).1⟩
/-- What lies apart from the first of two stays, whatever it does; and stays apart. -/
theorem Far.keep {W w w' : World} {B ba bb : Nat} {ca cb : C} {va vb va' ids : Value} {la Sa lb Sb : List Tm} {L : List Int} (h : Two W w ba ca va la Sa bb cb vb lb Sb) (hi : Ids B w ids L) (hf : Far ba va bb vb ids) (s : Stp ba va va' w w') : Ids B w' ids L ∧ Far ba va' bb vb ids := by
  refine ⟨hi.but s.1 (fun k hk => (hf k hk).1), fun k hk => ⟨?_, (hf k hk).2⟩⟩
  rintro (rfl | q)
  · exact (hf _ hk).1 (.inl rfl)
  · rcases s.2 k q with e | e
    · exact (hf k hk).1 (.inr e)
    · have := (hi.lt k hk).2; omega
/-- What goes off in two steps goes off in one. -/
theorem off_two {p q : Nat} (h : p ≤ q) : ∀ S : List Tm, offS p S ++ offS q (onS p S) = offS q S ∧ onS q (onS p S) = onS q S
  | [] => ⟨rfl, rfl⟩
  | x :: r => by
    obtain ⟨i1, i2⟩ := off_two h r
    unfold offS onS at *
    by_cases hx : x.b ≤ p
    · rw [List.takeWhile_cons_of_pos (by simpa using hx), List.dropWhile_cons_of_pos (by simpa using hx), List.takeWhile_cons_of_pos (by simp; omega), List.dropWhile_cons_of_pos (by simp; omega), ← i1, ← i2]
      exact ⟨rfl, rfl⟩
    · rw [List.takeWhile_cons_of_neg (by simpa using hx), List.dropWhile_cons_of_neg (by simpa using hx)]
      exact ⟨rfl, rfl⟩
theorem goF_ok {now x : Nat} (S : List Tm) (ht : timeB x = true) (h : now ≤ plusB x) : goF now x S = ((offS (plusB x) S).map Tm.id, onS (plusB x) S, plusB x, 0) := by
  unfold goF
  rw [if_pos]
  unfold goOk
  simp [ht]
  omega
theorem Ids.none {B : Nat} {w : World} {v : Value} {l : List Int} (h : Ids B w v l) : ∀ n c, v = .slice none n c → n = 0 ∧ c = 0 := by
  intro n c e
  rcases h.2 with ⟨rfl, _⟩ | ⟨g, cap, cur, rfl, _⟩
  · simp at e; exact ⟨e.1.symm, e.2.symm⟩
  · simp at e
end Go.Proofs.Ytjplkffghfikgaa.Ck

/-
  ClockRuns' walk.
-/
namespace Go.Proofs.Ytjplkffghfikgaa.Ck
open Go.RowKit Rl
set_option linter.unusedVariables false
theorem u64_get {l : List Int} (h : ∀ n ∈ l, (Lit.int .u64 n).wf = true) {k : Nat} (hk : k < l.length) : (l.getD k 0).toNat < 18446744073709551616 ∧ 0 ≤ l.getD k 0 := by
  have := u64_bounds (h _ (List.getElem_mem hk))
  simp only [List.getD, List.getElem?_eq_getElem hk, Option.getD_some]
  omega
theorem Row.readU {w : World} {ao : Option Addr} {n ca : Nat} {l : List Int} (h : Row w (.slice ao n ca) (l.map (Value.int .u64))) (i : Nat) (hi : i < l.length) : ∃ b off, ao = some ⟨b, off, none⟩ ∧ w.cell? ⟨b, off + i, none⟩ = some (.int .u64 (l.getD i 0)) := by
  obtain ⟨ao', ca', e, _, _, _, h5⟩ := h
  simp at e
  obtain ⟨rfl, _, rfl⟩ := e
  obtain ⟨b, off, e1, hc⟩ := h5 i (by simpa using hi)
  refine ⟨b, off, e1, ?_⟩
  rw [hc]
  simp [List.getD, hi]
end Go.Proofs.Ytjplkffghfikgaa.Ck

/-
  Rounding keeps the order; sums of times go on.
-/
namespace Go.Proofs.Ytjplkffghfikgaa.Ck
open Go.RowKit Rl
set_option linter.unusedVariables false
/-- Halves to even, among numbers of one size. -/
theorem up_mono {V V' e : Nat} (h : V ≤ V') (he : 1 ≤ e) : V / 2 ^ e + (upB V e).toNat ≤ V' / 2 ^ e + (upB V' e).toNat := by
  have hq : V / 2 ^ e ≤ V' / 2 ^ e := Nat.div_le_div_right h
  have hu : (upB V e).toNat ≤ 1 := by cases upB V e <;> simp
  rcases Nat.lt_or_eq_of_le hq with q | q
  · omega
  · obtain ⟨H, hH⟩ : ∃ H, 2 ^ (e - 1) = H := ⟨_, rfl⟩
    have hP : 2 ^ e = 2 * H := by rw [← hH, ← Nat.pow_succ']; congr 1; omega
    have hH0 : 0 < H := by rw [← hH]; exact Nat.two_pow_pos _
    cases hb : upB V e
    · simp; omega
    · have : upB V' e = true := by
        unfold upB at hb ⊢
        rw [hH, hP] at hb ⊢
        rw [hP] at q
        simp only [Bool.and_eq_true, Bool.or_eq_true, decide_eq_true_eq] at hb ⊢
        obtain ⟨h1, h2⟩ := hb
        have d1 := Nat.div_add_mod V (2 * H)
        have d2 := Nat.div_add_mod V' (2 * H)
        have m1 := Nat.mod_lt V (show 0 < 2 * H by omega)
        have m2 := Nat.mod_lt V' (show 0 < 2 * H by omega)
        have g : ∀ X : Nat, X / H % 2 = (X % (2 * H)) / H ∧ X % H = X % (2 * H) % H := fun X => by
          refine ⟨?_, ?_⟩
          · rw [Nat.mul_comm 2 H, Nat.mod_mul_right_div_self]
          · rw [Nat.mod_mod_of_dvd _ (Nat.dvd_mul_left H 2)]
        obtain ⟨g1, g2⟩ := g V
        obtain ⟨g3, g4⟩ := g V'
        rw [g1] at h1
        rw [g2] at h2
        rw [g3, g4, ← q]
        have hr : V % (2 * H) ≤ V' % (2 * H) := by
          rw [← q] at d2
          omega
        obtain ⟨r, hr1⟩ : ∃ r, V % (2 * H) = r := ⟨_, rfl⟩
        obtain ⟨r', hr2⟩ : ∃ r', V' % (2 * H) = r' := ⟨_, rfl⟩
        rw [hr1] at h1 h2 hr m1
        rw [hr2] at hr m2 ⊢
        have e1 : H ≤ r := by
          rcases Nat.lt_or_ge r H with c | c
          · rw [Nat.div_eq_of_lt c] at h1; omega
          · exact c
        have e2 : r' / H = 1 := by
          rw [Nat.div_eq_iff hH0]
          omega
        refine ⟨e2, ?_⟩
        rcases h2 with h2 | h2
        · exact .inl h2
        · right
          have s1 : r % H = r - H := by rw [Nat.mod_eq_sub_mod e1, Nat.mod_eq_of_lt (by omega)]
          have s2 : r' % H = r' - H := by rw [Nat.mod_eq_sub_mod (by omega), Nat.mod_eq_of_lt (by omega)]
          omega
      rw [this]
      simp
      omega
theorem fin1 {j j' qa qb ua ub : Nat} (hj : j < j') (hq : 4503599627370496 ≤ qb) (hv : qa < 9007199254740992) (hu : ua ≤ 1) : j * 4503599627370496 + qa + ua ≤ j' * 4503599627370496 + qb + ub := by omega
theorem fin2 {A qa qb ua ub : Nat} (h : qa + ua ≤ qb + ub) : A + qa + ua ≤ A + qb + ub := by omega
theorem fin3 {j V qb ub : Nat} (hj : 1 ≤ j) (hq : 4503599627370496 ≤ qb) (hv : V < 9007199254740992) : V ≤ j * 4503599627370496 + qb + ub := by omega
theorem round_mono {V V' : Nat} (h : V ≤ V') : roundB V ≤ roundB V' := by
  unfold roundB
  by_cases h1 : V < 9007199254740992
  · rw [if_pos h1]
    by_cases h2 : V' < 9007199254740992
    · rw [if_pos h2]; exact h
    · rw [if_neg h2]
      have hl : 53 ≤ V'.log2 := (Nat.le_log2 (by omega)).2 (by omega)
      have hd : 2 ^ (V'.log2 - 52) * 4503599627370496 ≤ V' := by
        rw [show (4503599627370496 : Nat) = 2 ^ 52 by rfl, ← Nat.pow_add, show V'.log2 - 52 + 52 = V'.log2 by omega]
        exact Nat.log2_self_le (by omega)
      have hq : 4503599627370496 ≤ V' / 2 ^ (V'.log2 - 52) := (Nat.le_div_iff_mul_le (Nat.two_pow_pos _)).2 (by rw [Nat.mul_comm]; exact hd)
      exact Nat.le_min.2 ⟨fin3 (show 1 ≤ V'.log2 - 52 by omega) hq h1, by omega⟩
  · rw [if_neg h1, if_neg (by omega)]
    refine Nat.le_min.2 ⟨Nat.le_trans (Nat.min_le_left _ _) ?_, Nat.min_le_right _ _⟩
    have hl : 53 ≤ V.log2 := (Nat.le_log2 (by omega)).2 (by omega)
    have hll : V.log2 ≤ V'.log2 := by
      rw [Nat.le_log2 (by omega)]
      exact Nat.le_trans (Nat.log2_self_le (by omega)) h
    rcases Nat.lt_or_eq_of_le hll with q | q
    · have hd : 2 ^ (V'.log2 - 52) * 4503599627370496 ≤ V' := by
        rw [show (4503599627370496 : Nat) = 2 ^ 52 by rfl, ← Nat.pow_add, show V'.log2 - 52 + 52 = V'.log2 by omega]
        exact Nat.log2_self_le (by omega)
      have hq : 4503599627370496 ≤ V' / 2 ^ (V'.log2 - 52) := (Nat.le_div_iff_mul_le (Nat.two_pow_pos _)).2 (by rw [Nat.mul_comm]; exact hd)
      have hv : V / 2 ^ (V.log2 - 52) < 9007199254740992 := by
        rw [Nat.div_lt_iff_lt_mul (Nat.two_pow_pos _), show (9007199254740992 : Nat) = 2 ^ 53 by rfl, ← Nat.pow_add, show 53 + (V.log2 - 52) = V.log2 + 1 by omega]
        exact Nat.lt_log2_self
      have hu : (upB V (V.log2 - 52)).toNat ≤ 1 := by cases upB V (V.log2 - 52) <;> simp
      exact fin1 (by omega) hq hv hu
    · rw [← q]
      have hm := up_mono h (show 1 ≤ V.log2 - 52 by omega)
      exact fin2 hm
/-- A sum, by sizes. -/
theorem tsB_fin {a b : Nat} (ha : a < 9218868437227405312) (hb : b < 9218868437227405312) : tsB a b = roundB (magB a + magB b) := by
  have h := add_fin (a := a) (b := b) (by omega) (by omega) (by omega) (by omega)
  rw [if_neg (by omega)] at h
  unfold tsB
  rw [h]
  unfold signB
  rw [sg_pos (by omega), sg_pos (by omega), if_neg (by omega)]
  show roundB (Int.natAbs _) = _
  congr 1
/-- Time goes on. -/
theorem ts_on {a b : Nat} (ha : a < 9218868437227405312) (hb : b < 9218868437227405312) : a ≤ tsB a b := by
  rw [tsB_fin ha hb]
  have := round_mono (show magB a ≤ magB a + magB b by omega)
  rwa [round_mag ha] at this
/-- A million seconds, in the smallest units. -/
def Mi : Nat := 1000000 * 2 ^ 1074
theorem mag_mi : magB 4696837146684686336 = Mi := by decide +kernel
theorem mag_le {a b : Nat} (h : a ≤ b) : magB a ≤ magB b := by
  rcases Nat.lt_or_eq_of_le h with q | q
  · exact Nat.le_of_lt (mag_mono q)
  · rw [q]; exact Nat.le_refl _
theorem mag_inf : 100 * Mi < magB 9218868437227405312 := by decide +kernel
theorem ts_far {a b n : Nat} (ha : a < 9218868437227405312) (hb : b < 4696837146684686336) (hn : n ≤ 90) (h : magB a ≤ n * Mi) : magB (tsB a b) ≤ (n + 1) * Mi ∧ tsB a b < 9218868437227405312 := by
  have h1 : magB (tsB a b) ≤ (n + 1) * Mi := by
    rw [tsB_fin ha (by omega)]
    have hb2 : magB b ≤ Mi := by rw [← mag_mi]; exact mag_le (by omega)
    have h2 := round_mono (show magB a + magB b ≤ (n + 1) * Mi by rw [Nat.add_mul]; omega)
    have h3 := mag_le h2
    have h4 := round_exact ((n + 1) * 1000000) 1074 (by omega) (by omega)
    rw [show (n + 1) * 1000000 * 2 ^ 1074 = (n + 1) * Mi by unfold Mi; rw [Nat.mul_assoc]] at h4
    rw [h4] at h3
    exact h3
  refine ⟨h1, ?_⟩
  rcases Nat.lt_or_ge (tsB a b) 9218868437227405312 with q | q
  · exact q
  · have h5 := mag_le q
    have h6 := mag_inf
    have h7 : (n + 1) * Mi ≤ 100 * Mi := Nat.mul_le_mul_right _ (by omega)
    omega
theorem ts_zero {b : Nat} (hb : b ≤ 9218868437227405312) : tsB 0 b = b := by
  by_cases h : b = 9218868437227405312
  · subst h; decide +kernel
  · rw [tsB_fin (by omega) (by omega), mag_zero, Nat.zero_add, round_mag (by omega)]
end Go.Proofs.Ytjplkffghfikgaa.Ck

/-
  What ClockOrder asks, by data: who has gone off, who was the last.
-/
namespace Go.Proofs.Ytjplkffghfikgaa.Ck
open Go.RowKit Rl
set_option linter.unusedVariables false
/-- The timers of the lengths D, set at 0. -/
def tmOf (D : List Nat) : List Tm := (List.range D.length).map fun (i : Nat) => ⟨(i : Int) + 1, plusB (D.getD i 0)⟩
theorem tmOf_snoc (D : List Nat) (d : Nat) : tmOf (D ++ [d]) = tmOf D ++ [⟨(D.length : Int) + 1, plusB d⟩] := by
  unfold tmOf
  rw [List.length_append, List.length_singleton, List.range_succ, List.map_append]
  congr 1
  · apply List.map_congr_left
    intro i hi
    have hi' : i < D.length := by simpa using hi
    simp [List.getD, List.getElem?_append_left hi']
  · simp [List.getD]
theorem mem_tm {D : List Nat} {t : Tm} (h : t ∈ tmOf D) : ∃ i : Nat, i < D.length ∧ t = ⟨(i : Int) + 1, plusB (D.getD i 0)⟩ := by
  unfold tmOf at h
  obtain ⟨i, hi, e⟩ := List.mem_map.1 h
  exact ⟨i, by simpa using hi, e.symm⟩
theorem tm_mem {D : List Nat} {i : Nat} (h : i < D.length) : (⟨(i : Int) + 1, plusB (D.getD i 0)⟩ : Tm) ∈ tmOf D := by
  unfold tmOf
  exact List.mem_map.2 ⟨i, by simpa using h, rfl⟩
/-- Of each number, whether it has gone off. -/
def offB (P : List Tm) (n : Nat) : List Bool := (List.range n).map fun (j : Nat) => P.any fun t => decide (t.id = (j : Int) + 1)
theorem offB_len (P : List Tm) (n : Nat) : (offB P n).length = n := by simp [offB]
theorem offB_get (P : List Tm) (n j : Nat) (h : j < n) : (offB P n).getD j false = P.any fun t => decide (t.id = (j : Int) + 1) := by
  simp [offB, List.getD, h]
theorem offB_set (P : List Tm) (n j : Nat) (t : Tm) (h : j < n) (ht : t.id = (j : Int) + 1) : (offB P n).set j true = offB (P ++ [t]) n := by
  apply List.ext_getElem?
  intro i
  rw [List.getElem?_set]
  by_cases hi : i < n
  · by_cases e : j = i
    · subst e
      rw [if_pos rfl, offB_len, if_pos h]
      simp [offB, h, ht]
    · rw [if_neg e]
      have : ¬ (t.id = (i : Int) + 1) := by omega
      simp [offB, hi, this]
  · rw [if_neg (by omega), List.getElem?_eq_none (by rw [offB_len]; omega), List.getElem?_eq_none (by rw [offB_len]; omega)]
/-- The last that went off. -/
def lastB (P : List Tm) : Nat × Int := match P.getLast? with
  | none => (13830554455654793216, 0)
  | some t => (t.b, t.id)
theorem lastB_snoc (P : List Tm) (t : Tm) : lastB (P ++ [t]) = (t.b, t.id) := by simp [lastB]
theorem keyB_pos {b : Nat} (h : b ≤ 9218868437227405312) : keyB b = b + 9223372036854775808 := by
  unfold keyB
  rw [nn h]
  simp
  omega
theorem Lt.b_le {x y : Tm} (h : Lt x y) (hx : x.b ≤ 9218868437227405312) (hy : y.b ≤ 9218868437227405312) : x.b ≤ y.b ∧ (x.b = y.b → x.id < y.id) := by
  unfold Lt at h
  rw [keyB_pos hx, keyB_pos hy] at h
  omega
theorem ord_neg2 {a : Nat} (ha : a ≤ 9218868437227405312) : FloatKind.f64.format.order a 13830554455654793216 = some .gt := by
  rw [order_eq (by omega) (by omega) (nn ha) (nneg (by omega) (by omega)), sg_pos ha]
  have h1 : sg 13830554455654793216 = -(magB 4607182418800017408 : Int) := by unfold sg; rw [if_neg (by omega)]
  have h2 : magB 0 < magB 4607182418800017408 := mag_mono (by omega)
  rw [mag_zero] at h2
  rw [h1, Int.compare_eq_gt.2 (by omega)]
/-- The next one: not off yet, not ahead of the last. -/
theorem next_ok {S P r : List Tm} {t : Tm} (hs : Srt S) (hu : Un S) (ht : Tt S) (e : S = P ++ t :: r) :
    (P.any fun x => decide (x.id = t.id)) = false ∧ (FloatKind.f64.format.order t.b (lastB P).1 = some .gt ∨ FloatKind.f64.format.order t.b (lastB P).1 = some .eq) ∧ (lastB P).1 < 18446744073709551616 ∧ (keyB t.b = keyB (lastB P).1 → ¬ (t.id < (lastB P).2)) := by
  have htb : t.b ≤ 9218868437227405312 := ht t (by rw [e]; simp)
  have hun : ∀ x ∈ P, x.id ≠ t.id := fun x hx => by
    unfold Un at hu
    rw [e, List.pairwise_append] at hu
    exact hu.2.2 x hx t (by simp)
  have hlt : ∀ x ∈ P, Lt x t := fun x hx => by
    unfold Srt at hs
    rw [e, List.pairwise_append] at hs
    exact hs.2.2 x hx t (by simp)
  refine ⟨?_, ?_⟩
  · rw [List.any_eq_false]
    intro x hx
    simpa using hun x hx
  · rcases List.eq_nil_or_concat P with rfl | ⟨Q, x, rfl⟩
    · refine ⟨.inl (ord_neg2 htb), by decide, fun h => ?_⟩
      exfalso
      rw [keyB_pos htb] at h
      have : keyB (lastB []).1 = 4616189618054758399 := by decide
      rw [this] at h
      omega
    · rw [List.concat_eq_append, lastB_snoc]
      have hx := hlt x (by simp)
      have hxb : x.b ≤ 9218868437227405312 := ht x (by rw [e]; simp)
      obtain ⟨q1, q2⟩ := hx.b_le hxb htb
      refine ⟨?_, by show x.b < _; omega, fun h => ?_⟩
      · show FloatKind.f64.format.order t.b x.b = _ ∨ FloatKind.f64.format.order t.b x.b = _
        rw [ord_pos htb hxb]
        rcases Nat.lt_or_eq_of_le q1 with q | q
        · exact .inl (by rw [Nat.compare_eq_gt.2 q])
        · exact .inr (by rw [q]; simp)
      · have h' : keyB t.b = keyB x.b := h
        rw [keyB_pos htb, keyB_pos hxb] at h'
        have := q2 (by omega)
        show ¬ (t.id < x.id)
        omega
/-- Who goes off: those whose time has come. -/
theorem mem_off {S : List Tm} {p : Nat} {t : Tm} (hs : Srt S) (ht : Tt S) : t ∈ offS p S ↔ t ∈ S ∧ t.b ≤ p := by
  induction S with
  | nil => simp [offS]
  | cons x r ih =>
    obtain ⟨h1, h2⟩ := List.pairwise_cons.1 hs
    have hxb : x.b ≤ 9218868437227405312 := ht x (by simp)
    have ht2 : Tt r := fun y hy => ht y (by simp [hy])
    have ih' := ih h2 ht2
    by_cases hx : x.b ≤ p
    · have e : offS p (x :: r) = x :: offS p r := by unfold offS; rw [List.takeWhile_cons_of_pos (by simpa using hx)]
      rw [e, List.mem_cons, List.mem_cons, ih']
      constructor
      · rintro (rfl | ⟨a, b⟩)
        · exact ⟨.inl rfl, hx⟩
        · exact ⟨.inr a, b⟩
      · rintro ⟨rfl | a, b⟩
        · exact .inl rfl
        · exact .inr ⟨a, b⟩
    · have e : offS p (x :: r) = [] := by unfold offS; rw [List.takeWhile_cons_of_neg (by simpa using hx)]
      rw [e]
      constructor
      · intro q; cases q
      · rintro ⟨q, hb⟩
        exfalso
        rcases List.mem_cons.1 q with rfl | q
        · exact hx hb
        · have := ((h1 t q).b_le hxb (ht2 t q)).1
          omega
theorem off_all {D : List Nat} {S : List Tm} {p j : Nat} (hs : Srt S) (ht : Tt S) (hp : S.Perm (tmOf D)) (hj : j < D.length) : ((offS p S).any fun t => decide (t.id = (j : Int) + 1)) = decide (plusB (D.getD j 0) ≤ p) := by
  rw [Bool.eq_iff_iff, List.any_eq_true, decide_eq_true_eq]
  constructor
  · rintro ⟨t, h1, h2⟩
    obtain ⟨h3, h4⟩ := (mem_off hs ht).1 h1
    obtain ⟨i, hi, e⟩ := mem_tm (hp.mem_iff.1 h3)
    have h2' : t.id = (j : Int) + 1 := by simpa using h2
    rw [e] at h2' h4
    simp only at h2' h4
    have : i = j := by omega
    rw [← this]
    exact h4
  · intro h
    exact ⟨_, (mem_off hs ht).2 ⟨hp.mem_iff.2 (tm_mem hj), h⟩, by simp⟩
theorem order_leq {d p : Nat} (hd : okD d = true) (hp : p ≤ 9218868437227405312) : FloatKind.f64.format.order d p = some (compare (plusB d) p) := by
  unfold okD at hd
  simp at hd
  rcases hd with h | h
  · rw [ord_pos h hp, plusB, if_neg (by omega)]
  · subst h; rw [ord_mz hp]; rfl
theorem add_zero {d : Nat} (hd : okD d = true) : Ieee.double.add d 0 = some (plusB d) := by
  unfold okD at hd
  simp at hd
  rcases hd with h | h
  · have h1 := (tsB_some h (show 0 ≤ 9218868437227405312 by omega)).1
    rw [h1, plusB, if_neg (by omega)]
    congr 1
    by_cases e : d = 9218868437227405312
    · subst e; decide +kernel
    · rw [tsB_fin (by omega) (by omega), mag_zero, Nat.add_zero, round_mag (by omega)]
  · subst h; decide +kernel
theorem add_zero_run {d : Nat} (hd : okD d = true) (w : World) : (binOp .add 29 (.float .f64 d) (.float .f64 0)).run Try.prog w = .ok (.float .f64 (plusB d)) w := by
  have h2 : FloatKind.f64.format.add d 0 = some (plusB d) := add_zero hd
  simp [binOp, Op.floatArith, h2]
end Go.Proofs.Ytjplkffghfikgaa.Ck

/-
  ClockRuns' walk.
-/
namespace Go.Proofs.Ytjplkffghfikgaa.Ck
open Go.RowKit Rl
set_option linter.unusedVariables false
theorem new0 (w : World) : Calls Try.prog 8 #[.float .f64 0] w fun e w' => Below w.heap.size w w' ∧ ∃ b, w.heap.size ≤ b ∧ e = .returned (.tuple #[.pointer (some ⟨b, 0, none⟩), .int .i64 0]) ∧ At w' b ⟨0, 1⟩ (.slice none 0 0) [] := by
  refine (new_any w 0 (by omega)).mono ?_
  rintro e w' ⟨h1, ⟨c, _⟩ | ⟨_, b, h2, h3, h4⟩⟩
  · exact absurd c (by decide)
  · exact ⟨h1, b, h2, h3, h4⟩
theorem ord_any (y x : Nat) : FloatKind.f64.format.order y x = none ∨ FloatKind.f64.format.order y x = some .lt ∨ FloatKind.f64.format.order y x = some .gt ∨ FloatKind.f64.format.order y x = some .eq := by
  cases h : FloatKind.f64.format.order y x with
  | none => exact .inl rfl
  | some o => cases o <;> simp
theorem off_len (p : Nat) (S : List Tm) : (offS p S).length ≤ S.length := (List.takeWhile_sublist _).length_le
end Go.Proofs.Ytjplkffghfikgaa.Ck

/-
  Rows beside a clock; numbers told to it one by one.
-/
namespace Go.Proofs.Ytjplkffghfikgaa.Ck
open Go.RowKit Rl
set_option linter.unusedVariables false
/-- Values as a list of memory of one's own, of another kind than timers. -/
def Rw (B : Nat) (T : TypeId) (w : World) (v : Value) (vs : List Value) : Prop := w.ownsRow B T 1 v vs.length vs
theorem rows_two {w : World} {b1 b2 e1 e2 s1 s2 n1 n2 : Nat} {v1 v2 : Value} {x1 x2 : List Value} (h1 : w.ownsRow b1 e1 s1 v1 n1 x1) (h2 : w.ownsRow b2 e2 s2 v2 n2 x2) (he : e1 ≠ e2) : ∀ k, v1.ownBlock = some k → v2.ownBlock ≠ some k := by
  rintro k k1 k2
  rcases h1.2 with ⟨rfl, _⟩ | ⟨g, cap, cur, rfl, hg, hh, r⟩
  · simp [Value.ownBlock] at k1
  rcases h2.2 with ⟨rfl, _⟩ | ⟨g', cap', cur', rfl, hg', hh', r'⟩
  · simp [Value.ownBlock] at k2
  simp [Value.ownBlock] at k1 k2
  subst k1 k2
  rw [hh] at hh'
  simp at hh'
  exact he hh'.2
theorem Rw.far {w : World} {B b : Nat} {T : TypeId} {c : C} {u v : Value} {l S : List Tm} {vs : List Value} (h : Rw B T w v vs) (hc : Ck w b c u l S) (h1 : T ≠ 56) (h2 : T ≠ 70) : ∀ k, v.ownBlock = some k → ¬ Own b u k := by
  rintro k hk (rfl | q)
  · exact rows_no h hc.at_.box (Ne.symm h1) hk
  · exact rows_two h hc.at_.row h2 k hk q
theorem Rw.stp {w w' : World} {B b : Nat} {T : TypeId} {c : C} {u u' v : Value} {l S : List Tm} {vs : List Value} (h : Rw B T w v vs) (hc : Ck w b c u l S) (h1 : T ≠ 56) (h2 : T ≠ 70) (s : Stp b u u' w w') : Rw B T w' v vs := rows_but h s.1 (h.far hc h1 h2)
theorem Rw.below {w w' : World} {B : Nat} {T : TypeId} {v : Value} {vs : List Value} (h : Rw B T w v vs) (hb : Below w.heap.size w w') : Rw B T w' v vs := rows_but h (But.of_below hb fun _ => False) fun _ _ c => c
theorem Rw.form {w : World} {B : Nat} {T : TypeId} {v : Value} {vs : List Value} (h : Rw B T w v vs) : ∃ ao ca, v = .slice ao vs.length ca := rows_form h
theorem Rw.read {w : World} {B : Nat} {T : TypeId} {ao : Option Addr} {n ca : Nat} {vs : List Value} (h : Rw B T w (.slice ao n ca) vs) (i : Nat) (hi : i < vs.length) : ∃ b, ao = some ⟨b, 0, none⟩ ∧ w.cell? ⟨b, i, none⟩ = some (vs.getD i undef) ∧ w.frozen? ⟨b, i, none⟩ = false := by
  rcases h.2 with ⟨e, q⟩ | ⟨g, cap, cur, e, hg, hh, a1, a2, a3, a4⟩
  · omega
  · simp at e
    obtain ⟨rfl, rfl, rfl⟩ := e
    refine ⟨g, rfl, ?_, by simp [World.frozen?, hh]⟩
    rw [cell_of hh, ← Array.getElem?_toList]
    have h1 : (cur.toList.take (vs.length * 1))[i]? = vs[i]? := by rw [a4]
    rw [List.getElem?_take_of_lt (by omega)] at h1
    rw [h1]
    simp [List.getD, hi]
/-- A cell of the row written over. -/
theorem Rw.set {w : World} {B b n ca : Nat} {T : TypeId} {vs : List Value} (h : Rw B T w (.slice (some ⟨b, 0, none⟩) n ca) vs) (hn : n = vs.length) (i : Nat) (x : Value) : Rw B T (w.setCell ⟨b, i, none⟩ x) (.slice (some ⟨b, 0, none⟩) n ca) (vs.set i x) ∧ But (fun k => k = b) w (w.setCell ⟨b, i, none⟩ x) := by
  subst hn
  obtain ⟨h1, h2⟩ := World.ownsRow.stored h i x
  refine ⟨?_, But.of_grownBy h2 fun k e => by cases e; rfl⟩
  unfold Rw
  rw [List.length_set]
  exact h1
theorem infoF : (Try.prog.info? 29).map (fun i => (i.zero, i.size, i.bytes)) = some (some (.float .f64 0), 1, 8) := by kernel_rfl
theorem infoBo : (Try.prog.info? 4).map (fun i => (i.zero, i.size, i.bytes)) = some (some (.bool false), 1, 1) := by kernel_rfl
theorem run_appFl {B : Nat} {w : World} {v : Value} {vs : List Value} (x : Nat) (gg : Nat) (h : Rw B 29 w v vs) (h0 : w.cell? ⟨gg, 0, none⟩ = some (.float .f64 x)) (hl : vs.length ≤ 1000000) (hB : B ≤ w.heap.size) (ty : TypeId) :
    ∃ v' w', (Builtin.append_ #[61, 61] ty #[v, .slice (some ⟨gg, 0, none⟩) 1 1]).run Try.prog w = .ok v' w' ∧ Rw B 29 w' v' (vs ++ [.float .f64 x]) ∧ w.grownBy w' v.ownBlock := by
  obtain ⟨i0, hi, hz0, hz1, hz2⟩ := info_parts infoF
  have hcells : ∀ j u, ([.float .f64 x] : List Value)[j]? = some u → w.cell? ((⟨gg, 0, none⟩ : Addr).add j) = some u := by
    intro j u hu
    rw [addr_add]
    match j with
    | 0 => simp at hu; subst hu; exact h0
    | j + 1 => simp at hu
  obtain ⟨v', w', hr, ho, hg, _, hat⟩ := run_append_own_at (P := Try.prog) w B 61 ty 29 i0 (.float .f64 0) 1 8 Try.underlying61 hi hz0 hz1 hz2 rfl (by decide) v vs.length vs h ⟨gg, 0, none⟩ 1 1 [.float .f64 x] rfl hcells (by
      intro u hu
      simp at hu
      rcases hu with rfl
      rfl) (by unfold maxLen; omega) (by omega) hB
  refine ⟨v', w', hr, ?_, hg⟩
  unfold Rw
  rw [List.length_append]
  exact ho
/-- Between the Afters of ClockOrder: the lengths D were taken. -/
def O1 (W wr : World) (b : Nat) (D : List Nat) (av : Value) : Prop := ∃ (v : Value) (l S : List Tm), Mine W wr b ⟨0, (D.length : Int) + 1⟩ v l S ∧ S.Perm (tmOf D) ∧ (∀ d ∈ D, okD d = true) ∧ Rw W.heap.size 29 wr av (D.map (Value.float .f64))
end Go.Proofs.Ytjplkffghfikgaa.Ck

/-
  ClockOrder: one more length.
-/
namespace Go.Proofs.Ytjplkffghfikgaa.Ck
open Go.RowKit Rl
set_option linter.unusedVariables false
theorem aft_no {d : Nat} {nx : Int} {S : List Tm} (h : okD d = false) : aftF 0 nx d S = (0, 1, S, nx) := by unfold aftF; rw [if_pos h]
theorem aft_yes {d : Nat} {nx : Int} {S : List Tm} (h : okD d = true) (hs : S.length < 256) : aftF 0 nx d S = (nx, 0, ins ⟨nx, plusB d⟩ S, nx + 1) := by
  unfold aftF
  rw [if_neg (by rw [h]; simp), if_neg (by omega), ts_zero (plus_ok h)]
theorem tmOf_len (D : List Nat) : (tmOf D).length = D.length := by simp [tmOf]
theorem O1.more {W w5 w6 : World} {b : Nat} {D : List Nat} {d : Nat} {v5 av av' : Value} {l5 S : List Tm} (hS : S.Perm (tmOf D)) (hD : ∀ x ∈ D, okD x = true) (hd : okD d = true)
    (M5 : Mine W w5 b ⟨0, (D.length : Int) + 1 + 1⟩ v5 l5 (ins ⟨(D.length : Int) + 1, plusB d⟩ S)) (bu : But (fun k => av.ownBlock = some k) w5 w6) (hav : ∀ k, av.ownBlock = some k → ¬ Own b v5 k) (hlo : ∀ k, av.ownBlock = some k → W.heap.size ≤ k) (R6 : Rw W.heap.size 29 w6 av' (D.map (Value.float .f64) ++ [.float .f64 d])) : O1 W w6 b (D ++ [d]) av' := by
  refine ⟨v5, l5, ins ⟨(D.length : Int) + 1, plusB d⟩ S, ?_, ?_, ?_, ?_⟩
  · have := M5.but bu (fun k ho e => hav k e ho) hlo
    rw [List.length_append]
    simpa using this
  · rw [tmOf_snoc]
    exact (ins_perm _ S).trans ((hS.cons _).trans (perm_snoc _ _).symm)
  · intro x hx
    rcases List.mem_append.1 hx with q | q
    · exact hD x q
    · simp at q; subst q; exact hd
  · rw [List.map_append]; exact R6
end Go.Proofs.Ytjplkffghfikgaa.Ck

/-
  ClockOrder between its steps: who went off, the rows beside.
-/
namespace Go.Proofs.Ytjplkffghfikgaa.Ck
open Go.RowKit Rl
set_option linter.unusedVariables false
/-- What stays true of the timers: in order, no number twice, times from 0 on, those of the lengths D. -/
structure Al (D : List Nat) (S0 : List Tm) : Prop where
  srt : Srt S0
  un : Un S0
  tt : Tt S0
  perm : S0.Perm (tmOf D)
  ok : ∀ d ∈ D, okD d = true
/-- P has gone off, S is left, the time is now. -/
def Cur (S0 P S : List Tm) (now : Nat) : Prop := (P = [] ∧ S = S0) ∨ (P = offS now S0 ∧ S = onS now S0)
theorem Cur.app {S0 P S : List Tm} {now : Nat} (h : Cur S0 P S now) : S0 = P ++ S := by
  rcases h with ⟨rfl, rfl⟩ | ⟨rfl, rfl⟩
  · rfl
  · exact (List.takeWhile_append_dropWhile).symm
theorem Cur.go {S0 P S : List Tm} {now p : Nat} (h : Cur S0 P S now) (hp : now ≤ p) : P ++ offS p S = offS p S0 ∧ onS p S = onS p S0 := by
  rcases h with ⟨rfl, rfl⟩ | ⟨rfl, rfl⟩
  · exact ⟨rfl, rfl⟩
  · exact off_two hp S0
/-- The rows beside the clock. -/
structure O3 (W w : World) (b : Nat) (D : List Nat) (now : Nat) (Q S : List Tm) (av ov ids : Value) (L : List Int) (v : Value) (l : List Tm) : Prop where
  m : Mine W w b ⟨now, (D.length : Int) + 1⟩ v l S
  at_ : Rw W.heap.size 29 w av (D.map (Value.float .f64))
  off : Rw W.heap.size 4 w ov ((offB Q D.length).map Value.bool)
  ids : Ids W.heap.size w ids L
theorem O3.quiet {W w w' : World} {b : Nat} {D : List Nat} {now : Nat} {Q S : List Tm} {av ov ids : Value} {L : List Int} {v : Value} {l : List Tm} (h : O3 W w b D now Q S av ov ids L v l) (hb : Below w.heap.size w w') : O3 W w' b D now Q S av ov ids L v l :=
  ⟨h.m.quiet hb, h.at_.below hb, h.off.below hb, h.ids.below hb⟩
/-- One more is marked. -/
theorem O3.set {W w : World} {b ob j n ca : Nat} {D : List Nat} {now : Nat} {Q S : List Tm} {av ids : Value} {L : List Int} {v : Value} {l : List Tm} {t : Tm} (h : O3 W w b D now Q S av (.slice (some ⟨ob, 0, none⟩) n ca) ids L v l) (hn : n = D.length) (hj : j < D.length) (ht : t.id = (j : Int) + 1) : O3 W (w.setCell ⟨ob, j, none⟩ (.bool true)) b D now (Q ++ [t]) S av (.slice (some ⟨ob, 0, none⟩) n ca) ids L v l := by
  obtain ⟨h1, h2⟩ := h.off.set (by rw [List.length_map, offB_len]; exact hn) j (.bool true)
  have hb : ∀ k, (Value.slice (some ⟨ob, 0, none⟩) n ca).ownBlock = some k → k = ob := fun k hk => by simp [Value.ownBlock] at hk; exact hk.symm
  have hob : W.heap.size ≤ ob := (World.ownsRow.lt h.off ob rfl).1
  refine ⟨h.m.but h2 (fun k ho e => h.off.far h.m.ck (by decide) (by decide) k (by rw [e]; rfl) ho) (fun k e => by rw [e]; exact hob), rows_but h.at_ h2 (fun k hk e => rows_two h.at_ h.off (by decide) k hk (by rw [e]; rfl)), ?_, rows_but h.ids h2 (fun k hk e => rows_two h.ids h.off (by decide) k hk (by rw [e]; rfl))⟩
  rw [← offB_set Q D.length j t hj ht, List.map_set]
  exact h1
theorem ids_read {w : World} {B : Nat} {ao : Option Addr} {n ca : Nat} {L : List Int} (h : Ids B w (.slice ao n ca) L) (i : Nat) (hi : i < L.length) : ∃ b, ao = some ⟨b, 0, none⟩ ∧ w.cell? ⟨b, i, none⟩ = some (.int .i64 (L.getD i 0)) := by
  have h' : Rw B 3 w (.slice ao n ca) (L.map (Value.int .i64)) := by unfold Rw; rw [List.length_map]; exact h
  obtain ⟨b, e, c, _⟩ := h'.read i (by simpa using hi)
  refine ⟨b, e, ?_⟩
  rw [c]
  simp [List.getD, hi]
theorem x_facts {x : Nat} (hx6 : x < 18446744073709551616) (ox : FloatKind.f64.format.order x 4562254508917369340 = some .gt) (oy : FloatKind.f64.format.order x 4696837146684686336 = some .lt) : x < 4696837146684686336 := by
  rcases fcase hx6 with q | q | q | q
  · rw [order_nan (.inl q)] at ox; cases ox
  · rw [ord_pos q (by omega)] at oy
    simp at oy
    exact Nat.compare_eq_lt.1 oy
  · subst q
    rw [ord_mz (by omega), Nat.compare_eq_lt.2 (by omega)] at ox
    cases ox
  · rw [ord_neg q.1 q.2 (by omega)] at ox; cases ox
theorem offB_nil (n : Nat) : (offB [] n).map Value.bool = List.replicate n (.bool false) := by
  apply List.ext_getElem?
  intro i
  by_cases h : i < n
  · simp [offB, h]
  · rw [List.getElem?_eq_none (by rw [List.length_map, offB_len]; omega), List.getElem?_eq_none (by simp; omega)]
theorem le_no_gt {a b : Nat} (ha : a ≤ 9218868437227405312) (hb : b ≤ 9218868437227405312) (h : a ≤ b) : (FloatKind.f64.format.order a b == some Ordering.gt) = false := by
  rw [ord_pos ha hb]
  rcases cmp_le h with e | e <;> rw [e] <;> rfl
theorem ge_no_lt {o : Option Ordering} (h : o = some .gt ∨ o = some .eq) : (o == some Ordering.lt) = false := by rcases h with rfl | rfl <;> rfl
/-- The i-th of those that go off now. -/
theorem cur_at {D : List Nat} {S0 P S : List Tm} {now p i : Nat} (ha : Al D S0) (hc : Cur S0 P S now) (hi : i < (offS p S).length) :
    ∃ (j : Nat) (t : Tm), j < D.length ∧ t = ⟨(j : Int) + 1, plusB (D.getD j 0)⟩ ∧ ((offS p S).map Tm.id).getD i 0 = (j : Int) + 1 ∧ okD (D.getD j 0) = true ∧ t.b ≤ p ∧ (offS p S).take (i + 1) = (offS p S).take i ++ [t] ∧
      ((P ++ (offS p S).take i).any fun x => decide (x.id = t.id)) = false ∧ (FloatKind.f64.format.order t.b (lastB (P ++ (offS p S).take i)).1 == some Ordering.lt) = false ∧ (lastB (P ++ (offS p S).take i)).1 < 18446744073709551616 ∧ (keyB t.b = keyB (lastB (P ++ (offS p S).take i)).1 → ¬ (t.id < (lastB (P ++ (offS p S).take i)).2)) := by
  obtain ⟨t, ht⟩ : ∃ t, (offS p S)[i] = t := ⟨_, rfl⟩
  have hts : (offS p S).take (i + 1) = (offS p S).take i ++ [t] := by rw [List.take_succ_eq_append_getElem hi, ht]
  have hSo : S = offS p S ++ onS p S := (List.takeWhile_append_dropWhile).symm
  have hsp : S0 = (P ++ (offS p S).take i) ++ t :: ((offS p S).drop (i + 1) ++ onS p S) := by
    rw [hc.app]
    conv => lhs; rw [hSo]
    conv => lhs; rw [← List.take_append_drop i (offS p S), List.drop_eq_getElem_cons hi, ht]
    simp
  have htS : t ∈ S0 := by rw [hsp]; simp
  obtain ⟨j, hj, e⟩ := mem_tm (ha.perm.mem_iff.1 htS)
  obtain ⟨n1, n2, n3, n4⟩ := next_ok ha.srt ha.un ha.tt hsp
  have hmem : t ∈ offS p S := by rw [← ht]; exact List.getElem_mem hi
  have htb : t.b ≤ p := by
    have h1 : Srt S := by have := ha.srt; rw [hc.app] at this; exact (List.pairwise_append.1 this).2.1
    have h2 : Tt S := fun y hy => ha.tt y (by rw [hc.app]; simp [hy])
    exact ((mem_off h1 h2).1 hmem).2
  refine ⟨j, t, hj, e, ?_, ha.ok _ (by simp only [List.getD, List.getElem?_eq_getElem hj, Option.getD_some]; exact List.getElem_mem hj), htb, hts, n1, ge_no_lt n2, n3, n4⟩
  simp only [List.getD, List.getElem?_map, List.getElem?_eq_getElem hi, ht, Option.map_some, Option.getD_some, e]
end Go.Proofs.Ytjplkffghfikgaa.Ck

