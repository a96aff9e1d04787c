/-
  After of the clock.
-/
import Derived.Test.YtjplkffghfikgaaN02
import Derived.Deep.CutRange
import Derived.RangeFuncBound
import Derived.Shelf.Abstract
import Derived.WalkKit
import Derived.OwnWalkIn
import Derived.TacticsInMore
import Derived.LoopNIn
import Derived.LoopIn
import Derived.Handy
import Derived.Maps.OwnIn
import Derived.Test.YtjplkffghfikgaaN01
import Derived.Sort.OwnSorted
import Derived.Shelf.SlGeneric
import Derived.Shelf.SlSortCmp.NoneTotal
import Derived.Ground.SlsfProg
import Derived.Test.YtjplkffghfikgaaProg
import Derived.Laws.AppendOwnNone
import Derived.Deep.DeepAppendWide
namespace Go.Proofs.Ytjplkffghfikgaa.Ck
open Go.RowKit Rl
set_option linter.unusedVariables false
open Ix (wp_region_T wpAnyT wpAnyT_take wpAnyT_one wpAnyT_done vac)
/-- Two may come up. -/
theorem wpAnyT_two {P : Program} {ops : Array Oper} {Q : Exit → Act → World → Prop} {md : Region.Mode} {S : World → Prop} {d : Nat} {i j : Nat} {oi oj : Oper} {fuel : Nat} {listed : Array Bool} {a : Act} {w : World} (hr : Region.ready md ops listed = [i, j]) (hoi : ops[i]? = some oi) (hoj : ops[j]? = some oj)
    (hI : ∀ K' : Act → World → Prop, Shut (∀ a w, ((listed.setIfInBounds i true).getD d false = false → S w) → wpAnyT P md ops Q S d fuel (listed.setIfInBounds i true) a w → K' a w) → if Region.wanted oi (yielded ops a.tmps) = true then Oper.wp P oi a w K' Q else K' (a.put oi.dst undef) w)
    (hJ : ∀ K' : Act → World → Prop, Shut (∀ a w, ((listed.setIfInBounds j true).getD d false = false → S w) → wpAnyT P md ops Q S d fuel (listed.setIfInBounds j true) a w → K' a w) → if Region.wanted oj (yielded ops a.tmps) = true then Oper.wp P oj a w K' Q else K' (a.put oj.dst undef) w) :
    wpAnyT P md ops Q S d (fuel + 1) listed a w := by
  refine ⟨fun h0 => (by rw [h0] at hr; cases hr), fun k hk => ?_⟩
  rw [hr] at hk
  simp only [List.mem_cons, List.not_mem_nil, or_false] at hk
  rcases hk with rfl | rfl
  · exact wpOp_step hoi (fun K' hK => hI K' (fun a w hS hW => hK a w ⟨hS, hW⟩))
  · exact wpOp_step hoj (fun K' hK => hJ K' (fun a w hS hW => hK a w ⟨hS, hW⟩))
/-- May a length of time be? -/
def okD (d : Nat) : Bool := decide (d ≤ 9218868437227405312 ∨ d = 9223372036854775808)
/-- After: the number, the error's, the timers, the next number. -/
def aftF (now : Nat) (nx : Int) (d : Nat) (S : List Tm) : Int × Int × List Tm × Int :=
  if okD d = false then (0, 1, S, nx) else if 256 ≤ S.length then (0, 9, S, nx) else (nx, 0, ins ⟨nx, tsB now (plusB d)⟩ S, nx + 1)
theorem plus_ok {d : Nat} (h : okD d = true) : plusB d ≤ 9218868437227405312 := by
  unfold okD at h
  simp at h
  unfold plusB
  split <;> omega
theorem order_ok {d : Nat} (hd : d < 18446744073709551616) (h : okD d = true) : FloatKind.f64.format.order d 0 = some .gt ∨ FloatKind.f64.format.order d 0 = some .eq := by
  unfold okD at h
  simp at h
  rcases h with h | h
  · rw [ord_pos h (by omega)]
    by_cases h0 : d = 0
    · subst h0; exact .inr (by simp)
    · exact .inl (by rw [cmp0 (by omega)])
  · subst h; rw [ord_mz (by omega)]; exact .inr (by decide)
theorem order_no {d : Nat} (hd : d < 18446744073709551616) (h : okD d = false) : FloatKind.f64.format.order d 0 = none ∨ FloatKind.f64.format.order d 0 = some .lt := by
  unfold okD at h
  simp at h
  rcases fcase hd with q | q | q | q
  · exact .inl (order_nan (.inl q))
  · omega
  · omega
  · exact .inr (ord_neg q.1 q.2 (by omega))
/-- Numbers of timers: below the next one. -/
def Nb (nx : Int) (S : List Tm) : Prop := ∀ t ∈ S, t.id < nx
theorem Ck.after {w w' : World} {b : Nat} {c : C} {v v' : Value} {l l' S : List Tm} {t : Nat} (h : Ck w b c v l S) (hnb : Nb c.nx S) (hs : S.length < 256) (ht : t ≤ 9218868437227405312) (ha : At w' b ⟨c.now, c.nx + 1⟩ v' l') (hp : Hp l') (hq : l'.Perm (⟨c.nx, t⟩ :: l)) : Ck w' b ⟨c.now, c.nx + 1⟩ v' l' (ins ⟨c.nx, t⟩ S) where
  at_ := ha
  hp := hp
  perm := hq.trans ((h.perm.cons _).trans (ins_perm _ S).symm)
  srt := ins_srt h.srt fun y hy => by have := hnb y hy; simp; omega
  tt := fun x hx => by
    rcases List.mem_cons.1 ((ins_perm _ S).mem_iff.1 hx) with e | e
    · rw [e]; exact ht
    · exact h.tt x e
  nx := by have := h.nx; simp; omega
  len := by rw [ins_len]; omega
  now := h.now
set_option maxRecDepth 100000 in
set_option maxHeartbeats 4000000 in
theorem after_any (w : World) (b d : Nat) (c : C) (v : Value) (l S : List Tm) (h : Ck w b c v l S) (hnb : Nb c.nx S) (hd : d < 18446744073709551616) (hnx : c.nx ≤ 1000000) : Calls Try.prog 11 #[.pointer (some ⟨b, 0, none⟩), .float .f64 d] w fun e w' => e = .returned (.tuple #[.int .i64 (aftF c.now c.nx d S).1, .int .i64 (aftF c.now c.nx d S).2.1]) ∧ ∃ v' l', Ck w' b ⟨c.now, (aftF c.now c.nx d S).2.2.2⟩ v' l' (aftF c.now c.nx d S).2.2.1 ∧ Stp b v v' w w' := by
  have sf : ∀ (W : World) (a : Addr) (x : Nat), (store a (.float .f64 x)).run Try.prog W = stored Try.prog W a (.float .f64 x) .plain := fun W a x => run_store _ W a _ _ rfl
  have hM := made_any w b c v l h.at_ h.nx
  have hP := plus_any w d hd
  obtain ⟨c0, c1, c2⟩ := h.at_.cells
  obtain ⟨f0, f1, f2⟩ := h.at_.frozen
  obtain ⟨z, hz⟩ : ∃ z, Hid (aftF c.now c.nx d S = z) := ⟨_, rfl⟩
  rw [hz.out]
  cases hok : okD d
  · obtain rfl : z = (0, 1, S, c.nx) := by rw [← hz.out]; simp [aftF, hok]
    have H := hide h
    clear h
    rcases order_no hd hok with e | e
    all_goals
      go_enter Try.func11, Try.ntmps11
      go_wp2_with (go_at_call 30; refine hM.mono ?_; rintro e w' ⟨rfl, hw⟩; rw [hw]; clear hw w')
      go_ret2
      exact ⟨rfl, v, l, H.out, Stp.refl _ _ _⟩
  · obtain ⟨ao, ca, rfl, q1, q2⟩ := h.at_.row.form
    by_cases hs : 256 ≤ S.length
    · obtain rfl : z = (0, 9, S, c.nx) := by rw [← hz.out]; simp [aftF, hok, hs]
      have hl : (256 : Int) ≤ (l.length : Int) := by rw [h.perm.length_eq]; omega
      have H := hide h
      clear h
      generalize l.length = N at *
      rcases order_ok hd hok with e | e
      all_goals
        go_enter Try.func11, Try.ntmps11
        go_wp2_with (go_at_call 30; refine hM.mono ?_; rintro e w' ⟨rfl, hw⟩; rw [hw]; clear hw w')
        go_ret2
        exact ⟨rfl, _, l, H.out, Stp.refl _ _ _⟩
    · obtain ⟨T, hT⟩ : ∃ T, Hid (tsB c.now (plusB d) = T) := ⟨_, rfl⟩
      obtain rfl : z = (c.nx, 0, ins ⟨c.nx, T⟩ S, c.nx + 1) := by rw [← hz.out, ← hT.out]; simp [aftF, hok, hs]
      have hTle : Hid (T ≤ 9218868437227405312) := by rw [← hT.out]; exact (tsB_some (Nat.le_of_lt h.now) (plus_ok hok)).2
      have hA := add_run (Nat.le_of_lt h.now) (plus_ok hok)
      rw [hT.out] at hA
      have hl : ¬ ((256 : Int) ≤ (l.length : Int)) := by rw [h.perm.length_eq]; omega
      have hl3 : Hid (l.length ≤ 255) := by show _ ≤ _; omega
      have hs' := hide hs
      have H := hide h
      have hnb' := hide hnb
      have hn1 := h.nx
      clear h hs hnb hz
      obtain ⟨N, hN⟩ : ∃ N, Hid (l.length = N) := ⟨_, rfl⟩
      rw [hN.out] at hl c2 H ⊢
      rcases order_ok hd hok with e | e
      all_goals
        go_enter Try.func11, Try.ntmps11
        go_upto_region 5 with (first | (go_at_call 30; refine hM.mono ?_; rintro e w' ⟨rfl, hw⟩; rw [hw]; clear hw w') | fail)
        go_cut [6] from 23 to 34 (fun y wx => y = .pointer (some ⟨w.heap.size, 0, none⟩) ∧ Hid (Below w.heap.size w wx ∧ Tw wx w.heap.size ⟨c.nx, T⟩))
        case first =>
          have KP : Hid (Bx w.drew b c (.slice ao N ca)) := H.out.at_.box
          have KB : Hid (Below w.heap.size w w.drew) := (Below.refl _ _).drew
          have hgs : Hid (w.drew.heap.size = w.heap.size) := rfl
          refine wp_region_T (fun q => Bx q b c (.slice ao N ca)) 13 (by kernel_rfl) ?_
          generalize w.drew = q at *
          refine wpAnyT_take (i := 0) (oi := { dst := some 23, op := Op.move (Operand.tmp 0), type := 25, pos := "clock.go:60", after := #[], guard := none }) (v := .pointer (some ⟨b, 0, none⟩)) [1, 2, 3, 11, 13] rfl (by kernel_rfl) (by kernel_rfl) (by kernel_rfl) (by kernel_rfl) (fun _ _ _ h => h) (Or.inl ⟨by rfl, ?_⟩) KP.out ?_
          · intro wq hSw
            obtain ⟨y0, y1, y2⟩ := trc hSw
            go_simp
          (try simp only [Act.put, List.setIfInBounds_toArray, List.set_cons_zero, List.set_cons_succ])
          refine wpAnyT_take (i := 1) (oi := { dst := some 24, op := Op.nilCheck (Operand.tmp 23), type := 0, pos := "clock.go:60", after := #[{ on := 0, ground := Ground.data }], guard := none }) (v := .pointer (some ⟨b, 0, none⟩)) [2, 3, 11, 13] rfl (by kernel_rfl) (by kernel_rfl) (by kernel_rfl) (by kernel_rfl) (fun _ _ _ h => h) (Or.inl ⟨by rfl, ?_⟩) KP.out ?_
          · intro wq hSw
            obtain ⟨y0, y1, y2⟩ := trc hSw
            go_simp
          (try simp only [Act.put, List.setIfInBounds_toArray, List.set_cons_zero, List.set_cons_succ])
          refine wpAnyT_take (i := 2) (oi := { dst := some 25, op := Op.fieldAddr 56 (Operand.tmp 24) 1, type := 0, pos := "clock.go:60", after := #[{ on := 1, ground := Ground.data }], guard := none }) (v := .pointer (some ⟨b, 1, none⟩)) [3, 11, 13] rfl (by kernel_rfl) (by kernel_rfl) (by kernel_rfl) (by kernel_rfl) (fun _ _ _ h => h) (Or.inl ⟨by rfl, ?_⟩) KP.out ?_
          · intro wq hSw
            obtain ⟨y0, y1, y2⟩ := trc hSw
            go_simp
          (try simp only [Act.put, List.setIfInBounds_toArray, List.set_cons_zero, List.set_cons_succ])
          refine wpAnyT_take (i := 3) (oi := { dst := some 26, op := Op.load 3 (Operand.tmp 25), type := 3, pos := "clock.go:60", after := #[{ on := 2, ground := Ground.data }], guard := none }) (v := .int .i64 c.nx) [11, 13] rfl (by kernel_rfl) (by kernel_rfl) (by kernel_rfl) (by kernel_rfl) (fun _ _ _ h => h) (Or.inl ⟨by rfl, ?_⟩) KP.out ?_
          · intro wq hSw
            obtain ⟨y0, y1, y2⟩ := trc hSw
            go_simp
          (try simp only [Act.put, List.setIfInBounds_toArray, List.set_cons_zero, List.set_cons_succ])
          refine wpAnyT_take (i := 4) (oi := { dst := some 27, op := Op.move (Operand.tmp 0), type := 25, pos := "clock.go:60", after := #[], guard := none }) (v := .pointer (some ⟨b, 0, none⟩)) [5, 6, 7, 10, 11, 13] rfl (by kernel_rfl) (by kernel_rfl) (by kernel_rfl) (by kernel_rfl) (fun _ _ _ h => h) (Or.inl ⟨by rfl, ?_⟩) KP.out ?_
          · intro wq hSw
            obtain ⟨y0, y1, y2⟩ := trc hSw
            go_simp
          (try simp only [Act.put, List.setIfInBounds_toArray, List.set_cons_zero, List.set_cons_succ])
          refine wpAnyT_take (i := 5) (oi := { dst := some 28, op := Op.nilCheck (Operand.tmp 27), type := 0, pos := "clock.go:60", after := #[{ on := 4, ground := Ground.data }], guard := none }) (v := .pointer (some ⟨b, 0, none⟩)) [6, 7, 10, 11, 13] rfl (by kernel_rfl) (by kernel_rfl) (by kernel_rfl) (by kernel_rfl) (fun _ _ _ h => h) (Or.inl ⟨by rfl, ?_⟩) KP.out ?_
          · intro wq hSw
            obtain ⟨y0, y1, y2⟩ := trc hSw
            go_simp
          (try simp only [Act.put, List.setIfInBounds_toArray, List.set_cons_zero, List.set_cons_succ])
          refine wpAnyT_take (i := 6) (oi := { dst := some 29, op := Op.fieldAddr 56 (Operand.tmp 28) 0, type := 0, pos := "clock.go:60", after := #[{ on := 5, ground := Ground.data }], guard := none }) (v := .pointer (some ⟨b, 0, none⟩)) [7, 10, 11, 13] rfl (by kernel_rfl) (by kernel_rfl) (by kernel_rfl) (by kernel_rfl) (fun _ _ _ h => h) (Or.inl ⟨by rfl, ?_⟩) KP.out ?_
          · intro wq hSw
            obtain ⟨y0, y1, y2⟩ := trc hSw
            go_simp
          (try simp only [Act.put, List.setIfInBounds_toArray, List.set_cons_zero, List.set_cons_succ])
          refine wpAnyT_take (i := 7) (oi := { dst := some 30, op := Op.load 29 (Operand.tmp 29), type := 29, pos := "clock.go:60", after := #[{ on := 6, ground := Ground.data }], guard := none }) (v := .float .f64 c.now) [10, 11, 13] rfl (by kernel_rfl) (by kernel_rfl) (by kernel_rfl) (by kernel_rfl) (fun _ _ _ h => h) (Or.inl ⟨by rfl, ?_⟩) KP.out ?_
          · intro wq hSw
            obtain ⟨y0, y1, y2⟩ := trc hSw
            go_simp
          (try simp only [Act.put, List.setIfInBounds_toArray, List.set_cons_zero, List.set_cons_succ])
          refine wpAnyT_take (i := 8) (oi := { dst := some 31, op := Op.move (Operand.tmp 1), type := 29, pos := "clock.go:60", after := #[], guard := none }) (v := .float .f64 d) [9, 10, 11, 13] rfl (by kernel_rfl) (by kernel_rfl) (by kernel_rfl) (by kernel_rfl) (fun _ _ _ h => h) (Or.inl ⟨by rfl, ?_⟩) KP.out ?_
          · intro wq hSw
            obtain ⟨y0, y1, y2⟩ := trc hSw
            go_simp
          (try simp only [Act.put, List.setIfInBounds_toArray, List.set_cons_zero, List.set_cons_succ])
          refine wpAnyT_two (i := 9) (j := 12) (oi := { dst := some 32, op := Op.call { callee := Callee.value (Operand.func 28), args := #[Operand.tmp 31], argTypes := #[29] }, type := 29, pos := "clock.go:60", after := #[{ on := 8, ground := Ground.data }], guard := none }) (oj := { dst := some 6, op := Op.alloc 70, type := 0, pos := "clock.go:60", after := #[], guard := none }) (by kernel_rfl) rfl rfl (fun K hK => ?_) (fun K hK => ?_)
          · go_simp
            go_at_call 28
            refine (plus_any _ d hd).mono ?_
            rintro e w' ⟨rfl, hw⟩
            rw [hw]
            clear hw w'
            (try go_simp)
            refine hK.out _ _ (fun _ => KP.out) ?_
            clear hK K
            (try simp only [Act.put, List.setIfInBounds_toArray, List.set_cons_zero, List.set_cons_succ])
            refine wpAnyT_take (i := 10) (oi := { dst := some 33, op := Op.binOp BinOp.add 29 (Operand.tmp 30) (Operand.tmp 32) 29, type := 29, pos := "clock.go:60", after := #[{ on := 7, ground := Ground.data }, { on := 9, ground := Ground.data }], guard := none }) (v := .float .f64 T) [11, 13] rfl (by kernel_rfl) (by kernel_rfl) (by kernel_rfl) (by kernel_rfl) (fun _ _ _ h => h) (Or.inl ⟨by rfl, ?_⟩) KP.out ?_
            · intro wq hSw
              obtain ⟨y0, y1, y2⟩ := trc hSw
              go_simp
            (try simp only [Act.put, List.setIfInBounds_toArray, List.set_cons_zero, List.set_cons_succ])
            refine wpAnyT_take (i := 11) (oi := { dst := some 34, op := Op.build 70 #[(0, Operand.tmp 26), (1, Operand.tmp 33)], type := 70, pos := "clock.go:60", after := #[{ on := 3, ground := Ground.data }, { on := 10, ground := Ground.data }], guard := none }) (v := .agg #[.int .i64 c.nx, .float .f64 T]) [13] rfl (by kernel_rfl) (by kernel_rfl) (by kernel_rfl) (by kernel_rfl) (fun _ _ _ h => h) (Or.inl ⟨by rfl, ?_⟩) KP.out ?_
            · intro wq hSw
              obtain ⟨y0, y1, y2⟩ := trc hSw
              go_simp
            (try simp only [Act.put, List.setIfInBounds_toArray, List.set_cons_zero, List.set_cons_succ])
            have BK : Hid (Bx (q.alloc (.cells #[.int .i64 0, .float .f64 0] 70)) b c (.slice ao N ca)) := ((box_below q (.cells #[.int .i64 0, .float .f64 0] 70)).block b (heap_lt KP.out)).trans KP.out
            have FIN : Hid (Below w.heap.size w (q.alloc (.cells #[.int .i64 c.nx, .float .f64 T] 70)) ∧ Tw (q.alloc (.cells #[.int .i64 c.nx, .float .f64 T] 70)) w.heap.size ⟨c.nx, T⟩) := ⟨keepF KB.out (box_below q (.cells #[.int .i64 c.nx, .float .f64 T] 70)), by rw [← hgs.out]; exact heap_alloc_new q (.cells #[.int .i64 c.nx, .float .f64 T] 70)⟩
            refine wpAnyT_one (i := 12) (o := { dst := some 6, op := Op.alloc 70, type := 0, pos := "clock.go:60", after := #[], guard := none }) (by kernel_rfl) rfl (fun K hK => ?_)
            go_simp
            refine hK.out _ _ (fun _ => (BK.out : Bx _ b c (.slice ao N ca))) ?_
            clear hK K
            (try simp only [Act.put, List.setIfInBounds_toArray, List.set_cons_zero, List.set_cons_succ])
            refine wpAnyT_one (i := 13) (o := { dst := none, op := Op.store 70 (Operand.tmp 6) (Operand.tmp 34), type := 0, pos := "clock.go:60", after := #[{ on := 12, ground := Ground.data }, { on := 11, ground := Ground.data }, { on := 9, ground := Ground.chain }, { on := 0, ground := Ground.phase }, { on := 1, ground := Ground.phase }, { on := 2, ground := Ground.phase }, { on := 3, ground := Ground.phase }, { on := 4, ground := Ground.phase }, { on := 5, ground := Ground.phase }, { on := 6, ground := Ground.phase }, { on := 7, ground := Ground.phase }, { on := 8, ground := Ground.phase }, { on := 9, ground := Ground.phase }, { on := 10, ground := Ground.phase }, { on := 11, ground := Ground.phase }, { on := 12, ground := Ground.phase }], guard := none }) (by kernel_rfl) rfl (fun K hK => ?_)
            go_simp
            refine hK.out _ _ (vac (by kernel_rfl)) ?_
            clear hK K
            (try simp only [Act.put, List.setIfInBounds_toArray, List.set_cons_zero, List.set_cons_succ])
            refine wpAnyT_done (by kernel_rfl) ?_ _
            go_wp2_with fail
            go_meet
            case rel => exact ⟨by rw [← hgs.out], FIN.out⟩
          · have BK : Hid (Bx (q.alloc (.cells #[.int .i64 0, .float .f64 0] 70)) b c (.slice ao N ca)) := ((box_below q (.cells #[.int .i64 0, .float .f64 0] 70)).block b (heap_lt KP.out)).trans KP.out
            have FIN : Hid (Below w.heap.size w (q.alloc (.cells #[.int .i64 c.nx, .float .f64 T] 70)) ∧ Tw (q.alloc (.cells #[.int .i64 c.nx, .float .f64 T] 70)) w.heap.size ⟨c.nx, T⟩) := ⟨keepF KB.out (box_below q (.cells #[.int .i64 c.nx, .float .f64 T] 70)), by rw [← hgs.out]; exact heap_alloc_new q (.cells #[.int .i64 c.nx, .float .f64 T] 70)⟩
            go_simp
            refine hK.out _ _ (fun _ => (BK.out : Bx _ b c (.slice ao N ca))) ?_
            clear hK K
            (try simp only [Act.put, List.setIfInBounds_toArray, List.set_cons_zero, List.set_cons_succ])
            refine wpAnyT_one (i := 9) (o := { dst := some 32, op := Op.call { callee := Callee.value (Operand.func 28), args := #[Operand.tmp 31], argTypes := #[29] }, type := 29, pos := "clock.go:60", after := #[{ on := 8, ground := Ground.data }], guard := none }) (by kernel_rfl) rfl (fun K hK => ?_)
            go_simp
            go_at_call 28
            refine (plus_any _ d hd).mono ?_
            rintro e w' ⟨rfl, hw⟩
            rw [hw]
            clear hw w'
            (try go_simp)
            refine hK.out _ _ (fun _ => BK.out) ?_
            clear hK K
            (try simp only [Act.put, List.setIfInBounds_toArray, List.set_cons_zero, List.set_cons_succ])
            refine wpAnyT_take (i := 10) (oi := { dst := some 33, op := Op.binOp BinOp.add 29 (Operand.tmp 30) (Operand.tmp 32) 29, type := 29, pos := "clock.go:60", after := #[{ on := 7, ground := Ground.data }, { on := 9, ground := Ground.data }], guard := none }) (v := .float .f64 T) [11, 13] rfl (by kernel_rfl) (by kernel_rfl) (by kernel_rfl) (by kernel_rfl) (fun _ _ _ h => h) (Or.inl ⟨by rfl, ?_⟩) BK.out ?_
            · intro wq hSw
              obtain ⟨y0, y1, y2⟩ := trc hSw
              go_simp
            (try simp only [Act.put, List.setIfInBounds_toArray, List.set_cons_zero, List.set_cons_succ])
            refine wpAnyT_take (i := 11) (oi := { dst := some 34, op := Op.build 70 #[(0, Operand.tmp 26), (1, Operand.tmp 33)], type := 70, pos := "clock.go:60", after := #[{ on := 3, ground := Ground.data }, { on := 10, ground := Ground.data }], guard := none }) (v := .agg #[.int .i64 c.nx, .float .f64 T]) [13] rfl (by kernel_rfl) (by kernel_rfl) (by kernel_rfl) (by kernel_rfl) (fun _ _ _ h => h) (Or.inl ⟨by rfl, ?_⟩) BK.out ?_
            · intro wq hSw
              obtain ⟨y0, y1, y2⟩ := trc hSw
              go_simp
            (try simp only [Act.put, List.setIfInBounds_toArray, List.set_cons_zero, List.set_cons_succ])
            refine wpAnyT_one (i := 13) (o := { dst := none, op := Op.store 70 (Operand.tmp 6) (Operand.tmp 34), type := 0, pos := "clock.go:60", after := #[{ on := 12, ground := Ground.data }, { on := 11, ground := Ground.data }, { on := 9, ground := Ground.chain }, { on := 0, ground := Ground.phase }, { on := 1, ground := Ground.phase }, { on := 2, ground := Ground.phase }, { on := 3, ground := Ground.phase }, { on := 4, ground := Ground.phase }, { on := 5, ground := Ground.phase }, { on := 6, ground := Ground.phase }, { on := 7, ground := Ground.phase }, { on := 8, ground := Ground.phase }, { on := 9, ground := Ground.phase }, { on := 10, ground := Ground.phase }, { on := 11, ground := Ground.phase }, { on := 12, ground := Ground.phase }], guard := none }) (by kernel_rfl) rfl (fun K hK => ?_)
            go_simp
            refine hK.out _ _ (vac (by kernel_rfl)) ?_
            clear hK K
            (try simp only [Act.put, List.setIfInBounds_toArray, List.set_cons_zero, List.set_cons_succ])
            refine wpAnyT_done (by kernel_rfl) ?_ _
            go_wp2_with fail
            go_meet
            case rel => exact ⟨by rw [← hgs.out], FIN.out⟩
        case rest =>
          obtain ⟨rfl, hcu⟩ := hcut
          clear c0 c1 c2 f0 f1 f2 hM hP hA sf
          have H2 : Hid (Ck wc b c (.slice ao N ca) l S) := H.out.below hcu.out.1
          have hU := hide (fun wq (hq : Ck wq b c (.slice ao N ca) l S) => hpush_any wq b c (.slice ao N ca) l ⟨c.nx, T⟩ hq.at_ hq.hp (hq.tt.perm hq.perm).bt (by have := hTle.out; show T < _; omega) (by have := hl3.out; omega))
          have hvg : Hid (¬ Own b (.slice ao N ca) w.heap.size) := fun q => by have := H.out.at_.lt _ q; omega
          refine (‹∀ (a : Act) (w : World), Code.wp Try.prog _ _ a w → _›) _ _ ?_
          go_upto_region 6 with fail
          have KP : Hid (Bx wc.drew b c (.slice ao N ca) ∧ Tw wc.drew w.heap.size ⟨c.nx, T⟩) := ⟨H2.out.at_.box, hcu.out.2⟩
          have KQ : Hid (Ck wc.drew b c (.slice ao N ca) l S) := H2.out.below (Below.refl _ _).drew
          have KB : Hid (Below w.heap.size w wc.drew) := hcu.out.1.drew
          obtain ⟨g4, hg4⟩ : ∃ g4, Hid (w.heap.size = g4) := ⟨_, rfl⟩
          rw [hg4.out] at KP hvg ⊢
          refine wp_region_T (fun q => Bx q b c (.slice ao N ca) ∧ Tw q g4 ⟨c.nx, T⟩) 6 (by kernel_rfl) ?_
          clear H2 hcu
          generalize wc.drew = q at *
          refine wpAnyT_take (i := 0) (oi := { dst := some 35, op := Op.move (Operand.tmp 0), type := 25, pos := "clock.go:61", after := #[], guard := none }) (v := .pointer (some ⟨b, 0, none⟩)) [1, 2, 3, 6] rfl (by kernel_rfl) (by kernel_rfl) (by kernel_rfl) (by kernel_rfl) (fun _ _ _ h => h) (Or.inl ⟨by rfl, ?_⟩) KP.out ?_
          · intro wq hSw
            obtain ⟨y0, y1, y2⟩ := trc hSw.1
            obtain ⟨y3, y4⟩ := prc hSw.2
            go_simp
          (try simp only [Act.put, List.setIfInBounds_toArray, List.set_cons_zero, List.set_cons_succ])
          refine wpAnyT_take (i := 1) (oi := { dst := some 36, op := Op.nilCheck (Operand.tmp 35), type := 0, pos := "clock.go:61", after := #[{ on := 0, ground := Ground.data }], guard := none }) (v := .pointer (some ⟨b, 0, none⟩)) [2, 3, 6] rfl (by kernel_rfl) (by kernel_rfl) (by kernel_rfl) (by kernel_rfl) (fun _ _ _ h => h) (Or.inl ⟨by rfl, ?_⟩) KP.out ?_
          · intro wq hSw
            obtain ⟨y0, y1, y2⟩ := trc hSw.1
            obtain ⟨y3, y4⟩ := prc hSw.2
            go_simp
          (try simp only [Act.put, List.setIfInBounds_toArray, List.set_cons_zero, List.set_cons_succ])
          refine wpAnyT_take (i := 2) (oi := { dst := some 37, op := Op.fieldAddr 56 (Operand.tmp 36) 2, type := 0, pos := "clock.go:61", after := #[{ on := 1, ground := Ground.data }], guard := none }) (v := .pointer (some ⟨b, 2, none⟩)) [3, 6] rfl (by kernel_rfl) (by kernel_rfl) (by kernel_rfl) (by kernel_rfl) (fun _ _ _ h => h) (Or.inl ⟨by rfl, ?_⟩) KP.out ?_
          · intro wq hSw
            obtain ⟨y0, y1, y2⟩ := trc hSw.1
            obtain ⟨y3, y4⟩ := prc hSw.2
            go_simp
          (try simp only [Act.put, List.setIfInBounds_toArray, List.set_cons_zero, List.set_cons_succ])
          refine wpAnyT_take (i := 3) (oi := { dst := some 38, op := Op.makeInterface 72 (Operand.tmp 37), type := 84, pos := "clock.go:61", after := #[{ on := 2, ground := Ground.data }], guard := none }) (v := .iface 72 (.pointer (some ⟨b, 2, none⟩))) [6] rfl (by kernel_rfl) (by kernel_rfl) (by kernel_rfl) (by kernel_rfl) (fun _ _ _ h => h) (Or.inl ⟨by rfl, ?_⟩) KP.out ?_
          · intro wq hSw
            obtain ⟨y0, y1, y2⟩ := trc hSw.1
            obtain ⟨y3, y4⟩ := prc hSw.2
            go_simp
          (try simp only [Act.put, List.setIfInBounds_toArray, List.set_cons_zero, List.set_cons_succ])
          refine wpAnyT_take (i := 4) (oi := { dst := some 39, op := Op.load 70 (Operand.tmp 6), type := 70, pos := "clock.go:61", after := #[], guard := none }) (v := .agg #[.int .i64 c.nx, .float .f64 T]) [5, 6] rfl (by kernel_rfl) (by kernel_rfl) (by kernel_rfl) (by kernel_rfl) (fun _ _ _ h => h) (Or.inl ⟨by rfl, ?_⟩) KP.out ?_
          · intro wq hSw
            obtain ⟨y0, y1, y2⟩ := trc hSw.1
            obtain ⟨y3, y4⟩ := prc hSw.2
            go_simp
          (try simp only [Act.put, List.setIfInBounds_toArray, List.set_cons_zero, List.set_cons_succ])
          refine wpAnyT_take (i := 5) (oi := { dst := some 40, op := Op.makeInterface 70 (Operand.tmp 39), type := 20, pos := "clock.go:61", after := #[{ on := 4, ground := Ground.data }], guard := none }) (v := .iface 70 (.agg #[.int .i64 c.nx, .float .f64 T])) [6] rfl (by kernel_rfl) (by kernel_rfl) (by kernel_rfl) (by kernel_rfl) (fun _ _ _ h => h) (Or.inl ⟨by rfl, ?_⟩) KP.out ?_
          · intro wq hSw
            obtain ⟨y0, y1, y2⟩ := trc hSw.1
            obtain ⟨y3, y4⟩ := prc hSw.2
            go_simp
          (try simp only [Act.put, List.setIfInBounds_toArray, List.set_cons_zero, List.set_cons_succ])
          refine wpAnyT_one (i := 6) (o := { dst := some 41, op := Op.call { callee := Callee.value (Operand.func 31), args := #[Operand.tmp 38, Operand.tmp 40], argTypes := #[84, 20] }, type := 0, pos := "clock.go:61", after := #[{ on := 3, ground := Ground.data }, { on := 5, ground := Ground.data }], guard := none }) (by kernel_rfl) rfl (fun K hK => ?_)
          go_simp
          go_at_call 31
          refine (hU.out q KQ.out).mono ?_
          rintro e w3 ⟨rfl, v3, l3, A3, P3, Q3, S3⟩
          (try go_simp)
          refine hK.out _ _ (vac (by kernel_rfl)) ?_
          clear hK K
          (try simp only [Act.put, List.setIfInBounds_toArray, List.set_cons_zero, List.set_cons_succ])
          refine wpAnyT_done (by kernel_rfl) ?_ _
          have T3 := (S3.1.block g4 (heap_lt KP.out.2) hvg.out).trans KP.out.2
          obtain ⟨c0, c1, c2⟩ := A3.cells
          obtain ⟨f0, f1, f2⟩ := A3.frozen
          have A4 := A3.setNx (c.nx + 1)
          have bg : ¬ (b = g4) := fun q => hvg.out (.inl q.symm)
          have y3 : w3.cell? ⟨g4, 0, none⟩ = some (.int .i64 c.nx) := by rw [cell_of T3]; rfl
          have FIN : Hid (Ck (w3.setCell ⟨b, 1, none⟩ (.int .i64 (c.nx + 1))) b ⟨c.now, c.nx + 1⟩ v3 l3 (ins ⟨c.nx, T⟩ S) ∧ Stp b (.slice ao N ca) v3 w (w3.setCell ⟨b, 1, none⟩ (.int .i64 (c.nx + 1)))) := ⟨KQ.out.after hnb'.out (by have := hs'.out; omega) hTle.out A4 P3 Q3, ((Stp.below KB.out).trans S3).trans ⟨but_set _ _ _ _ _, fun j hj => .inl hj⟩⟩
          have y5 : (w3.setCell ⟨b, 1, none⟩ (.int .i64 (c.nx + 1))).cell? ⟨g4, 0, none⟩ = some (.int .i64 c.nx) := by rw [World.cell?_setCell_far _ _ _ _ (by simpa using bg)]; exact y3
          clear A3 P3 Q3 S3 A4 T3 KP KQ
          go_wp2_with fail
          go_ret2
          first | exact ⟨rfl, v3, l3, FIN.out⟩ | exact ⟨rfl, v3, ⟨l3, FIN.out.1⟩, FIN.out.2⟩
end Go.Proofs.Ytjplkffghfikgaa.Ck

/-
  slices.Values of the timers: its iterator's contract.
-/
namespace Go.Proofs.Ytjplkffghfikgaa.Ck
open Go.RowKit Go.Shelf Rl
set_option maxRecDepth 100000
set_option linter.unusedVariables false
attribute [local go_sem] Oper.semAt_some
theorem values_any (w : World) (v : Value) (hv : ∃ ao n ca, v = .slice ao n ca) :
    Calls Try.prog 41 #[v] w fun e w' =>
      e = .returned (.func (.func 50) #[] #[.pointer (some ⟨w.heap.size, 0, none⟩)]) ∧ w' = w.alloc (.cells #[v] 54) := by
  have hmf : ∀ (fn : Fn) (first cap : Array Value) (w : World), (Instr.makeFunc fn first cap).run Try.prog w = .ok (.func fn first cap) w := fun _ _ _ _ => rfl
  obtain ⟨ao, n, ca, rfl⟩ := hv
  go_enter Try.func41, Try.ntmps41
  go_wp2_with fail
  go_ret
  exact ⟨rfl, rfl⟩
/-- How what is handed over lies: a timer. -/
def RepT (t : Tm) (args : Array Value) (W : World) (D : Nat → Prop) : Prop := args = #[.agg #[.int .i64 t.id, .float .f64 t.b]] ∧ ∀ k, ¬ D k
def RdT (vb : Nat) (v : Value) : Nat → Prop := fun k => k = vb ∨ v.ownBlock = some k
theorem Tms.keep {w w' : World} {v : Value} {l : List Tm} (h : Tms w v l) (hk : ∀ k, v.ownBlock = some k → w'.heap[k]? = w.heap[k]?) : Tms w' v l := by
  refine ⟨h.1, ?_⟩
  rcases h.2 with h | ⟨g, cap, cur, rfl, hg, hh, r⟩
  · exact .inl h
  · exact .inr ⟨g, cap, cur, rfl, hg, (hk g rfl).trans hh, r⟩
theorem take_at {l : List Tm} {k : Nat} (h : k < l.length) : l = l.take k ++ g l k :: l.drop (k + 1) := by
  rw [g_get h]
  conv => lhs; rw [← List.take_append_drop k l, List.drop_eq_getElem_cons h]
theorem take_one {l : List Tm} {k : Nat} (h : k < l.length) : l.take k ++ [g l k] = l.take (k + 1) := by
  rw [g_get h, List.take_succ_eq_append_getElem h]
def VLoop (J : List Tm → (Nat → Prop) → World → Prop) (l : List Tm) (W : World) (Rd : Nat → Prop) (k : Nat) (wr : World) : Prop :=
  ∃ C1, J (l.take k) C1 wr ∧ (∀ j, Rd j → ¬ C1 j ∧ wr.heap[j]? = W.heap[j]?) ∧ (∀ j, C1 j → j < wr.heap.size) ∧ W.heap.size ≤ wr.heap.size
set_option maxHeartbeats 2000000 in
theorem values_seq (w : World) (vb : Nat) (v : Value) (l : List Tm) (h1 : w.heap[vb]? = some (.cells #[v] 54 (0, 0))) (hv : Tms w v l) :
    Seq Try.prog 50 #[.pointer (some ⟨vb, 0, none⟩)] l RepT (RdT vb v) w := by
  intro y J Jx C W hsz hRd hC hJ hJx hY h0
  refine callsIn_wide.2 ?_
  have sf : ∀ (W : World) (a : Addr) (x : Nat), (store a (.float .f64 x)).run Try.prog W = stored Try.prog W a (.float .f64 x) .plain := fun W a x => run_store _ W a _ _ rfl
  have c1 : W.cell? ⟨vb, 0, none⟩ = some v := by rw [World.cell?_of_block (hRd vb (.inl rfl))]; simp [World.cell?, h1]
  have HV : Tms W v l := hv.keep fun k hk => hRd k (.inr hk)
  obtain ⟨ao, ca, rfl, q1, q2⟩ := HV.form
  obtain ⟨N, hN⟩ : ∃ N, Hid (l.length = N) := ⟨_, rfl⟩
  rw [hN.out] at HV c1 q2 hRd hC
  have vlt : ∀ k, RdT vb (.slice ao N ca) k → k < W.heap.size := by
    rintro k (rfl | hk)
    · exact lt_of_cell c1
    · exact HV.lt k hk
  have H0 : Hid (VLoop J l W (RdT vb (.slice ao N ca)) 0 W) := ⟨C, h0, fun j hj => ⟨fun c => (hC j c).1 hj, rfl⟩, fun j hj => (hC j hj).2, Nat.le_refl _⟩
  replace HV := hide HV
  replace hC := hide hC
  replace hJ := hide hJ
  replace hJx := hide hJx
  replace hY := hide hY
  replace vlt := hide vlt
  clear h1 hv hRd hsz
  go_enter Try.func50, Try.ntmps50
  go_wp2_with fail
  go_loopw [7] (fun iv wr => ∃ k : Nat, iv = .int .i64 k ∧ k ≤ N ∧ Hid (VLoop J l W (RdT vb (.slice ao N ca)) k wr)) (fun iv _ => N - (intOf iv).toNat)
  case atStart => exact ⟨0, rfl, Nat.zero_le _, H0.out⟩
  case round =>
    obtain ⟨k, rfl, hk, hQ⟩ := hrel
    by_cases hlt : k < N
    · have i1 : (k : Int) < (N : Int) := by omega
      have i0 : (0 : Int) ≤ (k : Int) := by omega
      have hkl : Hid (k < l.length) := by rw [hN.out]; exact hlt
      obtain ⟨C1, hj, hrd, hcl, hsz⟩ := hQ.out
      obtain ⟨tb, ca', cs, e, _⟩ := HV.out.at (fun e => by have := hkl.out; rw [e] at this; simp at this)
      simp at e
      obtain ⟨rfl, eN, rfl⟩ := e
      clear eN
      have H2 : Tms wr (.slice (some ⟨tb, 0, none⟩) N ca) l := HV.out.keep fun j hj' => (hrd j (.inr hj')).2
      obtain ⟨d0, d1⟩ := H2.read k hkl.out
      obtain ⟨t, ht⟩ : ∃ t, Hid (g l k = t) := ⟨_, rfl⟩
      rw [ht.out] at d0 d1
      replace hj := hide hj
      replace hrd := hide hrd
      replace hcl := hide hcl
      replace hsz := hide hsz
      have B1 := hide (But.alloc wr (.cells #[.int .i64 t.id, .float .f64 t.b] 70) (fun j => W.heap.size ≤ j ∧ ¬ C1 j))
      have N1 := hide (heap_alloc_new wr (.cells #[.int .i64 t.id, .float .f64 t.b] 70))
      have B2 := hide (box_below wr (.cells #[.int .i64 t.id, .float .f64 t.b] 70))
      clear H2 hQ
      go_upto_region 3 with fail
      obtain ⟨t0, t1⟩ := prc N1.out
      obtain ⟨p, hp⟩ : ∃ p, Hid (wr.alloc (.cells #[.int .i64 t.id, .float .f64 t.b] 70) = p) := ⟨_, rfl⟩
      rw [hp.out] at t0 t1 B1 B2 N1 ⊢
      obtain ⟨ub, hub⟩ : ∃ ub, Hid (wr.heap.size = ub) := ⟨_, rfl⟩
      rw [hub.out] at t0 t1 ⊢
      have J1 := hJ.out _ _ _ _ hj.out B1.out
      have szp : wr.heap.size ≤ p.heap.size := B2.out.size
      obtain ⟨fn, tmps, assign, body, hy, hRn⟩ := hY.out (l.take k) t (l.drop (k + 1)) C1 (fun _ => False) #[.agg #[.int .i64 t.id, .float .f64 t.b]] p (by rw [← ht.out]; exact take_at hkl.out) J1 ⟨rfl, fun _ c => c⟩ (by have := hsz.out; omega) (fun j c => c.elim)
      replace hRn := hide hRn
      refine (wpIn_wide (n := 0)).1 ?_
      gi_wp2
      clear hy t0 t1 d0 d1
      refine ⟨rfl, hRn.out.mono ?_⟩
      clear hRn
      rintro e W3 (⟨rfl, C2, hJ2, hB2, hC2⟩ | ⟨rfl, C2, hJx2, -, -⟩)
      · have H3 : Hid (VLoop J l W (RdT vb (.slice (some ⟨tb, 0, none⟩) N ca)) (k + 1) W3) := by
          refine ⟨C2, ?_, fun j hj' => ?_, fun j hj' => (hC2 j hj').2, ?_⟩
          · have := hJ2
            rwa [← ht.out, take_one hkl.out] at this
          · have hjl := vlt.out j hj'
            have hw := hsz.out
            obtain ⟨r1, r2⟩ := hrd.out j hj'
            refine ⟨fun c => ?_, ?_⟩
            · rcases (hC2 j c).1 with c | c | c
              · exact r1 c
              · exact c
              · omega
            · rw [hB2.block j (by omega) r1, B2.out.block j (by omega)]
              exact r2
          · have := hsz.out; have := hB2.size; omega
        clear hJ2 hB2 hC2 J1
        gi_wp2
        go_wp2_with fail
        go_roundw
        case rel => exact ⟨k + 1, by go_num, by omega, H3.out⟩
        case measure => simp [intOf]; omega
      · gi_wp2
        go_wp2_with fail
        go_returns
        refine ⟨⟨_, rfl⟩, .inr ⟨_, C2, ?_, hJx2⟩⟩
        rw [← ht.out, take_one hkl.out]
        exact List.take_prefix _ _
    · obtain rfl : k = N := by omega
      obtain ⟨C1, hj, _⟩ := hQ.out
      rw [List.take_of_length_le (by rw [hN.out]; exact Nat.le_refl _)] at hj
      replace hj := hide hj
      go_wp2_with fail
      go_end0
      exact ⟨⟨_, rfl⟩, .inl ⟨C1, hj.out⟩⟩
end Go.Proofs.Ytjplkffghfikgaa.Ck

/-
  slices.AppendSeq, slices.Collect of the timers.
-/
namespace Go.Proofs.Ytjplkffghfikgaa.Ck
open Go.RowKit Go.Shelf Rl
set_option maxRecDepth 100000
set_option linter.unusedVariables false
attribute [local go_sem] Oper.semAt_some
theorem calls_marks {P : Program} {f : FuncId} {fn : Func} {c : Code} {args : Array Value} {w : World} {R : Ending → World → Prop} (hf : P.funcs[f]? = some fn) (hb : fn.body = some c)
    (h : c.wp P (bodyPostM Fence.wide 0 P fn R) { tmps := args ++ Array.replicate (fn.ntmps - args.size) undef, defers := [] } w) : Calls P f args w R :=
  callsIn_wide.1 (callsIn_of_wp_marks (n := 0) hf hb trivial ((wpIn_wide (n := 0)).2 h) rfl)
/-- Timers as a list v of memory from block B on. -/
def TmB (B : Nat) (w : World) (v : Value) (l : List Tm) : Prop := w.ownsRow B 70 2 v l.length (tcells l)
/-- What has been collected: the variable's block sb holds the list vf. -/
structure Col (w0 : World) (sb : Nat) (W : World) (C : Nat → Prop) (pre : List Tm) (vf : Value) : Prop where
  box : W.heap[sb]? = some (.cells #[vf] 39 (0, 0))
  row : TmB w0.heap.size W vf pre
  own : ∀ k, C k ↔ k = sb ∨ vf.ownBlock = some k
  below : Below w0.heap.size w0 W
theorem rows_but {X : Nat → Prop} {A B : World} {base e size n : Nat} {v : Value} {xs : List Value} (h : A.ownsRow base e size v n xs) (hb : But X A B) (hx : ∀ k, v.ownBlock = some k → ¬ X k) : B.ownsRow base e size v n xs := by
  refine ⟨h.1, ?_⟩
  rcases h.2 with h | ⟨g, cap, cur, rfl, hg, hh, r⟩
  · exact .inl h
  · exact .inr ⟨g, cap, cur, rfl, hg, hb.at hh (hx g rfl), r⟩
theorem rows_no {w : World} {b base e size n : Nat} {v : Value} {xs : List Value} {cs : Array Value} {T : TypeId} {fz : Nat × Nat} (h : w.ownsRow base e size v n xs) (hb : w.heap[b]? = some (.cells cs T fz)) (hT : T ≠ e) : v.ownBlock ≠ some b := fun e1 => by
  rcases h.2 with ⟨rfl, _⟩ | ⟨g, cap, cur, rfl, hg, hh, r⟩
  · simp [Value.ownBlock] at e1
  · simp [Value.ownBlock] at e1
    subst e1
    rw [hb] at hh
    simp at hh
    exact hT hh.2.1
theorem rows_form {w : World} {base e size n : Nat} {v : Value} {xs : List Value} (h : w.ownsRow base e size v n xs) : ∃ ao ca, v = .slice ao n ca := by
  rcases h.2 with ⟨rfl, rfl⟩ | ⟨g, cap, cur, rfl, _⟩
  · exact ⟨_, _, rfl⟩
  · exact ⟨_, _, rfl⟩
theorem Col.lt {w0 : World} {sb : Nat} {W : World} {C : Nat → Prop} {pre : List Tm} {vf : Value} (h : Col w0 sb W C pre vf) : ∀ k, C k → k < W.heap.size := by
  intro k hk
  rcases (h.own k).1 hk with rfl | hk
  · exact heap_lt h.box
  · exact (h.row.lt k hk).2
theorem Col.but {w0 : World} {sb : Nat} {W W' : World} {C : Nat → Prop} {pre : List Tm} {vf : Value} {X : Nat → Prop} (h : Col w0 sb W C pre vf) (hb : But X W W') (hX : ∀ k, X k → w0.heap.size ≤ k ∧ ¬ C k) : Col w0 sb W' C pre vf where
  box := hb.at h.box fun hx => (hX _ hx).2 ((h.own _).2 (.inl rfl))
  row := rows_but h.row hb fun k hk hx => (hX _ hx).2 ((h.own _).2 (.inr hk))
  own := h.own
  below := h.below.trans (hb.below h.below.size fun k hx => (hX k hx).1)
/-- One more. -/
theorem Col.more {w0 : World} {sb : Nat} {W w1 : World} {C : Nat → Prop} {pre : List Tm} {vf vf' : Value} {x : Tm} {o : Obj} (h : Col w0 sb W C pre vf) (hsb : w0.heap.size ≤ sb)
    (hg : (W.alloc o).grownBy w1 vf.ownBlock) (hrow : w1.ownsRow w0.heap.size 70 2 vf' (pre.length + 1) (tcells pre ++ [.int .i64 x.id, .float .f64 x.b])) (hat : vf'.ownBlock = vf.ownBlock ∨ vf'.ownBlock = some (W.alloc o).heap.size) :
    Col w0 sb (w1.setCell ⟨sb, 0, none⟩ vf') (fun k => k = sb ∨ vf'.ownBlock = some k) (pre ++ [x]) vf' ∧ w1.heap[sb]? = some (.cells #[vf] 39 (0, 0)) ∧ But C W (w1.setCell ⟨sb, 0, none⟩ vf') ∧ (∀ k, (k = sb ∨ vf'.ownBlock = some k) → C k ∨ W.heap.size ≤ k) := by
  have hbx : w1.heap[sb]? = some (.cells #[vf] 39 (0, 0)) := by
    rw [hg.block sb (by have := heap_lt h.box; simp; omega) (fun e => rows_no h.row h.box (by decide) e.symm), Below.heap_alloc _ _ _ (heap_lt h.box)]
    exact h.box
  have b0 : But (fun k => vf.ownBlock = some k) W w1 := ((But.alloc W o _).trans (But.of_grownBy hg fun k e => e))
  have b1 : But (fun k => k = sb) w1 (w1.setCell ⟨sb, 0, none⟩ vf') := But.of_grownBy (grown_setCell _ _ _ _) fun k e => by cases e; rfl
  refine ⟨⟨?_, ?_, fun k => Iff.rfl, ?_⟩, hbx, ?_, ?_⟩
  · exact Boxed.set vf' hbx
  · unfold TmB
    rw [tcells_snoc, List.length_append]
    exact rows_but hrow b1 (fun k hk e => rows_no hrow hbx (by decide) (by rw [← e]; exact hk))
  · refine (h.below.trans (b0.below h.below.size fun k hk => (h.row.lt k hk).1)).trans (b1.below ?_ fun k e => by rw [e]; exact hsb)
    exact Nat.le_trans h.below.size b0.size
  · exact (b0.mono fun k _ hk => (h.own k).2 (.inr hk)).trans (b1.mono fun k _ e => (h.own k).2 (.inl e))
  · rintro k (rfl | hk)
    · exact .inl ((h.own _).2 (.inl rfl))
    · rcases hat with e | e
      · exact .inl ((h.own _).2 (.inr (by rw [← e]; exact hk)))
      · rw [e] at hk
        simp at hk
        exact .inr (by omega)
theorem two_new (w : World) (a b : Value) (T : TypeId) : ∀ (j : Nat) (u : Value), [a, b][j]? = some u → (w.alloc (.cells #[a, b] T)).cell? ((⟨w.heap.size, 0, none⟩ : Addr).add j) = some u := by
  intro j u h
  rw [addr_add]
  match j with
  | 0 => simp at h; subst h; unfold World.cell?; rw [show (w.alloc (.cells #[a, b] T)).heap[(⟨w.heap.size, 0 + 0, none⟩ : Addr).block]? = _ from heap_alloc_new _ _]; rfl
  | 1 => simp at h; subst h; unfold World.cell?; rw [show (w.alloc (.cells #[a, b] T)).heap[(⟨w.heap.size, 0 + 1, none⟩ : Addr).block]? = _ from heap_alloc_new _ _]; rfl
  | j + 2 => simp at h
set_option maxHeartbeats 2000000 in
theorem appendSeq_any (w : World) (vb : Nat) (v : Value) (l : List Tm) (h1 : w.heap[vb]? = some (.cells #[v] 54 (0, 0))) (hv : Tms w v l) (hlen : l.length ≤ 1000000) :
    Calls Try.prog 55 #[.slice none 0 0, .func (.func 50) #[] #[.pointer (some ⟨vb, 0, none⟩)]] w fun e w' => ∃ vf, e = .returned vf ∧ TmB w.heap.size w' vf l ∧ Below w.heap.size w w' := by
  have sf : ∀ (W : World) (a : Addr) (x : Nat), (store a (.float .f64 x)).run Try.prog W = stored Try.prog W a (.float .f64 x) .plain := fun W a x => run_store _ W a _ _ rfl
  have hvb := heap_lt h1
  have H1 := hide h1
  have HV := hide hv
  clear h1 hv
  refine calls_marks Try.func55 rfl ?_
  simp only [Try.ntmps55, List.size_toArray, List.length_cons, List.length_nil, Nat.reduceAdd, Nat.reduceSub, Array.replicate_succ, Array.replicate_zero, List.push_toArray, List.append_toArray, List.nil_append, List.cons_append]
  go_wp2_with fail
  obtain ⟨W0, hW0⟩ : ∃ W0, w.alloc (.cells #[.slice none 0 0] 39) = W0 := ⟨_, rfl⟩
  have aB : Below w.heap.size w W0 := by rw [← hW0]; exact box_below _ _
  have hs : W0.heap.size = w.heap.size + 1 := by rw [← hW0]; simp
  have a0 : W0.heap[w.heap.size]? = some (.cells #[.slice none 0 0] 39 (0, 0)) := by rw [← hW0]; exact heap_alloc_new _ _
  rw [hW0]
  have rlt : ∀ k, RdT vb v k → k < w.heap.size := by
    rintro k (rfl | hk)
    · exact hvb
    · exact HV.out.lt k hk
  refine wp_range (gf := 50) rfl (enters_of Try.func50 (by kernel_rfl) rfl) (values_seq W0 vb v l ((aB.block _ hvb).trans H1.out) (HV.out.below aB)) (Nat.le_refl _) (fun k hk => ⟨rfl, by have := rlt k hk; omega⟩)
    (fun x args W D h => by obtain ⟨rfl, _⟩ := h; rfl)
    (fun pre C W => ∃ vf, Col w w.heap.size W C pre vf) (fun c pre C W => False) ?hI ?hIx (fun k => k = w.heap.size) (fun k hk => ⟨fun h => by have := rlt k h; omega, by omega⟩)
    ⟨.slice none 0 0, ⟨a0, World.ownsRow_nil _ _ _ _, fun k => by simp [Value.ownBlock], aB⟩⟩ ?round ?done ?stop
  case hI =>
    rintro pre C A B ⟨vf, i3⟩ hb
    exact ⟨vf, i3.but hb fun k hk => ⟨by omega, hk.2⟩⟩
  case hIx =>
    rintro c pre C A B h hb
    exact h
  case stop =>
    rintro c pre C2 W hp h
    exact h.elim
  case round =>
    rintro m pre x rest C1 D args W1 hxs ⟨vf, i3⟩ ⟨rfl, hDk⟩ hlt hD hl hlW nl nD
    have hpx : pre.length < l.length := by rw [hxs]; simp
    replace i3 := hide i3
    simp only [List.zip_toArray, List.zip_cons_cons, List.zip_nil_right, List.foldl_toArray, List.foldl_cons, List.foldl_nil]
    gi_wp2
    refine ⟨But.alloc _ _ _, ?_⟩
    intro Wb hWb hsb
    have sb : Wb.heap.size = W1.heap.size + 1 := by rw [hsb]; simp
    have n1 := hide (hWb.at (heap_alloc_new _ _) (by omega))
    have bW : Hid (But (fun k => k = m) W1 Wb) := (But.alloc _ _ _).trans hWb
    have n3 := hide (i3.out.but bW.out fun k e => ⟨by omega, by rw [e]; exact nl⟩)
    clear hWb hsb i3 a0
    obtain ⟨i0, hi, hz0, hz1, hz2⟩ := info_parts infoTm
    obtain ⟨k0, k1⟩ := prc n1.out
    have k2 : Wb.cell? ⟨w.heap.size, 0, none⟩ = some vf := by simp [World.cell?, n3.out.box]
    obtain ⟨gv, cv, rfl⟩ := rows_form n3.out.row
    obtain ⟨N, hN⟩ : ∃ N, Hid (pre.length = N) := ⟨_, rfl⟩
    have AL : Hid (∀ (o : Obj) (w1 : World) (vf' : Value), (Wb.alloc o).grownBy w1 (Value.slice gv N cv).ownBlock → w1.ownsRow w.heap.size 70 2 vf' (N + 1) (tcells pre ++ [.int .i64 x.id, .float .f64 x.b]) → (vf'.ownBlock = (Value.slice gv N cv).ownBlock ∨ vf'.ownBlock = some (Wb.alloc o).heap.size) →
        Col w w.heap.size (w1.setCell ⟨w.heap.size, 0, none⟩ vf') (fun k => k = w.heap.size ∨ vf'.ownBlock = some k) (pre ++ [x]) vf' ∧ w1.heap[w.heap.size]? = some (.cells #[.slice gv N cv] 39 (0, 0)) ∧ But C1 Wb (w1.setCell ⟨w.heap.size, 0, none⟩ vf') ∧ (∀ k, (k = w.heap.size ∨ vf'.ownBlock = some k) → C1 k ∨ Wb.heap.size ≤ k)) := by
      rw [← hN.out]
      exact fun o w1 vf' h1 h2 h3 => n3.out.more (Nat.le_refl _) h1 h2 h3
    have ROW : Hid (Wb.ownsRow w.heap.size 70 2 (.slice gv N cv) N (tcells pre)) := by have := n3.out.row; unfold TmB at this; rw [hN.out] at this; exact this
    rw [hN.out] at k2 hpx
    have hbw : w.heap.size ≤ Wb.heap.size := by omega
    clear n3 n1 bW
    replace sb := hide sb
    replace hxs := hide hxs
    gi_wp2_with (gi_at_builtin; refine wpListIn_append_own_at _ rfl _ _ 39 rfl w.heap.size 70 i0 (.agg #[.int .i64 0, .float .f64 0]) 2 16 Try.underlying39 hi hz0 hz1 hz2 rfl (by decide) _ N (tcells pre) rfl (ROW.out.alloc _) ⟨Wb.heap.size, 0, none⟩ 1 1 [.int .i64 x.id, .float .f64 x.b] rfl rfl (two_new _ _ _ _) (by simp [Value.oneCell']) (by unfold maxLen; omega) (by omega) (by simp; omega) ?_; intro vf' w1 hown' hgrow _ hat; obtain ⟨g', cap', rfl⟩ := ownsRow_succ hown'; obtain ⟨F1, F2, F3, F4⟩ := AL.out _ _ _ hgrow hown' hat; have hc1 := Boxed.cell F2; have hf1 := Boxed.frozen F2; replace F1 := hide F1; replace F2 := hide F2; replace F3 := hide F3; replace F4 := hide F4)
    refine ⟨_, ⟨_, F1.out⟩, F3.out, fun k hk => ⟨?_, F1.out.lt k hk⟩⟩
    rcases F4.out k hk with h | h
    · exact .inl h
    · have := sb.out; exact .inr (.inr (by omega))
  case done =>
    rintro C2 W ⟨vf, i3⟩ hK nD
    have c0 := Boxed.cell i3.box
    obtain ⟨gv, cv, rfl⟩ := rows_form i3.row
    replace i3 := hide i3
    replace hK := hide hK
    have hsz : w.heap.size ≤ W0.heap.size := by omega
    clear a0 hW0 hs
    dsimp only
    go_wp2_with fail
    refine ⟨by simp, .inl ⟨_, _, rfl, run_takeDeferred hK.out, ?_⟩⟩
    have i4 := fun o => i3.out.but (But.putObj (X := fun k => k = W0.heap.size) W W0.heap.size o rfl) (fun k e => ⟨by rw [e]; exact hsz, by rw [e]; exact nD⟩)
    exact ⟨_, results_tmp rfl _ _ _, _, rfl, (i4 _).row, (i4 _).below⟩
end Go.Proofs.Ytjplkffghfikgaa.Ck

/-
  What slices.SortFunc leaves of a list of timers.
-/
namespace Go.Proofs.Ytjplkffghfikgaa.Ck
open Go.RowKit Go.Shelf Rl Go.Sort
set_option linter.unusedVariables false
def to6 (l : List Tm) (h : Bt l) : Array T6 := (l.attach.map fun t => (⟨t.1, h t.1 t.2⟩ : T6)).toArray
theorem to6_val (l : List Tm) (h : Bt l) : (to6 l h).toList.map (·.1) = l := by
  show (l.attach.map fun t => (⟨t.1, h t.1 t.2⟩ : T6)).map (·.1) = l
  rw [List.map_map]
  exact List.attach_map_subtype_val l
theorem to6_size (l : List Tm) (h : Bt l) : (to6 l h).size = l.length := by simp [to6]
theorem val_g (d : Array T6) (i : Nat) (h : i < d.size) : g (d.toList.map (·.1)) i = (d[i]!).1 := by
  rw [g_get (by simpa using h)]
  simp [h]
theorem flat6 (d : Array T6) (j : Nat) (h : j < d.size * 2) : (tcells (d.toList.map (·.1)))[j]? = some (flatK enc6 2 d)[j]! := by
  rw [get_flatK _ _ _ _ h]
  obtain ⟨e1, e2⟩ := tcells_get (d.toList.map (·.1)) (j / 2) (by simp; omega)
  rw [val_g d (j / 2) (by omega)] at e1 e2
  rcases Nat.mod_two_eq_zero_or_one j with q | q
  · rw [show j / 2 * 2 = j by omega] at e1
    rw [e1, q]; rfl
  · rw [show j / 2 * 2 + 1 = j by omega] at e2
    rw [e2, q]; rfl
theorem holds6 {w : World} {b : Nat} {cur : Array Value} {e : TypeId} {d : Array T6} (hb : w.heap[b]? = some (.cells cur e (0, 0))) (ht : cur.toList.take (d.size * 2) = tcells (d.toList.map (·.1))) : HoldsK enc6 2 w b 0 d := by
  intro j hj
  rw [size_flatK] at hj
  refine ⟨?_, by simp [World.frozen?, hb]⟩
  rw [Nat.zero_add, cell_of hb, ← Array.getElem?_toList]
  have h1 : (cur.toList.take (d.size * 2))[j]? = (tcells (d.toList.map (·.1)))[j]? := by rw [ht]
  rw [List.getElem?_take_of_lt hj] at h1
  rw [h1, flat6 d j hj]; rfl
theorem heap6 {w : World} {b n : Nat} {os : Array Obj} {cur : Array Value} {e : TypeId} {fr : Nat × Nat} (d : Array T6) (hb : w.heap[b]? = some (.cells cur e fr)) :
    (sortWorldK enc6 2 w b 0 n d os).heap[b]? = some (.cells (putCells id 0 (flatK enc6 2 d) cur) e fr) := by
  have hg : b < w.heap.size := (Array.getElem?_eq_some_iff.1 hb).1
  unfold sortWorldK putRowK
  rw [heap_grow_old _ _ (by simpa using hg)]
  simp [putRow, mapBlock, Sort.ahead, Array.getElem?_modify, hb, onCells]
theorem grown6 {w : World} {b n : Nat} {os : Array Obj} (d : Array T6) : w.grownBy (sortWorldK enc6 2 w b 0 n d os) (some b) := by
  unfold sortWorldK putRowK
  refine ⟨rfl, rfl, rfl, by simp, fun k hk hne => ?_⟩
  rw [heap_grow_old _ _ (by simpa using hk)]
  have : b ≠ k := fun e => hne (by rw [e])
  simp [putRow, mapBlock, Sort.ahead, Array.getElem?_modify, this]
theorem take6 (cur : Array Value) (d : Array T6) (h : d.size * 2 ≤ cur.size) : (putCells id 0 (flatK enc6 2 d) cur).toList.take (d.size * 2) = tcells (d.toList.map (·.1)) := by
  apply List.ext_getElem?
  intro j
  by_cases hj : j < d.size * 2
  · rw [List.getElem?_take_of_lt hj, Array.getElem?_toList, flat6 d j hj]
    simp [putCells, hj, show j < cur.size by omega]
  · rw [List.getElem?_take_eq_none (by omega), List.getElem?_eq_none (by rw [tcells_len]; simp; omega)]
theorem Srt.tri {S : List Tm} (h : Srt S) : ∀ a ∈ S, ∀ b ∈ S, a = b ∨ Lt a b ∨ Lt b a := by
  induction S with
  | nil => intro a ha; cases ha
  | cons x r ih =>
    obtain ⟨h1, h2⟩ := List.pairwise_cons.1 h
    intro a ha b hb
    rcases List.mem_cons.1 ha with ea | ha2 <;> rcases List.mem_cons.1 hb with eb | hb2
    · exact .inl (ea.trans eb.symm)
    · rw [ea]; exact .inr (.inl (h1 b hb2))
    · rw [eb]; exact .inr (.inr (h1 a ha2))
    · exact ih h2 a ha2 b hb2
/-- There is one order. -/
theorem Srt.one {S L : List Tm} (h : Srt S) (hp : L.Perm S) (hL : L.Pairwise fun a b => ¬ Lt b a) : L = S := by
  refine List.Perm.eq_of_pairwise (le := fun a b => ¬ Lt b a) (fun a b ha hb h1 h2 => ?_) hL (h.imp fun q c => q.asym c) hp
  rcases h.tri a (hp.mem_iff.1 ha) b hb with e | e | e
  · exact e
  · exact absurd e h2
  · exact absurd e h1
theorem sorted6 {d d' : Array T6} {S : List Tm} (hp : PermIn 0 d.size d d') (hs : SortedIn (ltOf cf6) 0 d.size d') (hS : Srt S) (hd : (d.toList.map (·.1)).Perm S) : d'.toList.map (·.1) = S := by
  obtain ⟨h1, _, h3⟩ := hp
  have h3' : d'.toList.Perm d.toList := by
    have e1 : d'.extract 0 d.size = d' := by rw [← h1]; simp
    have e2 : d.extract 0 d.size = d := by simp
    rwa [e1, e2] at h3
  refine hS.one ((h3'.map _).trans hd) ?_
  rw [List.pairwise_map, List.pairwise_iff_getElem]
  intro i j hi hj hij
  have := hs i j (Nat.zero_le _) hij (by rw [← h1]; simpa using hj)
  rw [lt6] at this
  have q := of_decide_eq_false this
  simp at hi hj
  rw [getElem!_pos d' i hi, getElem!_pos d' j hj] at q
  simpa using q
end Go.Proofs.Ytjplkffghfikgaa.Ck

/-
  Functions of the library at this program: their bodies are the ones that the library's contracts speak of.
-/
namespace Go.Proofs
open Go.Shelf
def Try.sortTm_ren : Go.Shelf.Ren := ⟨fun | 6 => 49 | 15 => 57 | 14 => 56 | 28 => 69 | 29 => 70 | 20 => 61 | 21 => 62 | 22 => 63 | 23 => 64 | 24 => 65 | 25 => 66 | 26 => 67 | 27 => 68 | 46 => 73 | 47 => 74 | 48 => 75 | 49 => 76 | 50 => 77 | 57 => 78 | n => n, fun | 22 => 39 | 24 => 70 | 25 => 81 | 3 => 3 | 39 => 100 | 0 => 0 | 53 => 112 | 55 => 22 | 4 => 4 | 46 => 105 | 45 => 104 | 50 => 109 | 5 => 5 | 9 => 9 | 66 => 115 | 70 => 119 | 76 => 121 | 77 => 122 | n => n, fun | n => n⟩
theorem Try.sortTm : Go.Proofs.SlLaysF0.n6 Try.prog Try.sortTm_ren := {
  mixed := by kernel_rfl
  f6 := ⟨Try.f49.name, by decide, Try.func49.trans (congrArg some (by kernel_rfl))⟩
  f14 := ⟨Try.f56.name, by decide, Try.func56.trans (congrArg some (by kernel_rfl))⟩
  f15 := Try.func57.trans (congrArg some (by kernel_rfl))
  f20 := ⟨Try.f61.name, by decide, Try.func61.trans (congrArg some (by kernel_rfl))⟩
  f21 := ⟨Try.f62.name, by decide, Try.func62.trans (congrArg some (by kernel_rfl))⟩
  f22 := ⟨Try.f63.name, by decide, Try.func63.trans (congrArg some (by kernel_rfl))⟩
  f23 := ⟨Try.f64.name, by decide, Try.func64.trans (congrArg some (by kernel_rfl))⟩
  f24 := ⟨Try.f65.name, by decide, Try.func65.trans (congrArg some (by kernel_rfl))⟩
  f25 := ⟨Try.f66.name, by decide, Try.func66.trans (congrArg some (by kernel_rfl))⟩
  f26 := ⟨Try.f67.name, by decide, Try.func67.trans (congrArg some (by kernel_rfl))⟩
  f27 := ⟨Try.f68.name, by decide, Try.func68.trans (congrArg some (by kernel_rfl))⟩
  f28 := Try.func69.trans (congrArg some (by kernel_rfl))
  f29 := Try.func70.trans (congrArg some (by kernel_rfl))
  f46 := ⟨Try.f73.name, by decide, Try.func73.trans (congrArg some (by kernel_rfl))⟩
  f47 := Try.func74.trans (congrArg some (by kernel_rfl))
  f48 := Try.func75.trans (congrArg some (by kernel_rfl))
  f49 := ⟨Try.f76.name, by decide, Try.func76.trans (congrArg some (by kernel_rfl))⟩
  f50 := ⟨Try.f77.name, by decide, Try.func77.trans (congrArg some (by kernel_rfl))⟩
  f57 := ⟨Try.f78.name, by decide, Try.func78.trans (congrArg some (by kernel_rfl))⟩
  t0 := Try.underlying0
  a0 := Try.isAgg0
  z0 := Try.sizeOf0
  v0 := Try.zeroValue0
  t3 := Try.underlying3
  a3 := Try.isAgg3
  z3 := Try.sizeOf3
  v3 := Try.zeroValue3
  t4 := Try.underlying4
  a4 := Try.isAgg4
  z4 := Try.sizeOf4
  v4 := Try.zeroValue4
  t5 := Try.underlying5
  a5 := Try.isAgg5
  z5 := Try.sizeOf5
  v5 := Try.zeroValue5
  t9 := Try.underlying9
  a9 := Try.isAgg9
  z9 := Try.sizeOf9
  v9 := Try.zeroValue9
  t22 := Try.underlying39
  a22 := Try.isAgg39
  z22 := Try.sizeOf39
  v22 := Try.zeroValue39
  t25 := Try.underlying81
  a25 := Try.isAgg81
  z25 := Try.sizeOf81
  v25 := Try.zeroValue81
  t39 := Try.underlying100
  a39 := Try.isAgg100
  z39 := Try.sizeOf100
  v39 := Try.zeroValue100
  t45 := Try.underlying104
  a45 := Try.isAgg104
  z45 := Try.sizeOf104
  v45 := Try.zeroValue104
  t46 := Try.underlying105
  a46 := Try.isAgg105
  z46 := Try.sizeOf105
  v46 := Try.zeroValue105
  t50 := Try.underlying109
  a50 := Try.isAgg109
  z50 := Try.sizeOf109
  v50 := Try.zeroValue109
  t53 := Try.underlying112
  a53 := Try.isAgg112
  z53 := Try.sizeOf112
  v53 := Try.zeroValue112
  t55 := Try.underlying22
  a55 := Try.isAgg22
  z55 := Try.sizeOf22
  v55 := Try.zeroValue22
  t66 := Try.underlying115
  a66 := Try.isAgg115
  z66 := Try.sizeOf115
  v66 := Try.zeroValue115
  t70 := Try.underlying119
  a70 := Try.isAgg119
  z70 := Try.sizeOf119
  v70 := Try.zeroValue119
  t76 := Try.underlying121
  a76 := Try.isAgg121
  z76 := Try.sizeOf121
  v76 := Try.zeroValue121
  t77 := Try.underlying122
  a77 := Try.isAgg122
  z77 := Try.sizeOf122
  v77 := Try.zeroValue122 }
end Go.Proofs

/-
  slices.SortFunc, slices.SortedFunc of the timers; Timers of the clock.
-/
namespace Go.Proofs.Ytjplkffghfikgaa.Ck
open Go.RowKit Go.Shelf Rl Go.Sort
set_option linter.unusedVariables false
theorem agg6 (w : World) : (isAgg 70).run Try.prog w = .ok true w := by kernel_rfl
theorem size6 (w : World) : (Go.sizeOf 70).run Try.prog w = .ok 2 w := by kernel_rfl
theorem sortFunc_any (B : Nat) (w : World) (v : Value) (l S : List Tm) (h : TmB B w v l) (hB : Bt l) (hp : l.Perm S) (hS : Srt S) (hlen : l.length ≤ 1000000) :
    Calls Try.prog 49 #[v, .func (.func 42) #[] #[]] w fun e w' => e = .returned (.tuple #[]) ∧ TmB B w' v S ∧ w.grownBy w' v.ownBlock := by
  have hl := hp.length_eq
  rcases h.2 with ⟨rfl, e⟩ | ⟨b, cap, cur, rfl, hb, hh, q1, q2, q3, q4⟩
  · have : l = [] := List.length_eq_zero_iff.1 e
    subst this
    have : S = [] := hp.symm.eq_nil
    subst this
    have hN := AnyF.slices_SortFunc_none Try.sortTm none 0 (.func (.func 42) #[] #[]) w
    change Calls Try.prog 49 _ _ _ at hN
    refine hN.mono ?_
    rintro e w' ⟨rfl, rfl⟩
    exact ⟨rfl, h, ⟨rfl, rfl, rfl, Nat.le_refl _, fun _ _ _ => rfl⟩⟩
  · have eg : ∀ args w, (callFunc 42 args).run Try.prog w = .ok (.enter 42 args) w := enters_of Try.func42 (by kernel_rfl) rfl
    have hd := to6_val l hB
    have hsz := to6_size l hB
    obtain ⟨d, hdd⟩ : ∃ d, to6 l hB = d := ⟨_, rfl⟩
    rw [hdd] at hd hsz
    have hH : HoldsK enc6 2 w b 0 d := holds6 hh (by rw [hd, hsz]; exact q4)
    have hcon := AnyQ.slices_SortFunc Try.sortTm 2 agg6 size6 enc6 (fun _ => rfl) (fun x v hv => by simp [enc6] at hv; rcases hv with rfl | rfl <;> rfl) cf6 swo6 42 #[] b 0 cap d w eg (cmp6 b 0 d.size w) hH (heap_lt hh) (by omega)
    change Calls Try.prog 49 _ _ _ at hcon
    rw [hsz] at hcon
    refine hcon.mono ?_
    rintro e w' ⟨rfl, d', n, os, hpm, hso, rfl⟩
    rw [← hsz] at hpm hso
    have hs := sorted6 hpm hso hS (by rw [hd]; exact hp)
    have hsz' : d'.size = l.length := by rw [hpm.1, hsz]
    refine ⟨rfl, ⟨by rw [tcells_len], .inr ⟨b, cap, _, by rw [hl], hb, heap6 d' hh, by omega, q2, by simp [putCells, q3], ?_⟩⟩, grown6 d'⟩
    rw [← hl, ← hsz', ← hs]
    exact take6 cur d' (by omega)
theorem collect_any (w : World) (vb : Nat) (v : Value) (l : List Tm) (h1 : w.heap[vb]? = some (.cells #[v] 54 (0, 0))) (hv : Tms w v l) (hlen : l.length ≤ 1000000) :
    Calls Try.prog 48 #[.func (.func 50) #[] #[.pointer (some ⟨vb, 0, none⟩)]] w fun e w' => ∃ vf, e = .returned vf ∧ TmB w.heap.size w' vf l ∧ Below w.heap.size w w' := by
  have hA := appendSeq_any w vb v l h1 hv hlen
  clear h1 hv
  go_enter Try.func48, Try.ntmps48
  go_wp2_with (go_at_call 55; refine hA.mono ?_; rintro e w2 ⟨vf, rfl, T2, b2⟩)
  go_ret
  exact ⟨_, rfl, T2, b2⟩
theorem sortedFunc_any (w : World) (vb : Nat) (v : Value) (l S : List Tm) (h1 : w.heap[vb]? = some (.cells #[v] 54 (0, 0))) (hv : Tms w v l) (hB : Bt l) (hp : l.Perm S) (hS : Srt S) (hlen : l.length ≤ 1000000) :
    Calls Try.prog 40 #[.func (.func 50) #[] #[.pointer (some ⟨vb, 0, none⟩)], .func (.func 42) #[] #[]] w fun e w' => ∃ vf, e = .returned vf ∧ TmB w.heap.size w' vf S ∧ Below w.heap.size w w' := by
  have hC := collect_any w vb v l h1 hv hlen
  have hS2 := hide (fun (w2 : World) (vf : Value) (q : TmB w.heap.size w2 vf l) => sortFunc_any w.heap.size w2 vf l S q hB hp hS hlen)
  clear h1 hv hB hp hS
  go_enter Try.func40, Try.ntmps40
  go_wp2_with (first | (go_at_call 48; refine hC.mono ?_; rintro e w2 ⟨vf, rfl, T2, b2⟩; replace T2 := hide T2; replace b2 := hide b2) | (go_at_call 49; refine (hS2.out w2 vf T2.out).mono ?_; rintro e w3 ⟨rfl, T3, g3⟩))
  go_ret
  exact ⟨_, rfl, T3, b2.out.grown g3 b2.out.size (fun k hk => (T2.out.lt k hk).1)⟩
theorem timers_any (w : World) (b : Nat) (c : C) (v : Value) (l S : List Tm) (h : Ck w b c v l S) : Calls Try.prog 23 #[.pointer (some ⟨b, 0, none⟩)] w fun e w' => ∃ vf, e = .returned vf ∧ TmB w.heap.size w' vf S ∧ Below w.heap.size w w' := by
  have hM := made_any w b c v l h.at_ h.nx
  obtain ⟨c0, c1, c2⟩ := h.at_.cells
  have hV := values_any w v (slice_of h.at_.row)
  have B1 := box_below w (.cells #[v] 54)
  have hSo := sortedFunc_any (w.alloc (.cells #[v] 54)) w.heap.size v l S (heap_alloc_new _ _) (h.at_.row.below B1) (h.tt.perm h.perm).bt h.perm h.srt (by have := h.len; rw [h.perm.length_eq]; omega)
  replace B1 := hide B1
  clear h
  go_enter Try.func23, Try.ntmps23
  go_wp2_with (first | (go_at_call 30; refine hM.mono ?_; rintro e w' ⟨rfl, hw⟩; rw [hw]; clear hw w') | (go_at_call 41; refine hV.mono ?_; rintro e w' ⟨rfl, hw⟩; rw [hw]; clear hw w') | (go_at_call 40; refine hSo.mono ?_; rintro e w3 ⟨vf, rfl, T3, b3⟩))
  go_ret
  refine ⟨_, rfl, ?_, keepF B1.out b3⟩
  have : w.heap.size ≤ (w.alloc (.cells #[v] 54)).heap.size := B1.out.size
  exact ⟨T3.1, T3.2.imp id (by rintro ⟨g, cap, cur, e, hg, r⟩; exact ⟨g, cap, cur, e, by omega, r⟩)⟩
end Go.Proofs.Ytjplkffghfikgaa.Ck

/-
  A nil clock, and the zero one: what each call answers.
-/
namespace Go.Proofs.Ytjplkffghfikgaa.Ck
open Go.RowKit Rl
set_option linter.unusedVariables false
/-- No clock, or one that New did not make. -/
def Nc (w : World) (p : Value) : Prop := p = .pointer none ∨ ∃ b, p = .pointer (some ⟨b, 0, none⟩) ∧ w.heap[b]? = some (.cells #[.float .f64 0, .int .i64 0, .slice none 0 0] 56 (0, 0))
theorem Nc.below {w w' : World} {p : Value} (h : Nc w p) (hb : Below w.heap.size w w') : Nc w' p := by
  rcases h with h | ⟨b, e, h⟩
  · exact .inl h
  · exact .inr ⟨b, e, (hb.block _ (heap_lt h)).trans h⟩
theorem inf_any (w : World) : Calls Try.prog 26 #[.int .i64 1] w fun e w' => e = .returned (.float .f64 9218868437227405312) ∧ w' = w := by
  have kf := of_run
  go_enter Try.func26, Try.ntmps26
  go_wp2_with fail
  go_ret
  exact ⟨rfl, rfl⟩
end Go.Proofs.Ytjplkffghfikgaa.Ck

/-
  ids: are two lists of numbers the same?
-/
namespace Go.Proofs.Ytjplkffghfikgaa.Ck
open Go.RowKit Rl
set_option linter.unusedVariables false
/-- Numbers as they are read. -/
def Nm (w : World) (v : Value) (l : List Int) : Prop := Row w v (l.map (Value.int .i64))
theorem Ids.nm {B : Nat} {w : World} {v : Value} {l : List Int} (h : Ids B w v l) : Nm w v l := by
  rcases h.2 with ⟨rfl, e⟩ | ⟨g, cap, cur, rfl, _, hh, a, b, c, d⟩
  · have : l = [] := List.length_eq_zero_iff.1 e
    subst this
    exact Row.nil _
  · refine ⟨some ⟨g, 0, none⟩, cap, by simp, fun e => by simp at e, by simpa using a, b, fun i hi => ⟨g, 0, rfl, ?_⟩⟩
    have hi' : i < l.length := by simpa using hi
    rw [Nat.zero_add, cell_of hh, ← Array.getElem?_toList]
    have h1 : (cur.toList.take (l.length * 1))[i]? = (l.map (Value.int .i64))[i]? := by rw [d]
    rw [List.getElem?_take_of_lt (by omega)] at h1
    rw [h1, List.getElem?_eq_getElem hi]
theorem Nm.below {w w' : World} {v : Value} {l : List Int} (h : Nm w v l) (hb : Below w.heap.size w w') : Nm w' v l := Below.row hb h
theorem Nm.read {w : World} {ao : Option Addr} {n ca : Nat} {l : List Int} (h : Nm w (.slice ao n ca) l) (i : Nat) (hi : i < l.length) : ∃ b off, ao = some ⟨b, off, none⟩ ∧ w.cell? ⟨b, off + i, none⟩ = some (.int .i64 (l.getD i 0)) := by
  obtain ⟨ao', ca', e, _, _, _, h5⟩ := h
  simp at e
  obtain ⟨rfl, _, rfl⟩ := e
  obtain ⟨b, off, e1, hc⟩ := h5 i (by simpa using hi)
  refine ⟨b, off, e1, ?_⟩
  rw [hc]
  simp [List.getD, hi]
theorem Nm.form {w : World} {v : Value} {l : List Int} (h : Nm w v l) : ∃ ao ca, v = .slice ao l.length ca := by
  obtain ⟨ao, ca, e, _⟩ := h
  exact ⟨ao, ca, by rw [e]; simp⟩
theorem take_ne {A B : List Int} {k : Nat} (hA : k < A.length) (hB : k < B.length) (h : A.getD k 0 ≠ B.getD k 0) : A ≠ B := fun e => h (by rw [e])
theorem take_eq {A B : List Int} {k : Nat} (hA : k < A.length) (hB : k < B.length) (h0 : A.take k = B.take k) (h : A.getD k 0 = B.getD k 0) : A.take (k + 1) = B.take (k + 1) := by
  rw [List.take_succ_eq_append_getElem hA, List.take_succ_eq_append_getElem hB, h0]
  simp [List.getD, hA, hB] at h
  rw [h]
set_option maxHeartbeats 2000000 in
theorem ids_any (w : World) (v u : Value) (A B : List Int) (hv : Nm w v A) (hu : Nm w u B) : Calls Try.prog 17 #[v, u] w fun e w' => e = .returned (.bool (decide (A = B))) ∧ Qt w w' := by
  obtain ⟨ao, ca, rfl⟩ := hv.form
  obtain ⟨bo, cb, rfl⟩ := hu.form
  obtain ⟨z, hz⟩ : ∃ z, Hid (decide (A = B) = z) := ⟨_, rfl⟩
  rw [hz.out]
  obtain ⟨N, hN⟩ : ∃ N, Hid (A.length = N) := ⟨_, rfl⟩
  obtain ⟨M, hM⟩ : ∃ M, Hid (B.length = M) := ⟨_, rfl⟩
  rw [hN.out] at hv ⊢
  rw [hM.out] at hu ⊢
  have hNb : N ≤ 9223372036854775807 := by
    obtain ⟨ao', ca', e, _, q1, q2, _⟩ := hv
    unfold maxLen at q2
    simp at q1
    rw [← hN.out]
    omega
  have HV := hide hv
  have HU := hide hu
  clear hv hu
  by_cases hnm : N = M
  · subst hnm
    have hnm' : ¬ (¬ ((N : Int) = (N : Int))) := fun q => q rfl
    go_enter Try.func17, Try.ntmps17
    go_wp2_with fail
    go_loopw [5] (fun iv wr => ∃ k : Nat, iv = .int .i64 k ∧ k ≤ N ∧ Hid (A.take k = B.take k ∧ Qt w wr)) (fun iv _ => N - (intOf iv).toNat)
    case atStart => exact ⟨0, rfl, Nat.zero_le _, rfl, ⟨0, rfl⟩⟩
    case round =>
      obtain ⟨k, rfl, hk, hQ⟩ := hrel
      by_cases hlt : k < N
      · have i1 : (k : Int) < (N : Int) := by omega
        have i0 : (0 : Int) ≤ (k : Int) := by omega
        have hb := hQ.out.2.below w.heap.size
        obtain ⟨b1, o1, rfl, d1⟩ := (HV.out.below hb).read k (by rw [hN.out]; exact hlt)
        obtain ⟨b2, o2, rfl, d2⟩ := (HU.out.below hb).read k (by rw [hM.out]; exact hlt)
        clear hb
        obtain ⟨x, hx⟩ : ∃ x, Hid (A.getD k 0 = x) := ⟨_, rfl⟩
        obtain ⟨y, hy⟩ : ∃ y, Hid (B.getD k 0 = y) := ⟨_, rfl⟩
        rw [hx.out] at d1
        rw [hy.out] at d2
        by_cases he : x = y
        · subst he
          have hQ2 : Hid (∀ q, Qt wr q → A.take (k + 1) = B.take (k + 1) ∧ Qt w q) := fun q hq => ⟨take_eq (by rw [hN.out]; exact hlt) (by rw [hM.out]; exact hlt) hQ.out.1 (by rw [hx.out, hy.out]), hQ.out.2.trans hq⟩
          go_upto_region 6 with fail
          go_quiet (fail)
          go_wp2_with fail
          go_roundw
          case rel => exact ⟨k + 1, by go_num, by omega, hQ2.out _ ⟨_, rfl⟩⟩
          case measure => simp [intOf]; omega
        · have FIN : Hid (z = false) := by
            show _ = _
            rw [← hz.out]
            exact decide_eq_false (take_ne (by rw [hN.out]; exact hlt) (by rw [hM.out]; exact hlt) (by rw [hx.out, hy.out]; exact he))
          have hne : ¬ (x = y) := he
          have hQ2 : Hid (∀ q, Qt wr q → Qt w q) := fun q hq => hQ.out.2.trans hq
          go_upto_region 6 with fail
          go_quiet (fail)
          go_wp2_with fail
          go_ret
          exact ⟨by rw [FIN.out]; rfl, hQ2.out _ ⟨_, rfl⟩⟩
      · obtain rfl : k = N := by omega
        have FIN : Hid (z = true) := by
          show _ = _
          rw [← hz.out]
          have := hQ.out.1
          rw [List.take_of_length_le (by rw [hN.out]; exact Nat.le_refl _), List.take_of_length_le (by rw [hM.out]; exact Nat.le_refl _)] at this
          exact decide_eq_true this
        go_wp2_with fail
        go_ret
        exact ⟨by rw [FIN.out]; rfl, hQ.out.2⟩
  · have FIN : Hid (z = false) := by
      show _ = _
      rw [← hz.out]
      exact decide_eq_false (fun e => hnm (by rw [← hN.out, ← hM.out, e]))
    have hne : ¬ ((N : Int) = (M : Int)) := by omega
    go_enter Try.func17, Try.ntmps17
    go_wp2_with fail
    go_ret
    exact ⟨by rw [FIN.out]; rfl, ⟨0, rfl⟩⟩
end Go.Proofs.Ytjplkffghfikgaa.Ck

/-
  begun: the clock's few first calls.
-/
namespace Go.Proofs.Ytjplkffghfikgaa.Ck
open Go.RowKit Rl
set_option linter.unusedVariables false
/-- A clock of the call's own memory, from w0 on. -/
structure Mine (w0 w : World) (b : Nat) (c : C) (v : Value) (l S : List Tm) : Prop where
  ck : Ck w b c v l S
  un : Un S
  nb : Nb c.nx S
  below : Below w0.heap.size w0 w
  own : ∀ k, Own b v k → w0.heap.size ≤ k
theorem Stp.below_of {b : Nat} {v v' : Value} {w w' : World} {B : Nat} (h : Stp b v v' w w') (hB : B ≤ w.heap.size) (ho : ∀ k, Own b v k → B ≤ k) : Below B w w' ∧ ∀ k, Own b v' k → B ≤ k := by
  refine ⟨h.1.below hB ho, ?_⟩
  rintro k (rfl | hk)
  · exact ho _ (.inl rfl)
  · rcases h.2 k hk with e | e
    · exact ho k (.inr e)
    · omega
theorem Mine.step {w0 w w' : World} {b : Nat} {c c' : C} {v v' : Value} {l l' S S' : List Tm} (h : Mine w0 w b c v l S) (hc : Ck w' b c' v' l' S') (hs : Stp b v v' w w') (hu : Un S') (hn : Nb c'.nx S') : Mine w0 w' b c' v' l' S' := by
  obtain ⟨h1, h2⟩ := hs.below_of h.below.size h.own
  exact ⟨hc, hu, hn, h.below.trans h1, h2⟩
theorem Mine.quiet {w0 w w' : World} {b : Nat} {c : C} {v : Value} {l S : List Tm} (h : Mine w0 w b c v l S) (hb : Below w.heap.size w w') : Mine w0 w' b c v l S := ⟨h.ck.below hb, h.un, h.nb, h.below.trans (hb.mono h.below.size), h.own⟩
/-- What is left, or is one more, has numbers as before. -/
theorem Un.sub {S S' : List Tm} (h : Un S) (hs : S'.Sublist S) : Un S' := h.sublist hs
theorem Nb.sub {n : Int} {S S' : List Tm} (h : Nb n S) (hs : S'.Sublist S) : Nb n S' := fun t ht => h t (hs.subset ht)
theorem on_sub (now : Nat) (S : List Tm) : (onS now S).Sublist S := List.dropWhile_sublist _
theorem go_sub (now x : Nat) (S : List Tm) : (goF now x S).2.1.Sublist S := by
  unfold goF
  split
  · exact on_sub _ _
  · exact List.Sublist.refl _
theorem jump_sub (now : Nat) (S : List Tm) : (jumpF now S).2.1.Sublist S := by
  unfold jumpF
  split
  · exact go_sub _ _ _
  · exact List.Sublist.refl _
theorem can_sub (id : Int) (S : List Tm) : (canF id S).1.Sublist S := by
  unfold canF
  split
  · exact List.filter_sublist
  · exact List.Sublist.refl _
theorem aft_ok {now d : Nat} {nx : Int} {S : List Tm} (hu : Un S) (hn : Nb nx S) : Un (aftF now nx d S).2.2.1 ∧ Nb (aftF now nx d S).2.2.2 (aftF now nx d S).2.2.1 ∧ nx ≤ (aftF now nx d S).2.2.2 ∧ (aftF now nx d S).2.2.2 ≤ nx + 1 := by
  unfold aftF
  split
  · exact ⟨hu, hn, by simp, by simp; omega⟩
  · split
    · exact ⟨hu, hn, by simp, by simp; omega⟩
    · refine ⟨?_, ?_, by simp; omega, by simp⟩
      · refine Un.perm (S := ⟨nx, tsB now (plusB d)⟩ :: S) (List.pairwise_cons.2 ⟨fun y hy => ?_, hu⟩) (ins_perm _ S).symm
        have := hn y hy
        simp
        omega
      · intro t ht
        rcases List.mem_cons.1 ((ins_perm _ S).mem_iff.1 ht) with e | e
        · rw [e]; simp; omega
        · have := hn t e; simp; omega
theorem Mine.new {w0 w w' : World} {b n : Nat} (hb : Below w0.heap.size w0 w) (h2 : Below w.heap.size w w') (hwb : w.heap.size ≤ b) (ha : At w' b ⟨n, 1⟩ (.slice none 0 0) []) (hn : n < 9218868437227405312) : Mine w0 w' b ⟨n, 1⟩ (.slice none 0 0) [] [] where
  ck := ⟨ha, fun k _ h => by simp at h, List.Perm.refl _, List.Pairwise.nil, fun t h => by simp at h, by simp, by simp, hn⟩
  un := List.Pairwise.nil
  nb := fun t h => by simp at h
  below := hb.trans (h2.mono hb.size)
  own := by
    rintro k (rfl | hk)
    · exact Nat.le_trans hb.size hwb
    · simp [Value.ownBlock] at hk
/-- After, of a clock of one's own. -/
theorem mine_after {w0 w : World} {b : Nat} {c : C} {v : Value} {l S : List Tm} (h : Mine w0 w b c v l S) (d : Nat) (hd : d < 18446744073709551616) (hnx : c.nx ≤ 1000000) : Calls Try.prog 11 #[.pointer (some ⟨b, 0, none⟩), .float .f64 d] w fun e w' => e = .returned (.tuple #[.int .i64 (aftF c.now c.nx d S).1, .int .i64 (aftF c.now c.nx d S).2.1]) ∧ ∃ v' l', Mine w0 w' b ⟨c.now, (aftF c.now c.nx d S).2.2.2⟩ v' l' (aftF c.now c.nx d S).2.2.1 ∧ Stp b v v' w w' := by
  refine (after_any w b d c v l S h.ck h.nb hd hnx).mono ?_
  rintro e w' ⟨rfl, v', l', C2, S2⟩
  obtain ⟨q1, q2, _⟩ := aft_ok (now := c.now) (d := d) h.un h.nb
  exact ⟨rfl, v', l', h.step C2 S2 q1 q2, S2⟩
theorem mine_cancel {w0 w : World} {b : Nat} {c : C} {v : Value} {l S : List Tm} (h : Mine w0 w b c v l S) (id : Int) : Calls Try.prog 13 #[.pointer (some ⟨b, 0, none⟩), .int .i64 id] w fun e w' => e = .returned (.int .i64 (canF id S).2) ∧ ∃ v' l', Mine w0 w' b c v' l' (canF id S).1 ∧ Stp b v v' w w' := by
  refine (cancel_any w b c v l S id h.ck h.un).mono ?_
  rintro e w' ⟨rfl, v', l', C2, S2⟩
  exact ⟨rfl, v', l', h.step C2 S2 (h.un.sub (can_sub _ _)) (h.nb.sub (can_sub _ _)), S2⟩
theorem mine_go {w0 w : World} {b : Nat} {c : C} {v : Value} {l S : List Tm} (h : Mine w0 w b c v l S) (x : Nat) (hto : x < 18446744073709551616) : Calls Try.prog 15 #[.pointer (some ⟨b, 0, none⟩), .float .f64 x] w fun e w' => ∃ ids v' l', e = .returned (.tuple #[ids, .int .i64 (goF c.now x S).2.2.2]) ∧ Mine w0 w' b ⟨(goF c.now x S).2.2.1, c.nx⟩ v' l' (goF c.now x S).2.1 ∧ Ids w.heap.size w' ids (goF c.now x S).1 ∧ Stp b v v' w w' ∧ (∀ j, v'.ownBlock = some j → ids.ownBlock ≠ some j) := by
  refine (go_any w b x c v l S h.ck hto).mono ?_
  rintro e w' ⟨ids, rfl, v', l', C2, I2, S2, D2⟩
  exact ⟨ids, v', l', rfl, h.step C2 S2 (h.un.sub (go_sub _ _ _)) (h.nb.sub (go_sub _ _ _)), I2, S2, D2⟩
theorem mine_jump {w0 w : World} {b : Nat} {c : C} {v : Value} {l S : List Tm} (h : Mine w0 w b c v l S) : Calls Try.prog 18 #[.pointer (some ⟨b, 0, none⟩)] w fun e w' => ∃ ids v' l', e = .returned ids ∧ Mine w0 w' b ⟨(jumpF c.now S).2.2.1, c.nx⟩ v' l' (jumpF c.now S).2.1 ∧ Ids w.heap.size w' ids (jumpF c.now S).1 ∧ Stp b v v' w w' ∧ (∀ j, v'.ownBlock = some j → ids.ownBlock ≠ some j) := by
  refine (jump_any w b c v l S h.ck).mono ?_
  rintro e w' ⟨ids, rfl, v', l', C2, I2, S2, D2⟩
  exact ⟨ids, v', l', rfl, h.step C2 S2 (h.un.sub (jump_sub _ _)) (h.nb.sub (jump_sub _ _)), I2, S2, D2⟩
end Go.Proofs.Ytjplkffghfikgaa.Ck

/-
  begun.
-/
namespace Go.Proofs.Ytjplkffghfikgaa.Ck
open Go.RowKit Rl
set_option linter.unusedVariables false
theorem ts1 : tsB 4607182418800017408 4611686018427387904 = 4613937818241073152 := by decide +kernel
theorem ts2 : tsB 4607182418800017408 9218868437227405312 = 9218868437227405312 := by decide +kernel
theorem bg1 : aftF 4607182418800017408 1 4611686018427387904 [] = (1, 0, [⟨1, 4613937818241073152⟩], 2) := by
  unfold aftF
  rw [if_neg (by decide), if_neg (by decide), show plusB 4611686018427387904 = 4611686018427387904 by decide, ts1]
  rfl
theorem bg2 : aftF 4607182418800017408 2 9218868437227405312 [⟨1, 4613937818241073152⟩] = (2, 0, [⟨1, 4613937818241073152⟩, ⟨2, 9218868437227405312⟩], 3) := by
  unfold aftF
  rw [if_neg (by decide), if_neg (by decide), show plusB 9218868437227405312 = 9218868437227405312 by decide, ts2]
  have : ins ⟨2, 9218868437227405312⟩ [⟨1, 4613937818241073152⟩] = [⟨1, 4613937818241073152⟩, ⟨2, 9218868437227405312⟩] := by
    simp only [ins]
    rw [if_pos (by decide)]
  rw [this]
  rfl
theorem bg3 : jumpF 4607182418800017408 [⟨1, 4613937818241073152⟩, ⟨2, 9218868437227405312⟩] = ([1], [⟨2, 9218868437227405312⟩], 4613937818241073152, 0) := by kernel_rfl
theorem bg4 : nxS [⟨2, 9218868437227405312⟩] = (0, false) := by decide
theorem bg5 : timeB 4607182418800017408 = true := by decide
theorem bg6 : plusB 4607182418800017408 = 4607182418800017408 := by decide
set_option maxRecDepth 100000 in
set_option maxHeartbeats 4000000 in
theorem begun16_any (w : World) : Calls Try.prog 7 #[] w fun e w' => e = .returned (.bool true) ∧ Below w.heap.size w w' := by
  have hN := new_any w 4607182418800017408 (by omega)
  rw [bg5, bg6] at hN
  have oe : FloatKind.f64.format.order 4613937818241073152 4613937818241073152 = some .eq := by rw [ord_pos (by omega) (by omega)]; rfl
  go_enter Try.func7, Try.ntmps7
  go_upto_region 4 with (first | (go_at_call 8; refine hN.mono ?_; rintro e w1 ⟨b1, ⟨c, _⟩ | ⟨_, b, hb, rfl, A1⟩⟩; (exact absurd c (by decide)); have M1 := hide (Mine.new (Below.refl _ _) b1 hb A1 (by omega)); clear b1 hb A1) | fail)
  clear hN
  have hA := mine_after M1.out 4611686018427387904 (by omega) (by show (1 : Int) ≤ _; omega)
  simp only [bg1] at hA
  go_upto_region 5 with (first | (go_at_call 11; refine hA.mono ?_; rintro e w2 ⟨rfl, v2, l2, M2, _⟩; replace M2 := hide M2) | fail)
  clear hA M1
  have hA := mine_after M2.out 9218868437227405312 (by omega) (by show (2 : Int) ≤ _; omega)
  simp only [bg2] at hA
  go_upto_region 6 with (first | (go_at_call 26; refine (inf_any _).mono ?_; rintro e w' ⟨rfl, hw⟩; rw [hw]; clear hw w') | (go_at_call 11; refine hA.mono ?_; rintro e w3 ⟨rfl, v3, l3, M3, _⟩; replace M3 := hide M3) | fail)
  clear hA M2
  have hJ := mine_jump M3.out
  simp only [bg3] at hJ
  go_upto_region 7 with (first | (go_at_call 18; refine hJ.mono ?_; rintro e w4 ⟨ids, v4, l4, rfl, M4, I4, _⟩; replace M4 := hide M4; obtain ⟨ao, ca, rfl⟩ := I4.form; clear I4) | fail)
  clear hJ M3
  have hX := next_any _ _ _ _ _ _ M4.out.ck
  simp only [bg4] at hX
  go_upto_region 8 with (first | (go_at_call 24; refine hX.mono ?_; rintro e w5 ⟨rfl, q5⟩; have M5 := hide (M4.out.quiet (q5.below _)); clear q5) | fail)
  clear hX M4
  have hW := now_any _ _ _ _ _ M5.out.ck.at_ M5.out.ck.nx
  have hT := timers_any _ _ _ _ _ _ M5.out.ck
  go_wp2_with (first | (go_at_call 22; refine hW.mono ?_; rintro e w' ⟨rfl, hw⟩; rw [hw]; clear hw w') | (go_at_call 23; refine hT.mono ?_; rintro e w6 ⟨vf, rfl, T6', b6⟩; obtain ⟨ao6, ca6, rfl⟩ := rows_form T6'; clear T6'; replace b6 := hide b6))
  go_ret
  exact ⟨rfl, M5.out.below.trans (b6.out.mono M5.out.below.size)⟩
end Go.Proofs.Ytjplkffghfikgaa.Ck

/-
  Two clocks side by side; what goes off in two steps, by data.
-/
namespace Go.Proofs.Ytjplkffghfikgaa.Ck
open Go.RowKit Rl
set_option linter.unusedVariables false
theorem Mine.but {X : Nat → Prop} {W w w' : World} {b : Nat} {c : C} {v : Value} {l S : List Tm} (h : Mine W w b c v l S) (hb : But X w w') (hx : ∀ k, Own b v k → ¬ X k) (hX : ∀ k, X k → W.heap.size ≤ k) : Mine W w' b c v l S :=
  ⟨h.ck.but hb hx, h.un, h.nb, h.below.trans (hb.below h.below.size hX), h.own⟩
/-- Two clocks of the call's own memory, no block of both. -/
structure Two (W w : World) (ba : Nat) (ca : C) (va : Value) (la Sa : List Tm) (bb : Nat) (cb : C) (vb : Value) (lb Sb : List Tm) : Prop where
  a : Mine W w ba ca va la Sa
  b : Mine W w bb cb vb lb Sb
  dj : ∀ k, Own ba va k → ¬ Own bb vb k
theorem Two.symm {W w : World} {ba bb : Nat} {ca cb : C} {va vb : Value} {la Sa lb Sb : List Tm} (h : Two W w ba ca va la Sa bb cb vb lb Sb) : Two W w bb cb vb lb Sb ba ca va la Sa := ⟨h.b, h.a, fun k hb ha => h.dj k ha hb⟩
theorem Two.step {W w w' : World} {ba bb : Nat} {ca cb ca' : C} {va vb va' : Value} {la Sa lb Sb la' Sa' : List Tm} (h : Two W w ba ca va la Sa bb cb vb lb Sb) (m : Mine W w' ba ca' va' la' Sa') (s : Stp ba va va' w w') : Two W w' ba ca' va' la' Sa' bb cb vb lb Sb := by
  refine ⟨m, h.b.but s.1 (fun k hb ha => h.dj k ha hb) (fun k hk => h.a.own k hk), ?_⟩
  rintro k (rfl | hk) hb
  · exact h.dj k (.inl rfl) hb
  · rcases s.2 k hk with e | e
    · exact h.dj k (.inr e) hb
    · have := h.b.ck.at_.lt k hb; omega
theorem Two.quiet {W w w' : World} {ba bb : Nat} {ca cb : C} {va vb : Value} {la Sa lb Sb : List Tm} (h : Two W w ba ca va la Sa bb cb vb lb Sb) (hb : Below w.heap.size w w') : Two W w' ba ca va la Sa bb cb vb lb Sb := ⟨h.a.quiet hb, h.b.quiet hb, h.dj⟩
theorem Two.but {X : Nat → Prop} {W w w' : World} {ba bb : Nat} {ca cb : C} {va vb : Value} {la Sa lb Sb : List Tm} (h : Two W w ba ca va la Sa bb cb vb lb Sb) (hb : But X w w') (h1 : ∀ k, Own ba va k → ¬ X k) (h2 : ∀ k, Own bb vb k → ¬ X k) (hX : ∀ k, X k → W.heap.size ≤ k) : Two W w' ba ca va la Sa bb cb vb lb Sb := ⟨h.a.but hb h1 hX, h.b.but hb h2 hX, h.dj⟩
/-- A list apart from both. -/
def Far (ba : Nat) (va : Value) (bb : Nat) (vb ids : Value) : Prop := ∀ k, ids.ownBlock = some k → ¬ Own ba va k ∧ ¬ Own bb vb k
theorem Far.symm {ba bb : Nat} {va vb ids : Value} (h : Far ba va bb vb ids) : Far bb vb ba va ids := fun k hk => ⟨(h k hk).2, (h k hk).1⟩
/-- What lies apart from the first of two stays, whatever it does; and stays apart. -/
theorem Far.keep {W w w' : World} {B ba bb : Nat} {ca cb : C} {va vb va' ids : Value} {la Sa lb Sb : List Tm} {L : List Int} (h : Two W w ba ca va la Sa bb cb vb lb Sb) (hi : Ids B w ids L) (hf : Far ba va bb vb ids) (s : Stp ba va va' w w') : Ids B w' ids L ∧ Far ba va' bb vb ids := by
  refine ⟨hi.but s.1 (fun k hk => (hf k hk).1), fun k hk => ⟨?_, (hf k hk).2⟩⟩
  rintro (rfl | q)
  · exact (hf _ hk).1 (.inl rfl)
  · rcases s.2 k q with e | e
    · exact (hf k hk).1 (.inr e)
    · have := (hi.lt k hk).2; omega
theorem Ids.none {B : Nat} {w : World} {v : Value} {l : List Int} (h : Ids B w v l) : ∀ n c, v = .slice none n c → n = 0 ∧ c = 0 := by
  intro n c e
  rcases h.2 with ⟨rfl, _⟩ | ⟨g, cap, cur, rfl, _⟩
  · simp at e; exact ⟨e.1.symm, e.2.symm⟩
  · simp at e
end Go.Proofs.Ytjplkffghfikgaa.Ck

/-
  ClockRuns' walk.
-/
namespace Go.Proofs.Ytjplkffghfikgaa.Ck
open Go.RowKit Rl
set_option linter.unusedVariables false
theorem ord_max {b : Nat} (hb : b < 18446744073709551616) : (FloatKind.f64.format.order b 9218868437227405311 == some Ordering.gt) = decide (b = 9218868437227405312) := by
  rcases fcase hb with h | h | h | h
  · rw [order_nan (.inl h)]; have := nan_big h; simp; omega
  · rw [ord_pos h (by omega)]
    by_cases hi : b = 9218868437227405312
    · subst hi; rw [cmpinf]; decide
    · rcases cmpmax (show b ≤ 9218868437227405311 by omega) with e | e <;> rw [e] <;> simp [hi]
  · subst h; rw [ord_mz (by omega), show compare 0 9218868437227405311 = Ordering.lt from Nat.compare_eq_lt.2 (by omega)]; decide
  · rw [ord_neg h.1 h.2 (by omega)]; simp; omega
theorem isInf1_any (w : World) (b : Nat) (hb : b < 18446744073709551616) : Calls Try.prog 21 #[.float .f64 b, .int .i64 1] w fun e w' => e = .returned (.bool (decide (b = 9218868437227405312))) ∧ w' = w := by
  have o1 := ord_max hb
  obtain ⟨z, hz⟩ : ∃ z, Hid (decide (b = 9218868437227405312) = z) := ⟨_, rfl⟩
  rw [hz.out] at o1 ⊢
  go_enter Try.func21, Try.ntmps21
  go_wp2_with fail
  go_ret
  exact ⟨by first | rfl | (rw [← o1]; rfl), rfl⟩
end Go.Proofs.Ytjplkffghfikgaa.Ck

/-
  Rounding keeps the order; sums of times go on.
-/
namespace Go.Proofs.Ytjplkffghfikgaa.Ck
open Go.RowKit Rl
set_option linter.unusedVariables false
/-- A sum, by sizes. -/
theorem tsB_fin {a b : Nat} (ha : a < 9218868437227405312) (hb : b < 9218868437227405312) : tsB a b = roundB (magB a + magB b) := by
  have h := add_fin (a := a) (b := b) (by omega) (by omega) (by omega) (by omega)
  rw [if_neg (by omega)] at h
  unfold tsB
  rw [h]
  unfold signB
  rw [sg_pos (by omega), sg_pos (by omega), if_neg (by omega)]
  show roundB (Int.natAbs _) = _
  congr 1
end Go.Proofs.Ytjplkffghfikgaa.Ck

/-
  What ClockOrder asks, by data: who has gone off, who was the last.
-/
namespace Go.Proofs.Ytjplkffghfikgaa.Ck
open Go.RowKit Rl
set_option linter.unusedVariables false
theorem add_zero {d : Nat} (hd : okD d = true) : Ieee.double.add d 0 = some (plusB d) := by
  unfold okD at hd
  simp at hd
  rcases hd with h | h
  · have h1 := (tsB_some h (show 0 ≤ 9218868437227405312 by omega)).1
    rw [h1, plusB, if_neg (by omega)]
    congr 1
    by_cases e : d = 9218868437227405312
    · subst e; decide +kernel
    · rw [tsB_fin (by omega) (by omega), mag_zero, Nat.add_zero, round_mag (by omega)]
  · subst h; decide +kernel
end Go.Proofs.Ytjplkffghfikgaa.Ck

/-
  ClockRuns' walk.
-/
namespace Go.Proofs.Ytjplkffghfikgaa.Ck
open Go.RowKit Rl
set_option linter.unusedVariables false
end Go.Proofs.Ytjplkffghfikgaa.Ck

/-
  Rows beside a clock; numbers told to it one by one.
-/
namespace Go.Proofs.Ytjplkffghfikgaa.Ck
open Go.RowKit Rl
set_option linter.unusedVariables false
/-- Values as a list of memory of one's own, of another kind than timers. -/
def Rw (B : Nat) (T : TypeId) (w : World) (v : Value) (vs : List Value) : Prop := w.ownsRow B T 1 v vs.length vs
theorem rows_two {w : World} {b1 b2 e1 e2 s1 s2 n1 n2 : Nat} {v1 v2 : Value} {x1 x2 : List Value} (h1 : w.ownsRow b1 e1 s1 v1 n1 x1) (h2 : w.ownsRow b2 e2 s2 v2 n2 x2) (he : e1 ≠ e2) : ∀ k, v1.ownBlock = some k → v2.ownBlock ≠ some k := by
  rintro k k1 k2
  rcases h1.2 with ⟨rfl, _⟩ | ⟨g, cap, cur, rfl, hg, hh, r⟩
  · simp [Value.ownBlock] at k1
  rcases h2.2 with ⟨rfl, _⟩ | ⟨g', cap', cur', rfl, hg', hh', r'⟩
  · simp [Value.ownBlock] at k2
  simp [Value.ownBlock] at k1 k2
  subst k1 k2
  rw [hh] at hh'
  simp at hh'
  exact he hh'.2
theorem Rw.far {w : World} {B b : Nat} {T : TypeId} {c : C} {u v : Value} {l S : List Tm} {vs : List Value} (h : Rw B T w v vs) (hc : Ck w b c u l S) (h1 : T ≠ 56) (h2 : T ≠ 70) : ∀ k, v.ownBlock = some k → ¬ Own b u k := by
  rintro k hk (rfl | q)
  · exact rows_no h hc.at_.box (Ne.symm h1) hk
  · exact rows_two h hc.at_.row h2 k hk q
theorem Rw.below {w w' : World} {B : Nat} {T : TypeId} {v : Value} {vs : List Value} (h : Rw B T w v vs) (hb : Below w.heap.size w w') : Rw B T w' v vs := rows_but h (But.of_below hb fun _ => False) fun _ _ c => c
theorem Rw.form {w : World} {B : Nat} {T : TypeId} {v : Value} {vs : List Value} (h : Rw B T w v vs) : ∃ ao ca, v = .slice ao vs.length ca := rows_form h
theorem Rw.read {w : World} {B : Nat} {T : TypeId} {ao : Option Addr} {n ca : Nat} {vs : List Value} (h : Rw B T w (.slice ao n ca) vs) (i : Nat) (hi : i < vs.length) : ∃ b, ao = some ⟨b, 0, none⟩ ∧ w.cell? ⟨b, i, none⟩ = some (vs.getD i undef) ∧ w.frozen? ⟨b, i, none⟩ = false := by
  rcases h.2 with ⟨e, q⟩ | ⟨g, cap, cur, e, hg, hh, a1, a2, a3, a4⟩
  · omega
  · simp at e
    obtain ⟨rfl, rfl, rfl⟩ := e
    refine ⟨g, rfl, ?_, by simp [World.frozen?, hh]⟩
    rw [cell_of hh, ← Array.getElem?_toList]
    have h1 : (cur.toList.take (vs.length * 1))[i]? = vs[i]? := by rw [a4]
    rw [List.getElem?_take_of_lt (by omega)] at h1
    rw [h1]
    simp [List.getD, hi]
/-- A cell of the row written over. -/
theorem Rw.set {w : World} {B b n ca : Nat} {T : TypeId} {vs : List Value} (h : Rw B T w (.slice (some ⟨b, 0, none⟩) n ca) vs) (hn : n = vs.length) (i : Nat) (x : Value) : Rw B T (w.setCell ⟨b, i, none⟩ x) (.slice (some ⟨b, 0, none⟩) n ca) (vs.set i x) ∧ But (fun k => k = b) w (w.setCell ⟨b, i, none⟩ x) := by
  subst hn
  obtain ⟨h1, h2⟩ := World.ownsRow.stored h i x
  refine ⟨?_, But.of_grownBy h2 fun k e => by cases e; rfl⟩
  unfold Rw
  rw [List.length_set]
  exact h1
end Go.Proofs.Ytjplkffghfikgaa.Ck

/-
  The document's clock in memory; its time, New, Next.
-/
namespace Go.Proofs.Ytjplkffghfikgaa.Ck
open Go.RowKit Rl
set_option linter.unusedVariables false
/-- Timers as the front of a row, without room behind them. -/
def Tf (w : World) (v : Value) (S : List Tm) : Prop := ∃ (g : Nat) (cur : Array Value), v = .slice (some ⟨g, 0, none⟩) S.length S.length ∧ w.heap[g]? = some (.cells cur 70 (0, 0)) ∧ cur.toList.take (S.length * 2) = tcells S ∧ S.length ≤ 1000000
def Tr (w : World) (v : Value) (S : List Tm) : Prop := Tms w v S ∨ Tf w v S
theorem Tf.but {X : Nat → Prop} {A B : World} {v : Value} {l : List Tm} (h : Tf A v l) (hb : But X A B) (hx : ∀ k, v.ownBlock = some k → ¬ X k) : Tf B v l := by
  obtain ⟨g, cur, rfl, hh, r⟩ := h
  exact ⟨g, cur, rfl, hb.at hh (hx g rfl), r⟩
theorem Tr.but {X : Nat → Prop} {A B : World} {v : Value} {l : List Tm} (h : Tr A v l) (hb : But X A B) (hx : ∀ k, v.ownBlock = some k → ¬ X k) : Tr B v l := h.imp (fun h => h.but hb hx) (fun h => h.but hb hx)
theorem Tr.below {A B : World} {v : Value} {l : List Tm} (h : Tr A v l) (hb : Below A.heap.size A B) : Tr B v l := h.but (But.of_below hb fun _ => False) fun _ _ c => c
theorem Tr.no {w : World} {v : Value} {l : List Tm} {b : Nat} {cs : Array Value} {T : TypeId} {fz : Nat × Nat} (h : Tr w v l) (hb : w.heap[b]? = some (.cells cs T fz)) (hT : T ≠ 70) : v.ownBlock ≠ some b := by
  rcases h with h | ⟨g, cur, rfl, hh, _⟩
  · exact h.no hb hT
  · intro e
    simp [Value.ownBlock] at e
    subst e
    rw [hb] at hh
    simp at hh
    exact hT hh.2.1
theorem Tr.lt {w : World} {v : Value} {l : List Tm} (h : Tr w v l) : ∀ k, v.ownBlock = some k → k < w.heap.size := by
  rcases h with h | ⟨g, cur, rfl, hh, _⟩
  · exact h.lt
  · intro k hk
    simp [Value.ownBlock] at hk
    rw [← hk]
    exact heap_lt hh
theorem Tr.form {w : World} {v : Value} {l : List Tm} (h : Tr w v l) : ∃ ao ca, v = .slice ao l.length ca ∧ ca ≤ 9223372036854775807 ∧ l.length ≤ ca := by
  rcases h with h | ⟨g, cur, rfl, _, _, q⟩
  · exact h.form
  · exact ⟨_, _, rfl, by omega, Nat.le_refl _⟩
/-- A row of timers, as it is read. -/
theorem Tr.read {w : World} {v : Value} {l : List Tm} (h : Tr w v l) (hl : l ≠ []) : ∃ tb ca, v = .slice (some ⟨tb, 0, none⟩) l.length ca ∧ l.length ≤ ca ∧ ca ≤ 9223372036854775807 ∧ ∀ i, i < l.length → w.cell? ⟨tb, i * 2, none⟩ = some (.int .i64 (g l i).id) ∧ w.cell? ⟨tb, i * 2 + 1, none⟩ = some (.float .f64 (g l i).b) := by
  rcases h with h | ⟨gb, cur, rfl, hh, hc, hq⟩
  · obtain ⟨tb, ca, cs, rfl, _, _, _, q1, q2, _⟩ := h.at hl
    exact ⟨tb, ca, rfl, q1, q2, fun i hi => h.read i hi⟩
  · refine ⟨gb, _, rfl, Nat.le_refl _, by omega, fun i hi => ?_⟩
    have hj : ∀ j, j < l.length * 2 → w.cell? ⟨gb, j, none⟩ = (tcells l)[j]? := by
      intro j hj
      rw [cell_of hh, ← hc, List.getElem?_take_of_lt hj]
      simp
    obtain ⟨e1, e2⟩ := tcells_get l i hi
    exact ⟨by rw [hj _ (by omega), e1], by rw [hj _ (by omega), e2]⟩
/-- At block b lies the document's clock. -/
structure RA (w : World) (b now : Nat) (N : Int) (v : Value) (S : List Tm) : Prop where
  box : w.heap[b]? = some (.cells #[.float .f64 now, v, .int .i64 N] 41 (0, 0))
  row : Tr w v S
theorem RA.cells {w : World} {b now : Nat} {N : Int} {v : Value} {S : List Tm} (h : RA w b now N v S) : w.cell? ⟨b, 0, none⟩ = some (.float .f64 now) ∧ w.cell? ⟨b, 1, none⟩ = some v ∧ w.cell? ⟨b, 2, none⟩ = some (.int .i64 N) := by
  have := h.box
  simp [World.cell?, this]
theorem RA.frozen {w : World} {b now : Nat} {N : Int} {v : Value} {S : List Tm} (h : RA w b now N v S) : w.frozen? ⟨b, 0, none⟩ = false ∧ w.frozen? ⟨b, 1, none⟩ = false ∧ w.frozen? ⟨b, 2, none⟩ = false := by
  have := h.box
  simp [World.frozen?, this]
theorem RA.but {Y : Nat → Prop} {A B : World} {b now : Nat} {N : Int} {v : Value} {S : List Tm} (h : RA A b now N v S) (hb : But Y A B) (hx : ∀ k, Own b v k → ¬ Y k) : RA B b now N v S := ⟨hb.at h.box (hx b (.inl rfl)), h.row.but hb fun k hk => hx k (.inr hk)⟩
theorem RA.below {A B : World} {b now : Nat} {N : Int} {v : Value} {S : List Tm} (h : RA A b now N v S) (hb : Below A.heap.size A B) : RA B b now N v S := h.but (But.of_below hb fun _ => False) fun _ _ c => c
theorem RA.lt {w : World} {b now : Nat} {N : Int} {v : Value} {S : List Tm} (h : RA w b now N v S) : ∀ k, Own b v k → k < w.heap.size := by
  rintro k (rfl | hk)
  · exact heap_lt h.box
  · exact h.row.lt k hk
theorem RA.ap {w : World} {b now : Nat} {N : Int} {v : Value} {S : List Tm} (h : RA w b now N v S) : v.ownBlock ≠ some b := h.row.no h.box (by decide)
theorem RA.setV {w : World} {b now : Nat} {N : Int} {v v' : Value} {S S' : List Tm} (h : RA w b now N v S) (hv : Tr w v' S') : RA (w.setCell ⟨b, 1, none⟩ v') b now N v' S' := by
  refine ⟨?_, ?_⟩
  · rw [heap_setCell_same w b 1 _ _ _ h.box]; simp
  · have g1 : But (fun k => k = b) w (w.setCell ⟨b, 1, none⟩ v') := But.of_grownBy (grown_setCell _ _ _ _) fun k e => by cases e; rfl
    exact hv.but g1 fun k hk e => hv.no h.box (by decide) (by rw [← e]; exact hk)
theorem RA.setNow {w : World} {b now : Nat} {N : Int} {v : Value} {S : List Tm} (h : RA w b now N v S) (n : Nat) : RA (w.setCell ⟨b, 0, none⟩ (.float .f64 n)) b n N v S := by
  refine ⟨?_, ?_⟩
  · rw [heap_setCell_same w b 0 _ _ _ h.box]; simp
  · have g1 : But (fun k => k = b) w (w.setCell ⟨b, 0, none⟩ (.float .f64 n)) := But.of_grownBy (grown_setCell _ _ _ _) fun k e => by cases e; rfl
    exact h.row.but g1 fun k hk e => h.ap (by rw [← e]; exact hk)
theorem RA.setN {w : World} {b now : Nat} {N : Int} {v : Value} {S : List Tm} (h : RA w b now N v S) (n : Int) : RA (w.setCell ⟨b, 2, none⟩ (.int .i64 n)) b now n v S := by
  refine ⟨?_, ?_⟩
  · rw [heap_setCell_same w b 2 _ _ _ h.box]; simp
  · have g1 : But (fun k => k = b) w (w.setCell ⟨b, 2, none⟩ (.int .i64 n)) := But.of_grownBy (grown_setCell _ _ _ _) fun k e => by cases e; rfl
    exact h.row.but g1 fun k hk e => h.ap (by rw [← e]; exact hk)
theorem order_gt0 {d : Nat} (hd : d < 18446744073709551616) (h0 : ¬ (d = 0 ∨ d = 9223372036854775808)) : (FloatKind.f64.format.order d 0 == some Ordering.gt) = okD d := by
  rcases fcase hd with q | q | q | q
  · rw [order_nan (.inl q)]; have := nan_big q; unfold okD; simp; omega
  · rw [ord_pos q (by omega), cmp0 (by omega)]; unfold okD; simp; omega
  · omega
  · rw [ord_neg q.1 q.2 (by omega)]; unfold okD; simp; omega
theorem rtime_any (w : World) (d : Nat) (hd : d < 18446744073709551616) : Calls Try.prog 29 #[.float .f64 d] w fun e w' => e = .returned (.tuple #[.float .f64 (plusB d), .bool (okD d)]) ∧ w' = w := by
  have o1 := order_zero hd
  obtain ⟨z, hz⟩ : ∃ z, Hid (plusB d = z) := ⟨_, rfl⟩
  obtain ⟨y, hy⟩ : ∃ y, Hid (okD d = y) := ⟨_, rfl⟩
  rw [hz.out, hy.out]
  by_cases h : d = 0 ∨ d = 9223372036854775808
  · rw [decide_eq_true h] at o1
    obtain rfl : z = 0 := by rw [← hz.out]; rcases h with rfl | rfl <;> rfl
    obtain rfl : y = true := by rw [← hy.out]; rcases h with rfl | rfl <;> decide
    clear h
    go_enter Try.func29, Try.ntmps29
    go_wp2_with fail
    go_ret2
    exact ⟨rfl, rfl⟩
  · rw [decide_eq_false h] at o1
    obtain rfl : z = d := by rw [← hz.out]; unfold plusB; rw [if_neg (by omega)]
    have o2 := order_gt0 hd h
    rw [hy.out] at o2
    clear h
    go_enter Try.func29, Try.ntmps29
    go_wp2_with fail
    go_ret2
    exact ⟨by first | rfl | (rw [← o2]; rfl), rfl⟩
theorem time_ok (s : Nat) : timeB s = (okD s && !decide (plusB s = 9218868437227405312)) := by
  unfold timeB okD plusB
  rw [Bool.eq_iff_iff]
  simp
  split <;> omega
theorem rnew_any (w : World) (s : Nat) (hs : s < 18446744073709551616) : Calls Try.prog 10 #[.float .f64 s] w fun e w' => Below w.heap.size w w' ∧ ((timeB s = false ∧ e = .returned (.tuple #[.pointer none, .int .i64 1])) ∨ (timeB s = true ∧ ∃ b, w.heap.size ≤ b ∧ e = .returned (.tuple #[.pointer (some ⟨b, 0, none⟩), .int .i64 0]) ∧ RA w' b (plusB s) 0 (.slice none 0 0) [])) := by
  have hT := rtime_any w s hs
  have hto := time_ok s
  have hps : plusB s < 18446744073709551616 := by unfold plusB; split <;> omega
  have hI := isInf1_any w (plusB s) hps
  cases ho : okD s
  · rw [ho] at hT hto
    have ht : Hid (timeB s = false) := by rw [hto]; rfl
    clear hto
    go_enter Try.func10, Try.ntmps10
    go_wp2_with (go_at_call 29; refine hT.mono ?_; rintro e w' ⟨rfl, hw⟩; rw [hw]; clear hw w')
    go_ret2
    exact ⟨Below.refl _ _, .inl ⟨ht.out, rfl⟩⟩
  · rw [ho] at hT hto
    by_cases hi : plusB s = 9218868437227405312
    · rw [decide_eq_true hi] at hI
      have ht : Hid (timeB s = false) := by rw [hto, hi]; rfl
      clear hto hi
      go_enter Try.func10, Try.ntmps10
      go_wp2_with (first | (go_at_call 29; refine hT.mono ?_; rintro e w' ⟨rfl, hw⟩; rw [hw]; clear hw w') | (go_at_call 21; refine hI.mono ?_; rintro e w' ⟨rfl, hw⟩; rw [hw]; clear hw w'))
      go_ret2
      exact ⟨Below.refl _ _, .inl ⟨ht.out, rfl⟩⟩
    · rw [decide_eq_false hi] at hI
      have ht : Hid (timeB s = true) := by show _ = _; rw [hto]; simp [hi]
      have B1 := hide (box_below w (.cells #[.float .f64 (plusB s), .slice none 0 0, .int .i64 0] 41))
      have N1 := hide (heap_alloc_new w (.cells #[.float .f64 (plusB s), .slice none 0 0, .int .i64 0] 41))
      clear hto hi
      go_enter Try.func10, Try.ntmps10
      go_wp2_with (first | (go_at_call 29; refine hT.mono ?_; rintro e w' ⟨rfl, hw⟩; rw [hw]; clear hw w') | (go_at_call 21; refine hI.mono ?_; rintro e w' ⟨rfl, hw⟩; rw [hw]; clear hw w'))
      go_ret2
      exact ⟨B1.out, .inr ⟨ht.out, _, Nat.le_refl _, rfl, N1.out, .inl (Tms.nil _)⟩⟩
set_option maxRecDepth 100000 in
set_option maxHeartbeats 2000000 in
theorem rnext_any (w : World) (b now : Nat) (N : Int) (v : Value) (S : List Tm) (h : RA w b now N v S) (ht : Tt S) (hl : S.length ≤ 256) : Calls Try.prog 37 #[.pointer (some ⟨b, 0, none⟩)] w fun e w' => e = .returned (.tuple #[.float .f64 (nxS S).1, .bool (nxS S).2]) ∧ w' = w := by
  obtain ⟨c0, c1, c2⟩ := h.cells
  cases S with
  | nil =>
    obtain ⟨ao, ca, rfl, q1, q2⟩ := h.row.form
    clear h
    go_enter Try.func37, Try.ntmps37
    go_wp2_with fail
    go_ret2
    exact ⟨rfl, rfl⟩
  | cons x r =>
    obtain ⟨tb, ca, rfl, q1, q2, hr⟩ := h.row.read (by simp)
    obtain ⟨d0, d1⟩ := hr 0 (by simp)
    have hxb : x.b ≤ 9218868437227405312 := ht x (List.mem_cons_self)
    rw [show g (x :: r) 0 = x from rfl] at d0 d1
    simp only [Nat.zero_mul, Nat.zero_add] at d0 d1
    have hI := isInf1_any w x.b (by omega)
    obtain ⟨M, hM⟩ : ∃ M, Hid ((x :: r).length = M) := ⟨_, rfl⟩
    have hM0 : ¬ ((M : Int) = 0) := by have := hM.out; simp at this; omega
    have hM1 : (0 : Int) < (M : Int) := by omega
    rw [hM.out] at c1 hl
    obtain ⟨z, hz⟩ : ∃ z, Hid (nxS (x :: r) = z) := ⟨_, rfl⟩
    rw [hz.out]
    clear h hr q1
    by_cases hi : x.b = 9218868437227405312
    · obtain rfl : z = (0, false) := by rw [← hz.out]; simp [nxS, hi]
      rw [decide_eq_true hi] at hI
      clear hi
      go_enter Try.func37, Try.ntmps37
      go_wp2_with (go_at_call 21; refine hI.mono ?_; rintro e w' ⟨rfl, hw⟩; rw [hw]; clear hw w')
      go_ret2
      exact ⟨rfl, rfl⟩
    · obtain rfl : z = (x.b, true) := by rw [← hz.out]; have q : x.b < 9218868437227405312 := (by omega); simp [nxS, q]
      rw [decide_eq_false hi] at hI
      clear hi
      go_enter Try.func37, Try.ntmps37
      go_wp2_with (go_at_call 21; refine hI.mono ?_; rintro e w' ⟨rfl, hw⟩; rw [hw]; clear hw w')
      go_ret2
      exact ⟨rfl, rfl⟩
end Go.Proofs.Ytjplkffghfikgaa.Ck

/-
  The document's clock: its lists cut and joined.
-/
namespace Go.Proofs.Ytjplkffghfikgaa.Ck
open Go.RowKit Rl
set_option linter.unusedVariables false
/-- Timers as they lie in a row from a cell on. -/
def Lie (w : World) (tb o : Nat) (S : List Tm) : Prop := ∀ j u, (tcells S)[j]? = some u → w.cell? ⟨tb, o + j, none⟩ = some u
theorem Tr.lie {w : World} {tb n ca : Nat} {l : List Tm} (h : Tr w (.slice (some ⟨tb, 0, none⟩) n ca) l) : Lie w tb 0 l := by
  intro j u hu
  have hj : j < l.length * 2 := by have := (List.getElem?_eq_some_iff.1 hu).1; rwa [tcells_len] at this
  have hne : l ≠ [] := fun e => by rw [e] at hj; simp at hj
  obtain ⟨tb', ca', e, _, _, hr⟩ := h.read hne
  simp at e
  obtain ⟨rfl, _, rfl⟩ := e
  obtain ⟨e1, e2⟩ := tcells_get l (j / 2) (by omega)
  obtain ⟨d1, d2⟩ := hr (j / 2) (by omega)
  rw [Nat.zero_add]
  rcases Nat.mod_two_eq_zero_or_one j with q | q
  · rw [show j / 2 * 2 = j by omega] at e1 d1
    rw [e1] at hu
    rw [d1]; exact hu
  · rw [show j / 2 * 2 + 1 = j by omega] at e2 d2
    rw [e2] at hu
    rw [d2]; exact hu
theorem tcells_drop (l : List Tm) (k : Nat) : tcells (l.drop k) = (tcells l).drop (k * 2) := by
  induction l generalizing k with
  | nil => simp [tcells]
  | cons p r ih =>
    match k with
    | 0 => simp
    | k + 1 =>
      rw [List.drop_succ_cons, ih k]
      show _ = List.drop ((k + 1) * 2) ([_, _] ++ tcells r)
      rw [show (k + 1) * 2 = k * 2 + 1 + 1 by omega]
      simp
theorem tcells_append (l m : List Tm) : tcells (l ++ m) = tcells l ++ tcells m := by simp [tcells]
theorem Lie.drop {w : World} {tb : Nat} {S : List Tm} (h : Lie w tb 0 S) (k : Nat) : Lie w tb (k * 2) (S.drop k) := by
  intro j u hu
  rw [tcells_drop, List.getElem?_drop] at hu
  have := h _ u hu
  rwa [Nat.zero_add] at this
theorem Lie.take {w : World} {tb o : Nat} {S : List Tm} (h : Lie w tb o S) (k : Nat) : Lie w tb o (S.take k) := by
  intro j u hu
  rw [← tcells_take] at hu
  have hj : j < k * 2 := by
    have := (List.getElem?_eq_some_iff.1 hu).1
    rw [List.length_take] at this
    omega
  rw [List.getElem?_take_of_lt hj] at hu
  exact h j u hu
theorem tone (S : List Tm) : ∀ u ∈ tcells S, u.oneCell' = true := by
  intro u hu
  unfold tcells at hu
  obtain ⟨t, _, h⟩ := List.mem_flatMap.1 hu
  simp [tcell] at h
  rcases h with rfl | rfl <;> rfl
/-- append([]Timer(nil), m...): a list of one's own. -/
theorem run_dupT {w : World} {tb o ca : Nat} {m : List Tm} (h : Lie w tb o m) (hl : m.length ≤ 1000000) (ty : TypeId) :
    ∃ v' w', (Builtin.append_ #[39, 39] ty #[.slice none 0 0, .slice (some ⟨tb, o, none⟩) m.length ca]).run Try.prog w = .ok v' w' ∧ Tms w' v' m ∧ Below w.heap.size w w' ∧ (∀ k, v'.ownBlock = some k → w.heap.size ≤ k) := by
  obtain ⟨i0, hi, hz0, hz1, hz2⟩ := info_parts infoTm
  obtain ⟨v', w', hr, ho, hg, _, hat⟩ := run_append_own_at (P := Try.prog) w 0 39 ty 70 i0 (.agg #[.int .i64 0, .float .f64 0]) 2 16 Try.underlying39 hi hz0 hz1 hz2 rfl (by decide) (.slice none 0 0) 0 [] (World.ownsRow_nil _ _ _ _) ⟨tb, o, none⟩ m.length ca (tcells m) (by rw [tcells_len]) (fun j u hu => by rw [addr_add]; exact h j u hu) (tone m) (by unfold maxLen; omega) (by omega) (Nat.zero_le _)
  refine ⟨v', w', hr, ?_, ?_, ?_⟩
  · unfold Tms
    simpa using ho
  · exact (Below.refl _ _).grown hg (Nat.le_refl _) (fun k hk => by simp [Value.ownBlock] at hk)
  · intro k hk
    rcases hat with e | e
    · rw [e] at hk; simp [Value.ownBlock] at hk
    · rw [e] at hk; cases hk; exact Nat.le_refl _
theorem cap_fits16 {need old : Nat} (h : old < need) (hb : need ≤ 1000000) : Builtin.nextslicecap need old * 16 ≤ 281474976710656 := by
  have := nextslicecap_le_wide h
  omega
/-- append(l[:i:i], m...): a list of one's own, or the front where nothing comes behind. -/
theorem run_cutT {w : World} {tb gb o ca : Nat} {l m : List Tm} (h : Lie w tb 0 l) (h2 : Lie w gb o m) (hm : m ≠ []) (hl : l.length + m.length ≤ 1000000) (ty : TypeId) :
    ∃ v' w', (Builtin.append_ #[39, 39] ty #[.slice (some ⟨tb, 0, none⟩) l.length l.length, .slice (some ⟨gb, o, none⟩) m.length ca]).run Try.prog w = .ok v' w' ∧ Tms w' v' (l ++ m) ∧ Below w.heap.size w w' ∧ (∀ k, v'.ownBlock = some k → w.heap.size ≤ k) := by
  obtain ⟨i, hi, hz0, hs1, hy⟩ := info_parts infoTm
  have hm0 : 0 < m.length := List.length_pos_iff.2 hm
  have hr := run_append_grow (P := Try.prog) w 39 ty 70 i (.agg #[.int .i64 0, .float .f64 0]) Try.underlying39 hi hz0 ⟨tb, 0, none⟩ l.length l.length (tcells l) (by rw [hs1, tcells_len]) (fun j v hv => by rw [addr_add]; exact h j v hv) ⟨gb, o, none⟩ m.length ca (tcells m) (by rw [hs1, tcells_len]) (fun j v hv => by rw [addr_add]; exact h2 j v hv) (by omega) (by omega) (by rw [hy]; exact cap_fits16 (by omega) (by omega))
  have hge := grownCap_ge w (l.length + m.length) l.length 70
  have hle := grownCap_le_maxLen w (l.length + m.length) l.length 70 (by unfold maxLen; omega)
  refine ⟨_, _, hr, ?_, (Below.refl _ w).drew.alloc (Nat.le_refl _) _, fun k hk => by simp [Value.ownBlock] at hk; omega⟩
  unfold Tms
  rw [List.length_append]
  refine ⟨by rw [tcells_len, List.length_append], Or.inr ⟨w.heap.size, _, _, rfl, Nat.zero_le _, heap_alloc_new w.drew _, hge, hle, ?_, ?_⟩⟩
  · simp only [Array.size_append, List.size_toArray, size_zeroCells, tcells_len]
    simp [Value.cells]
    omega
  · rw [tcells_append]
    simp only [Array.toList_append]
    exact List.take_left' (by simp [tcells_len]; omega)
end Go.Proofs.Ytjplkffghfikgaa.Ck

/-
  The document's Go.
-/
namespace Go.Proofs.Ytjplkffghfikgaa.Ck
open Go.RowKit Rl
set_option linter.unusedVariables false
theorem RA.far {w : World} {B b now : Nat} {N : Int} {v ids : Value} {S : List Tm} {L : List Int} (h : RA w b now N v S) (hi : Ids B w ids L) : ∀ k, ids.ownBlock = some k → ¬ Own b v k := by
  rintro k hk (rfl | q)
  · exact rows_no hi h.box (by decide) hk
  · rcases hi.2 with ⟨rfl, _⟩ | ⟨g, cap, cur, rfl, hg, hh, r⟩
    · simp [Value.ownBlock] at hk
    · simp [Value.ownBlock] at hk
      subst hk
      exact h.row.no hh (by decide) q
/-- Behind k timers that went off. -/
def RGo (w wr : World) (b t : Nat) (N : Int) (v v' : Value) (S : List Tm) (ids : Value) (k : Nat) : Prop :=
  RA wr b t N v' (S.drop k) ∧ Ids w.heap.size wr ids ((S.take k).map Tm.id) ∧ Stp b v v' w wr ∧ (∀ x ∈ S.take k, x.b ≤ t)
theorem goOk_eq (now x : Nat) : goOk now x = (okD x && !decide (plusB x < now) && !decide (plusB x = 9218868437227405312)) := by
  unfold goOk
  rw [time_ok]
  cases okD x <;> cases (decide (plusB x < now)) <;> simp
theorem RGo.mid {w wr w3 w4 : World} {b t k : Nat} {N : Int} {v v' ids : Value} {S r : List Tm} {x : Tm} (h : RGo w wr b t N v v' S ids k) (hS : S.drop k = x :: r) (b3 : Below wr.heap.size wr w3) (g4 : w3.grownBy w4 ids.ownBlock) : RA w4 b t N v' (x :: r) := by
  obtain ⟨hA, hi, hst, hle⟩ := h
  rw [hS] at hA
  have bu : But (fun j => ids.ownBlock = some j) wr w4 := (But.of_below b3 _).trans (But.of_grownBy g4 fun j e => e)
  exact hA.but bu (fun j ho e => hA.far hi j e ho)
theorem RGo.step {w wr w3 w4 w5 : World} {b t k : Nat} {N : Int} {v v' ids v4 v5 : Value} {S r : List Tm} {x : Tm} (h : RGo w wr b t N v v' S ids k) (hS : S.drop k = x :: r) (hx : x.b ≤ t) (hb : b < w.heap.size)
    (b3 : Below wr.heap.size wr w3) (i4 : Ids w.heap.size w4 v4 ((S.take k).map Tm.id ++ [x.id])) (g4 : w3.grownBy w4 ids.ownBlock) (b5 : Below w4.heap.size w4 w5) (t5 : Tms w5 v5 r) (n5 : ∀ j, v5.ownBlock = some j → w4.heap.size ≤ j) :
    RA w4 b t N v' (x :: r) ∧ RGo w (w5.setCell ⟨b, 1, none⟩ v5) b t N v v5 S v4 (k + 1) ∧ w5.heap[b]? = some (.cells #[.float .f64 t, v', .int .i64 N] 41 (0, 0)) := by
  obtain ⟨hA, hi, hst, hle⟩ := h
  rw [hS] at hA
  have bu : But (fun j => ids.ownBlock = some j) wr w4 := (But.of_below b3 _).trans (But.of_grownBy g4 fun j e => e)
  have A4 := hA.but bu (fun j ho e => hA.far hi j e ho)
  have A5 := A4.below b5
  have A6 := A5.setV (.inl t5)
  have hk : k < S.length := by
    rcases Nat.lt_or_ge k S.length with h | h
    · exact h
    · rw [List.drop_of_length_le h] at hS; cases hS
  have hcons := List.drop_eq_getElem_cons hk
  rw [hS] at hcons
  have hxk : S[k] = x := by cases hcons; rfl
  have hd : S.drop (k + 1) = r := by cases hcons; rfl
  have ht : S.take (k + 1) = S.take k ++ [x] := by rw [List.take_succ_eq_append_getElem hk, hxk]
  have g6 : But (fun j => j = b) w5 (w5.setCell ⟨b, 1, none⟩ v5) := But.of_grownBy (grown_setCell _ _ _ _) fun j e => by cases e; rfl
  have s1 : Stp b v v' w w4 := ⟨⟨bu.os.trans hst.1.os, bu.tape.trans hst.1.tape, bu.output.trans hst.1.output, Nat.le_trans hst.1.size bu.size, fun j hj hx => (bu.block j (Nat.lt_of_lt_of_le hj hst.1.size) (fun e => by have := (hi.lt j e).1; omega)).trans (hst.1.block j hj hx)⟩, hst.2⟩
  have s2 : Stp b v' v5 w4 (w5.setCell ⟨b, 1, none⟩ v5) := ⟨(But.of_below b5 _).trans (g6.mono fun j _ e => .inl e), fun j hj => .inr (n5 j hj)⟩
  refine ⟨A4, ⟨?_, ?_, s1.trans s2, ?_⟩, A5.box⟩
  · rw [hd]; exact A6
  · rw [ht, List.map_append]
    refine (i4.below b5).but g6 (fun j hj e => ?_)
    have := (i4.lt j hj).1
    omega
  · rw [ht]
    intro y hy
    rcases List.mem_append.1 hy with q | q
    · exact hle y q
    · simp at q; subst q; exact hx
set_option maxRecDepth 100000 in
set_option maxHeartbeats 8000000 in
theorem rgo_any (w : World) (b now x : Nat) (N : Int) (v : Value) (S : List Tm) (h : RA w b now N v S) (ht : Tt S) (hl : S.length ≤ 256) (hn : now < 9218868437227405312) (hx : x < 18446744073709551616) : Calls Try.prog 16 #[.pointer (some ⟨b, 0, none⟩), .float .f64 x] w fun e w' => ∃ ids v', e = .returned (.tuple #[ids, .int .i64 (goF now x S).2.2.2]) ∧ RA w' b (goF now x S).2.2.1 N v' (goF now x S).2.1 ∧ Ids w.heap.size w' ids (goF now x S).1 ∧ Stp b v v' w w' := by
  have sf : ∀ (W : World) (a : Addr) (x : Nat), (store a (.float .f64 x)).run Try.prog W = stored Try.prog W a (.float .f64 x) .plain := fun W a x => run_store _ W a _ _ rfl
  have hT := rtime_any w x hx
  have hps : plusB x < 18446744073709551616 := by unfold plusB; split <;> omega
  have hI := isInf1_any w (plusB x) hps
  obtain ⟨c0, c1, c2⟩ := h.cells
  obtain ⟨f0, f1, f2⟩ := h.frozen
  have hno : Hid (RA w b now N v S ∧ Ids w.heap.size w (.slice none 0 0) [] ∧ Stp b v v w w) := ⟨h, Ids.nil _ _, Stp.refl _ _ _⟩
  obtain ⟨z, hz⟩ : ∃ z, Hid (goF now x S = z) := ⟨_, rfl⟩
  rw [hz.out]
  have hgo := goOk_eq now x
  cases ho : okD x
  · rw [ho] at hT hgo
    obtain rfl : z = ([], S, now, 1) := by rw [← hz.out]; unfold goF; rw [hgo]; rfl
    clear h
    go_enter Try.func16, Try.ntmps16
    go_wp2_with (go_at_call 29; refine hT.mono ?_; rintro e w' ⟨rfl, hw⟩; rw [hw]; clear hw w')
    go_ret2
    exact ⟨_, v, rfl, hno.out.1, hno.out.2⟩
  · rw [ho] at hT hgo
    have hpo := plus_ok ho
    have hlt0 : (FloatKind.f64.format.order (plusB x) now == some Ordering.lt) = decide (plusB x < now) := by
      rw [ord_pos hpo (Nat.le_of_lt hn)]
      by_cases q : plusB x < now
      · rw [Nat.compare_eq_lt.2 q]; simp [q]
      · rw [decide_eq_false q]
        by_cases q2 : plusB x = now
        · rw [q2]; simp
        · rw [Nat.compare_eq_gt.2 (by omega)]; rfl
    by_cases hlt : plusB x < now
    · rw [decide_eq_true hlt] at hlt0 hgo
      obtain rfl : z = ([], S, now, 1) := by rw [← hz.out]; unfold goF; rw [hgo]; rfl
      clear h hlt
      go_enter Try.func16, Try.ntmps16
      go_wp2_with (go_at_call 29; refine hT.mono ?_; rintro e w' ⟨rfl, hw⟩; rw [hw]; clear hw w')
      go_ret2
      exact ⟨_, v, rfl, hno.out.1, hno.out.2⟩
    · rw [decide_eq_false hlt] at hlt0 hgo
      by_cases hi : plusB x = 9218868437227405312
      · rw [decide_eq_true hi] at hI hgo
        obtain rfl : z = ([], S, now, 1) := by rw [← hz.out]; unfold goF; rw [hgo]; rfl
        clear h hlt hi
        go_enter Try.func16, Try.ntmps16
        go_wp2_with (first | (go_at_call 29; refine hT.mono ?_; rintro e w' ⟨rfl, hw⟩; rw [hw]; clear hw w') | (go_at_call 21; refine hI.mono ?_; rintro e w' ⟨rfl, hw⟩; rw [hw]; clear hw w'))
        go_ret2
        exact ⟨_, v, rfl, hno.out.1, hno.out.2⟩
      · rw [decide_eq_false hi] at hI hgo
        obtain ⟨t, htt⟩ : ∃ t, Hid (plusB x = t) := ⟨_, rfl⟩
        rw [htt.out] at hT hI hlt0 hpo
        obtain rfl : z = ((offS t S).map Tm.id, onS t S, t, 0) := by rw [← hz.out, ← htt.out]; unfold goF; rw [hgo]; rfl
        have A1 := h.setNow t
        have H0 : Hid (RGo w (w.setCell ⟨b, 0, none⟩ (.float .f64 t)) b t N v v S (.slice none 0 0) 0) := ⟨A1, Ids.nil _ _, ⟨but_set _ _ _ _ _, fun j hj => .inl hj⟩, fun y hy => by simp at hy⟩
        have hbb : Hid (b < w.heap.size) := h.lt b (.inl rfl)
        have fin : Hid (∀ (wr : World) (ids v' : Value) (k : Nat), k ≤ S.length → RGo w wr b t N v v' S ids k → (∀ y r, S.drop k = y :: r → ¬ y.b ≤ t) → RA wr b t N v' (onS t S) ∧ Ids w.heap.size wr ids ((offS t S).map Tm.id) ∧ Stp b v v' w wr) := by
          intro wr ids v' k hk hr hno2
          obtain ⟨e1, e2⟩ := off_take hr.2.2.2 hno2 hk
          rw [e1, e2]
          exact ⟨hr.1, hr.2.1, hr.2.2.1⟩
        clear h hlt hi A1 hgo hno hz
        go_enter Try.func16, Try.ntmps16
        go_wp2_with (first | (go_at_call 29; refine hT.mono ?_; rintro e w' ⟨rfl, hw⟩; rw [hw]; clear hw w') | (go_at_call 21; refine hI.mono ?_; rintro e w' ⟨rfl, hw⟩; rw [hw]; clear hw w') | fail)
        go_loopw [8] (fun iv wr => ∃ (k : Nat) (v' : Value), k ≤ S.length ∧ Hid (RGo w wr b t N v v' S iv k)) (fun iv _ => S.length - lenV iv)
        case atStart => exact ⟨0, v, Nat.zero_le _, H0.out⟩
        case round =>
          obtain ⟨k, v', hk, hQ⟩ := hrel
          clear c0 c1 c2 f0 f1 f2
          obtain ⟨c0, c1, c2⟩ := hQ.out.1.cells
          obtain ⟨f0, f1, f2⟩ := hQ.out.1.frozen
          cases hS : S.drop k with
          | nil =>
            have hl0 : (S.drop k).length = 0 := by rw [hS]; rfl
            obtain ⟨ao, ca, hv', q1, q2⟩ := hQ.out.1.row.form
            rw [hl0] at hv'
            subst hv'
            have hf := hide (fin.out wr _ _ k hk hQ.out (fun y r e => by rw [hS] at e; cases e))
            go_wp2_with fail
            go_ret2
            exact ⟨_, _, rfl, hf.out⟩
          | cons y r =>
            have hA := hQ.out.1
            rw [hS] at hA
            obtain ⟨tb, ca, hv', q1, q2, hr⟩ := hA.row.read (by simp)
            subst hv'
            obtain ⟨d0, d1⟩ := hr 0 (by simp)
            rw [show g (y :: r) 0 = y from rfl] at d0 d1
            simp only [Nat.zero_mul, Nat.zero_add] at d0 d1
            have hyS : y ∈ S := by have : y ∈ S.drop k := by rw [hS]; simp
                                   exact List.mem_of_mem_drop this
            have hyb := ht y hyS
            have hol := ord_pos hyb hpo
            have hlie := hide hA.row.lie
            obtain ⟨M, hM⟩ : ∃ M, Hid ((y :: r).length = M) := ⟨_, rfl⟩
            have hM1 : (0 : Int) < (M : Int) := by have := hM.out; simp at this; omega
            have hM2 : Hid (r.length + 1 = M) := by show _ = _; have := hM.out; simpa using this
            rw [hM.out] at c1 q1
            clear hr hA
            by_cases hle : y.b ≤ t
            · have hle' := hide hle
              have B3 := box_below wr (.cells #[.int .i64 y.id] 3)
              have o0 : (wr.alloc (.cells #[.int .i64 y.id] 3)).cell? ⟨wr.heap.size, 0, none⟩ = some (.int .i64 y.id) := by rw [cell_of (heap_alloc_new wr _)]; rfl
              obtain ⟨v4, w4, r4, i4, g4, a4⟩ := run_appI y.id wr.heap.size (hQ.out.2.1.below B3) o0 (by simp; omega) (Nat.le_trans hQ.out.2.2.1.1.size B3.size) 42
              replace r4 := hide r4
              rcases cmp_le hle with e | e <;> rw [e] at hol
              all_goals
                clear hle e
                go_upto_region 8 with (first | (at_builtin; refine Lib.wpList_append_run _ rfl (.tmp 49) (.tmp 57) 42 42 rfl _ _ rfl rfl _ _ r4.out ?_) | fail)
                have A4 := hQ.out.mid hS B3 g4
                rw [hM.out] at A4
                have hca : Hid (ca = 1 → r = []) := fun q => List.length_eq_zero_iff.1 (by have := hM2.out; omega)
                have hlie4 : Lie w4 tb (if ca = 1 then 0 else 2) r := by
                  by_cases q : ca = 1
                  · rw [hca.out q]; intro j u hu; simp [tcells] at hu
                  · rw [if_neg q]; exact (A4.row.lie).drop 1
                obtain ⟨v5, w5, r5, t5, b5, n5⟩ := run_dupT (tb := tb) (ca := ca - 1) (m := r) hlie4 (by have := hM2.out; have q := hl; have q2 := List.length_drop (i := k) (l := S); rw [hS] at q2; simp at q2; omega) 39
                have F5 := hQ.out.step hS hle'.out hbb.out B3 i4 g4 b5 t5 n5
                rw [show r.length = M - 1 by have := hM2.out; omega, show (some ⟨tb, if ca = 1 then 0 else 2, none⟩ : Option Addr) = (if ca = 1 then some ⟨tb, 0, none⟩ else some ⟨tb, 2, none⟩) by split <;> rfl] at r5
                replace r5 := hide r5
                obtain ⟨c0', c1', c2'⟩ := A4.cells
                have M1 : (1 : Int) ≤ (M : Int) := by omega
                have M3 : (M : Int) ≤ (ca : Int) := by omega
                have z1 : w5.cell? ⟨b, 1, none⟩ = some (.slice (some ⟨tb, 0, none⟩) M ca) := by rw [cell_of F5.2.2, hM.out]; rfl
                have z2 : w5.frozen? ⟨b, 1, none⟩ = false := by simp [World.frozen?, F5.2.2]
                obtain ⟨a5, c5, hv5, _⟩ := t5.form
                have F6 := hide F5.2.1
                have L4 : Hid (lenV v4 = k + 1) := by
                  obtain ⟨ao4, ca4, e4⟩ := i4.form
                  show _ = _
                  rw [e4]
                  simp [lenV]
                  omega
                have L3 : Hid (lenV u8 = k) := by
                  obtain ⟨ao4, ca4, e4⟩ := hQ.out.2.1.form
                  show _ = _
                  rw [e4]
                  simp [lenV]
                  omega
                have hkS : Hid (k < S.length) := by
                  show _ < _
                  rcases Nat.lt_or_ge k S.length with h | h
                  · exact h
                  · rw [List.drop_of_length_le h] at hS; cases hS
                clear F5 t5 b5 n5 A4 hlie4 i4 g4 a4 o0 B3 c0 c1 c2 f0 f1 f2 d0 d1
                subst hv5
                go_wp2_with (first | (at_builtin; refine Lib.wpList_append_run _ rfl (.const (.slice none 0 0)) (.tmp 64) 39 39 rfl _ _ rfl rfl _ _ r5.out ?_) | fail)
                go_roundw
                case rel => exact ⟨k + 1, _, hkS.out, F6.out⟩
                case measure => have := L4.out; have := L3.out; have := hkS.out; show S.length - lenV v4 < S.length - lenV u8; omega
            · rw [Nat.compare_eq_gt.2 (by omega)] at hol
              have hf := hide (fin.out wr _ _ k hk hQ.out (fun y' r' e => by rw [hS] at e; cases e; exact hle))
              rw [hM.out] at hf
              clear hle
              go_wp2_with fail
              go_ret2
              exact ⟨_, _, rfl, hf.out⟩
end Go.Proofs.Ytjplkffghfikgaa.Ck

