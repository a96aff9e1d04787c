/-
  The document's Ready. (gen_TfM.py)
-/
import Derived.Test.YtiiinpmkidobgaaDoorA07
import Derived.Test.YtiiinpmkidobgaaDoorA05
import Derived.Test.YtiiinpmkidobgaaDoorA01
import Derived.Laws.StructEq
import Derived.BigQuiet
import Derived.Deep.Strs
import Derived.Deep.Slices
namespace Go.Proofs.YtiiinpmkidobgaaDoor.Sd
open Go.RowKit
open Ix (wp_region_T wpAnyT wpAnyT_take wpAnyT_one wpAnyT_done vac)
set_option linter.unusedVariables false
set_option linter.unusedSimpArgs false
set_option maxRecDepth 100000
/-- The document's run goes as the program's: between its steps. -/
structure GD (w0 u : World) (us : List Value) (rb : Nat) (X : Nat → Value) (S : St) : Prop where
  da : DA w0 us u rb X (dOf S (lastS S))
  ok : Ok S
  wt : Wt S
theorem GD.below {w0 u u' : World} {us : List Value} {rb : Nat} {X : Nat → Value} {S : St} (h : GD w0 u us rb X S) (hb : Below u.heap.size u u') : GD w0 u' us rb X S := ⟨h.da.below hb, h.ok, h.wt⟩
theorem GD.init {w u : World} {us : List Value} {rb : Nat} {X : Nat → Value} {ts : List (List Ac)} {room : Nat} (h : DA w us u rb X (initD ts room)) (ok : Ok (Sd.init ts room)) : GD w u us rb X (Sd.init ts room) := by
  refine ⟨?_, ok, Wt.init ts room⟩
  have e : lastS (Sd.init ts room) = -1 := rfl
  rw [e, dOf_init]
  exact h
theorem GD.step {w0 u : World} {us : List Value} {rb : Nat} {X : Nat → Value} {S : St} (h : GD w0 u us rb X S) {i : Nat} (hr : isR S i = true) (hl : S.tr.length < 65536) :
    Calls Tryd.prog 24 #[.pointer (some ⟨rb, 0, none⟩), .int .i64 (i : Int)] u fun e w' => e = .returned (.tuple #[]) ∧ ∃ X', GD w0 w' us rb X' (turnS S i) ∧ StD rb X X' u w' := by
  obtain ⟨t, a, ht, ha, hpc, oka, hq, e, W2, etr⟩ := turn_of h.ok h.wt hr (lastS S)
  have hlen : (dOf S (lastS S)).tk.length = S.tk.length := by show (S.tk.map dk).length = _; simp
  refine (rstep_any w0 u us rb X (dOf S (lastS S)) h.da (by rw [hlen]; exact h.ok.n) (dOf_get ht) (a := a) ha oka hpc (fun c j hj => by rw [hlen]; exact h.ok.sl c j hj) (fun c => ?_) (fun c => ?_) hq).mono ?_
  · have := nodup_le _ _ (h.wt.nd c) (h.ok.sl c)
    have := h.ok.n
    show (S.sl c).length ≤ 1000
    omega
  · have := h.ok.qu c
    have := h.ok.r2
    show (S.qu c).length ≤ 1000
    omega
  · rintro e' w' ⟨rfl, X', -, A, s⟩
    refine ⟨rfl, X', ⟨?_, (turn_ok h.ok hr hl).1, W2⟩, s⟩
    have el : lastS (turnS S i) = (i : Int) := by unfold lastS; rw [etr]; simp
    rw [el, ← e]
    exact A
theorem GD.ready {w0 u : World} {us : List Value} {rb : Nat} {X : Nat → Value} {S : St} (h : GD w0 u us rb X S) :
    Calls Tryd.prog 22 #[.pointer (some ⟨rb, 0, none⟩)] u fun e w' => ∃ v, e = .returned v ∧ Nms u.heap.size w' v (ns (rdy S)) ∧ Below u.heap.size u w' := by
  have hlen : (dOf S (lastS S)).tk.length = S.tk.length := by show (S.tk.map dk).length = _; simp
  have := rready_any w0 u us rb X (dOf S (lastS S)) h.da (lv_of h.wt h.ok _) (by rw [hlen]; exact h.ok.n)
  rw [rdyD_of h.wt] at this
  exact this
theorem refE_most (ts : List (List Ac)) (room : Int) (picks : List Int) : refE ts room picks picks.length = refE ts room picks 0 := by
  unfold refE
  by_cases h : mayE ts = 0
  · simp only [h, ne_eq, not_true_eq_false, if_false]
    have e : argB room picks picks.length = argB room picks 0 := by
      unfold argB pickB
      by_cases hp : picks.length ≤ 65536
      · have h1 : (0 : Int) ≤ (picks.length : Int) ∧ (picks.length : Int) ≤ 65536 := by omega
        simp [hp, h1]
      · simp [hp]
    rw [e]
  · simp only [ne_eq, h, not_false_eq_true, if_true]
theorem rrdy_no (w : World) (v vp : Value) (us : List Value) (ts : List (List Ac)) (h : TksAt w v us ts) (picks : List Int) (hp : Row w vp (picks.map (Value.int .i64))) (room : Int) (hE : refE ts room picks 0 ≠ 0) :
    Calls Tryd.prog 13 #[v, .int .i64 room, vp] w fun e w' => e = .returned (.tuple #[.slice none 0 0, .int .i64 (refE ts room picks 0)]) ∧ Below w.heap.size w w' := by
  have RA := hide (rasked_any w v vp us ts h picks hp room)
  obtain ⟨E, hEE⟩ : ∃ E, Hid (refE ts room picks 0 = E) := ⟨_, rfl⟩
  rw [hEE.out] at RA hE ⊢
  have hE' : (E != 0) = true := by simpa using hE
  clear h hp hE
  go_enter Tryd.func13, Tryd.ntmps13
  go_wp2_with (go_at_call 20; refine RA.out.mono ?_; rintro e w2 ⟨rfl, b2⟩; have b2 := hide b2)
  go_ret2
  exact ⟨rfl, b2.out⟩
set_option maxHeartbeats 8000000 in
theorem rrdy_yes (w : World) (v vp : Value) (us : List Value) (ts : List (List Ac)) (h : TksAt w v us ts) (picks : List Int) (hp : Row w vp (picks.map (Value.int .i64))) (hp1 : ∀ k ∈ picks, k ≤ 9223372036854775807) (room : Nat) (hE : refE ts room picks 0 = 0) :
    Calls Tryd.prog 13 #[v, .int .i64 (room : Int), vp] w fun e w' => ∃ v', e = .returned (.tuple #[v', .int .i64 0]) ∧ Nms w.heap.size w' v' (ns (rdy (runS ts room picks picks.length))) ∧ Below w.heap.size w w' := by
  have RA := hide (rasked_any w v vp us ts h picks hp room)
  rw [hE] at RA
  obtain ⟨m1, ⟨r, hr, r1, r2⟩, -, p1, p2⟩ := refE_ok hE
  obtain rfl : room = r := by omega
  have OKI := hide (ok_init m1 r1 r2)
  have HTK := hide h
  have HP := hide hp
  have N16 : Hid (ts.length ≤ 16) := (mayE_ok m1).1
  have HP0 : Hid (∀ k ∈ picks, 0 ≤ k ∧ k ≤ 9223372036854775807) := fun k hk => ⟨p2 k hk, hp1 k hk⟩
  obtain ⟨ap, pc, rfl, -⟩ := hp
  rw [List.length_map] at HP RA ⊢
  obtain ⟨n, hN⟩ : ∃ n, Hid (picks.length = n) := ⟨_, rfl⟩
  have P1 : Hid (n ≤ 65536) := by show _ ≤ _; rw [← hN.out]; exact p1
  obtain ⟨SS, hSS⟩ : ∃ SS, Hid (runS ts room picks picks.length = SS) := ⟨_, rfl⟩
  have hS2 : Hid (playS picks n (init ts room) = SS) := by show _ = _; rw [← hN.out]; exact hSS.out
  rw [hSS.out]
  rw [hN.out] at RA HP ⊢
  clear h hE hp1 m1 r1 r2 hr p1 p2 hSS
  go_enter Tryd.func13, Tryd.ntmps13
  go_upto_region 4 with (go_at_call 20; refine RA.out.mono ?_; rintro e w0 ⟨rfl, b2⟩; have b2 := hide b2)
  have BG := hide (rbegin_any w0 v us ts (HTK.out.below b2.out) N16.out room)
  have HP2 := hide (Below.row b2.out HP.out)
  clear RA HTK HP
  go_upto_region 5 with (go_at_call 21; refine BG.out.mono ?_; rintro e w3 ⟨rfl, X0', A3⟩; have G3 := hide (GD.init A3 OKI.out); clear A3)
  obtain ⟨rb, hrb⟩ : ∃ rb, Hid (w0.heap.size = rb) := ⟨_, rfl⟩
  rw [hrb.out] at G3 ⊢
  have RD := hide G3.out.ready
  clear BG
  go_upto_region 6 with (go_at_call 22; refine RD.out.mono ?_; rintro e w4 ⟨v4, rfl, n4, b4⟩; replace n4 := hide n4; replace b4 := hide b4)
  have G4 := hide (G3.out.below b4.out)
  have N4 : Hid (Nms w.heap.size w4 v4 (ns (rdy (init ts room)))) := row_low n4.out (Nat.le_trans b2.out.size G3.out.da.low.size)
  clear RD G3 n4 b4
  go_wp2_with fail
  go_loopw [10, 11] (fun v s wr => ∃ (i : Nat) (X : Nat → Value) (S : St), s = .int .i64 (i : Int) ∧ i ≤ n ∧ Hid (GD w0 wr us rb X S ∧ Nms w.heap.size wr v (ns (rdy S)) ∧ S.tr.length = i ∧ playS picks (n - i) S = SS)) (fun v s wr => n - (intOf s).toNat)
  case atStart => exact ⟨0, X0', init ts room, rfl, Nat.zero_le _, G4.out, N4.out, rfl, hS2.out⟩
  case round =>
    obtain ⟨i, X, S, rfl, hin, hst⟩ := hrel
    obtain ⟨G1, hv, htr, hpl⟩ := hst.out
    replace G1 := hide G1
    replace hv := hide hv
    replace htr := hide htr
    replace hpl := hide hpl
    clear hst
    obtain ⟨ao, ca, e, hca, -⟩ := hv.out.form
    rw [ns_len] at e hca
    obtain ⟨N, hNN⟩ : ∃ N, Hid ((rdy S).length = N) := ⟨_, rfl⟩
    rw [hNN.out] at e hca
    subst e
    have bw : Hid (Below w.heap.size w wr) := b2.out.trans (G1.out.da.low.mono b2.out.size)
    by_cases hlt : i < n
    · have i1 : (i : Int) < (n : Int) := by omega
      have n3 : (n : Int) ≤ 65536 := by have := P1.out; omega
      by_cases hz : N = 0
      · have hn : rdy S = [] := List.length_eq_zero_iff.1 (hNN.out.trans hz)
        have e : S = SS := by rw [← hpl.out, play_nil hn]
        obtain rfl : N = 0 := hz
        have i2 : ¬ (0 : Int) > 0 := by omega
        go_wp2_with fail
        go_ret2
        refine ⟨_, rfl, ?_, bw.out⟩
        rw [← e]
        exact hv.out
      have i2 : (N : Int) > 0 := by omega
      have hne : rdy S ≠ [] := fun c => hz (by rw [← hNN.out, c]; rfl)
      have hpos : Hid (0 < (rdy S).length) := List.length_pos_iff.2 hne
      have hle16 : Hid ((rdy S).length ≤ 16) := Nat.le_trans (rdy_len S) G1.out.ok.n
      obtain ⟨k0, hk0⟩ : ∃ k0, picks[i]? = some k0 := ⟨_, List.getElem?_eq_getElem (by rw [hN.out]; exact hlt)⟩
      obtain ⟨k, rfl⟩ := nat_of (HP0.out k0 (List.mem_of_getElem? hk0)).1
      have hk64 : Hid ((k : Int) ≤ 9223372036854775807) := (HP0.out _ (List.mem_of_getElem? hk0)).2
      have RW := Below.row (G1.out.da.low) HP2.out
      obtain ⟨hcp, hrow⟩ := row_at RW (by rw [List.length_map]; exact hN.out)
      obtain ⟨pb, po, e, pk⟩ := hrow i (.int .i64 (k : Int)) (by rw [List.getElem?_map, hk0]; rfl)
      subst e
      have i3 : (n : Int) ≤ (pc : Int) := by omega
      have la : wr.cell? ⟨rb, 22, none⟩ = some (.int .i64 (lastS S)) := G1.out.da.cells.2.2
      obtain ⟨m, hm⟩ : ∃ m, Hid (nx picks S = m) := ⟨_, rfl⟩
      have hmr : Hid (isR S m = true) := by show _ = _; rw [← hm.out]; exact nx_rdy hne
      have PE : Hid (pickK (rdy S) (k : Int) (lastS S) = m) := by
        show _ = _
        rw [← hm.out]
        unfold nx
        rw [pickK_some (by rw [htr.out]; exact hk0) (by omega)]
      have htl : Hid (S.tr.length < 65536) := by have := P1.out; have := htr.out; show _ < _; omega
      have hpl2 : Hid (playS picks (n - (i + 1)) (turnS S m) = SS) := by
        show _ = _
        rw [← hpl.out, show n - i = (n - (i + 1)) + 1 by omega, play_succ, if_neg hne, hm.out]
      have htr2 : Hid ((turnS S m).tr.length = i + 1) := by
        show _ = _
        rw [(turn_ok G1.out.ok hmr.out htl.out).2, htr.out]
      clear hne RW hrow hk0 hpl htr hcp
      go_upto_region 9 with fail
      refine wp_region_T (fun q => q.cell? ⟨pb, po + i, none⟩ = some (.int .i64 (k : Int)) ∧ q.cell? ⟨rb, 22, none⟩ = some (.int .i64 (lastS S))) 11 (by kernel_rfl) ?_
      have KP : Hid (wr.drew.cell? ⟨pb, po + i, none⟩ = some (.int .i64 (k : Int)) ∧ wr.drew.cell? ⟨rb, 22, none⟩ = some (.int .i64 (lastS S))) := ⟨pk, la⟩
      have GV : Hid (GD w0 wr.drew us rb X S) := G1.out.below (Below.refl _ _).drew
      have NV : Hid (Nms w.heap.size wr.drew (.slice ao N ca) (ns (rdy S))) := hv.out.below (Below.refl _ _).drew
      clear G1 hv pk la
      generalize wr.drew = u1 at *
      have PK := hide (rpick_any u1 w.heap.size _ (rdy S) k (lastS S) NV.out hpos.out hle16.out hk64.out)
      rw [PE.out] at PK
      have SP := hide (GV.out.step hmr.out htl.out)
      refine wpAnyT_take (i := 0) (oi := { dst := some 35, op := Op.move (Operand.tmp 9), type := 53, pos := "ref.go:306", after := #[], guard := none }) (v := .pointer (some ⟨rb, 0, none⟩)) [11] rfl (by kernel_rfl) (by kernel_rfl) (by kernel_rfl) (by kernel_rfl) (fun _ _ _ h => h) (Or.inl ⟨by rfl, ?_⟩) KP.out ?_
      · intro wq hSw
        obtain ⟨y0, y1⟩ := hSw
        go_simp
      (try simp only [Act.put, List.setIfInBounds_toArray, List.set_cons_zero, List.set_cons_succ])
      refine wpAnyT_take (i := 1) (oi := { dst := some 36, op := Op.move (Operand.tmp 10), type := 23, pos := "ref.go:306", after := #[], guard := none }) (v := .slice ao N ca) [10, 11] rfl (by kernel_rfl) (by kernel_rfl) (by kernel_rfl) (by kernel_rfl) (fun _ _ _ h => h) (Or.inl ⟨by rfl, ?_⟩) KP.out ?_
      · intro wq hSw
        obtain ⟨y0, y1⟩ := hSw
        go_simp
      (try simp only [Act.put, List.setIfInBounds_toArray, List.set_cons_zero, List.set_cons_succ])
      refine wpAnyT_take (i := 2) (oi := { dst := some 37, op := Op.move (Operand.tmp 2), type := 23, pos := "ref.go:306", after := #[], guard := none }) (v := .slice (some ⟨pb, po, none⟩) n pc) [4, 5, 10, 11] rfl (by kernel_rfl) (by kernel_rfl) (by kernel_rfl) (by kernel_rfl) (fun _ _ _ h => h) (Or.inl ⟨by rfl, ?_⟩) KP.out ?_
      · intro wq hSw
        obtain ⟨y0, y1⟩ := hSw
        go_simp
      (try simp only [Act.put, List.setIfInBounds_toArray, List.set_cons_zero, List.set_cons_succ])
      refine wpAnyT_take (i := 3) (oi := { dst := some 38, op := Op.move (Operand.tmp 11), type := 3, pos := "ref.go:306", after := #[], guard := none }) (v := .int .i64 (i : Int)) [4, 5, 10, 11] rfl (by kernel_rfl) (by kernel_rfl) (by kernel_rfl) (by kernel_rfl) (fun _ _ _ h => h) (Or.inl ⟨by rfl, ?_⟩) KP.out ?_
      · intro wq hSw
        obtain ⟨y0, y1⟩ := hSw
        go_simp
      (try simp only [Act.put, List.setIfInBounds_toArray, List.set_cons_zero, List.set_cons_succ])
      refine wpAnyT_take (i := 4) (oi := { dst := some 39, op := Op.indexAddr 23 (Operand.tmp 37) (Operand.tmp 38), type := 0, pos := "ref.go:306", after := #[{ on := 2, ground := Ground.data }, { on := 3, ground := Ground.data }], guard := none }) (v := .pointer (some ⟨pb, po + i, none⟩)) [5, 10, 11] rfl (by kernel_rfl) (by kernel_rfl) (by kernel_rfl) (by kernel_rfl) (fun _ _ _ h => h) (Or.inl ⟨by rfl, ?_⟩) KP.out ?_
      · intro wq hSw
        obtain ⟨y0, y1⟩ := hSw
        go_simp
      (try simp only [Act.put, List.setIfInBounds_toArray, List.set_cons_zero, List.set_cons_succ])
      refine wpAnyT_take (i := 5) (oi := { dst := some 40, op := Op.load 3 (Operand.tmp 39), type := 3, pos := "ref.go:306", after := #[{ on := 4, ground := Ground.data }], guard := none }) (v := .int .i64 (k : Int)) [10, 11] rfl (by kernel_rfl) (by kernel_rfl) (by kernel_rfl) (by kernel_rfl) (fun _ _ _ h => h) (Or.inl ⟨by rfl, ?_⟩) KP.out ?_
      · intro wq hSw
        obtain ⟨y0, y1⟩ := hSw
        go_simp
      (try simp only [Act.put, List.setIfInBounds_toArray, List.set_cons_zero, List.set_cons_succ])
      refine wpAnyT_take (i := 6) (oi := { dst := some 41, op := Op.move (Operand.tmp 9), type := 53, pos := "ref.go:306", after := #[], guard := none }) (v := .pointer (some ⟨rb, 0, none⟩)) [7, 8, 9, 10, 11] rfl (by kernel_rfl) (by kernel_rfl) (by kernel_rfl) (by kernel_rfl) (fun _ _ _ h => h) (Or.inl ⟨by rfl, ?_⟩) KP.out ?_
      · intro wq hSw
        obtain ⟨y0, y1⟩ := hSw
        go_simp
      (try simp only [Act.put, List.setIfInBounds_toArray, List.set_cons_zero, List.set_cons_succ])
      refine wpAnyT_take (i := 7) (oi := { dst := some 42, op := Op.nilCheck (Operand.tmp 41), type := 0, pos := "ref.go:306", after := #[{ on := 6, ground := Ground.data }], guard := none }) (v := .pointer (some ⟨rb, 0, none⟩)) [8, 9, 10, 11] rfl (by kernel_rfl) (by kernel_rfl) (by kernel_rfl) (by kernel_rfl) (fun _ _ _ h => h) (Or.inl ⟨by rfl, ?_⟩) KP.out ?_
      · intro wq hSw
        obtain ⟨y0, y1⟩ := hSw
        go_simp
      (try simp only [Act.put, List.setIfInBounds_toArray, List.set_cons_zero, List.set_cons_succ])
      refine wpAnyT_take (i := 8) (oi := { dst := some 43, op := Op.fieldAddr 63 (Operand.tmp 42) 6, type := 0, pos := "ref.go:306", after := #[{ on := 7, ground := Ground.data }], guard := none }) (v := .pointer (some ⟨rb, 22, none⟩)) [9, 10, 11] rfl (by kernel_rfl) (by kernel_rfl) (by kernel_rfl) (by kernel_rfl) (fun _ _ _ h => h) (Or.inl ⟨by rfl, ?_⟩) KP.out ?_
      · intro wq hSw
        obtain ⟨y0, y1⟩ := hSw
        go_simp
      (try simp only [Act.put, List.setIfInBounds_toArray, List.set_cons_zero, List.set_cons_succ])
      refine wpAnyT_take (i := 9) (oi := { dst := some 44, op := Op.load 3 (Operand.tmp 43), type := 3, pos := "ref.go:306", after := #[{ on := 8, ground := Ground.data }], guard := none }) (v := .int .i64 (lastS S)) [10, 11] rfl (by kernel_rfl) (by kernel_rfl) (by kernel_rfl) (by kernel_rfl) (fun _ _ _ h => h) (Or.inl ⟨by rfl, ?_⟩) KP.out ?_
      · intro wq hSw
        obtain ⟨y0, y1⟩ := hSw
        go_simp
      (try simp only [Act.put, List.setIfInBounds_toArray, List.set_cons_zero, List.set_cons_succ])
      refine wpAnyT_one (i := 10) (o := { dst := some 45, op := Op.call { callee := Callee.value (Operand.func 23), args := #[Operand.tmp 36, Operand.tmp 40, Operand.tmp 44], argTypes := #[23, 3, 3] }, type := 3, pos := "ref.go:306", after := #[{ on := 1, ground := Ground.data }, { on := 5, ground := Ground.data }, { on := 9, ground := Ground.data }], guard := none }) (by kernel_rfl) rfl (fun K hK => ?_)
      go_simp
      go_at_call 23
      refine PK.out.mono ?_
      rintro e q2 ⟨rfl, hq2⟩
      subst hq2
      refine hK.out _ _ (fun _ => KP.out) ?_
      clear hK K
      (try simp only [Act.put, List.setIfInBounds_toArray, List.set_cons_zero, List.set_cons_succ])
      refine wpAnyT_one (i := 11) (o := { dst := some 46, op := Op.call { callee := Callee.value (Operand.func 24), args := #[Operand.tmp 35, Operand.tmp 45], argTypes := #[53, 3] }, type := 0, pos := "ref.go:306", after := #[{ on := 0, ground := Ground.data }, { on := 10, ground := Ground.data }, { on := 10, ground := Ground.chain }], guard := none }) (by kernel_rfl) rfl (fun K hK => ?_)
      go_simp
      go_at_call 24
      refine SP.out.mono ?_
      rintro e q3 ⟨rfl, X', G3, -⟩
      replace G3 := hide G3
      refine hK.out _ _ (vac (by kernel_rfl)) ?_
      clear hK K
      (try simp only [Act.put, List.setIfInBounds_toArray, List.set_cons_zero, List.set_cons_succ])
      refine wpAnyT_done (by kernel_rfl) ?_ _
      clear KP GV NV PK SP
      have RD := hide G3.out.ready
      go_upto_region 8 with (go_at_call 22; refine RD.out.mono ?_; rintro e w5 ⟨v5, rfl, n5, b5⟩; replace n5 := hide n5; replace b5 := hide b5)
      have G5 := hide (G3.out.below b5.out)
      have N5 : Hid (Nms w.heap.size w5 v5 (ns (rdy (turnS S m)))) := row_low n5.out (Nat.le_trans b2.out.size G3.out.da.low.size)
      clear RD G3 n5 b5 bw
      go_wp2_with fail
      go_roundw
      case rel => exact ⟨i + 1, X', turnS S m, by go_num, hlt, G5.out, N5.out, htr2.out, hpl2.out⟩
      case measure => simp only [intOf]; omega
    · obtain rfl : i = n := by omega
      have i1 : ¬ (i : Int) < (i : Int) := by omega
      have e : S = SS := by rw [← hpl.out, Nat.sub_self]; rfl
      go_wp2_with fail
      go_ret2
      refine ⟨_, rfl, ?_, bw.out⟩
      rw [← e]
      exact hv.out
end Go.Proofs.YtiiinpmkidobgaaDoor.Sd

/-
  begun.
-/
namespace Go.Proofs.YtiiinpmkidobgaaDoor.Sd
open Go.RowKit
set_option linter.unusedVariables false
set_option linter.unusedSimpArgs false
set_option maxRecDepth 100000
theorem bg1_run (w : World) (hT : Tb w) : Calls Tryd.prog 10 #[.slice (some ⟨w.heap.size + 1 + 1, 0, none⟩) 2 2, .int .i64 1, .slice none 0 0, .int .i64 99] (((w.alloc (.cells #[.int .i64 13, .int .i64 0, .int .i64 0, .int .i64 2, .int .i64 12, .int .i64 0, .int .i64 0, .int .i64 9, .int .i64 8, .int .i64 0, .int .i64 0, .int .i64 1] 45)).alloc (.cells #[.int .i64 7, .int .i64 0, .int .i64 0, .int .i64 0] 45)).alloc (.cells #[.slice (some ⟨w.heap.size, 0, none⟩) 3 3, .slice (some ⟨w.heap.size + 1, 0, none⟩) 1 1] 46)) fun e w' => ∃ ta tc gr rc ga ec qa qc, e = .returned (.tuple #[.agg #[.int .i64 3, .slice ta 3 tc, .slice (some ⟨gr, 0, none⟩) 8 rc, .slice (some ⟨ga, 0, none⟩) 2 ec, .slice qa 4 qc], .int .i64 0]) ∧ Hid (8 ≤ rc ∧ 2 ≤ ec ∧ w'.cell? ⟨gr, 0, none⟩ = some (.int .i64 1) ∧ w'.cell? ⟨gr, 7, none⟩ = some (.int .i64 9) ∧ w'.cell? ⟨ga, 0, none⟩ = some (.int .i64 1) ∧ w'.cell? ⟨ga, 2, none⟩ = some (.int .i64 7)) ∧ Below w.heap.size w w' := by
  have b1 := box_below w (.cells #[.int .i64 13, .int .i64 0, .int .i64 0, .int .i64 2, .int .i64 12, .int .i64 0, .int .i64 0, .int .i64 9, .int .i64 8, .int .i64 0, .int .i64 0, .int .i64 1] 45)
  have n1 := heap_alloc_new w (.cells #[.int .i64 13, .int .i64 0, .int .i64 0, .int .i64 2, .int .i64 12, .int .i64 0, .int .i64 0, .int .i64 9, .int .i64 8, .int .i64 0, .int .i64 0, .int .i64 1] 45)
  have z1 : (w.alloc (.cells #[.int .i64 13, .int .i64 0, .int .i64 0, .int .i64 2, .int .i64 12, .int .i64 0, .int .i64 0, .int .i64 9, .int .i64 8, .int .i64 0, .int .i64 0, .int .i64 1] 45)).heap.size = w.heap.size + 1 := by simp
  generalize w.alloc (.cells #[.int .i64 13, .int .i64 0, .int .i64 0, .int .i64 2, .int .i64 12, .int .i64 0, .int .i64 0, .int .i64 9, .int .i64 8, .int .i64 0, .int .i64 0, .int .i64 1] 45) = w1 at *
  have b2 := box_below w1 (.cells #[.int .i64 7, .int .i64 0, .int .i64 0, .int .i64 0] 45)
  have n2 := heap_alloc_new w1 (.cells #[.int .i64 7, .int .i64 0, .int .i64 0, .int .i64 0] 45)
  have z2 : (w1.alloc (.cells #[.int .i64 7, .int .i64 0, .int .i64 0, .int .i64 0] 45)).heap.size = w.heap.size + 1 + 1 := by simp [z1]
  generalize w1.alloc (.cells #[.int .i64 7, .int .i64 0, .int .i64 0, .int .i64 0] 45) = w2 at *
  have b3 := box_below w2 (.cells #[.slice (some ⟨w.heap.size, 0, none⟩) 3 3, .slice (some ⟨w.heap.size + 1, 0, none⟩) 1 1] 46)
  have n3 := heap_alloc_new w2 (.cells #[.slice (some ⟨w.heap.size, 0, none⟩) 3 3, .slice (some ⟨w.heap.size + 1, 0, none⟩) 1 1] 46)
  generalize w2.alloc (.cells #[.slice (some ⟨w.heap.size, 0, none⟩) 3 3, .slice (some ⟨w.heap.size + 1, 0, none⟩) 1 1] 46) = w3 at *
  rw [z1] at n2
  rw [z2] at n3
  have B3 := keepF (keepF b1 b2) b3
  have m1 := ((keepF b2 b3).block _ (heap_lt n1)).trans n1
  have m2 := (b3.block _ (heap_lt n2)).trans n2
  have a1 : ActsAt w3 (.slice (some ⟨w.heap.size, 0, none⟩) 3 3) [⟨13, 0, 0, 2⟩, ⟨12, 0, 0, 9⟩, ⟨8, 0, 0, 1⟩] := acts_lit (l := [⟨13, 0, 0, 2⟩, ⟨12, 0, 0, 9⟩, ⟨8, 0, 0, 1⟩]) m1 rfl
  have a2 : ActsAt w3 (.slice (some ⟨w.heap.size + 1, 0, none⟩) 1 1) [⟨7, 0, 0, 0⟩] := acts_lit (l := [⟨7, 0, 0, 0⟩]) m2 rfl
  have tk : TksAt w3 (.slice (some ⟨w.heap.size + 1 + 1, 0, none⟩) 2 2) [.slice (some ⟨w.heap.size, 0, none⟩) 3 3, .slice (some ⟨w.heap.size + 1, 0, none⟩) 1 1] bg1 := tks_lit (us := [.slice (some ⟨w.heap.size, 0, none⟩) 3 3, .slice (some ⟨w.heap.size + 1, 0, none⟩) 1 1]) n3 rfl (by simp) rfl (by
    intro i u l h1 h2
    match i with
    | 0 => cases h1; cases h2; exact a1
    | 1 => cases h1; cases h2; exact a2
    | i + 2 => simp at h1)
  refine (run_read w3 (hT.below B3) _ (.slice none 0 0) _ bg1 tk [] (row_nil _) (fun k hk => by cases hk) 1 99 bg1_ref bgS rfl).mono ?_
  rintro e w' ⟨ta, tc, gr, rc, ea, ec, qv, rfl, ⟨qa, qc, rfl⟩, R, hb⟩
  obtain ⟨f1, f2, f3, f4, f5, f6⟩ := bg_facts
  rw [f1, f2]
  obtain ⟨t0, ht0, e0⟩ : ∃ t, bgS.tk[0]? = some t ∧ howS bgS t = 1 := by
    cases h : bgS.tk[0]? with
    | none => rw [h] at f5; cases f5
    | some t => rw [h] at f5; exact ⟨t, rfl, Option.some.inj f5⟩
  obtain ⟨t1, ht1, e1⟩ : ∃ t, bgS.tk[1]? = some t ∧ howS bgS t = 7 := by
    cases h : bgS.tk[1]? with
    | none => rw [h] at f6; cases f6
    | some t => rw [h] at f6; exact ⟨t, rfl, Option.some.inj f6⟩
  obtain ⟨ga, rfl, c0, -⟩ := R.en.2 0 t0 ht0
  obtain ⟨ga', e2, c1, -⟩ := R.en.2 1 t1 ht1
  cases e2
  have r0 := R.rg.2 0 (by decide)
  have r7 := R.rg.2 7 (by decide)
  rw [f3] at r7
  rw [f4] at r0
  rw [e0] at c0
  rw [e1] at c1
  have h2 := R.en.1
  rw [f2] at h2
  exact ⟨ta, tc, gr, rc, ga, ec, qa, qc, rfl, ⟨R.rg.1, h2, r0, r7, c0, c1⟩, B3.trans (hb.mono B3.size)⟩
theorem bg2_run (w : World) (hT : Tb w) : Calls Tryd.prog 12 #[.slice (some ⟨w.heap.size + 1, 0, none⟩) 1 1, .int .i64 1, .slice none 0 0] ((w.alloc (.cells #[.int .i64 11, .int .i64 0, .int .i64 0, .int .i64 0] 45)).alloc (.cells #[.slice (some ⟨w.heap.size, 0, none⟩) 1 1] 46)) fun e w' => ∃ na nc, e = .returned (.tuple #[.slice na 1 nc, .int .i64 0]) ∧ Below w.heap.size w w' := by
  have b1 := box_below w (.cells #[.int .i64 11, .int .i64 0, .int .i64 0, .int .i64 0] 45)
  have n1 := heap_alloc_new w (.cells #[.int .i64 11, .int .i64 0, .int .i64 0, .int .i64 0] 45)
  have z1 : (w.alloc (.cells #[.int .i64 11, .int .i64 0, .int .i64 0, .int .i64 0] 45)).heap.size = w.heap.size + 1 := by simp
  generalize w.alloc (.cells #[.int .i64 11, .int .i64 0, .int .i64 0, .int .i64 0] 45) = w1 at *
  have b2 := box_below w1 (.cells #[.slice (some ⟨w.heap.size, 0, none⟩) 1 1] 46)
  have n2 := heap_alloc_new w1 (.cells #[.slice (some ⟨w.heap.size, 0, none⟩) 1 1] 46)
  generalize w1.alloc (.cells #[.slice (some ⟨w.heap.size, 0, none⟩) 1 1] 46) = w2 at *
  rw [z1] at n2
  have B2 := keepF b1 b2
  have m1 := (b2.block _ (heap_lt n1)).trans n1
  have a1 : ActsAt w2 (.slice (some ⟨w.heap.size, 0, none⟩) 1 1) [⟨11, 0, 0, 0⟩] := acts_lit (l := [⟨11, 0, 0, 0⟩]) m1 rfl
  have tk : TksAt w2 (.slice (some ⟨w.heap.size + 1, 0, none⟩) 1 1) [.slice (some ⟨w.heap.size, 0, none⟩) 1 1] bg2 := tks_lit (us := [.slice (some ⟨w.heap.size, 0, none⟩) 1 1]) n2 rfl (by simp) rfl (by
    intro i u l h1 h2
    match i with
    | 0 => cases h1; cases h2; exact a1
    | i + 1 => simp at h1)
  refine (ready_yes w2 (hT.below B2) _ (.slice none 0 0) _ bg2 tk [] (row_nil _) (fun k hk => by cases hk) 1 bg2_ref).mono ?_
  rintro e w' ⟨v', rfl, hv, hb⟩
  obtain ⟨na, nc, rfl, -, -⟩ := hv.form
  have e1 : (ns (rdy (runS bg2 1 [] ([] : List Int).length))).length = 1 := by rw [ns_len]; show (rdy (runS bg2 1 [] 0)).length = 1; rw [bg2_rdy]; rfl
  rw [e1]
  exact ⟨na, nc, rfl, B2.trans (hb.mono B2.size)⟩
set_option maxHeartbeats 1000000 in
theorem begun_any (w : World) (hT : Tb w) : Calls Tryd.prog 4 #[] w fun e w' => e = .returned (.bool true) ∧ Below w.heap.size w w' := by
  have R1 := hide (bg1_run w hT)
  have T0 := hide hT
  clear hT
  go_enter Tryd.func4, Tryd.ntmps4
  go_upto_region 2 with (go_at_call 10; refine R1.out.mono ?_; rintro e w1 ⟨ta, tc, gr, rc, ga, ec, qa, qc, rfl, F, b1⟩; have b1 := hide b1)
  have bb := box_below w1 (.cells #[.int .i64 3, .slice ta 3 tc, .slice (some ⟨gr, 0, none⟩) 8 rc, .slice (some ⟨ga, 0, none⟩) 2 ec, .slice qa 4 qc] 33)
  have nb := heap_alloc_new w1 (.cells #[.int .i64 3, .slice ta 3 tc, .slice (some ⟨gr, 0, none⟩) 8 rc, .slice (some ⟨ga, 0, none⟩) 2 ec, .slice qa 4 qc] 33)
  obtain ⟨k1, k2, r0, r7, c0, c2⟩ := F.out
  have r0 := (bb.cell (lt_of_cell r0)).trans r0
  have r7 := (bb.cell (lt_of_cell r7)).trans r7
  have c0 := (bb.cell (lt_of_cell c0)).trans c0
  have c2 := (bb.cell (lt_of_cell c2)).trans c2
  have B2 := hide (keepF b1.out bb)
  generalize w1.alloc (.cells #[.int .i64 3, .slice ta 3 tc, .slice (some ⟨gr, 0, none⟩) 8 rc, .slice (some ⟨ga, 0, none⟩) 2 ec, .slice qa 4 qc] 33) = w2 at *
  generalize w1.heap.size = pb at *
  have KC : Hid (∀ q, Below w2.heap.size w2 q → q.cell? ⟨pb, 0, none⟩ = some (.int .i64 3) ∧ q.cell? ⟨pb, 2, none⟩ = some (.slice (some ⟨gr, 0, none⟩) 8 rc) ∧ q.cell? ⟨pb, 3, none⟩ = some (.slice (some ⟨ga, 0, none⟩) 2 ec) ∧ q.cell? ⟨gr, 0, none⟩ = some (.int .i64 1) ∧ q.cell? ⟨gr, 7, none⟩ = some (.int .i64 9) ∧ q.cell? ⟨ga, 0, none⟩ = some (.int .i64 1) ∧ q.cell? ⟨ga, 2, none⟩ = some (.int .i64 7)) := fun q hb => by
    have nq := (hb.block _ (heap_lt nb)).trans nb
    exact ⟨by rw [cell_of nq]; rfl, by rw [cell_of nq]; rfl, by rw [cell_of nq]; rfl, (hb.cell (lt_of_cell r0)).trans r0, (hb.cell (lt_of_cell r7)).trans r7, (hb.cell (lt_of_cell c0)).trans c0, (hb.cell (lt_of_cell c2)).trans c2⟩
  have R2 := hide (bg2_run w2 (T0.out.below B2.out))
  clear nb r0 r7 c0 c2 bb R1 F b1
  go_upto_region 3 with (go_at_call 12; refine R2.out.mono ?_; rintro e w3 ⟨na, nc, rfl, b3⟩)
  obtain ⟨x0, x1, x2, x3, x4, x5, x6⟩ := KC.out w3 b3
  have B3 := hide (B2.out.trans (b3.mono B2.out.size))
  have R3 := hide (may_nil w3 (T0.out.below B3.out))
  have i1 : (8 : Int) ≤ (rc : Int) := by omega
  have i2 : (2 : Int) ≤ (ec : Int) := by omega
  clear KC R2 b3 k1 k2
  go_wp2_with (go_at_call 6; refine R3.out.mono ?_; rintro e w4 ⟨rfl, b4⟩; have b4 := hide b4)
  go_ret
  exact ⟨rfl, B3.out.trans (b4.out.mono B3.out.size)⟩
end Go.Proofs.YtiiinpmkidobgaaDoor.Sd

/-
  Lists of acts of one's own, and lists of them.
-/
namespace Go.Proofs.YtiiinpmkidobgaaDoor.Sd
open Go.RowKit
set_option linter.unusedVariables false
set_option linter.unusedSimpArgs false
set_option maxRecDepth 100000
theorem infoA : (Tryd.prog.info? 45).map (fun i => (i.zero, i.size, i.bytes)) = some (some (.agg #[.int .i64 0, .int .i64 0, .int .i64 0, .int .i64 0]), 4, 32) := by kernel_rfl
theorem infoAs : (Tryd.prog.info? 46).map (fun i => (i.zero, i.size, i.bytes)) = some (some (.slice none 0 0), 1, 24) := by kernel_rfl
def Ar (B : Nat) (w : World) (v : Value) (l : List Ac) : Prop := w.ownsRow B 45 4 v l.length (acells l)
theorem Ar.nil (B : Nat) (w : World) : Ar B w (.slice none 0 0) [] := World.ownsRow_nil _ _ _ _
theorem acells_app (l m : List Ac) : acells (l ++ m) = acells l ++ acells m := by simp [acells]
theorem acells_one (l : List Ac) : ∀ u ∈ acells l, u.oneCell' = true := by
  intro u hu
  obtain ⟨a, -, h⟩ := List.mem_flatMap.1 hu
  simp only [acell, List.mem_cons, List.not_mem_nil, or_false] at h
  rcases h with rfl | rfl | rfl | rfl <;> rfl
theorem run_appAs {B : Nat} {w : World} {v : Value} {vs : List Value} (x : Value) (hx : x.oneCell' = true) (gg : Nat) (h : w.ownsRow B 46 1 v vs.length vs) (h0 : w.cell? ⟨gg, 0, none⟩ = some x) (hl : vs.length ≤ 1000000) (hB : B ≤ w.heap.size) (ty : TypeId) :
    ∃ v' w', (Builtin.append_ #[22, 22] ty #[v, .slice (some ⟨gg, 0, none⟩) 1 1]).run Tryd.prog w = .ok v' w' ∧ w'.ownsRow B 46 1 v' (vs.length + 1) (vs ++ [x]) ∧ w.grownBy w' v.ownBlock ∧ ∀ k, v'.ownBlock = some k → v.ownBlock = some k ∨ w.heap.size ≤ k := by
  obtain ⟨i0, hi, hz0, hz1, hz2⟩ := info_parts infoAs
  have hcells : ∀ j u, ([x] : List Value)[j]? = some u → w.cell? ((⟨gg, 0, none⟩ : Addr).add j) = some u := by
    intro j u hu
    rw [addr_add]
    match j with
    | 0 => simp at hu; subst hu; exact h0
    | j + 1 => simp at hu
  obtain ⟨v', w', hr, ho, hg, _, hat⟩ := run_append_own_at (P := Tryd.prog) w B 22 ty 46 i0 (.slice none 0 0) 1 24 Tryd.underlying22 hi hz0 hz1 hz2 rfl (by decide) v vs.length vs h ⟨gg, 0, none⟩ 1 1 [x] rfl hcells (by
      intro u hu
      simp at hu
      subst hu
      exact hx) (by unfold maxLen; omega) (by omega) hB
  refine ⟨v', w', hr, ho, hg, fun k hk => ?_⟩
  rcases hat with e | e
  · exact .inl (by rw [← e]; exact hk)
  · rw [e] at hk; cases hk; exact .inr (Nat.le_refl _)
theorem row_but {B : Nat} {w w' : World} {T : TypeId} {sz n : Nat} {v : Value} {l : List Value} {row : Option Nat} (h : w.ownsRow B T sz v n l) (hg : w.grownBy w' row) (hne : ∀ k, v.ownBlock = some k → row ≠ some k) : w'.ownsRow B T sz v n l :=
  ownsRow_but h (But.of_grownBy (X := fun k => row = some k) hg fun k e => e) fun k hk => hne k hk
/-- Tasks of one's own: the row of their lists, each a row of its own. -/
structure Ts (B : Nat) (w : World) (tv : Value) (us : List Value) (ts : List (List Ac)) : Prop where
  row : w.ownsRow B 46 1 tv us.length us
  len : us.length = ts.length
  ls : ∀ (i : Nat) (u : Value) (l : List Ac), us[i]? = some u → ts[i]? = some l → Ar B w u l
  hd : ∀ (i : Nat) (u : Value) (k : Nat), us[i]? = some u → u.ownBlock = some k → tv.ownBlock ≠ some k
section
variable {B : Nat} {w w' : World} {tv : Value} {us : List Value} {ts : List (List Ac)}
theorem Ts.nil (B : Nat) (w : World) : Ts B w (.slice none 0 0) [] [] := ⟨World.ownsRow_nil _ _ _ _, rfl, fun i u l h => by simp at h, fun i u k h => by simp at h⟩
theorem Ts.below (h : Ts B w tv us ts) (hb : Below w.heap.size w w') : Ts B w' tv us ts := ⟨row_below h.row hb, h.len, fun i u l h1 h2 => row_below (h.ls i u l h1 h2) hb, h.hd⟩
theorem Ts.form (h : Ts B w tv us ts) : ∃ ao ca, tv = .slice ao ts.length ca ∧ ts.length ≤ ca := by
  obtain ⟨a, c, e, hl⟩ := own_form h.row
  rw [h.len] at e hl
  exact ⟨a, c, e, hl⟩
theorem Ts.tks (h : Ts B w tv us ts) : TksAt w tv us ts := tks_own h.row h.len fun i u l h1 h2 => acts_own (h.ls i u l h1 h2)
/-- One task more: its list u lies from the elder world's end on. -/
theorem Ts.add {w1 : World} {u tv' : Value} {l : List Ac} {B1 : Nat} (h : Ts B w tv us ts) (hb : Below w.heap.size w w1) (hu : Ar B1 w1 u l) (hB : w.heap.size ≤ B1) (hB0 : B ≤ w.heap.size) (hg : w1.grownBy w' tv.ownBlock) (ho : w'.ownsRow B 46 1 tv' (us.length + 1) (us ++ [u])) (hn : ∀ k, tv'.ownBlock = some k → tv.ownBlock = some k ∨ w1.heap.size ≤ k) : Ts B w' tv' (us ++ [u]) (ts ++ [l]) := by
  have htv : ∀ k, tv.ownBlock = some k → k < w.heap.size := fun k hk => (World.ownsRow.lt h.row k hk).2
  have hub : ∀ k, u.ownBlock = some k → w.heap.size ≤ k ∧ k < w1.heap.size := fun k hk => by have := World.ownsRow.lt hu k hk; omega
  have h1 := h.below hb
  have hulk : ∀ (i : Nat) (x : Value), us[i]? = some x → ∀ k, x.ownBlock = some k → k < w1.heap.size := fun i x hx k hk => by
    have hl : i < ts.length := by rw [← h.len]; exact (List.getElem?_eq_some_iff.1 hx).1
    exact (World.ownsRow.lt (h1.ls i x _ hx (List.getElem?_eq_getElem hl)) k hk).2
  refine ⟨by rw [List.length_append]; exact ho, by simp [h.len], fun i x y hx hy => ?_, fun i x k hx hk => ?_⟩
  · by_cases hi : i < us.length
    · rw [List.getElem?_append_left hi] at hx
      rw [List.getElem?_append_left (by rw [← h.len]; exact hi)] at hy
      exact row_but (h1.ls i x y hx hy) hg fun k hk e => h.hd i x k hx hk e
    · have hi2 : i = us.length := by have := (List.getElem?_eq_some_iff.1 hx).1; simp at this; omega
      subst hi2
      rw [List.getElem?_concat_length] at hx
      rw [h.len, List.getElem?_concat_length] at hy
      cases hx; cases hy
      exact row_but (row_low hu (Nat.le_trans hB0 hB)) hg fun k hk e => by have := htv k e; have := hub k hk; omega
  · by_cases hi : i < us.length
    · rw [List.getElem?_append_left hi] at hx
      intro e
      rcases hn k e with c | c
      · exact h.hd i x k hx hk c
      · have := hulk i x hx k hk; omega
    · have hi2 : i = us.length := by have := (List.getElem?_eq_some_iff.1 hx).1; simp at this; omega
      subst hi2
      rw [List.getElem?_concat_length] at hx
      cases hx
      intro e
      have := hub k hk
      rcases hn k e with c | c
      · have := htv k c; omega
      · omega
end
end Go.Proofs.YtiiinpmkidobgaaDoor.Sd

/-
  SchedQueues.
-/
namespace Go.Proofs.YtiiinpmkidobgaaDoor.Sd
open Go.RowKit
set_option linter.unusedVariables false
set_option linter.unusedSimpArgs false
set_option maxRecDepth 100000
end Go.Proofs.YtiiinpmkidobgaaDoor.Sd

/-
  Guards and panics, by data.
-/
namespace Go.Proofs.YtiiinpmkidobgaaDoor.Sd
open Go.RowKit
set_option linter.unusedVariables false
set_option linter.unusedSimpArgs false
set_option maxRecDepth 100000
end Go.Proofs.YtiiinpmkidobgaaDoor.Sd

/-
  Ends, turns and acts held against one another.
-/
namespace Go.Proofs.YtiiinpmkidobgaaDoor.Sd
open Go.RowKit
theorem endFs : ∃ n0 n1 : String, Tryd.prog.underlying 48 = some (.struct (Tryd.prog.fieldsOf 48)) ∧ ((Tryd.prog.fieldsOf 48).toList.map fun f => (f.name, f.type, f.offset)) = [(n0, 3, 0), (n1, 2, 1)] ∧ n0 ≠ "_" ∧ n1 ≠ "_" :=
  ⟨ "How", "N", by kernel_rfl, by kernel_rfl, by decide, by decide⟩
theorem endHeld : Tryd.prog.stoodInHeld 48 = false := by kernel_rfl
theorem endEq (w : World) (a b c d : Int) : (Op.equalIn 10000 48 (.agg #[.int .i64 a, .int .i64 b]) (.agg #[.int .i64 c, .int .i64 d])).run Tryd.prog w = .ok (decide (a = c ∧ b = d)) w := by
  obtain ⟨n0, n1, h1, h2, h3, h4⟩ := endFs
  rw [run_equalIn_struct w 9999 48 _ _ h1 endHeld]
  generalize (Tryd.prog.fieldsOf 48).toList = fs at h2
  have hl : fs.length = 2 := by have := congrArg List.length h2; simpa using this
  match fs, hl with
  | [f0, f1], _ =>
    simp only [List.map_cons, List.map_nil, List.cons.injEq, Prod.mk.injEq, and_true] at h2
    obtain ⟨⟨x0, y0, z0⟩, ⟨x1, y1, z1⟩⟩ := h2
    have p0 : f0.name ≠ "_" := by rw [x0]; exact h3
    have p1 : f1.name ≠ "_" := by rw [x1]; exact h4
    by_cases q0 : a = c <;> by_cases q1 : b = d <;> simp [Op.eqFields, p0, y0, z0, q0, p1, y1, z1, q1, go_sem]
theorem endNeq (w : World) (a b c d : Int) : (binOp .neq 48 (.agg #[.int .i64 a, .int .i64 b]) (.agg #[.int .i64 c, .int .i64 d])).run Tryd.prog w = .ok (.bool (!decide (a = c ∧ b = d))) w := by
  rw [run_neq_struct, endEq]
  rfl
theorem turnFs : ∃ n0 n1 : String, Tryd.prog.underlying 39 = some (.struct (Tryd.prog.fieldsOf 39)) ∧ ((Tryd.prog.fieldsOf 39).toList.map fun f => (f.name, f.type, f.offset)) = [(n0, 3, 0), (n1, 3, 1)] ∧ n0 ≠ "_" ∧ n1 ≠ "_" :=
  ⟨ "Task", "Act", by kernel_rfl, by kernel_rfl, by decide, by decide⟩
theorem turnHeld : Tryd.prog.stoodInHeld 39 = false := by kernel_rfl
theorem turnEq (w : World) (a b c d : Int) : (Op.equalIn 10000 39 (.agg #[.int .i64 a, .int .i64 b]) (.agg #[.int .i64 c, .int .i64 d])).run Tryd.prog w = .ok (decide (a = c ∧ b = d)) w := by
  obtain ⟨n0, n1, h1, h2, h3, h4⟩ := turnFs
  rw [run_equalIn_struct w 9999 39 _ _ h1 turnHeld]
  generalize (Tryd.prog.fieldsOf 39).toList = fs at h2
  have hl : fs.length = 2 := by have := congrArg List.length h2; simpa using this
  match fs, hl with
  | [f0, f1], _ =>
    simp only [List.map_cons, List.map_nil, List.cons.injEq, Prod.mk.injEq, and_true] at h2
    obtain ⟨⟨x0, y0, z0⟩, ⟨x1, y1, z1⟩⟩ := h2
    have p0 : f0.name ≠ "_" := by rw [x0]; exact h3
    have p1 : f1.name ≠ "_" := by rw [x1]; exact h4
    by_cases q0 : a = c <;> by_cases q1 : b = d <;> simp [Op.eqFields, p0, y0, z0, q0, p1, y1, z1, q1, go_sem]
theorem turnNeq (w : World) (a b c d : Int) : (binOp .neq 39 (.agg #[.int .i64 a, .int .i64 b]) (.agg #[.int .i64 c, .int .i64 d])).run Tryd.prog w = .ok (.bool (!decide (a = c ∧ b = d))) w := by
  rw [run_neq_struct, turnEq]
  rfl
theorem actFs : ∃ n0 n1 n2 n3 : String, Tryd.prog.underlying 45 = some (.struct (Tryd.prog.fieldsOf 45)) ∧ ((Tryd.prog.fieldsOf 45).toList.map fun f => (f.name, f.type, f.offset)) = [(n0, 3, 0), (n1, 3, 1), (n2, 3, 2), (n3, 2, 3)] ∧ n0 ≠ "_" ∧ n1 ≠ "_" ∧ n2 ≠ "_" ∧ n3 ≠ "_" :=
  ⟨ "Kind", "A", "B", "N", by kernel_rfl, by kernel_rfl, by decide, by decide, by decide, by decide⟩
theorem actHeld : Tryd.prog.stoodInHeld 45 = false := by kernel_rfl
theorem actEq (w : World) (a b c d e f g h : Int) : (Op.equalIn 10000 45 (.agg #[.int .i64 a, .int .i64 b, .int .i64 c, .int .i64 d]) (.agg #[.int .i64 e, .int .i64 f, .int .i64 g, .int .i64 h])).run Tryd.prog w = .ok (decide (a = e ∧ b = f ∧ c = g ∧ d = h)) w := by
  obtain ⟨n0, n1, n2, n3, h1, h2, h3, h4, h5, h6⟩ := actFs
  rw [run_equalIn_struct w 9999 45 _ _ h1 actHeld]
  generalize (Tryd.prog.fieldsOf 45).toList = fs at h2
  have hl : fs.length = 4 := by have := congrArg List.length h2; simpa using this
  match fs, hl with
  | [f0, f1, f2, f3], _ =>
    simp only [List.map_cons, List.map_nil, List.cons.injEq, Prod.mk.injEq, and_true] at h2
    obtain ⟨⟨x0, y0, z0⟩, ⟨x1, y1, z1⟩, ⟨x2, y2, z2⟩, ⟨x3, y3, z3⟩⟩ := h2
    have p0 : f0.name ≠ "_" := by rw [x0]; exact h3
    have p1 : f1.name ≠ "_" := by rw [x1]; exact h4
    have p2 : f2.name ≠ "_" := by rw [x2]; exact h5
    have p3 : f3.name ≠ "_" := by rw [x3]; exact h6
    by_cases q0 : a = e <;> by_cases q1 : b = f <;> by_cases q2 : c = g <;> by_cases q3 : d = h <;> simp [Op.eqFields, p0, y0, z0, q0, p1, y1, z1, q1, p2, y2, z2, q2, p3, y3, z3, q3, go_sem]
theorem actNeq (w : World) (a b c d e f g h : Int) : (binOp .neq 45 (.agg #[.int .i64 a, .int .i64 b, .int .i64 c, .int .i64 d]) (.agg #[.int .i64 e, .int .i64 f, .int .i64 g, .int .i64 h])).run Tryd.prog w = .ok (.bool (!decide (a = e ∧ b = f ∧ c = g ∧ d = h))) w := by
  rw [run_neq_struct, actEq]
  rfl
end Go.Proofs.YtiiinpmkidobgaaDoor.Sd

/-
  SchedGuards.
-/
namespace Go.Proofs.YtiiinpmkidobgaaDoor.Sd
open Go.RowKit
set_option linter.unusedVariables false
set_option linter.unusedSimpArgs false
set_option maxRecDepth 100000
end Go.Proofs.YtiiinpmkidobgaaDoor.Sd

/-
  Two Rans held against one another.
-/
namespace Go.Proofs.YtiiinpmkidobgaaDoor.Sd
open Go.RowKit
set_option linter.unusedVariables false
set_option linter.unusedSimpArgs false
set_option maxRecDepth 100000
/-- A list of pairs of numbers, as it is read. -/
def Pr (w : World) (v : Value) (l : List (Int × Int)) : Prop := ∃ ao ca, v = .slice ao l.length ca ∧ l.length ≤ ca ∧ ca ≤ 9223372036854775807 ∧ ∀ i x, l[i]? = some x → ∃ b off, ao = some ⟨b, off, none⟩ ∧ w.cell? ⟨b, off + i * 2, none⟩ = some (.int .i64 x.1) ∧ w.cell? ⟨b, off + i * 2 + 1, none⟩ = some (.int .i64 x.2)
theorem Pr.below {w w' : World} {v : Value} {l : List (Int × Int)} (h : Pr w v l) (hb : Below w.heap.size w w') : Pr w' v l := by
  obtain ⟨ao, ca, e, h1, h2, h3⟩ := h
  refine ⟨ao, ca, e, h1, h2, fun i x hi => ?_⟩
  obtain ⟨b, off, e, c1, c2⟩ := h3 i x hi
  exact ⟨b, off, e, (hb.cell (lt_of_cell c1)).trans c1, (hb.cell (lt_of_cell c2)).trans c2⟩
def Qs (w : World) (v : Value) (L : List (List Int)) : Prop := ∃ vs, Row w v vs ∧ vs.length = L.length ∧ ∀ (i : Nat) (u : Value) (l : List Int), vs[i]? = some u → L[i]? = some l → Row w u (l.map (Value.int .i64))
theorem Qs.below {w w' : World} {v : Value} {L : List (List Int)} (h : Qs w v L) (hb : Below w.heap.size w w') : Qs w' v L := by
  obtain ⟨vs, h1, h2, h3⟩ := h
  exact ⟨vs, Below.row hb h1, h2, fun i u l e1 e2 => Below.row hb (h3 i u l e1 e2)⟩
structure Rq (w : World) (tv rv ev qv : Value) (T : List (Int × Int)) (G : List Int) (E : List (Int × Int)) (L : List (List Int)) : Prop where
  t : Pr w tv T
  g : Row w rv (G.map (Value.int .i64))
  e : Pr w ev E
  q : Qs w qv L
theorem Rq.below {w w' : World} {tv rv ev qv : Value} {T : List (Int × Int)} {G : List Int} {E : List (Int × Int)} {L : List (List Int)} (h : Rq w tv rv ev qv T G E L) (hb : Below w.heap.size w w') : Rq w' tv rv ev qv T G E L := ⟨h.t.below hb, Below.row hb h.g, h.e.below hb, h.q.below hb⟩
def trI (tr : List (Nat × Nat)) : List (Int × Int) := tr.map fun x => ((x.1 : Int), (x.2 : Int))
theorem row_own {B : Nat} {w : World} {T : TypeId} {v : Value} {l : List Value} (h : w.ownsRow B T 1 v l.length l) : Row w v l := by
  rcases h.2 with ⟨e, hz⟩ | ⟨g, cap, cur, rfl, hg, h1, h2, h3, h4, h5⟩
  · have : l = [] := List.length_eq_zero_iff.1 hz
    subst this
    exact ⟨none, 0, e, fun _ => ⟨rfl, rfl⟩, Nat.le_refl _, Nat.zero_le _, fun i hi => absurd hi (by simp)⟩
  · refine ⟨_, cap, rfl, (fun e => by cases e), h2, h3, fun i hi => ⟨g, 0, rfl, ?_⟩⟩
    rw [cell_of h1, Nat.zero_add, ← Array.getElem?_toList, ← List.getElem?_take_of_lt (j := l.length * 1) (by omega), h5, List.getElem?_eq_getElem hi]
theorem iw_row {B : Nat} {w : World} {v : Value} {l : List Int} (h : Iw B w v l) : Row w v (l.map (Value.int .i64)) := row_own (B := B) (T := 2) (by rw [List.length_map]; exact h)
theorem Rt.rq {B : Nat} {w : World} {tv rv ev qv : Value} {vs : List Value} {tr : List (Nat × Nat)} {rg : List Int} {E : List (Int × Int)} {L : List (List Int)} (h : Rt B w tv rv ev qv vs tr rg E L) : Rq w tv rv ev qv (trI tr) rg E L := by
  refine ⟨?_, iw_row h.rg, ?_, ⟨vs, row_own h.qs, h.ql.1, fun i u l e1 e2 => iw_row (h.ql.2 i u l e1 e2)⟩⟩
  · obtain ⟨ao, ca, e, h1, h2, h3⟩ := turns_form h.tr
    refine ⟨ao, ca, by rw [e]; simp [trI], by simpa [trI] using h1, h2, fun i x hi => ?_⟩
    unfold trI at hi
    rw [List.getElem?_map] at hi
    cases hx : tr[i]? with
    | none => rw [hx] at hi; cases hi
    | some y =>
      rw [hx] at hi
      cases hi
      obtain ⟨g, e, c1, c2⟩ := h3 i y hx
      exact ⟨g, 0, e, by simpa using c1, by simpa using c2⟩
  · obtain ⟨ao, ca, e, h1, h2, h3⟩ := ends_form h.en
    refine ⟨ao, ca, e, h1, h2, fun i x hi => ?_⟩
    obtain ⟨g, e, c1, c2⟩ := h3 i x hi
    exact ⟨g, 0, e, by simpa using c1, by simpa using c2⟩
theorem measP {N i : Nat} (h : i < N) : N - (intOf (Value.int .i64 ((i : Int) + 1))).toNat < N - (intOf (Value.int .i64 (i : Int))).toNat := by simp only [intOf]; omega
set_option maxHeartbeats 1000000 in
theorem ints_any (w : World) (va vb : Value) (l : List Int) (ha : Row w va (l.map (Value.int .i64))) (hb : Row w vb (l.map (Value.int .i64))) :
    Calls Tryd.prog 30 #[va, vb] w fun e w' => e = .returned (.bool true) ∧ Below w.heap.size w w' := by
  have HA := hide ha
  have HB := hide hb
  obtain ⟨aa, ca, rfl, -, -, hca, -⟩ := ha
  obtain ⟨ab, cb, rfl, -, -, hcb, -⟩ := hb
  obtain ⟨n, hn⟩ : ∃ n, Hid ((l.map (Value.int .i64)).length = n) := ⟨_, rfl⟩
  rw [hn.out] at HA HB ⊢
  have hcap : n ≤ ca ∧ n ≤ cb := ⟨(row_at HA.out hn.out).1, (row_at HB.out hn.out).1⟩
  obtain ⟨hc1, hc2⟩ := hcap
  unfold maxLen at hca hcb
  have hn9 : (n : Int) ≤ 9223372036854775807 := by omega
  have hC1 := hide hc1
  have hC2 := hide hc2
  clear hc1 hc2 hca hcb
  go_enter Tryd.func30, Tryd.ntmps30
  go_upto_region 4 with fail
  go_loopw [5] (fun s5 wr => ∃ i : Nat, s5 = .int .i64 (i : Int) ∧ i ≤ n ∧ Hid (Below w.heap.size w wr)) (fun s5 wr => n - (intOf s5).toNat)
  case atStart => exact ⟨0, rfl, Nat.zero_le _, Below.refl _ _⟩
  case round =>
  obtain ⟨i, rfl, hin, hB⟩ := hrel
  by_cases hlt : i < n
  · have i1 : (i : Int) < (n : Int) := Int.ofNat_lt.2 hlt
    have i2 : (n : Int) ≤ (ca : Int) := Int.ofNat_le.2 hC1.out
    have i3 : (n : Int) ≤ (cb : Int) := Int.ofNat_le.2 hC2.out
    obtain ⟨x, hx⟩ : ∃ x, (l.map (Value.int .i64))[i]? = some (.int .i64 x) := by
      have hl : i < l.length := by have := hn.out; rw [List.length_map] at this; omega
      exact ⟨l[i], by rw [List.getElem?_map, List.getElem?_eq_getElem hl]; rfl⟩
    obtain ⟨b1, o1, rfl, c1⟩ := (row_at (Below.row hB.out HA.out) hn.out).2 i _ hx
    obtain ⟨b2, o2, rfl, c2⟩ := (row_at (Below.row hB.out HB.out) hn.out).2 i _ hx
    clear hx
    go_upto_region 6 with fail
    go_quiet (fail)
    go_wp2_with fail
    go_roundw
    case rel => exact ⟨i + 1, by go_num, hlt, keepF hB.out (Qt.below ⟨_, rfl⟩ _)⟩
    case measure => exact measP hlt
  · have e : n = i := Nat.le_antisymm (Nat.not_lt.1 hlt) hin
    subst e
    have i1 : ¬ (n : Int) < (n : Int) := Int.lt_irrefl _
    go_wp2_with fail
    go_ret
    exact ⟨rfl, hB.out⟩
theorem two_boxes (w : World) (n n' : Int) (a b c d a' b' c' d' : Value) (O1 O2 : Obj) (h1 : O1 = .cells #[.int .i64 n, a, b, c, d] 33) (h2 : O2 = .cells #[.int .i64 n', a', b', c', d'] 33) : Below w.heap.size w ((w.alloc O1).alloc O2) ∧ ∀ q, Below ((w.alloc O1).alloc O2).heap.size ((w.alloc O1).alloc O2) q →
    (q.cell? ⟨w.heap.size, 0, none⟩ = some (.int .i64 n) ∧ q.cell? ⟨w.heap.size, 1, none⟩ = some a ∧ q.cell? ⟨w.heap.size, 2, none⟩ = some b ∧ q.cell? ⟨w.heap.size, 3, none⟩ = some c ∧ q.cell? ⟨w.heap.size, 4, none⟩ = some d) ∧
    (q.cell? ⟨w.heap.size + 1, 0, none⟩ = some (.int .i64 n') ∧ q.cell? ⟨w.heap.size + 1, 1, none⟩ = some a' ∧ q.cell? ⟨w.heap.size + 1, 2, none⟩ = some b' ∧ q.cell? ⟨w.heap.size + 1, 3, none⟩ = some c' ∧ q.cell? ⟨w.heap.size + 1, 4, none⟩ = some d') := by
  have b1 := box_below w O1
  have b2 := box_below (w.alloc O1) O2
  have n1 := heap_alloc_new w O1
  have n2 := heap_alloc_new (w.alloc O1) O2
  have z : (w.alloc O1).heap.size = w.heap.size + 1 := by simp
  rw [z] at n2
  subst h1
  subst h2
  refine ⟨keepF b1 b2, fun q hq => ?_⟩
  have m1 := (((b2.block _ (heap_lt n1)).trans n1))
  have k1 := (hq.block _ (heap_lt m1)).trans m1
  have k2 := (hq.block _ (heap_lt n2)).trans n2
  exact ⟨⟨by rw [cell_of k1]; rfl, by rw [cell_of k1]; rfl, by rw [cell_of k1]; rfl, by rw [cell_of k1]; rfl, by rw [cell_of k1]; rfl⟩, by rw [cell_of k2]; rfl, by rw [cell_of k2]; rfl, by rw [cell_of k2]; rfl, by rw [cell_of k2]; rfl, by rw [cell_of k2]; rfl⟩
set_option maxHeartbeats 4000000 in
theorem eq_any (w : World) (n : Int) (tv rv ev qv tv' rv' ev' qv' : Value) (T : List (Int × Int)) (G : List Int) (E : List (Int × Int)) (L : List (List Int)) (h : Rq w tv rv ev qv T G E L) (h' : Rq w tv' rv' ev' qv' T G E L) :
    Calls Tryd.prog 11 #[.agg #[.int .i64 n, tv, rv, ev, qv], .agg #[.int .i64 n, tv', rv', ev', qv']] w fun e w' => e = .returned (.bool true) ∧ Below w.heap.size w w' := by
  have H := hide h
  have H' := hide h'
  obtain ⟨ta, tc, rfl, t1, t2, -⟩ := h.t
  obtain ⟨ta', tc', rfl, t1', t2', -⟩ := h'.t
  obtain ⟨ea, ec, rfl, e1, e2, -⟩ := h.e
  obtain ⟨ea', ec', rfl, e1', e2', -⟩ := h'.e
  obtain ⟨ga, gc, rfl, -⟩ := h.g
  obtain ⟨ga', gc', rfl, -⟩ := h'.g
  obtain ⟨vs, qr, ql, qe⟩ := h.q
  obtain ⟨vs', qr', ql', qe'⟩ := h'.q
  have QR := hide qr
  have QR' := hide qr'
  obtain ⟨qa, qc, rfl, -, -, qm, -⟩ := qr
  obtain ⟨qa', qc', rfl, -, -, qm', -⟩ := qr'
  have QE := hide qe
  have QE' := hide qe'
  rw [ql] at QR H ⊢
  rw [ql'] at QR' H' ⊢
  have QL := hide ql
  have QL' := hide ql'
  have qcap := (row_at QR.out ql).1
  have qcap' := (row_at QR'.out ql').1
  unfold maxLen at qm qm'
  obtain ⟨TN, hTN⟩ : ∃ TN, Hid (T.length = TN) := ⟨_, rfl⟩
  obtain ⟨EN, hEN⟩ : ∃ EN, Hid (E.length = EN) := ⟨_, rfl⟩
  obtain ⟨GN, hGN⟩ : ∃ GN, Hid ((G.map (Value.int .i64)).length = GN) := ⟨_, rfl⟩
  obtain ⟨LN, hLN⟩ : ∃ LN, Hid (L.length = LN) := ⟨_, rfl⟩
  rw [hTN.out, hEN.out, hGN.out, hLN.out] at H H'
  rw [hLN.out] at QR QR' qcap qcap'
  rw [hTN.out] at t1 t1'
  rw [hEN.out] at e1 e1'
  rw [hTN.out, hEN.out, hGN.out, hLN.out]
  have t9 : (TN : Int) ≤ 9223372036854775807 := by omega
  have e9 : (EN : Int) ≤ 9223372036854775807 := by omega
  have q9 : (LN : Int) ≤ 9223372036854775807 := by omega
  have CT := hide (And.intro t1 t1')
  have CE := hide (And.intro e1 e1')
  have CQ := hide (And.intro qcap qcap')
  obtain ⟨BB, KC⟩ := two_boxes w n n (.slice ta TN tc) (.slice ga GN gc) (.slice ea EN ec) (.slice qa LN qc) (.slice ta' TN tc') (.slice ga' GN gc') (.slice ea' EN ec') (.slice qa' LN qc') _ _ rfl rfl
  have BBh := hide BB
  have KCh := hide KC
  clear h h' t1 t1' t2 t2' e1 e1' e2 e2' ql ql' qe qe' qm qm' qcap qcap' BB KC
  go_enter Tryd.func11, Tryd.ntmps11
  go_upto_region 1 with fail
  generalize ((w.alloc (.cells #[.int .i64 n, .slice ta TN tc, .slice ga GN gc, .slice ea EN ec, .slice qa LN qc] 33)).alloc (.cells #[.int .i64 n, .slice ta' TN tc', .slice ga' GN gc', .slice ea' EN ec', .slice qa' LN qc'] 33)) = w2 at *
  obtain ⟨⟨x0, x1, x2, x3, x4⟩, y0, y1, y2, y3, y4⟩ := KCh.out w2 (Below.refl _ _)
  have IN := hide (ints_any w2 (.slice ga GN gc) (.slice ga' GN gc') G (H.out.below BBh.out).g (H'.out.below BBh.out).g)
  go_upto_region 4 with (go_at_call 30; refine IN.out.mono ?_; rintro e w3 ⟨rfl, b3⟩; have b3 := hide b3)
  clear x0 x1 x2 x3 x4 y0 y1 y2 y3 y4 IN
  go_loopw [5] (fun s5 wr => ∃ i : Nat, s5 = .int .i64 (i : Int) ∧ i ≤ TN ∧ Hid (Below w2.heap.size w2 wr)) (fun s5 wr => TN - (intOf s5).toNat)
  case atStart => exact ⟨0, rfl, Nat.zero_le _, b3.out⟩
  case round =>
  obtain ⟨i, rfl, hin, hB⟩ := hrel
  obtain ⟨⟨-, x1, -, -, -⟩, -, y1, -, -, -⟩ := KCh.out wr hB.out
  by_cases hlt : i < TN
  · have i1 : (i : Int) < (TN : Int) := Int.ofNat_lt.2 hlt
    have i2 : (i : Int) < (tc : Int) := Int.ofNat_lt.2 (Nat.lt_of_lt_of_le hlt CT.out.1)
    have i3 : (i : Int) < (tc' : Int) := Int.ofNat_lt.2 (Nat.lt_of_lt_of_le hlt CT.out.2)
    obtain ⟨x, hx⟩ : ∃ x, T[i]? = some x := ⟨_, List.getElem?_eq_getElem (by rw [hTN.out]; exact hlt)⟩
    have RB := BBh.out.trans (hB.out.mono BBh.out.size)
    obtain ⟨ao, ca, e, -, -, hc⟩ := (H.out.below RB).t
    cases e
    obtain ⟨b1, o1, rfl, c1, c2⟩ := hc i x hx
    obtain ⟨ao, ca, e, -, -, hc'⟩ := (H'.out.below RB).t
    cases e
    obtain ⟨b2, o2, rfl, d1, d2⟩ := hc' i x hx
    have hq : ∀ u : World, (binOp .neq 39 (.agg #[.int .i64 x.1, .int .i64 x.2]) (.agg #[.int .i64 x.1, .int .i64 x.2])).run Tryd.prog u = .ok (.bool false) u := fun u => by rw [turnNeq]; simp
    clear hx RB hc hc'
    go_upto_region 6 with fail
    go_quiet (fail)
    go_wp2_with fail
    go_roundw
    case rel => exact ⟨i + 1, by go_num, hlt, keepF hB.out (Qt.below ⟨_, rfl⟩ _)⟩
    case measure => exact measP hlt
  · have e : TN = i := Nat.le_antisymm (Nat.not_lt.1 hlt) hin
    subst e
    have i1 : ¬ (TN : Int) < (TN : Int) := Int.lt_irrefl _
    go_upto_region 9 with fail
    clear x1 y1
    go_loopw [6] (fun s6 wr => ∃ i : Nat, s6 = .int .i64 (i : Int) ∧ i ≤ EN ∧ Hid (Below w2.heap.size w2 wr)) (fun s6 wr => EN - (intOf s6).toNat)
    case atStart => exact ⟨0, rfl, Nat.zero_le _, hB.out⟩
    case round =>
    clear hB
    obtain ⟨i, rfl, hin, hB⟩ := hrel
    obtain ⟨⟨-, -, -, x1, -⟩, -, -, -, y1, -⟩ := KCh.out wr hB.out
    by_cases hlt : i < EN
    · have i1 : (i : Int) < (EN : Int) := Int.ofNat_lt.2 hlt
      have i2 : (i : Int) < (ec : Int) := Int.ofNat_lt.2 (Nat.lt_of_lt_of_le hlt CE.out.1)
      have i3 : (i : Int) < (ec' : Int) := Int.ofNat_lt.2 (Nat.lt_of_lt_of_le hlt CE.out.2)
      obtain ⟨x, hx⟩ : ∃ x, E[i]? = some x := ⟨_, List.getElem?_eq_getElem (by rw [hEN.out]; exact hlt)⟩
      have RB := BBh.out.trans (hB.out.mono BBh.out.size)
      obtain ⟨ao, ca, e, -, -, hc⟩ := (H.out.below RB).e
      cases e
      obtain ⟨b1, o1, rfl, c1, c2⟩ := hc i x hx
      obtain ⟨ao, ca, e, -, -, hc'⟩ := (H'.out.below RB).e
      cases e
      obtain ⟨b2, o2, rfl, d1, d2⟩ := hc' i x hx
      have hq : ∀ u : World, (binOp .neq 48 (.agg #[.int .i64 x.1, .int .i64 x.2]) (.agg #[.int .i64 x.1, .int .i64 x.2])).run Tryd.prog u = .ok (.bool false) u := fun u => by rw [endNeq]; simp
      clear hx RB hc hc'
      go_upto_region 11 with fail
      go_quiet (fail)
      go_wp2_with fail
      go_roundw
      case rel => exact ⟨i + 1, by go_num, hlt, keepF hB.out (Qt.below ⟨_, rfl⟩ _)⟩
      case measure => exact measP hlt
    · have e : EN = i := Nat.le_antisymm (Nat.not_lt.1 hlt) hin
      subst e
      have i1 : ¬ (EN : Int) < (EN : Int) := Int.lt_irrefl _
      go_upto_region 14 with fail
      clear x1 y1
      go_loopw [7] (fun s7 wr => ∃ i : Nat, s7 = .int .i64 (i : Int) ∧ i ≤ LN ∧ Hid (Below w2.heap.size w2 wr)) (fun s7 wr => LN - (intOf s7).toNat)
      case atStart => exact ⟨0, rfl, Nat.zero_le _, hB.out⟩
      case round =>
      clear hB
      obtain ⟨i, rfl, hin, hB⟩ := hrel
      obtain ⟨⟨-, -, -, -, x1⟩, -, -, -, -, y1⟩ := KCh.out wr hB.out
      by_cases hlt : i < LN
      · have i1 : (i : Int) < (LN : Int) := Int.ofNat_lt.2 hlt
        have i2 : (i : Int) < (qc : Int) := Int.ofNat_lt.2 (Nat.lt_of_lt_of_le hlt CQ.out.1)
        have i3 : (i : Int) < (qc' : Int) := Int.ofNat_lt.2 (Nat.lt_of_lt_of_le hlt CQ.out.2)
        obtain ⟨l, hl⟩ : ∃ l, L[i]? = some l := ⟨_, List.getElem?_eq_getElem (by rw [hLN.out]; exact hlt)⟩
        obtain ⟨u, hu⟩ : ∃ u, vs[i]? = some u := ⟨_, List.getElem?_eq_getElem (by rw [QL.out, hLN.out]; exact hlt)⟩
        obtain ⟨u', hu'⟩ : ∃ u, vs'[i]? = some u := ⟨_, List.getElem?_eq_getElem (by rw [QL'.out, hLN.out]; exact hlt)⟩
        have RB := BBh.out.trans (hB.out.mono BBh.out.size)
        obtain ⟨b1, o1, rfl, c1⟩ := (row_at (Below.row RB QR.out) (QL.out.trans hLN.out)).2 i _ hu
        obtain ⟨b2, o2, rfl, d1⟩ := (row_at (Below.row RB QR'.out) (QL'.out.trans hLN.out)).2 i _ hu'
        have R1 := hide (QE.out i u l hu hl)
        have R2 := hide (QE'.out i u' l hu' hl)
        obtain ⟨ua, uc, rfl, -⟩ := id R1.out
        obtain ⟨ua', uc', rfl, -⟩ := id R2.out
        have RBh := hide RB
        obtain ⟨UN, hUN⟩ : ∃ UN, Hid ((l.map (Value.int .i64)).length = UN) := ⟨_, rfl⟩
        rw [hUN.out] at R1 R2 c1 d1
        have IN := hide (fun k => ints_any (wr.drewN k) (.slice ua UN uc) (.slice ua' UN uc') l (Below.row (RBh.out.trans (Qt.below ⟨_, rfl⟩ _)) R1.out) (Below.row (RBh.out.trans (Qt.below ⟨_, rfl⟩ _)) R2.out))
        clear hl hu hu' RB
        go_upto_region 16 with fail
        go_region_with (go_at_call 30; refine (IN.out 1).mono ?_; rintro e w4 ⟨rfl, b4⟩; have b4 := hide b4)
        all_goals (go_wp2_with fail; go_roundw; first | (case rel => exact ⟨i + 1, by go_num, hlt, keepF (keepF hB.out (Qt.below ⟨_, rfl⟩ _)) b4.out⟩) | skip)
        all_goals exact measP hlt
      · have e : LN = i := Nat.le_antisymm (Nat.not_lt.1 hlt) hin
        subst e
        have i1 : ¬ (LN : Int) < (LN : Int) := Int.lt_irrefl _
        go_wp2_with fail
        go_ret
        exact ⟨rfl, BBh.out.trans (hB.out.mono BBh.out.size)⟩
end Go.Proofs.YtiiinpmkidobgaaDoor.Sd

/-
  What the document's Run tells, under way.
-/
namespace Go.Proofs.YtiiinpmkidobgaaDoor.Sd
open Go.RowKit
set_option linter.unusedVariables false
set_option linter.unusedSimpArgs false
set_option maxRecDepth 100000
/-- Between the steps of Run: its box g. -/
structure Rl (w0 u : World) (us : List Value) (rb : Nat) (X : Nat → Value) (S : St) (g : Nat) (tv : Value) (n : Nat) (tr : List (Nat × Nat)) : Prop where
  gd : GD w0 u us rb X S
  rn : u.heap[g]? = some (.cells #[.int .i64 (n : Int), tv, .slice none 0 0, .slice none 0 0, .slice none 0 0] 33 (0, 0))
  tr : u.ownsRow w0.heap.size 39 2 tv tr.length (tcells tr)
  gn : w0.heap.size ≤ g ∧ ¬ OwnD rb X g
  tn : ∀ k, tv.ownBlock = some k → ¬ OwnD rb X k ∧ k ≠ g
section
variable {w0 w u u1 : World} {us : List Value} {rb : Nat} {X : Nat → Value} {S : St} {g : Nat} {tv : Value} {n : Nat} {tr : List (Nat × Nat)}
theorem Rl.below (h : Rl w0 u us rb X S g tv n tr) (hb : Below u.heap.size u u1) : Rl w0 u1 us rb X S g tv n tr := ⟨h.gd.below hb, (hb.block _ (heap_lt h.rn)).trans h.rn, row_below h.tr hb, h.gn, h.tn⟩
theorem Rl.push (h : Rl w0 u us rb X S g tv n tr) (x : Nat × Nat) (hl : tr.length ≤ 65536) :
    ∃ a7 n7 c7 w7, Hid ((Builtin.append_ #[28, 28] 28 #[tv, .slice (some ⟨u.heap.size, 0, none⟩) 1 1]).run Tryd.prog (u.alloc (.cells #[.int .i64 (x.1 : Int), .int .i64 (x.2 : Int)] 39)) = .ok (.slice a7 n7 c7) w7) ∧ Hid (Rl w0 (w7.setCell ⟨g, 1, none⟩ (.slice a7 n7 c7)) us rb X S g (.slice a7 n7 c7) n (tr ++ [x]) ∧ w7.cell? ⟨g, 1, none⟩ = some tv ∧ w7.frozen? ⟨g, 1, none⟩ = false ∧ ∀ k, k < u.heap.size → tv.ownBlock ≠ some k → w7.heap[k]? = u.heap[k]?) := by
  have bb := box_below u (.cells #[.int .i64 (x.1 : Int), .int .i64 (x.2 : Int)] 39)
  have N6 := heap_alloc_new u (.cells #[.int .i64 (x.1 : Int), .int .i64 (x.2 : Int)] 39)
  have o0 : (u.alloc (.cells #[.int .i64 (x.1 : Int), .int .i64 (x.2 : Int)] 39)).cell? ⟨u.heap.size, 0, none⟩ = some (.int .i64 (x.1 : Int)) := by rw [cell_of N6]; rfl
  have o1 : (u.alloc (.cells #[.int .i64 (x.1 : Int), .int .i64 (x.2 : Int)] 39)).cell? ⟨u.heap.size, 1, none⟩ = some (.int .i64 (x.2 : Int)) := by rw [cell_of N6]; rfl
  have h1 := h.below bb
  obtain ⟨v7, w7, r7, g2, g3, g4⟩ := run_appT x u.heap.size h1.tr o0 o1 (by omega) h1.gd.da.low.size 28
  obtain ⟨a7, c7, e7⟩ := slice_ofR g2
  obtain ⟨n7, hn7⟩ : ∃ n7, tr.length + 1 = n7 := ⟨_, rfl⟩
  have hb1 : But (fun k => tv.ownBlock = some k) _ w7 := But.of_grownBy g3 fun k e => e
  have hb2 : But (fun k => k = g) w7 (w7.setCell ⟨g, 1, none⟩ v7) := But.set _ _ _ _ rfl
  have hlt := fun k hk => World.ownsRow.lt h.tr k hk
  have r1 := hb1.at h1.rn fun e => (h.tn g e).2 rfl
  have gl := heap_lt h.rn
  have v7n : ∀ k, v7.ownBlock = some k → ¬ OwnD rb X k ∧ k ≠ g := by
    intro k hk
    rcases g4 k hk with e | e
    · exact h.tn k e
    · have := bb.size
      exact ⟨fun c => by have := h1.gd.da.lt k c; omega, by omega⟩
  have DA' : DA w0 us w7 rb X (dOf S (lastS S)) := h1.gd.da.but hb1 (fun k hk c => (h.tn k c).1 hk) (fun k c => (hlt k c).1)
  have DA'' : DA w0 us (w7.setCell ⟨g, 1, none⟩ v7) rb X (dOf S (lastS S)) := DA'.but hb2 (fun k hk c => h.gn.2 (by rw [← c]; exact hk)) (fun k c => by rw [c]; exact h.gn.1)
  have R : Rl w0 (w7.setCell ⟨g, 1, none⟩ v7) us rb X S g v7 n (tr ++ [x]) := by
    refine ⟨⟨DA'', h.gd.ok, h.gd.wt⟩, ?_, ?_, h.gn, v7n⟩
    · rw [heap_setCell_same _ _ _ _ _ _ r1]; rfl
    · rw [List.length_append]
      exact ownsRow_but g2 hb2 fun k hk => (v7n k hk).2
  rw [e7, hn7] at r7 R
  exact ⟨a7, n7, c7, w7, r7, R, (cell_of r1).trans rfl, frz_of r1, fun k hk hn => (g3.block k (Nat.lt_of_lt_of_le hk bb.size) fun e => hn e.symm).trans (bb.block k hk)⟩
theorem Rl.step (h : Rl w0 u us rb X S g tv n tr) {X' : Nat → Value} {S' : St} (hg : GD w0 u1 us rb X' S') (hs : StD rb X X' u u1) : Rl w0 u1 us rb X' S' g tv n tr := by
  have nw : ∀ k, k < u.heap.size → ¬ OwnD rb X k → ¬ OwnD rb X' k := fun k hk hn c => by
    rcases hs.2 k c with e | e
    · exact hn e
    · omega
  exact ⟨hg, hs.1.at h.rn h.gn.2, ownsRow_but h.tr hs.1 fun k hk => (h.tn k hk).1, ⟨h.gn.1, nw g (heap_lt h.rn) h.gn.2⟩, fun k hk => ⟨nw k (World.ownsRow.lt h.tr k hk).2 (h.tn k hk).1, (h.tn k hk).2⟩⟩
theorem Rl.inc (h : Rl w0 u us rb X S g tv n tr) (m : Nat) : Rl w0 (u.setCell ⟨g, 0, none⟩ (.int .i64 (m : Int))) us rb X S g tv m tr := by
  have hb2 : But (fun k => k = g) u (u.setCell ⟨g, 0, none⟩ (.int .i64 (m : Int))) := But.set _ _ _ _ rfl
  refine ⟨⟨h.gd.da.but hb2 (fun k hk c => h.gn.2 (by rw [← c]; exact hk)) (fun k c => by rw [c]; exact h.gn.1), h.gd.ok, h.gd.wt⟩, ?_, ownsRow_but h.tr hb2 fun k hk => (h.tn k hk).2, h.gn, h.tn⟩
  rw [heap_setCell_same _ _ _ _ _ _ h.rn]; rfl
end
/-- Behind its steps: the lists that are told. -/
structure Rz (w0 w : World) (us : List Value) (rb : Nat) (X : Nat → Value) (S : St) (g : Nat) (tv : Value) (u : World) (rv ev qv : Value) (vs : List Value) (G : List Int) (E : List (Int × Int)) (L : List (List Int)) : Prop where
  gd : GD w0 u us rb X S
  own : ∀ k, OwnD rb X k → k < w.heap.size ∧ k ≠ g
  g2 : w0.heap.size ≤ g ∧ g < w.heap.size
  lo0 : w0.heap.size ≤ w.heap.size
  sz : w.heap.size ≤ u.heap.size
  rn : u.heap[g]? = some (.cells #[.int .i64 (S.tr.length : Int), tv, rv, ev, qv] 33 (0, 0))
  tr : u.ownsRow w0.heap.size 39 2 tv S.tr.length (tcells S.tr)
  tvl : ∀ k, tv.ownBlock = some k → k < w.heap.size ∧ k ≠ g
  rg : Iw w.heap.size u rv G
  en : u.ownsRow w.heap.size 48 2 ev E.length (ecells E)
  qs : u.ownsRow w.heap.size 29 1 qv vs.length vs
  ql : vs.length = L.length ∧ ∀ (j : Nat) (v : Value) (l : List Int), vs[j]? = some v → L[j]? = some l → Iw w.heap.size u v l
  dis : ∀ i j k, tbl none none rv ev qv vs i = some k → tbl none none rv ev qv vs j = some k → i = j
  lo : ∀ i k, tbl none none rv ev qv vs i = some k → w.heap.size ≤ k
theorem tbl_rv {pA g : Option Nat} {rv ev qv : Value} {vs : List Value} (x : Value) : tbl pA g x ev qv vs = up (tbl pA g rv ev qv vs) 2 x.ownBlock := by
  funext n
  match n with
  | 0 => simp [up, tbl]
  | 1 => simp [up, tbl]
  | 2 => simp [up, tbl]
  | 3 => simp [up, tbl]
  | 4 => simp [up, tbl]
  | n + 5 => simp [up, tbl]
section
variable {w0 w u u1 : World} {us : List Value} {rb : Nat} {X : Nat → Value} {S : St} {g : Nat} {tv rv ev qv : Value} {vs : List Value} {G : List Int} {E : List (Int × Int)} {L : List (List Int)}
theorem Rl.rz (h : Rl w0 u us rb X S g tv S.tr.length S.tr) : Rz w0 u us rb X S g tv u (.slice none 0 0) (.slice none 0 0) (.slice none 0 0) [] [] [] [] := by
  have hz : ∀ i k, tbl none none (.slice none 0 0) (.slice none 0 0) (.slice none 0 0) [] i = some k → False := by
    intro i k hi
    match i with
    | 0 => cases hi
    | 1 => cases hi
    | 2 => cases hi
    | 3 => cases hi
    | 4 => cases hi
    | n + 5 => cases hi
  exact ⟨h.gd, fun k hk => ⟨h.gd.da.lt k hk, fun e => h.gn.2 (by rw [← e]; exact hk)⟩, ⟨h.gn.1, heap_lt h.rn⟩, h.gd.da.low.size, Nat.le_refl _, h.rn, h.tr, fun k hk => ⟨(World.ownsRow.lt h.tr k hk).2, (h.tn k hk).2⟩, World.ownsRow_nil _ _ _ _, World.ownsRow_nil _ _ _ _, World.ownsRow_nil _ _ _ _, ⟨rfl, fun j v l h1 => by simp at h1⟩, fun i j k hi => (hz i k hi).elim, fun i k hi => (hz i k hi).elim⟩
theorem Rz.lt (h : Rz w0 w us rb X S g tv u rv ev qv vs G E L) : ∀ i k, tbl none none rv ev qv vs i = some k → k < u.heap.size := by
  intro i k hk
  match i with
  | 0 => cases hk
  | 1 => cases hk
  | 2 => exact (World.ownsRow.lt h.rg k hk).2
  | 3 => exact (World.ownsRow.lt h.en k hk).2
  | 4 => exact (World.ownsRow.lt h.qs k hk).2
  | n + 5 =>
    have hk' : (vs[n]?).bind Value.ownBlock = some k := hk
    cases hv : vs[n]? with
    | none => rw [hv] at hk'; cases hk'
    | some v =>
      rw [hv] at hk'
      have hl : n < L.length := by rw [← h.ql.1]; exact (List.getElem?_eq_some_iff.1 hv).1
      exact (World.ownsRow.lt (h.ql.2 n v _ hv (List.getElem?_eq_getElem hl)) k hk').2
theorem Rz.below (h : Rz w0 w us rb X S g tv u rv ev qv vs G E L) (hb : Below u.heap.size u u1) : Rz w0 w us rb X S g tv u1 rv ev qv vs G E L :=
  ⟨h.gd.below hb, h.own, h.g2, h.lo0, Nat.le_trans h.sz hb.size, (hb.block _ (heap_lt h.rn)).trans h.rn, row_below h.tr hb, h.tvl, row_below h.rg hb, row_below h.en hb, row_below h.qs hb, ⟨h.ql.1, fun j v l h1 h2 => row_below (h.ql.2 j v l h1 h2) hb⟩, h.dis, h.lo⟩
theorem Rz.vsb (h : Rz w0 w us rb X S g tv u rv ev qv vs G E L) {n : Nat} {v : Value} (hv : vs[n]? = some v) {k : Nat} (hk : v.ownBlock = some k) : tbl none none rv ev qv vs (n + 5) = some k := by
  show (vs[n]?).bind Value.ownBlock = some k
  rw [hv]; exact hk
/-- What one of its lists' growing leaves of the state and the turns. -/
theorem Rz.keep (h : Rz w0 w us rb X S g tv u rv ev qv vs G E L) {o : Option Nat} (ho : ∀ k, o = some k → w.heap.size ≤ k) {j : Nat} {v : Value} (hg : But (fun k => o = some k) u u1) :
    GD w0 (u1.setCell ⟨g, j, none⟩ v) us rb X S ∧ (u1.setCell ⟨g, j, none⟩ v).ownsRow w0.heap.size 39 2 tv S.tr.length (tcells S.tr) ∧ But (fun k => o = some k ∨ k = g) u (u1.setCell ⟨g, j, none⟩ v) ∧ u1.heap[g]? = some (.cells #[.int .i64 (S.tr.length : Int), tv, rv, ev, qv] 33 (0, 0)) := by
  have hb : But (fun k => o = some k ∨ k = g) u (u1.setCell ⟨g, j, none⟩ v) := (hg.mono fun k _ e => .inl e).trans (But.set _ _ _ _ (.inr rfl))
  have hgl := h.g2
  have hl0 := h.lo0
  refine ⟨⟨h.gd.da.but hb (fun k hk c => ?_) (fun k c => ?_), h.gd.ok, h.gd.wt⟩, ownsRow_but h.tr hb fun k hk c => ?_, hb, hg.at h.rn fun e => by have := ho g e; omega⟩
  · have := h.own k hk
    rcases c with c | c
    · have := ho k c; omega
    · exact this.2 c
  · rcases c with c | c
    · have := ho k c; omega
    · omega
  · have := h.tvl k hk
    rcases c with c | c
    · have := ho k c; omega
    · exact this.2 c
theorem Rz.addG (h : Rz w0 w us rb X S g tv u (.slice none 0 0) ev qv vs G E L) {rv' : Value} {G' : List Int} (hb0 : Below u.heap.size u u1) (ho : Iw u.heap.size u1 rv' G') :
    Rz w0 w us rb X S g tv (u1.setCell ⟨g, 2, none⟩ rv') rv' ev qv vs G' E L ∧ u1.cell? ⟨g, 2, none⟩ = some (.slice none 0 0) ∧ u1.frozen? ⟨g, 2, none⟩ = false := by
  have hr := fun k hk => World.ownsRow.lt ho k hk
  obtain ⟨k1, k2, hb, r1⟩ := h.keep (o := none) (fun k e => by cases e) (j := 2) (v := rv') (But.of_below hb0 _)
  have hno : ∀ i k, tbl none none (.slice none 0 0) ev qv vs i = some k → ¬ (none = some k ∨ k = g) := by
    rintro i k hi (e | rfl)
    · cases e
    · have := h.lo i _ hi; have := h.g2; omega
  refine ⟨⟨k1, h.own, h.g2, h.lo0, Nat.le_trans h.sz hb.size, ?_, k2, h.tvl, ?_, ownsRow_but h.en hb fun k hk => hno 3 k hk, ownsRow_but h.qs hb fun k hk => hno 4 k hk, ⟨h.ql.1, fun j v l h1 h2 => ownsRow_but (h.ql.2 j v l h1 h2) hb fun k hk => hno (j + 5) k (h.vsb h1 hk)⟩, ?_, ?_⟩, (cell_of r1).trans rfl, frz_of r1⟩
  · rw [heap_setCell_same _ _ _ _ _ _ r1]; rfl
  · refine ownsRow_but (iw_low ho h.sz) (But.set (X := fun k => k = g) _ _ _ _ rfl) fun k hk c => ?_
    have := hr k hk
    have := h.g2
    have := h.sz
    omega
  · rw [tbl_rv (rv := .slice none 0 0)]
    exact dis_up h.dis h.lt fun k hk => .inr (hr k hk).1
  · intro i k hk
    rw [tbl_rv (rv := .slice none 0 0)] at hk
    by_cases e : i = 2
    · subst e
      rw [up_same] at hk
      exact Nat.le_trans h.sz (hr k hk).1
    · rw [up_other _ _ e] at hk
      exact h.lo i k hk
theorem Rz.addE (h : Rz w0 w us rb X S g tv u rv ev qv vs G E L) {x : Int × Int} {ev' : Value} (hg : u.grownBy u1 ev.ownBlock) (ho : u1.ownsRow w.heap.size 48 2 ev' (E.length + 1) (ecells (E ++ [x]))) (hn : ∀ k, ev'.ownBlock = some k → ev.ownBlock = some k ∨ u.heap.size ≤ k) :
    Rz w0 w us rb X S g tv (u1.setCell ⟨g, 3, none⟩ ev') rv ev' qv vs G (E ++ [x]) L ∧ u1.cell? ⟨g, 3, none⟩ = some ev ∧ u1.frozen? ⟨g, 3, none⟩ = false := by
  have hlo3 : ∀ k, ev.ownBlock = some k → w.heap.size ≤ k := fun k e => h.lo 3 k e
  obtain ⟨k1, k2, hb, r1⟩ := h.keep hlo3 (j := 3) (v := ev') (But.of_grownBy hg fun k e => e)
  have hno : ∀ i k, tbl none none rv ev qv vs i = some k → i ≠ 3 → ¬ (ev.ownBlock = some k ∨ k = g) := by
    rintro i k hi h3 (e | rfl)
    · exact h3 (h.dis i 3 k hi e)
    · have := h.lo i _ hi; have := h.g2; omega
  refine ⟨⟨k1, h.own, h.g2, h.lo0, Nat.le_trans h.sz hb.size, ?_, k2, h.tvl, ownsRow_but h.rg hb fun k hk => hno 2 k hk (by decide), ?_, ownsRow_but h.qs hb fun k hk => hno 4 k hk (by decide), ⟨h.ql.1, fun j v l h1 h2 => ownsRow_but (h.ql.2 j v l h1 h2) hb fun k hk => hno (j + 5) k (h.vsb h1 hk) (by omega)⟩, ?_, ?_⟩, (cell_of r1).trans rfl, frz_of r1⟩
  · rw [heap_setCell_same _ _ _ _ _ _ r1]; rfl
  · rw [List.length_append]
    refine ownsRow_but ho (But.set (X := fun k => k = g) _ _ _ _ rfl) fun k hk c => ?_
    have := h.g2
    have := (World.ownsRow.lt ho k hk).1
    omega
  · rw [tbl_ev (ev := ev)]
    exact dis_up h.dis h.lt fun k hk => hn k hk
  · intro i k hk
    rw [tbl_ev (ev := ev)] at hk
    by_cases e : i = 3
    · subst e
      rw [up_same] at hk
      exact (World.ownsRow.lt ho k hk).1
    · rw [up_other _ _ e] at hk
      exact h.lo i k hk
theorem Rz.addQ (h0 : Rz w0 w us rb X S g tv u rv ev qv vs G E L) {u' : World} (hb0 : Below u.heap.size u u') {v : Value} {l : List Int} (hI : Iw u.heap.size u' v l) {qv' : Value} (hg : u'.grownBy u1 qv.ownBlock) (ho : u1.ownsRow w.heap.size 29 1 qv' (vs.length + 1) (vs ++ [v])) (hn : ∀ k, qv'.ownBlock = some k → qv.ownBlock = some k ∨ u'.heap.size ≤ k) :
    Rz w0 w us rb X S g tv (u1.setCell ⟨g, 4, none⟩ qv') rv ev qv' (vs ++ [v]) G E (L ++ [l]) ∧ u1.cell? ⟨g, 4, none⟩ = some qv ∧ u1.frozen? ⟨g, 4, none⟩ = false := by
  have h := h0.below hb0
  have hlo4 : ∀ k, qv.ownBlock = some k → w.heap.size ≤ k := fun k e => h.lo 4 k e
  obtain ⟨k1, k2, hb, r1⟩ := h.keep hlo4 (j := 4) (v := qv') (But.of_grownBy hg fun k e => e)
  have hno : ∀ i k, tbl none none rv ev qv vs i = some k → i ≠ 4 → ¬ (qv.ownBlock = some k ∨ k = g) := by
    rintro i k hi h3 (e | rfl)
    · exact h3 (h.dis i 4 k hi e)
    · have := h.lo i _ hi; have := h.g2; omega
  have hvb : ∀ k, v.ownBlock = some k → u.heap.size ≤ k ∧ k < u'.heap.size := fun k hk => World.ownsRow.lt hI k hk
  have hvn : ∀ k, v.ownBlock = some k → ¬ (qv.ownBlock = some k ∨ k = g) := by
    rintro k hk (e | rfl)
    · have := h0.lt 4 k e; have := hvb k hk; omega
    · have := hvb _ hk; have := h0.g2; have := h0.sz; omega
  have hd1 : ∀ i j k, tbl none none rv ev qv (vs ++ [v]) i = some k → tbl none none rv ev qv (vs ++ [v]) j = some k → i = j := by
    rw [tbl_vs]
    exact dis_up h0.dis h0.lt fun k hk => .inr (hvb k hk).1
  have hl1 : ∀ i k, tbl none none rv ev qv (vs ++ [v]) i = some k → k < u'.heap.size := by
    intro i k hk
    rw [tbl_vs] at hk
    by_cases e : i = vs.length + 5
    · subst e; rw [up_same] at hk; exact (hvb k hk).2
    · rw [up_other _ _ e] at hk; exact h.lt i k hk
  refine ⟨⟨k1, h.own, h.g2, h.lo0, Nat.le_trans h.sz hb.size, ?_, k2, h.tvl, ownsRow_but h.rg hb fun k hk => hno 2 k hk (by decide), ownsRow_but h.en hb fun k hk => hno 3 k hk (by decide), ?_, ⟨by simp [h.ql.1], fun j x y h1 h2 => ?_⟩, ?_, ?_⟩, (cell_of r1).trans rfl, frz_of r1⟩
  · rw [heap_setCell_same _ _ _ _ _ _ r1]; rfl
  · rw [List.length_append]
    refine ownsRow_but ho (But.set (X := fun k => k = g) _ _ _ _ rfl) fun k hk c => ?_
    have := h.g2
    have := (World.ownsRow.lt ho k hk).1
    omega
  · by_cases hj : j < vs.length
    · rw [List.getElem?_append_left hj] at h1
      rw [List.getElem?_append_left (by rw [← h.ql.1]; exact hj)] at h2
      exact ownsRow_but (h.ql.2 j x y h1 h2) hb fun k hk => hno (j + 5) k (h.vsb h1 hk) (by omega)
    · have hj2 : j = vs.length := by have := (List.getElem?_eq_some_iff.1 h1).1; simp at this; omega
      subst hj2
      rw [List.getElem?_concat_length] at h1
      rw [h.ql.1, List.getElem?_concat_length] at h2
      cases h1; cases h2
      exact ownsRow_but (iw_low hI h0.sz) hb hvn
  · rw [tbl_qv (qv := qv)]
    exact dis_up hd1 hl1 fun k hk => hn k hk
  · intro i k hk
    rw [tbl_qv (qv := qv)] at hk
    by_cases e : i = 4
    · subst e
      rw [up_same] at hk
      exact (World.ownsRow.lt ho k hk).1
    · rw [up_other _ _ e] at hk
      rw [tbl_vs] at hk
      by_cases e : i = vs.length + 5
      · subst e; rw [up_same] at hk; exact Nat.le_trans h0.sz (hvb k hk).1
      · rw [up_other _ _ e] at hk; exact h.lo i k hk
/-- As it is read. -/
theorem Rz.rq (h : Rz w0 w us rb X S g tv u rv ev qv vs G E L) (pb : Nat) (hp : pb < w0.heap.size) (v0 v1 v2 v3 v4 : Value) : Rq (put5 u pb v0 v1 v2 v3 v4) tv rv ev qv (trI S.tr) G E L := by
  have hb := put5_but u pb v0 v1 v2 v3 v4
  have hl := h.lo0
  have no : ∀ i k, tbl none none rv ev qv vs i = some k → ¬ k = pb := fun i k hk e => by have := h.lo i k hk; omega
  have htr := ownsRow_but h.tr hb fun k hk e => by have := (World.ownsRow.lt h.tr k hk).1; omega
  have hen := ownsRow_but h.en hb fun k hk => no 3 k hk
  refine ⟨?_, iw_row (ownsRow_but h.rg hb fun k hk => no 2 k hk), ?_, ⟨vs, row_own (ownsRow_but h.qs hb fun k hk => no 4 k hk), h.ql.1, fun i u l e1 e2 => iw_row (ownsRow_but (h.ql.2 i u l e1 e2) hb fun k hk => no (i + 5) k (h.vsb e1 hk))⟩⟩
  · obtain ⟨ao, ca, e, h1, h2, h3⟩ := turns_form htr
    refine ⟨ao, ca, by rw [e]; simp [trI], by simpa [trI] using h1, h2, fun i x hi => ?_⟩
    unfold trI at hi
    rw [List.getElem?_map] at hi
    cases hx : S.tr[i]? with
    | none => rw [hx] at hi; cases hi
    | some y =>
      rw [hx] at hi
      cases hi
      obtain ⟨g, e, c1, c2⟩ := h3 i y hx
      exact ⟨g, 0, e, by simpa using c1, by simpa using c2⟩
  · obtain ⟨ao, ca, e, h1, h2, h3⟩ := ends_form hen
    refine ⟨ao, ca, e, h1, h2, fun i x hi => ?_⟩
    obtain ⟨g, e, c1, c2⟩ := h3 i x hi
    exact ⟨g, 0, e, by simpa using c1, by simpa using c2⟩
end
/-- How a task ended, as the document tells it. -/
theorem end_why {S : St} {la : Int} {t : Tk} {a : Ac} (h0 : (dk t).hw = 0) (ha : t.ac[t.pc]? = some a) (h3 : t.sl ≠ 0 → a.k = 3) : howS S t = if whyD (dOf S la) (dk t) a = 0 then 3 else whyD (dOf S la) (dk t) a := howS_why (dk_hw0.1 h0).1 ha h3
theorem end_hw {S : St} {t : Tk} (h0 : ¬ (dk t).hw = 0) : howS S t = (dk t).hw := by
  unfold dk at h0 ⊢
  simp only at h0 ⊢
  unfold howS
  by_cases hd : t.dd = true
  · simp [hd]
  · rw [if_neg hd] at h0 ⊢
    rw [if_neg hd]
    by_cases hl : t.ac.length ≤ t.pc
    · rw [if_pos hl, List.getElem?_eq_none_iff.2 hl]
    · rw [if_neg hl] at h0
      exact absurd rfl h0
/-- append([]T(nil), v...): a list of one's own. -/
theorem run_dupV {w : World} {v : Value} {n sz by_ : Nat} {xs : List Value} {T U : TypeId} {i0 : TypeInfo} {z : Value} {B : Nat} (h : w.ownsRow B T sz v n xs) (hU : Tryd.prog.underlying U = some (.slice T)) (hi : Tryd.prog.info? T = some i0) (hz0 : i0.zero = some z) (hz1 : i0.size = sz) (hz2 : i0.bytes = by_) (hzs : z.cells.size = sz) (hs : 0 < sz) (hx : xs.length = n * sz) (h1 : ∀ u ∈ xs, u.oneCell' = true) (hn : n ≤ 1000000) (hb : by_ ≤ 1000) (ty : TypeId) :
    ∃ v' w', (Builtin.append_ #[U, U] ty #[.slice none 0 0, v]).run Tryd.prog w = .ok v' w' ∧ w'.ownsRow w.heap.size T sz v' n xs ∧ Below w.heap.size w w' := by
  rcases id h.2 with ⟨e, e0⟩ | ⟨g, cap, cur, e, hB, hc, a1, a2, a3, a4⟩
  · subst e
    have : xs = [] := by cases xs with | nil => rfl | cons a b => simp [e0] at hx
    subst this
    subst e0
    exact ⟨.slice none 0 0, w, run_append_owned_none (P := Tryd.prog) (w := w) w.heap.size U ty T i0 sz hU hi (.slice none 0 0) 0 [] (World.ownsRow_nil _ _ _ _), World.ownsRow_nil _ _ _ _, Below.refl _ _⟩
  · subst e
    have hby : n * by_ ≤ 1000000 * 1000 := Nat.mul_le_mul hn hb
    obtain ⟨v', w', hr, ho, hg, _, _⟩ := run_append_own_at (P := Tryd.prog) w w.heap.size U ty T i0 z sz by_ hU hi hz0 hz1 hz2 hzs hs (.slice none 0 0) 0 [] (World.ownsRow_nil _ _ _ _) ⟨g, 0, none⟩ n cap xs hx (World.ownsRow.cells h (g := g) rfl) h1 (by unfold maxLen; omega) (by rw [Nat.zero_add]; omega) (Nat.le_refl _)
    refine ⟨v', w', hr, by simpa using ho, (Below.refl _ _).grown hg (Nat.le_refl _) (fun k hk => by simp [Value.ownBlock] at hk)⟩
end Go.Proofs.YtiiinpmkidobgaaDoor.Sd

/-
  Arguments that are tasks, opened.
-/
namespace Go.Proofs.YtiiinpmkidobgaaDoor.Sd
open Go.ChangeShapes Go.WideShapes Go.ChangeAt Go.RowKit Go.Deep
set_option linter.unusedVariables false
set_option maxRecDepth 100000
theorem cellsAct : Tryd.prog.cellsOf 45 = 4 := by kernel_rfl
theorem cellsI64 : Tryd.prog.cellsOf 2 = 1 := by kernel_rfl
theorem cellsInt : Tryd.prog.cellsOf 3 = 1 := by kernel_rfl
theorem open_act {H : Type} {enc : TypeId × Value → H} {w : World} {base : Nat} {spare : Nat → Bool} {held : Bool} {fuel : Nat} {cs : List Value} {y : DataW H × List MemPlace}
    (h : DataW.trod enc Tryd.prog w base spare held fuel 45 cs = some y) :
    ∃ o : Ac, cs = [.int .i64 o.k, .int .i64 o.a, .int .i64 o.b, .int .i64 o.n] := by
  obtain ⟨xs, n, _, rfl, hlen, hxl, hf⟩ := DataW.trod_struct Tryd.underlying45 h
  rw [cellsAct] at hlen
  obtain ⟨c0, c1, c2, c3, rfl⟩ : ∃ c0 c1 c2 c3, cs = [c0, c1, c2, c3] := by
    match cs, hlen with
    | [c0, c1, c2, c3], _ => exact ⟨c0, c1, c2, c3, rfl⟩
  match xs, hxl with
  | [y0, y1, y2, y3], _ =>
    have h0 := hf 0 _ rfl
    have h1 := hf 1 _ rfl
    have h2 := hf 2 _ rfl
    have h3 := hf 3 _ rfl
    simp [cellsI64, cellsInt] at h0 h1 h2 h3
    obtain ⟨a0, e0, _, w0⟩ := DataW.trod_int Tryd.underlying3 h0
    obtain ⟨a1, e1, _, w1⟩ := DataW.trod_int Tryd.underlying3 h1
    obtain ⟨a2, e2, _, w2⟩ := DataW.trod_int Tryd.underlying3 h2
    obtain ⟨a3, e3, _, w3⟩ := DataW.trod_int Tryd.underlying2 h3
    simp at e0 e1 e2 e3
    subst e0 e1 e2 e3
    exact ⟨⟨a0, a1, a2, a3⟩, rfl⟩
theorem open_acts {H : Type} {enc : TypeId × Value → H} {w : World} {base : Nat} {spare : Nat → Bool} {held : Bool} {fuel : Nat} {v : Value} {x : DataW H × List MemPlace}
    (h : DataW.trod enc Tryd.prog w base spare held fuel 46 [v] = some x) : ∃ l : List Ac, ActsAt w v l := by
  rcases open_slice Tryd.underlying46 h with ⟨hcs, hx⟩ | ⟨a, len, cap, m, n, D, Pl, hcs, hb, hl, hm, hmm, hx, hel⟩
  · simp at hcs
    subst hcs hx
    exact ⟨[], none, 0, rfl, by simp, fun i a hi => by simp at hi⟩
  · simp at hcs
    subst hcs hx
    have hlm : len ≤ m := by split at hmm <;> omega
    have each : ∀ i, ∃ o : Ac, i < m → ∃ b off, a = ⟨b, off, none⟩ ∧ AcAt w b (off + i * 4) o := by
      intro i
      by_cases hi : i < m
      · obtain ⟨cs', h1, h2⟩ := hel i hi
        obtain ⟨o, rfl⟩ := open_act h2
        rw [cellsAct] at h1
        obtain ⟨b, off, sp⟩ := a
        have hsp : sp = none := by
          obtain ⟨cs0, g1, g2⟩ := hel 0 (by omega)
          obtain ⟨_, rfl⟩ := open_act g2
          rw [cellsAct] at g1
          have g3 := (World.cells?_some g1).2.2 0 (by omega)
          simp [Addr.add] at g3
          exact World.cell?_spot g3
        subst hsp
        have hcell := (World.cells?_some h1).2.2
        rw [addr_add] at hcell
        have k0 := hcell 0 (by omega)
        have k1 := hcell 1 (by omega)
        have k2 := hcell 2 (by omega)
        have k3 := hcell 3 (by omega)
        rw [addr_add] at k0 k1 k2 k3
        exact ⟨o, fun _ => ⟨b, off, rfl, by simpa using k0, by simpa using k1, by simpa using k2, by simpa using k3⟩⟩
      · exact ⟨⟨0, 0, 0, 0⟩, fun h => absurd h hi⟩
    obtain ⟨O, hO⟩ : ∃ O : Nat → Ac, ∀ i, i < m → ∃ b off, a = ⟨b, off, none⟩ ∧ AcAt w b (off + i * 4) (O i) := ⟨fun i => Classical.choose (each i), fun i => Classical.choose_spec (each i)⟩
    refine ⟨(List.range len).map O, some a, cap, by simp, by simpa using hl, fun i o hi => ?_⟩
    have hil : i < len := by have := (List.getElem?_eq_some_iff.1 hi).1; simpa using this
    obtain ⟨b, off, rfl, q⟩ := hO i (by omega)
    rw [List.getElem?_map, List.getElem?_range hil] at hi
    cases hi
    exact ⟨b, off, rfl, q⟩
end Go.Proofs.YtiiinpmkidobgaaDoor.Sd

/-
  The tasks in memory of their own: twin. (gen_TfO.py)
-/
namespace Go.Proofs.YtiiinpmkidobgaaDoor.Sd
open Go.RowKit
open Ix (wp_region_T wpAnyT wpAnyT_take wpAnyT_one wpAnyT_done vac)
set_option linter.unusedVariables false
set_option linter.unusedSimpArgs false
set_option maxRecDepth 100000
def spare : Ac := ⟨-3, 0, 0, 0⟩
theorem acells_at {w : World} {b off : Nat} {l : List Ac} (h : ∀ (i : Nat) (a : Ac), l[i]? = some a → AcAt w b (off + i * 4) a) : ∀ j u, (acells l)[j]? = some u → w.cell? ⟨b, off + j, none⟩ = some u := by
  induction l generalizing off with
  | nil => intro j u hu; simp [acells] at hu
  | cons a r ih =>
    intro j u hu
    have e : acells (a :: r) = acell a ++ acells r := rfl
    rw [e] at hu
    obtain ⟨h0, h1, h2, h3⟩ := h 0 a rfl
    rw [Nat.zero_mul, Nat.add_zero] at h0 h1 h2 h3
    by_cases hj : j < 4
    · rw [List.getElem?_append_left (by simpa [acell] using hj)] at hu
      match j, hj with
      | 0, _ => cases hu; exact h0
      | 1, _ => cases hu; exact h1
      | 2, _ => cases hu; exact h2
      | 3, _ => cases hu; exact h3
    · rw [List.getElem?_append_right (by simp [acell]; omega)] at hu
      have := ih (off := off + 4) (fun i x hi => by
        have := h (i + 1) x (by simpa using hi)
        rw [show off + (i + 1) * 4 = off + 4 + i * 4 by omega] at this
        exact this) (j - 4) u (by simpa [acell] using hu)
      rw [show off + 4 + (j - 4) = off + j by omega] at this
      exact this
/-- append([]Act(nil), l...): any list of acts. -/
theorem dup_acts {w : World} {ua : Option Addr} {uc : Nat} {l : List Ac} (h : ActsAt w (.slice ua l.length uc) l) (hl : l.length ≤ 4398046510976) (ty : TypeId) :
    ∃ v' w', (Builtin.append_ #[46, 46] ty #[.slice none 0 0, .slice ua l.length uc]).run Tryd.prog w = .ok v' w' ∧ Ar w.heap.size w' v' l ∧ Below w.heap.size w w' := by
  obtain ⟨i0, hi, hz0, hz1, hz2⟩ := info_parts infoA
  obtain ⟨ao, cap, e, hc, hx⟩ := h
  simp only [Value.slice.injEq] at e
  obtain ⟨rfl, -, rfl⟩ := e
  cases ua with
  | none =>
    have : l = [] := by
      cases l with
      | nil => rfl
      | cons a r => obtain ⟨b, off, e, -⟩ := hx 0 a rfl; cases e
    subst this
    have hr : (Builtin.append_ #[46, 46] ty #[.slice none 0 0, .slice none 0 uc]).run Tryd.prog w = .ok (.slice none 0 0) w := run_append_owned_none (P := Tryd.prog) (w := w) w.heap.size 46 ty 45 i0 4 Tryd.underlying46 hi (.slice none 0 0) 0 [] (World.ownsRow_nil _ _ _ _)
    exact ⟨_, _, hr, World.ownsRow_nil _ _ _ _, Below.refl _ _⟩
  | some a =>
    have hcells : ∀ j u, (acells l)[j]? = some u → w.cell? (a.add j) = some u := by
      intro j u hu
      cases l with
      | nil => simp [acells] at hu
      | cons x r =>
        obtain ⟨b, off, e, -⟩ := hx 0 x rfl
        cases e
        rw [addr_add]
        refine acells_at (fun i y hi => ?_) j u hu
        obtain ⟨b', off', e', q⟩ := hx i y hi
        cases e'
        exact q
    obtain ⟨v', w', hr, ho, hg, _, hat⟩ := run_append_own_at (P := Tryd.prog) w w.heap.size 46 ty 45 i0 (.agg #[.int .i64 0, .int .i64 0, .int .i64 0, .int .i64 0]) 4 32 Tryd.underlying46 hi hz0 hz1 hz2 rfl (by decide) (.slice none 0 0) 0 [] (World.ownsRow_nil _ _ _ _) a l.length uc (acells l) (acells_len l) hcells (acells_one l) (by unfold maxLen; omega) (by omega) (Nat.le_refl _)
    refine ⟨v', w', hr, ?_, (Below.refl _ _).grown hg (Nat.le_refl _) (fun k hk => by simp [Value.ownBlock] at hk)⟩
    unfold Ar
    simpa using ho
theorem app_spare {w : World} {B : Nat} {v : Value} {l : List Ac} {g : Nat} (h : Ar B w v l) (hg : w.heap[g]? = some (.cells #[.int .i64 (-3), .int .i64 0, .int .i64 0, .int .i64 0] 45 (0, 0))) (hl : l.length ≤ 4398046510976) (hB : B ≤ w.heap.size) (ty : TypeId) :
    ∃ v' w', (Builtin.append_ #[46, 46] ty #[v, .slice (some ⟨g, 0, none⟩) 1 1]).run Tryd.prog w = .ok v' w' ∧ Ar B w' v' (l ++ [spare]) ∧ w.grownBy w' v.ownBlock := by
  obtain ⟨i0, hi, hz0, hz1, hz2⟩ := info_parts infoA
  have hcells : ∀ j u, (acells [spare])[j]? = some u → w.cell? ((⟨g, 0, none⟩ : Addr).add j) = some u := by
    intro j u hu
    rw [addr_add, cell_of hg, Nat.zero_add, ← Array.getElem?_toList]
    exact hu
  obtain ⟨v', w', hr, ho, hgr, _, hat⟩ := run_append_own_at (P := Tryd.prog) w B 46 ty 45 i0 (.agg #[.int .i64 0, .int .i64 0, .int .i64 0, .int .i64 0]) 4 32 Tryd.underlying46 hi hz0 hz1 hz2 rfl (by decide) v l.length (acells l) h ⟨g, 0, none⟩ 1 1 (acells [spare]) rfl hcells (acells_one _) (by unfold maxLen; omega) (by omega) hB
  refine ⟨v', w', hr, ?_, hgr⟩
  unfold Ar
  rw [acells_app, List.length_append]
  exact ho
/-- One task's list, copied, with a spare act behind: the copy first. -/
theorem dup_1 {u : World} {ua : Option Addr} {uc ul : Nat} {l : List Ac} (h : ActsAt u (.slice ua l.length uc) l) (hl : l.length ≤ 4398046510976) (hn : l.length = ul) :
    ∃ a7 n7 c7 w7 b9 c9 w9, Hid ((Builtin.append_ #[46, 46] 46 #[.slice none 0 0, .slice ua ul uc]).run Tryd.prog u = .ok (.slice a7 n7 c7) w7) ∧ Hid ((Builtin.append_ #[46, 46] 46 #[.slice a7 n7 c7, .slice (some ⟨w7.heap.size, 0, none⟩) 1 1]).run Tryd.prog (w7.alloc (.cells #[.int .i64 (-3), .int .i64 0, .int .i64 0, .int .i64 0] 45)) = .ok (.slice (some ⟨b9, 0, none⟩) (ul + 1) c9) w9) ∧ Hid (ul + 1 ≤ c9 ∧ Ar u.heap.size w9 (.slice (some ⟨b9, 0, none⟩) (ul + 1) c9) (l ++ [spare]) ∧ Below u.heap.size u w7 ∧ Below u.heap.size u w9) := by
  obtain ⟨v7, w7, r7, A7, B7⟩ := dup_acts h hl 46
  have bb := box_below w7 (.cells #[.int .i64 (-3), .int .i64 0, .int .i64 0, .int .i64 0] 45)
  have N8 := heap_alloc_new w7 (.cells #[.int .i64 (-3), .int .i64 0, .int .i64 0, .int .i64 0] 45)
  have A8 : Ar u.heap.size (w7.alloc (.cells #[.int .i64 (-3), .int .i64 0, .int .i64 0, .int .i64 0] 45)) v7 l := row_below A7 bb
  obtain ⟨v9, w9, r9, A9, G9⟩ := app_spare A8 N8 hl (Nat.le_trans B7.size bb.size) 46
  have lt7 := fun k hk => (World.ownsRow.lt A8 k hk).1
  have B8 := keepF B7 bb
  have B9 := B8.grown G9 B8.size lt7
  obtain ⟨a7, c7, e7⟩ := slice_ofR A7
  have e8 : (l ++ [spare]).length = ul + 1 := by simp [hn]
  obtain ⟨b9, c9, e9, hc9⟩ : ∃ b9 c9, v9 = .slice (some ⟨b9, 0, none⟩) (ul + 1) c9 ∧ ul + 1 ≤ c9 := by
    have A9' := A9
    unfold Ar at A9'
    rw [e8] at A9'
    rcases A9'.2 with ⟨_, e⟩ | ⟨g, cap, cur, e, _, _, k2, _⟩
    · omega
    · exact ⟨g, cap, e, k2⟩
  rw [hn] at r7
  subst e7
  subst e9
  exact ⟨a7, _, c7, w7, b9, c9, w9, r7, r9, hc9, A9, B7, B9⟩
theorem dup_2 {u : World} {ua : Option Addr} {uc ul : Nat} {l : List Ac} (h : ActsAt u (.slice ua l.length uc) l) (hl : l.length ≤ 4398046510976) (hn : l.length = ul) :
    ∃ a7 n7 c7 w7 b9 c9 w9, Hid ((Builtin.append_ #[46, 46] 46 #[.slice none 0 0, .slice ua ul uc]).run Tryd.prog (u.alloc (.cells #[.int .i64 (-3), .int .i64 0, .int .i64 0, .int .i64 0] 45)) = .ok (.slice a7 n7 c7) w7) ∧ Hid ((Builtin.append_ #[46, 46] 46 #[.slice a7 n7 c7, .slice (some ⟨u.heap.size, 0, none⟩) 1 1]).run Tryd.prog w7 = .ok (.slice (some ⟨b9, 0, none⟩) (ul + 1) c9) w9) ∧ Hid (ul + 1 ≤ c9 ∧ Ar u.heap.size w9 (.slice (some ⟨b9, 0, none⟩) (ul + 1) c9) (l ++ [spare]) ∧ Below u.heap.size u w7 ∧ Below u.heap.size u w9) := by
  have bb := box_below u (.cells #[.int .i64 (-3), .int .i64 0, .int .i64 0, .int .i64 0] 45)
  have N8 := heap_alloc_new u (.cells #[.int .i64 (-3), .int .i64 0, .int .i64 0, .int .i64 0] 45)
  obtain ⟨v7, w7, r7, A7, B7⟩ := dup_acts (h.below bb) hl 46
  have A7' : Ar u.heap.size w7 v7 l := row_low A7 bb.size
  have N9 := (B7.block _ (heap_lt N8)).trans N8
  have B8 := keepF bb B7
  obtain ⟨v9, w9, r9, A9, G9⟩ := app_spare A7' N9 hl B8.size 46
  have B9 := B8.grown G9 B8.size (fun k hk => (World.ownsRow.lt A7' k hk).1)
  obtain ⟨a7, c7, e7⟩ := slice_ofR A7
  have e8 : (l ++ [spare]).length = ul + 1 := by simp [hn]
  obtain ⟨b9, c9, e9, hc9⟩ : ∃ b9 c9, v9 = .slice (some ⟨b9, 0, none⟩) (ul + 1) c9 ∧ ul + 1 ≤ c9 := by
    have A9' := A9
    unfold Ar at A9'
    rw [e8] at A9'
    rcases A9'.2 with ⟨_, e⟩ | ⟨g, cap, cur, e, _, _, k2, _⟩
    · omega
    · exact ⟨g, cap, e, k2⟩
  rw [hn] at r7
  subst e7
  subst e9
  exact ⟨a7, _, c7, w7, b9, c9, w9, r7, r9, hc9, A9, B8, B9⟩
/-- The twin under way: the first i tasks, each with a spare act behind. -/
structure Tw (w : World) (ts : List (List Ac)) (i : Nat) (tv : Value) (us : List Value) (u : World) : Prop where
  row : u.ownsRow w.heap.size 46 1 tv i us
  len : us.length = i
  ls : ∀ (j : Nat) (x : Value) (l : List Ac), us[j]? = some x → ts[j]? = some l → ∃ b c, x = .slice (some ⟨b, 0, none⟩) l.length c ∧ l.length + 1 ≤ c ∧ w.heap.size ≤ b ∧ ∀ (m : Nat) (a : Ac), (l ++ [spare])[m]? = some a → AcAt u b (m * 4) a
  lw : Below w.heap.size w u
  hd : ∀ (j : Nat) (x : Value) (k : Nat), us[j]? = some x → x.ownBlock = some k → tv.ownBlock ≠ some k
theorem Tw.below {w u u' : World} {ts : List (List Ac)} {i : Nat} {tv : Value} {us : List Value} (h : Tw w ts i tv us u) (hb : Below u.heap.size u u') : Tw w ts i tv us u' := by
  refine ⟨row_below h.row hb, h.len, fun j x l h1 h2 => ?_, keepF h.lw hb, h.hd⟩
  obtain ⟨b, c, e, h3, h4, h5⟩ := h.ls j x l h1 h2
  exact ⟨b, c, e, h3, h4, fun m a hm => (h5 m a hm).below hb⟩
theorem ar_at {w : World} {B b n c : Nat} {l : List Ac} (h : Ar B w (.slice (some ⟨b, 0, none⟩) n c) l) : ∀ (m : Nat) (a : Ac), l[m]? = some a → AcAt w b (m * 4) a := by
  intro m a hm
  obtain ⟨ao, cap, e, hc, hx⟩ := acts_own h
  cases e
  obtain ⟨b', off, e, q⟩ := hx m a hm
  cases e
  simpa using q
theorem Tw.push {w u u9 : World} {ts : List (List Ac)} {i ul b9 c9 : Nat} {tv : Value} {us us0 : List Value} {l : List Ac} {x0 : Value} (h : Tw w ts i tv us u) (hb : Below u.heap.size u u9) (hu : us0[i]? = some x0) (hl : ts[i]? = some l) (hc : ul + 1 ≤ c9) (hA : Ar u.heap.size u9 (.slice (some ⟨b9, 0, none⟩) (ul + 1) c9) (l ++ [spare])) (hi : i ≤ 40) (hul : l.length = ul) :
    ∃ a11 n11 c11 w11, Hid ((Builtin.append_ #[22, 22] 22 #[tv, .slice (some ⟨u9.heap.size, 0, none⟩) 1 1]).run Tryd.prog (u9.alloc (.cells #[.slice (some ⟨b9, 0, none⟩) ul c9] 46)) = .ok (.slice a11 n11 c11) w11) ∧ Hid (Tw w ts (i + 1) (.slice a11 n11 c11) (us ++ [.slice (some ⟨b9, 0, none⟩) ul c9]) w11) := by
  have h9 := h.below hb
  have bb := box_below u9 (.cells #[.slice (some ⟨b9, 0, none⟩) ul c9] 46)
  have N6 : (u9.alloc (.cells #[.slice (some ⟨b9, 0, none⟩) ul c9] 46)).cell? ⟨u9.heap.size, 0, none⟩ = some (.slice (some ⟨b9, 0, none⟩) ul c9) := by rw [cell_of (heap_alloc_new u9 _)]; rfl
  have h10 := h9.below bb
  have row := h10.row
  have hlen := h.len
  rw [← hlen] at row
  obtain ⟨v11, w11, r11, o11, g11, n11⟩ := run_appAs (.slice (some ⟨b9, 0, none⟩) ul c9) rfl u9.heap.size row N6 (by omega) (Nat.le_trans (Nat.le_refl _) h10.lw.size) 22
  rw [hlen] at o11
  obtain ⟨a, c, e⟩ := slice_ofR o11
  obtain ⟨m, hm⟩ : ∃ m, i + 1 = m := ⟨_, rfl⟩
  have lt9 := World.ownsRow.lt hA b9 rfl
  have K : ∀ k, k < (u9.alloc (.cells #[.slice (some ⟨b9, 0, none⟩) ul c9] 46)).heap.size → tv.ownBlock ≠ some k → w11.heap[k]? = (u9.alloc (.cells #[.slice (some ⟨b9, 0, none⟩) ul c9] 46)).heap[k]? := fun k hk hn => g11.block k hk fun e => hn e.symm
  have tvl : ∀ k, tv.ownBlock = some k → k < u.heap.size := fun k hk => (World.ownsRow.lt h.row k hk).2
  have NB : But (fun k => tv.ownBlock = some k) (u9.alloc (.cells #[.slice (some ⟨b9, 0, none⟩) ul c9] 46)) w11 := But.of_grownBy g11 fun k e => e
  have acb : ∀ {b off : Nat} {x : Ac}, AcAt (u9.alloc (.cells #[.slice (some ⟨b9, 0, none⟩) ul c9] 46)) b off x → tv.ownBlock ≠ some b → AcAt w11 b off x := by
    intro b off x hx hn
    obtain ⟨q0, q1, q2, q3⟩ := hx
    have hk := K b (lt_of_cell q0) hn
    exact ⟨(World.cell?_of_block hk).trans q0, (World.cell?_of_block hk).trans q1, (World.cell?_of_block hk).trans q2, (World.cell?_of_block hk).trans q3⟩
  have T : Tw w ts (i + 1) v11 (us ++ [.slice (some ⟨b9, 0, none⟩) ul c9]) w11 := by
    refine ⟨o11, by simp [hlen], fun j x l' h1 h2 => ?_, ?_, fun j x k h1 hk => ?_⟩
    · by_cases hj : j < us.length
      · rw [List.getElem?_append_left hj] at h1
        obtain ⟨b, c, e, h3, h4, h5⟩ := h10.ls j x l' h1 h2
        exact ⟨b, c, e, h3, h4, fun m a hm => acb (h5 m a hm) (h.hd j x b h1 (by rw [e]; rfl))⟩
      · have hj2 : j = us.length := by have := (List.getElem?_eq_some_iff.1 h1).1; simp at this; omega
        subst hj2
        rw [List.getElem?_concat_length] at h1
        cases h1
        rw [hlen, hl] at h2
        cases h2
        refine ⟨b9, c9, by rw [hul], by omega, Nat.le_trans h.lw.size lt9.1, fun m a hm => acb ((ar_at hA m a hm).below bb) fun e => ?_⟩
        have := tvl _ e
        omega
    · exact (keepF h9.lw bb).grown g11 (Nat.le_trans h9.lw.size bb.size) fun k hk => (World.ownsRow.lt h.row k hk).1
    · intro e'
      by_cases hj : j < us.length
      · rw [List.getElem?_append_left hj] at h1
        rcases n11 k e' with c | c
        · exact h.hd j x k h1 hk c
        · by_cases hjt : j < ts.length
          · obtain ⟨b, cc, e, h3, h4, h5⟩ := h10.ls j x _ h1 (List.getElem?_eq_getElem hjt)
            rw [e] at hk
            cases hk
            have hp0 : 0 < (ts[j] ++ [spare]).length := by rw [List.length_append]; exact Nat.succ_pos _
            obtain ⟨a0, ha0⟩ : ∃ a0, (ts[j] ++ [spare])[0]? = some a0 := ⟨_, List.getElem?_eq_getElem hp0⟩
            have := lt_of_cell (h5 0 a0 ha0).1
            have c' : (u9.alloc (.cells #[.slice (some ⟨b9, 0, none⟩) ul c9] 46)).heap.size ≤ b := c
            have t' : b < (u9.alloc (.cells #[.slice (some ⟨b9, 0, none⟩) ul c9] 46)).heap.size := this
            omega
          · have := (List.getElem?_eq_some_iff.1 hl).1
            omega
      · have hj2 : j = us.length := by have := (List.getElem?_eq_some_iff.1 h1).1; simp at this; omega
        subst hj2
        rw [List.getElem?_concat_length] at h1
        cases h1
        obtain rfl : b9 = k := by simpa [Value.ownBlock] using hk
        rcases n11 _ e' with c | c
        · have := tvl _ c; omega
        · have := bb.size; omega
  rw [e, hm] at r11 T
  rw [hm]
  exact ⟨a, m, c, w11, r11, T⟩
set_option maxHeartbeats 4000000 in
theorem twin_any (w : World) (v : Value) (us : List Value) (ts : List (List Ac)) (h : TksAt w v us ts) (hn : ts.length ≤ 40) (hr : ∀ l ∈ ts, l.length ≤ 4398046510976) :
    Calls Tryd.prog 5 #[v] w fun e w' => ∃ tv us', e = .returned tv ∧ Tw w ts ts.length tv us' w' := by
  obtain ⟨hrw, hul', hact⟩ := h
  have HR := hide hrw
  obtain ⟨ao, cap, e, -, -, -, -⟩ := hrw
  subst e
  obtain ⟨n, hnn⟩ : ∃ n, Hid (us.length = n) := ⟨_, rfl⟩
  rw [hnn.out] at HR ⊢
  have hn' : n ≤ 40 := by rw [← hnn.out]; omega
  have etn : Hid (ts.length = n) := hul'.symm.trans hnn.out
  rw [etn.out]
  have HTN : Hid (∀ i, i < n → ∃ l, ts[i]? = some l) := fun i hi => ⟨_, List.getElem?_eq_getElem (by rw [etn.out]; exact hi)⟩
  have HACT := hide hact
  have HRE := hide hr
  clear hact hul' hn hr
  go_enter Tryd.func5, Tryd.ntmps5
  go_wp2_with fail
  go_loopw [4, 3] (fun s tv wr => ∃ (i : Nat) (us' : List Value), s = .int .i64 (i : Int) ∧ i ≤ n ∧ Hid (Tw w ts i tv us' wr)) (fun s tv wr => n - (intOf s).toNat)
  case atStart => exact ⟨0, [], rfl, Nat.zero_le _, World.ownsRow_nil _ _ _ _, rfl, (fun j x l h => by simp at h), Below.refl _ _, (fun j x k h => by simp at h)⟩
  case round =>
    obtain ⟨i, us', rfl, hin, hst⟩ := hrel
    by_cases hlt : i < n
    · have i1 : (i : Int) < (n : Int) := by omega
      obtain ⟨u, hu⟩ : ∃ u, us[i]? = some u := ⟨_, List.getElem?_eq_getElem (by rw [hnn.out]; exact hlt)⟩
      obtain ⟨l, hl⟩ := HTN.out i hlt
      have hact := HACT.out i u l hu hl
      obtain ⟨ua, uc, e⟩ := slices_of hact
      subst e
      have AC := hide hact
      obtain ⟨hcp, hrow0⟩ := row_at HR.out hnn.out
      obtain ⟨b0, o0, rfl, c00⟩ := hrow0 i _ hu
      have c00 := hide c00
      have c0 := (hst.out.lw.cell (lt_of_cell c00.out)).trans c00.out
      have hcp' : (n : Int) ≤ (cap : Int) := by omega
      have hlr := hide (HRE.out l (List.mem_of_getElem? hl))
      obtain ⟨ul, hul2⟩ : ∃ ul, Hid (l.length = ul) := ⟨_, rfl⟩
      rw [hul2.out] at c0 c00
      obtain ⟨ta, tc, e⟩ := slice_ofR hst.out.row
      subst e
      have hi40 : Hid (i ≤ 40) := by show _ ≤ _; omega
      replace hu := hide hu
      replace hl := hide hl
      clear hrow0 hact hcp
      go_upto_region 5 with fail
      refine wp_region_T (fun q => q.cell? ⟨b0, o0 + i, none⟩ = some (.slice ua ul uc)) 17 (by kernel_rfl) ?_
      have KP : Hid (wr.drew.cell? ⟨b0, o0 + i, none⟩ = some (.slice ua ul uc)) := c0
      have TV := hide (hst.out.below (Below.refl _ _).drew)
      clear hst c0
      generalize wr.drew = u1 at *
      refine wpAnyT_take (i := 0) (oi := { dst := some 11, op := Op.move (Operand.tmp 3), type := 22, pos := "law.go:55", after := #[], guard := none }) (v := .slice ta i tc) [16, 17] rfl (by kernel_rfl) (by kernel_rfl) (by kernel_rfl) (by kernel_rfl) (fun _ _ _ h => h) (Or.inl ⟨by rfl, ?_⟩) KP.out ?_
      · intro wq hSw
        have y0 := hSw
        go_simp
      (try simp only [Act.put, List.setIfInBounds_toArray, List.set_cons_zero, List.set_cons_succ])
      refine wpAnyT_take (i := 1) (oi := { dst := some 12, op := Op.move (Operand.tmp 0), type := 22, pos := "law.go:55", after := #[], guard := none }) (v := .slice (some ⟨b0, o0, none⟩) n cap) [3, 4, 5, 8, 14, 15, 16, 17] rfl (by kernel_rfl) (by kernel_rfl) (by kernel_rfl) (by kernel_rfl) (fun _ _ _ h => h) (Or.inl ⟨by rfl, ?_⟩) KP.out ?_
      · intro wq hSw
        have y0 := hSw
        go_simp
      (try simp only [Act.put, List.setIfInBounds_toArray, List.set_cons_zero, List.set_cons_succ])
      refine wpAnyT_take (i := 2) (oi := { dst := some 13, op := Op.move (Operand.tmp 4), type := 3, pos := "law.go:55", after := #[], guard := none }) (v := .int .i64 (i : Int)) [3, 4, 5, 8, 14, 15, 16, 17] rfl (by kernel_rfl) (by kernel_rfl) (by kernel_rfl) (by kernel_rfl) (fun _ _ _ h => h) (Or.inl ⟨by rfl, ?_⟩) KP.out ?_
      · intro wq hSw
        have y0 := hSw
        go_simp
      (try simp only [Act.put, List.setIfInBounds_toArray, List.set_cons_zero, List.set_cons_succ])
      refine wpAnyT_take (i := 3) (oi := { dst := some 14, op := Op.indexAddr 22 (Operand.tmp 12) (Operand.tmp 13), type := 0, pos := "law.go:55", after := #[{ on := 1, ground := Ground.data }, { on := 2, ground := Ground.data }], guard := none }) (v := .pointer (some ⟨b0, o0 + i, none⟩)) [4, 5, 8, 14, 15, 16, 17] rfl (by kernel_rfl) (by kernel_rfl) (by kernel_rfl) (by kernel_rfl) (fun _ _ _ h => h) (Or.inl ⟨by rfl, ?_⟩) KP.out ?_
      · intro wq hSw
        have y0 := hSw
        go_simp
      (try simp only [Act.put, List.setIfInBounds_toArray, List.set_cons_zero, List.set_cons_succ])
      refine wpAnyT_take (i := 4) (oi := { dst := some 15, op := Op.load 46 (Operand.tmp 14), type := 46, pos := "law.go:55", after := #[{ on := 3, ground := Ground.data }], guard := none }) (v := .slice ua ul uc) [5, 8, 14, 15, 16, 17] rfl (by kernel_rfl) (by kernel_rfl) (by kernel_rfl) (by kernel_rfl) (fun _ _ _ h => h) (Or.inl ⟨by rfl, ?_⟩) KP.out ?_
      · intro wq hSw
        have y0 := hSw
        go_simp
      (try simp only [Act.put, List.setIfInBounds_toArray, List.set_cons_zero, List.set_cons_succ])
      refine wpAnyT_take (i := 6) (oi := { dst := some 17, op := Op.build 45 #[(0, Operand.const (Value.int IntKind.i64 (-3)))], type := 45, pos := "law.go:55", after := #[], guard := none }) (v := .agg #[.int .i64 (-3), .int .i64 0, .int .i64 0, .int .i64 0]) [7, 8, 14, 15, 16, 17] rfl (by kernel_rfl) (by kernel_rfl) (by kernel_rfl) (by kernel_rfl) (fun _ _ _ h => h) (Or.inl ⟨by rfl, ?_⟩) KP.out ?_
      · intro wq hSw
        have y0 := hSw
        go_simp
      (try simp only [Act.put, List.setIfInBounds_toArray, List.set_cons_zero, List.set_cons_succ])
      refine wpAnyT_take (i := 9) (oi := { dst := some 20, op := Op.move (Operand.tmp 0), type := 22, pos := "law.go:55", after := #[], guard := none }) (v := .slice (some ⟨b0, o0, none⟩) n cap) [11, 12, 13, 14, 15, 16, 17] rfl (by kernel_rfl) (by kernel_rfl) (by kernel_rfl) (by kernel_rfl) (fun _ _ _ h => h) (Or.inl ⟨by rfl, ?_⟩) KP.out ?_
      · intro wq hSw
        have y0 := hSw
        go_simp
      (try simp only [Act.put, List.setIfInBounds_toArray, List.set_cons_zero, List.set_cons_succ])
      refine wpAnyT_take (i := 10) (oi := { dst := some 21, op := Op.move (Operand.tmp 4), type := 3, pos := "law.go:55", after := #[], guard := none }) (v := .int .i64 (i : Int)) [11, 12, 13, 14, 15, 16, 17] rfl (by kernel_rfl) (by kernel_rfl) (by kernel_rfl) (by kernel_rfl) (fun _ _ _ h => h) (Or.inl ⟨by rfl, ?_⟩) KP.out ?_
      · intro wq hSw
        have y0 := hSw
        go_simp
      (try simp only [Act.put, List.setIfInBounds_toArray, List.set_cons_zero, List.set_cons_succ])
      refine wpAnyT_take (i := 11) (oi := { dst := some 22, op := Op.indexAddr 22 (Operand.tmp 20) (Operand.tmp 21), type := 0, pos := "law.go:55", after := #[{ on := 9, ground := Ground.data }, { on := 10, ground := Ground.data }], guard := none }) (v := .pointer (some ⟨b0, o0 + i, none⟩)) [12, 13, 14, 15, 16, 17] rfl (by kernel_rfl) (by kernel_rfl) (by kernel_rfl) (by kernel_rfl) (fun _ _ _ h => h) (Or.inl ⟨by rfl, ?_⟩) KP.out ?_
      · intro wq hSw
        have y0 := hSw
        go_simp
      (try simp only [Act.put, List.setIfInBounds_toArray, List.set_cons_zero, List.set_cons_succ])
      refine wpAnyT_take (i := 12) (oi := { dst := some 23, op := Op.load 46 (Operand.tmp 22), type := 46, pos := "law.go:55", after := #[{ on := 11, ground := Ground.data }], guard := none }) (v := .slice ua ul uc) [13, 14, 15, 16, 17] rfl (by kernel_rfl) (by kernel_rfl) (by kernel_rfl) (by kernel_rfl) (fun _ _ _ h => h) (Or.inl ⟨by rfl, ?_⟩) KP.out ?_
      · intro wq hSw
        have y0 := hSw
        go_simp
      (try simp only [Act.put, List.setIfInBounds_toArray, List.set_cons_zero, List.set_cons_succ])
      refine wpAnyT_take (i := 13) (oi := { dst := some 24, op := Op.call { callee := Callee.builtin Builtin.len, args := #[Operand.tmp 23], argTypes := #[46] }, type := 3, pos := "law.go:55", after := #[{ on := 12, ground := Ground.data }], guard := none }) (v := .int .i64 (ul : Int)) [14, 15, 16, 17] rfl (by kernel_rfl) (by kernel_rfl) (by kernel_rfl) (by kernel_rfl) (fun _ _ _ h => h) (Or.inl ⟨by rfl, ?_⟩) KP.out ?_
      · intro wq hSw
        have y0 := hSw
        go_simp
      (try simp only [Act.put, List.setIfInBounds_toArray, List.set_cons_zero, List.set_cons_succ])
      refine wpAnyT_two (i := 5) (j := 7) (oi := { dst := some 16, op := Op.call { callee := Callee.builtin Builtin.append, args := #[Operand.const (Value.slice none 0 0), Operand.tmp 15], argTypes := #[46, 46] }, type := 46, pos := "law.go:55", after := #[{ on := 4, ground := Ground.data }], guard := none }) (oj := { dst := some 18, op := Op.buildSlice 46 1 #[(0, Operand.tmp 17)], type := 46, pos := "law.go:55", after := #[{ on := 6, ground := Ground.data }], guard := none }) (by kernel_rfl) rfl rfl (fun K hK => ?_) (fun K hK => ?_)
      · obtain ⟨a7, n7, c7, w7, b9, c9, w9, r7, r9, F9⟩ := dup_1 (AC.out.below TV.out.lw) hlr.out hul2.out
        have K7 : Hid (w7.cell? ⟨b0, o0 + i, none⟩ = some (.slice ua ul uc)) := (F9.out.2.2.1.cell (lt_of_cell KP.out)).trans KP.out
        have K8 : Hid ((w7.alloc (.cells #[.int .i64 (-3), .int .i64 0, .int .i64 0, .int .i64 0] 45)).cell? ⟨b0, o0 + i, none⟩ = some (.slice ua ul uc)) := alloc_cell _ K7.out
        have K9 : Hid (w9.cell? ⟨b0, o0 + i, none⟩ = some (.slice ua ul uc)) := (F9.out.2.2.2.cell (lt_of_cell KP.out)).trans KP.out
        rw [if_pos (by simp [Region.wanted])]
        refine Lib.wp_append_run _ (.const (.slice none 0 0)) (.tmp 15) 46 46 rfl (.slice none 0 0) (.slice ua ul uc) (by simp [Act.eval]) (by simp [Act.eval]) _ w7 r7.out ?_
        refine hK.out _ _ (fun _ => K7.out) ?_
        clear hK K
        (try simp only [Act.put, List.setIfInBounds_toArray, List.set_cons_zero, List.set_cons_succ])
        refine wpAnyT_one (i := 7) (o := { dst := some 18, op := Op.buildSlice 46 1 #[(0, Operand.tmp 17)], type := 46, pos := "law.go:55", after := #[{ on := 6, ground := Ground.data }], guard := none }) (by kernel_rfl) rfl (fun K hK => ?_)
        go_simp
        refine hK.out _ _ (fun _ => K8.out) ?_
        clear hK K
        (try simp only [Act.put, List.setIfInBounds_toArray, List.set_cons_zero, List.set_cons_succ])
        refine wpAnyT_one (i := 8) (o := { dst := some 19, op := Op.call { callee := Callee.builtin Builtin.append, args := #[Operand.tmp 16, Operand.tmp 18], argTypes := #[46, 46] }, type := 46, pos := "law.go:55", after := #[{ on := 5, ground := Ground.data }, { on := 7, ground := Ground.data }, { on := 5, ground := Ground.chain }], guard := none }) (by kernel_rfl) rfl (fun K hK => ?_)
        rw [if_pos (by simp [Region.wanted])]
        refine Lib.wp_append_run _ (.tmp 16) (.tmp 18) 46 46 rfl (.slice a7 n7 c7) (.slice (some ⟨w7.heap.size, 0, none⟩) 1 1) (by simp [Act.eval]) (by simp [Act.eval]) _ w9 r9.out ?_
        refine hK.out _ _ (fun _ => K9.out) ?_
        clear hK K
        (try simp only [Act.put, List.setIfInBounds_toArray, List.set_cons_zero, List.set_cons_succ])
        have KEEP : ∀ q, Below w.heap.size w q → q.cell? ⟨b0, o0 + i, none⟩ = some (.slice ua ul uc) := fun q hq => (hq.cell (lt_of_cell c00.out)).trans c00.out
        have hc9 : (ul : Int) ≤ (c9 : Int) := by have := F9.out.1; omega
        refine wpAnyT_take (i := 14) (oi := { dst := some 25, op := Op.slice 46 (Operand.tmp 19) none (some (Operand.tmp 24)) none, type := 46, pos := "law.go:55", after := #[{ on := 8, ground := Ground.data }, { on := 13, ground := Ground.data }], guard := none }) (v := .slice (some ⟨b9, 0, none⟩) ul c9) [15, 16, 17] rfl (by kernel_rfl) (by kernel_rfl) (by kernel_rfl) (by kernel_rfl) (fun _ _ _ h => h) (Or.inl ⟨by rfl, ?_⟩) K9.out ?_
        · intro wq hSw
          have y0 := hSw
          go_simp
        (try simp only [Act.put, List.setIfInBounds_toArray, List.set_cons_zero, List.set_cons_succ])
        refine wpAnyT_one (i := 15) (o := { dst := some 26, op := Op.buildSlice 22 1 #[(0, Operand.tmp 25)], type := 22, pos := "law.go:55", after := #[{ on := 14, ground := Ground.data }], guard := none }) (by kernel_rfl) rfl (fun K hK => ?_)
        go_simp
        refine hK.out _ _ (fun _ => alloc_cell _ K9.out) ?_
        clear hK K
        (try simp only [Act.put, List.setIfInBounds_toArray, List.set_cons_zero, List.set_cons_succ])
        obtain ⟨a11, n11, c11, w11, r11, F11⟩ := TV.out.push F9.out.2.2.2 hu.out hl.out F9.out.1 F9.out.2.1 hi40.out hul2.out
        refine wpAnyT_one (i := 16) (o := { dst := some 27, op := Op.call { callee := Callee.builtin Builtin.append, args := #[Operand.tmp 11, Operand.tmp 26], argTypes := #[22, 22] }, type := 22, pos := "law.go:55", after := #[{ on := 0, ground := Ground.data }, { on := 15, ground := Ground.data }, { on := 8, ground := Ground.chain }], guard := none }) (by kernel_rfl) rfl (fun K hK => ?_)
        rw [if_pos (by simp [Region.wanted])]
        refine Lib.wp_append_run _ (.tmp 11) (.tmp 26) 22 22 rfl (.slice ta i tc) (.slice (some ⟨w9.heap.size, 0, none⟩) 1 1) (by simp [Act.eval]) (by simp [Act.eval]) _ w11 r11.out ?_
        refine hK.out _ _ (fun _ => KEEP w11 F11.out.lw) ?_
        clear hK K
        (try simp only [Act.put, List.setIfInBounds_toArray, List.set_cons_zero, List.set_cons_succ])
        refine wpAnyT_one (i := 17) (o := { dst := some 3, op := Op.assign (Operand.tmp 27), type := 22, pos := "law.go:55", after := #[{ on := 16, ground := Ground.data }, { on := 16, ground := Ground.chain }, { on := 0, ground := Ground.phase }, { on := 1, ground := Ground.phase }, { on := 2, ground := Ground.phase }, { on := 3, ground := Ground.phase }, { on := 4, ground := Ground.phase }, { on := 5, ground := Ground.phase }, { on := 6, ground := Ground.phase }, { on := 7, ground := Ground.phase }, { on := 8, ground := Ground.phase }, { on := 9, ground := Ground.phase }, { on := 10, ground := Ground.phase }, { on := 11, ground := Ground.phase }, { on := 12, ground := Ground.phase }, { on := 13, ground := Ground.phase }, { on := 14, ground := Ground.phase }, { on := 15, ground := Ground.phase }, { on := 16, ground := Ground.phase }], guard := none }) (by kernel_rfl) rfl (fun K hK => ?_)
        go_simp
        refine hK.out _ _ (vac (by kernel_rfl)) ?_
        clear hK K
        (try simp only [Act.put, List.setIfInBounds_toArray, List.set_cons_zero, List.set_cons_succ])
        refine wpAnyT_done (by kernel_rfl) ?_ _
        go_wp2_with fail
        go_roundw
        case rel => exact ⟨i + 1, _, by go_num, hlt, F11.out⟩
        case measure => simp only [intOf]; omega
      · obtain ⟨a7, n7, c7, w7, b9, c9, w9, r7, r9, F9⟩ := dup_2 (AC.out.below TV.out.lw) hlr.out hul2.out
        have K8 : Hid ((u1.alloc (.cells #[.int .i64 (-3), .int .i64 0, .int .i64 0, .int .i64 0] 45)).cell? ⟨b0, o0 + i, none⟩ = some (.slice ua ul uc)) := alloc_cell _ KP.out
        have K7 : Hid (w7.cell? ⟨b0, o0 + i, none⟩ = some (.slice ua ul uc)) := (F9.out.2.2.1.cell (lt_of_cell KP.out)).trans KP.out
        have K9 : Hid (w9.cell? ⟨b0, o0 + i, none⟩ = some (.slice ua ul uc)) := (F9.out.2.2.2.cell (lt_of_cell KP.out)).trans KP.out
        go_simp
        refine hK.out _ _ (fun _ => K8.out) ?_
        clear hK K
        (try simp only [Act.put, List.setIfInBounds_toArray, List.set_cons_zero, List.set_cons_succ])
        refine wpAnyT_one (i := 5) (o := { dst := some 16, op := Op.call { callee := Callee.builtin Builtin.append, args := #[Operand.const (Value.slice none 0 0), Operand.tmp 15], argTypes := #[46, 46] }, type := 46, pos := "law.go:55", after := #[{ on := 4, ground := Ground.data }], guard := none }) (by kernel_rfl) rfl (fun K hK => ?_)
        rw [if_pos (by simp [Region.wanted])]
        refine Lib.wp_append_run _ (.const (.slice none 0 0)) (.tmp 15) 46 46 rfl (.slice none 0 0) (.slice ua ul uc) (by simp [Act.eval]) (by simp [Act.eval]) _ w7 r7.out ?_
        refine hK.out _ _ (fun _ => K7.out) ?_
        clear hK K
        (try simp only [Act.put, List.setIfInBounds_toArray, List.set_cons_zero, List.set_cons_succ])
        refine wpAnyT_one (i := 8) (o := { dst := some 19, op := Op.call { callee := Callee.builtin Builtin.append, args := #[Operand.tmp 16, Operand.tmp 18], argTypes := #[46, 46] }, type := 46, pos := "law.go:55", after := #[{ on := 5, ground := Ground.data }, { on := 7, ground := Ground.data }, { on := 5, ground := Ground.chain }], guard := none }) (by kernel_rfl) rfl (fun K hK => ?_)
        rw [if_pos (by simp [Region.wanted])]
        refine Lib.wp_append_run _ (.tmp 16) (.tmp 18) 46 46 rfl (.slice a7 n7 c7) (.slice (some ⟨u1.heap.size, 0, none⟩) 1 1) (by simp [Act.eval]) (by simp [Act.eval]) _ w9 r9.out ?_
        refine hK.out _ _ (fun _ => K9.out) ?_
        clear hK K
        (try simp only [Act.put, List.setIfInBounds_toArray, List.set_cons_zero, List.set_cons_succ])
        have KEEP : ∀ q, Below w.heap.size w q → q.cell? ⟨b0, o0 + i, none⟩ = some (.slice ua ul uc) := fun q hq => (hq.cell (lt_of_cell c00.out)).trans c00.out
        have hc9 : (ul : Int) ≤ (c9 : Int) := by have := F9.out.1; omega
        refine wpAnyT_take (i := 14) (oi := { dst := some 25, op := Op.slice 46 (Operand.tmp 19) none (some (Operand.tmp 24)) none, type := 46, pos := "law.go:55", after := #[{ on := 8, ground := Ground.data }, { on := 13, ground := Ground.data }], guard := none }) (v := .slice (some ⟨b9, 0, none⟩) ul c9) [15, 16, 17] rfl (by kernel_rfl) (by kernel_rfl) (by kernel_rfl) (by kernel_rfl) (fun _ _ _ h => h) (Or.inl ⟨by rfl, ?_⟩) K9.out ?_
        · intro wq hSw
          have y0 := hSw
          go_simp
        (try simp only [Act.put, List.setIfInBounds_toArray, List.set_cons_zero, List.set_cons_succ])
        refine wpAnyT_one (i := 15) (o := { dst := some 26, op := Op.buildSlice 22 1 #[(0, Operand.tmp 25)], type := 22, pos := "law.go:55", after := #[{ on := 14, ground := Ground.data }], guard := none }) (by kernel_rfl) rfl (fun K hK => ?_)
        go_simp
        refine hK.out _ _ (fun _ => alloc_cell _ K9.out) ?_
        clear hK K
        (try simp only [Act.put, List.setIfInBounds_toArray, List.set_cons_zero, List.set_cons_succ])
        obtain ⟨a11, n11, c11, w11, r11, F11⟩ := TV.out.push F9.out.2.2.2 hu.out hl.out F9.out.1 F9.out.2.1 hi40.out hul2.out
        refine wpAnyT_one (i := 16) (o := { dst := some 27, op := Op.call { callee := Callee.builtin Builtin.append, args := #[Operand.tmp 11, Operand.tmp 26], argTypes := #[22, 22] }, type := 22, pos := "law.go:55", after := #[{ on := 0, ground := Ground.data }, { on := 15, ground := Ground.data }, { on := 8, ground := Ground.chain }], guard := none }) (by kernel_rfl) rfl (fun K hK => ?_)
        rw [if_pos (by simp [Region.wanted])]
        refine Lib.wp_append_run _ (.tmp 11) (.tmp 26) 22 22 rfl (.slice ta i tc) (.slice (some ⟨w9.heap.size, 0, none⟩) 1 1) (by simp [Act.eval]) (by simp [Act.eval]) _ w11 r11.out ?_
        refine hK.out _ _ (fun _ => KEEP w11 F11.out.lw) ?_
        clear hK K
        (try simp only [Act.put, List.setIfInBounds_toArray, List.set_cons_zero, List.set_cons_succ])
        refine wpAnyT_one (i := 17) (o := { dst := some 3, op := Op.assign (Operand.tmp 27), type := 22, pos := "law.go:55", after := #[{ on := 16, ground := Ground.data }, { on := 16, ground := Ground.chain }, { on := 0, ground := Ground.phase }, { on := 1, ground := Ground.phase }, { on := 2, ground := Ground.phase }, { on := 3, ground := Ground.phase }, { on := 4, ground := Ground.phase }, { on := 5, ground := Ground.phase }, { on := 6, ground := Ground.phase }, { on := 7, ground := Ground.phase }, { on := 8, ground := Ground.phase }, { on := 9, ground := Ground.phase }, { on := 10, ground := Ground.phase }, { on := 11, ground := Ground.phase }, { on := 12, ground := Ground.phase }, { on := 13, ground := Ground.phase }, { on := 14, ground := Ground.phase }, { on := 15, ground := Ground.phase }, { on := 16, ground := Ground.phase }], guard := none }) (by kernel_rfl) rfl (fun K hK => ?_)
        go_simp
        refine hK.out _ _ (vac (by kernel_rfl)) ?_
        clear hK K
        (try simp only [Act.put, List.setIfInBounds_toArray, List.set_cons_zero, List.set_cons_succ])
        refine wpAnyT_done (by kernel_rfl) ?_ _
        go_wp2_with fail
        go_roundw
        case rel => exact ⟨i + 1, _, by go_num, hlt, F11.out⟩
        case measure => simp only [intOf]; omega
    · obtain rfl : i = n := by omega
      have i1 : ¬ (i : Int) < (i : Int) := by omega
      go_wp2_with fail
      go_ret
      exact ⟨_, rfl, _, hst.out⟩
end Go.Proofs.YtiiinpmkidobgaaDoor.Sd

