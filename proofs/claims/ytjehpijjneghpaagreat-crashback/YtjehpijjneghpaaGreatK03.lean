/-
  rename's do; a change by its interface; directory.
-/
import Derived.Test.YtjehpijjneghpaaGreatK02
import Derived.Deep.AppendLies
namespace Go.Proofs.YtjehpijjneghpaaGreat.Dk
open Go.RowKit Go.Maps Go.Proofs.YtjehpijjneghpaaGreat.Nm
theorem doN_any (w : World) (m p : Nat) (l : Dr) (f t : ByteArray) (hm : Mp w m l) (hf : f.size ≤ maxLen) (ht : t.size ≤ maxLen) (hl : l.length < maxLen) (hg : get l f.data.toList = some p) :
    Calls Tryz.prog 164 #[.agg #[.string f, .string t], .map (some m)] w fun e w' => e = .returned (.tuple #[]) ∧ Mp w' m (ddel (dput l t.data.toList p) f.data.toList) ∧ But (fun k => k = m) w w' := by
  have hB := hide ((Below.refl _ w).alloc (Nat.le_refl _) (.cells #[.string f, .string t] 158))
  have hN := hide (heap_alloc_new w (.cells #[.string f, .string t] 158))
  obtain ⟨w1, hw1⟩ : ∃ w1, Hid (w.alloc (.cells #[.string f, .string t] 158) = w1) := ⟨_, rfl⟩
  rw [hw1.out] at hB hN
  have m1 : Mp w1 m l := hm.heap (hB.out.block m hm.lt)
  have hL := m1.look hf hg
  obtain ⟨w2, hU, m2, t2⟩ := m1.store (s := t) (p := p) ht hl
  have n2 : w2.heap[w.heap.size]? = some (.cells #[.string f, .string t] 158) := (turned_but t2).at hN.out (m1.ne hN.out)
  obtain ⟨w3, hD, m3, t3⟩ := m2.drop (s := f) hf 0
  have x0 : w1.cell? ⟨w.heap.size, 0, none⟩ = some (.string f) := by simp [World.cell?, hN.out]
  have x1 : w1.cell? ⟨w.heap.size, 1, none⟩ = some (.string t) := by simp [World.cell?, hN.out]
  have y0 : w2.cell? ⟨w.heap.size, 0, none⟩ = some (.string f) := by simp [World.cell?, n2]
  have K := hide (((But.of_below hB.out (fun k => k = m)).trans (turned_but t2)).trans (turned_but t3))
  replace m3 := hide m3
  unfold TM at hL hU hD
  unfold TS at hD
  clear m1 m2 t2 t3 n2 hm hg
  go_enter Tryz.func164, Tryz.ntmps164
  go_upto_region 1 with fail
  rw [hw1.out]
  go_wp2_with fail
  go_end0
  exact ⟨rfl, m3.out, K.out⟩
def Ch.fn : Ch → Nat
  | .cr _ _ => 162
  | .rn _ _ => 164
  | .rm _ => 166
def Ch.can (l : Dr) : Ch → Prop
  | .rn f _ => (get l f.data.toList).isSome = true
  | _ => True
theorem do_any (w : World) (m : Nat) (l : Dr) (c : Ch) (hm : Mp w m l) (hc : c.ok) (hk : c.can l) (hl : l.length < maxLen) :
    Calls Tryz.prog c.fn #[c.val, .map (some m)] w fun e w' => e = .returned (.tuple #[]) ∧ Mp w' m (c.run l) ∧ But (fun k => k = m) w w' := by
  cases c with
  | cr n p => exact doC_any w m l n p hm hc hl
  | rm n => exact doX_any w m l n hm hc
  | rn f t =>
    obtain ⟨p, hp⟩ := Option.isSome_iff_exists.1 (show (get l f.data.toList).isSome = true from hk)
    have := doN_any w m p l f t hm hc.1 hc.2 hl hp
    simp only [Ch.run, hp]
    exact this
end Go.Proofs.YtjehpijjneghpaaGreat.Dk
namespace Go.Proofs.YtjehpijjneghpaaGreat.Dk
open Go.RowKit Go.Maps Go.Proofs.YtjehpijjneghpaaGreat.Nm
def wthn (n : Int) (m : Nat) : Nat := min n.toNat m
theorem within_any (w : World) (n : Int) (m : Nat) (h0 : -9223372036854775808 ≤ n) (h1 : n ≤ 9223372036854775807) (hm : (m : Int) ≤ 9223372036854775807) :
    Calls Tryz.prog 108 #[.int .i64 n, .int .i64 (m : Int)] w fun e w' => e = .returned (.int .i64 (wthn n m : Int)) ∧ w' = w := by
  obtain ⟨E, hE⟩ : ∃ E : Nat, Hid (wthn n m = E) := ⟨_, rfl⟩
  rw [hE.out]
  have hq := hE.out
  unfold wthn at hq
  go_enter Tryz.func108, Tryz.ntmps108
  go_wp2_with fail
  all_goals
    go_ret
    refine ⟨?_, rfl⟩
    show Ending.returned (Value.int .i64 _) = _
    congr 2
    omega
def Ch.iface (c : Ch) : Value := .iface c.ty c.val
def Cans : Dr → List Ch → Prop
  | _, [] => True
  | l, c :: r => c.can l ∧ Cans (c.run l) r
def runs (l : Dr) (P : List Ch) : Dr := P.foldl Ch.run l
theorem runs_snoc (l : Dr) (P : List Ch) (c : Ch) : runs l (P ++ [c]) = c.run (runs l P) := by simp [runs]
theorem cans_at {l : Dr} : ∀ {P : List Ch}, Cans l P → ∀ i (h : i < P.length), (P[i]).can (runs l (P.take i)) := by
  intro P
  induction P generalizing l with
  | nil => intro _ i h; simp at h
  | cons c r ih =>
    intro hP i h
    match i with
    | 0 => exact hP.1
    | i + 1 => simpa [runs] using ih hP.2 i (by simpa using h)
theorem dins_len (x : List UInt8 × Nat) (l : Dr) : (dins x l).length = l.length + 1 := by
  induction l with
  | nil => rfl
  | cons y r ih => unfold dins; split <;> simp [ih]
theorem run_len (l : Dr) (c : Ch) : (c.run l).length ≤ l.length + 1 := by
  have hd : ∀ (l : Dr) n, (ddel l n).length ≤ l.length := fun l n => List.length_filter_le _ _
  have hp : ∀ (l : Dr) n p, (dput l n p).length ≤ l.length + 1 := fun l n p => by have := hd l n; rw [dput, dins_len]; omega
  cases c with
  | cr n p => exact hp _ _ _
  | rm n => exact Nat.le_trans (hd _ _) (by omega)
  | rn f t =>
    show List.length (match get l f.data.toList with | some p => ddel (dput l t.data.toList p) f.data.toList | none => l) ≤ _
    split
    · exact Nat.le_trans (hd _ _) (hp _ _ _)
    · omega
theorem runs_len (l : Dr) (P : List Ch) : (runs l P).length ≤ l.length + P.length := by
  induction P generalizing l with
  | nil => simp [runs]
  | cons c r ih => have := ih (c.run l); have := run_len l c; simp only [runs, List.foldl_cons, List.length_cons] at *; omega
theorem disp_any (c : Ch) : (∀ q, (method 325 c.ty c.val "flume/disk.do").run Tryz.prog q = .ok (c.fn, c.val) q) ∧ (∀ a q, (callFunc c.fn a).run Tryz.prog q = .ok (.enter c.fn a) q) := by
  cases c with
  | cr n p => exact ⟨fun q => by kernel_rfl, fun a q => by kernel_rfl⟩
  | rn f t => exact ⟨fun q => by kernel_rfl, fun a q => by kernel_rfl⟩
  | rm n => exact ⟨fun q => by kernel_rfl, fun a q => by kernel_rfl⟩
end Go.Proofs.YtjehpijjneghpaaGreat.Dk
namespace Go.Proofs.YtjehpijjneghpaaGreat.Dk
open Go.RowKit Go.Maps Go.Proofs.YtjehpijjneghpaaGreat.Nm
theorem Mp.turned {w u u' : World} {m : Nat} (hB : Below w.heap.size w u) (h : But (fun k => k = m) u u') (hm : w.heap.size ≤ m) : Below w.heap.size w u' :=
  ⟨h.os.trans hB.os, h.tape.trans hB.tape, h.output.trans hB.output, Nat.le_trans hB.size h.size, fun k hk => (h.block k (Nat.lt_of_lt_of_le hk hB.size) (by omega)).trans (hB.block k hk)⟩
set_option maxHeartbeats 1000000 in
theorem directory_any (w : World) (b m : Nat) (cs : Array Value) (l : Dr) (P : List Ch) (pd : Value) (n : Int) (hb : w.heap[b]? = some (.cells cs TD (0, 0))) (h3 : cs[3]? = some (.map (some m))) (h4 : cs[4]? = some pd)
    (hm : Mp w m l) (hp : Row w pd (P.map Ch.iface)) (hok : ∀ c ∈ P, c.ok) (hcan : Cans l P) (hlen : l.length + P.length < maxLen) (n0 : -9223372036854775808 ≤ n) (n1 : n ≤ 9223372036854775807) :
    Calls Tryz.prog 80 #[.pointer (some ⟨b, 0, none⟩), .int .i64 n] w fun e w' => e = .returned (.map (some w.heap.size)) ∧ Mp w' w.heap.size (runs l (P.take (wthn n P.length))) ∧ Below w.heap.size w w' := by
  obtain ⟨N, hN⟩ : ∃ N, Hid (P.length = N) := ⟨_, rfl⟩
  rw [hN.out]
  obtain ⟨ao, ca, rfl, ha, p1, p2, p3⟩ := hp
  rw [List.length_map] at *
  rw [hN.out] at p1
  have c3 : w.cell? ⟨b, 3, none⟩ = some (.map (some m)) := by simp [World.cell?, hb, h3]
  have c4 : w.cell? ⟨b, 4, none⟩ = some (.slice ao P.length ca) := by simp [World.cell?, hb, h4]
  rw [hN.out] at c4
  have N1 : (N : Int) ≤ 9223372036854775807 := by unfold maxLen at p2; omega
  have N2 : (ca : Int) ≤ 9223372036854775807 := by unfold maxLen at p2; omega
  have hC := clone_mp w m l hm
  obtain ⟨K, hK⟩ : ∃ K, Hid (wthn n N = K) := ⟨_, rfl⟩
  have K1 : K ≤ N := by rw [← hK.out]; unfold wthn; omega
  have hW := fun q => within_any q n N n0 n1 N1
  rw [hK.out] at hW ⊢
  replace p3 := hide p3
  replace hok := hide hok
  replace hcan := hide hcan
  replace hlen := hide hlen
  replace hW := hide hW
  clear hm hb h3 h4 ha
  go_enter Tryz.func80, Tryz.ntmps80
  go_upto_region 2 with (go_at_call 106; refine hC.mono ?_; rintro e w1 ⟨rfl, M1, B1⟩; replace M1 := hide M1; replace B1 := hide B1)
  have d4 : w1.cell? ⟨b, 4, none⟩ = some (.slice ao N ca) := by rw [B1.out.cell (p := ⟨b, 4, none⟩) (lt_of_cell c4)]; exact c4
  clear hC c3 c4
  go_quiet ((go_at_call 108; exact Calls.quiet_of_same (hW.out _)))
  have Q1 : Hid (Mp (w1.drewN nq) w.heap.size (runs l (P.take 0)) ∧ Below w.heap.size w (w1.drewN nq)) := ⟨M1.out, B1.out.trans (Qt.below ⟨nq, rfl⟩ _)⟩
  generalize w1.drewN nq = w2 at *
  clear d4 M1 B1 hW
  go_wp2_with fail
  go_loopw [26] (fun i wr => ∃ k : Nat, i = .int .i64 k ∧ k ≤ K ∧ Hid (Mp wr w.heap.size (runs l (P.take k)) ∧ Below w.heap.size w wr)) (fun i _ => K - (intOf i).toNat)
  case atStart => exact ⟨0, rfl, Nat.zero_le _, Q1.out⟩
  case round =>
    obtain ⟨k, rfl, hk, hQ⟩ := hrel
    by_cases hlt : k < K
    · have i1 : (k : Int) < (K : Int) := by omega
      have hkl : k < P.length := by rw [hN.out]; omega
      obtain ⟨g, off, rfl, hc⟩ := p3.out k (by rw [List.length_map]; exact hkl)
      have hcell : wr.cell? ⟨g, off + k, none⟩ = some (.iface (P[k]).ty (P[k]).val) := by
        rw [hQ.out.2.cell (p := ⟨g, off + k, none⟩) (lt_of_cell hc), hc, List.getElem_map]; rfl
      obtain ⟨d1, d2⟩ := disp_any P[k]
      have hD := do_any wr w.heap.size (runs l (P.take k)) P[k] hQ.out.1 (hok.out _ (List.getElem_mem hkl)) (cans_at hcan.out k hkl) (by have q1 := runs_len l (P.take k); have q2 := hlen.out; rw [List.length_take] at q1; omega)
      rw [← runs_snoc, ← List.take_succ_eq_append_getElem hkl] at hD
      replace hD := hide hD
      clear hc
      generalize P[k] = c at *
      generalize c.fn = f at *
      generalize c.ty = T at *
      generalize c.val = u at *
      go_wp2_with fail
      refine hD.out.mono ?_
      rintro e w3 ⟨rfl, M3, B3⟩
      have Q3 : Hid (Mp w3 w.heap.size (runs l (P.take (k + 1))) ∧ Below w.heap.size w w3) := ⟨M3, Mp.turned hQ.out.2 B3 (Nat.le_refl _)⟩
      clear M3 B3 hD d1 d2
      go_wp2_with fail
      go_roundw
      case rel => exact ⟨k + 1, by go_num, by omega, Q3.out⟩
      case measure => simp [intOf]; omega
    · obtain rfl : k = K := by omega
      go_wp2_with fail
      go_ret
      exact ⟨rfl, hQ.out⟩
end Go.Proofs.YtjehpijjneghpaaGreat.Dk
namespace Go.Proofs.YtjehpijjneghpaaGreat.Dk
open Go.RowKit Go.Maps Go.Proofs.YtjehpijjneghpaaGreat.Nm
def Pd (w : World) (v : Value) (P : List Ch) : Prop := w.ownsRow 0 148 1 v P.length (P.map Ch.iface)
theorem Pd.nil (w : World) : Pd w (.slice none 0 0) [] := World.ownsRow_nil _ _ _ _
theorem Pd.no {w : World} {v : Value} {P : List Ch} {b : Nat} {cs : Array Value} {T : TypeId} {fz : Nat × Nat} (h : Pd w v P) (hb : w.heap[b]? = some (.cells cs T fz)) (hT : T ≠ 148) : v.ownBlock ≠ some b := fun e1 => by
  rcases h.2 with ⟨rfl, _⟩ | ⟨g, cap, cur, rfl, hg, hh, r⟩
  · simp [Value.ownBlock] at e1
  · simp [Value.ownBlock] at e1
    subst e1
    rw [hb] at hh
    simp at hh
    exact hT hh.2.1
theorem Pd.noM {w : World} {v : Value} {P : List Ch} {m : Nat} {l : Dr} (h : Pd w v P) (hm : Mp w m l) : v.ownBlock ≠ some m := fun e1 => by
  rcases h.2 with ⟨rfl, _⟩ | ⟨g, cap, cur, rfl, hg, hh, r⟩
  · simp [Value.ownBlock] at e1
  · simp [Value.ownBlock] at e1
    subst e1
    obtain ⟨es, clock, hb, _⟩ := hm
    rw [hb] at hh
    cases hh
theorem Pd.but {X : Nat → Prop} {A B : World} {v : Value} {P : List Ch} (h : Pd A v P) (hb : But X A B) (hx : ∀ k, v.ownBlock = some k → ¬ X k) : Pd B v P := by
  refine ⟨h.1, ?_⟩
  rcases h.2 with h | ⟨g, cap, cur, rfl, hg, hh, r⟩
  · exact .inl h
  · exact .inr ⟨g, cap, cur, rfl, hg, hb.at hh (hx g rfl), r⟩
theorem Pd.row {w : World} {v : Value} {P : List Ch} (h : Pd w v P) : Row w v (P.map Ch.iface) := by
  have h0 := h
  rcases h.2 with ⟨rfl, e⟩ | ⟨g, cap, cur, rfl, hg, hh, a, b, c⟩
  · have : P = [] := List.length_eq_zero_iff.1 e
    subst this
    exact Row.nil w
  · refine ⟨some ⟨g, 0, none⟩, cap, by rw [List.length_map], fun e => by simp at e, by rw [List.length_map]; exact a, b, fun i hi => ?_⟩
    have q := World.ownsRow.cells h0 (g := g) rfl i _ (List.getElem?_eq_getElem hi)
    exact ⟨g, 0, rfl, by rw [addr_add] at q; exact q⟩
theorem Pd.lt {w : World} {v : Value} {P : List Ch} (h : Pd w v P) : ∀ k, v.ownBlock = some k → k < w.heap.size := fun k hk => (World.ownsRow.lt h k hk).2
theorem infoCh : (Tryz.prog.info? 148).map (fun i => (i.zero, i.size, i.bytes)) = some (some .nilIface, 1, 16) := by kernel_rfl
theorem infoCh2 : ∃ i, Tryz.prog.info? 148 = some i ∧ i.zero = some .nilIface ∧ i.size = 1 ∧ i.bytes = 16 := by
  have h := infoCh
  cases hq : Tryz.prog.info? 148 with
  | none => rw [hq] at h; cases h
  | some i => rw [hq] at h; simp only [Option.map_some, Option.some.injEq, Prod.mk.injEq] at h; exact ⟨i, rfl, h.1, h.2.1, h.2.2⟩
set_option maxRecDepth 100000 in
theorem ahead_any (c : Ch) : ∀ q, (nilAhead 325 c.ty c.val "flume/disk.do").run Tryz.prog q = .ok (some false) q := by
  cases c with
  | cr n p => exact fun q => by kernel_rfl
  | rn f t => exact fun q => by kernel_rfl
  | rm n => exact fun q => by kernel_rfl
theorem grownAt {w3 w4 : World} {b : Nat} {o o' : Obj} {r : Option Nat} (hb : w3.heap[b]? = some o) (hg : (w3.alloc o').grownBy w4 r) (hr : r ≠ some b) : w4.heap[b]? = some o := by
  rw [hg.block b (by have := heap_lt hb; simp; omega) (fun e => hr e.symm)]
  exact (Below.heap_alloc _ _ _ (heap_lt hb)).trans hb
set_option maxRecDepth 100000 in
theorem change_any (w : World) (b m : Nat) (cs : Array Value) (l : Dr) (P : List Ch) (pd : Value) (c : Ch) (hb : w.heap[b]? = some (.cells cs TD (0, 0))) (h2 : cs[2]? = some (.map (some m))) (h4 : cs[4]? = some pd)
    (hm : Mp w m l) (hp : Pd w pd P) (hc : c.ok) (hk : c.can l) (hl : l.length < maxLen) (hP : P.length < 1000000000) :
    Calls Tryz.prog 71 #[.pointer (some ⟨b, 0, none⟩), c.iface] w fun e w' => e = .returned (.tuple #[]) ∧ Mp w' m (c.run l) ∧ ∃ pd', Pd w' pd' (P ++ [c]) ∧ w'.heap[b]? = some (.cells (cs.setIfInBounds 4 pd') TD (0, 0)) ∧
      But (fun k => k = b ∨ k = m ∨ pd.ownBlock = some k) w w' ∧ (∀ k, pd'.ownBlock = some k → pd.ownBlock = some k ∨ w.heap.size ≤ k) := by
  have c2 : w.cell? ⟨b, 2, none⟩ = some (.map (some m)) := by simp [World.cell?, hb, h2]
  have hD := do_any w.drew m l c hm hc hk hl
  obtain ⟨d1, d2⟩ := disp_any c
  have d3 := ahead_any c
  have hne := hide (hm.ne hb)
  have hnp := hide (hp.no hb (by decide))
  have hnm := hide (hp.noM hm)
  have KC : Hid (∀ q, But (fun k => k = m) w.drew q → q.cell? ⟨b, 2, none⟩ = some (.map (some m))) := by
    intro q B3
    have q1 := B3.at (k := b) hb hne.out
    simp [World.cell?, q1, h2]
  rw [show c.iface = .iface c.ty c.val from rfl]
  obtain ⟨ci, hci⟩ : ∃ ci, Hid (c.iface = ci) := ⟨_, rfl⟩
  have hci2 : Hid (Value.iface c.ty c.val = ci) := hci.out
  replace hb := hide hb
  replace hp := hide hp
  replace hm := hide hm
  obtain ⟨r, hr⟩ : ∃ r, Hid (c.run l = r) := ⟨_, rfl⟩
  rw [hr.out] at hD ⊢
  generalize hfn : c.fn = f at *
  generalize hty : c.ty = T at *
  generalize hvl : c.val = u at *
  replace hD := hide hD
  replace hty := hide hty
  replace hvl := hide hvl
  clear hfn hk hc
  go_enter Tryz.func71, Tryz.ntmps71
  go_upto_region 0 with fail
  go_region_held3 (fun q => q.cell? ⟨b, 2, none⟩ = some (.map (some m)))
    (first | exact c2 | assumption | exact KC.out _ (Hid.out (by assumption)) | fail)
    (first | (refine hD.out.mono ?_; rintro e w3 ⟨rfl, M3, B3⟩; replace M3 := hide M3; replace B3 := hide B3) | fail)
  have hb3 : Hid (w3.heap[b]? = some (.cells cs TD (0, 0))) := B3.out.at (k := b) hb.out hne.out
  have hp3 : Hid (Pd w3 pd P) := hp.out.but (A := w.drew) B3.out (fun k hk e => hnm.out (by rw [← e]; exact hk))
  have hW3 := hide (((But.of_below ((Below.refl _ w).drew) (fun k => k = m)).trans B3.out))
  have c4 : w3.cell? ⟨b, 4, none⟩ = some pd := by simp [World.cell?, hb3.out, h4]
  clear d1 d2 d3 hD KC c2 h2
  obtain ⟨i0, hi, hz0, hz1, hz2⟩ : ∃ i, Tryz.prog.info? 148 = some i ∧ i.zero = some .nilIface ∧ i.size = 1 ∧ i.bytes = 16 := infoCh2
  replace hi := hide hi
  go_wp2_with (first
    | (at_builtin; refine wpList_append_lies _ rfl (.tmp 17) (.tmp 19) 93 rfl 0 148 i0 .nilIface 1 16 Tryz.underlying93 hi.out hz0 hz1 hz2 rfl (by decide) pd P.length (P.map Ch.iface) rfl (World.ownsRow.alloc hp3.out _) ⟨w3.heap.size, 0, none⟩ 1 1 [.iface T u] rfl rfl (cell_one_new _ _ _) (by simp [Value.oneCell']) (by decide) (by unfold maxLen; omega) (by omega) (Nat.zero_le _) (w3.heap.size + 1) (by simp) ?_; intro g2 cap2 w4 ho4 g4 hat hlt4; have hb4 : Hid (w4.heap[b]? = some (.cells cs TD (0, 0))) := hide (grownAt hb3.out g4 hnp.out); have f1 : w4.cell? ⟨b, 4, none⟩ = some pd := (by simp [World.cell?, hb4.out, h4]); have f2 : w4.frozen? ⟨b, 4, none⟩ = false := (by simp [World.frozen?, hb4.out]); replace ho4 := hide ho4; replace g4 := hide g4; replace hat := hide hat)
    | fail)
  go_end0
  have e1 : T = c.ty ∧ u = c.val := ⟨hty.out.symm, hvl.out.symm⟩
  have G4 : But (fun k => pd.ownBlock = some k) w3 w4 := (But.of_below ((Below.refl _ w3).alloc (Nat.le_refl _) _) _).trans (But.of_grownBy g4.out fun k e => e)
  have G5 : But (fun k => k = b) w4 (w4.setCell ⟨b, 4, none⟩ (.slice (some ⟨g2, 0, none⟩) (P.length + 1) cap2)) := But.of_grownBy (grown_setCell _ _ _ _) fun k e => by cases e; rfl
  have p4 : Pd w4 (.slice (some ⟨g2, 0, none⟩) (P.length + 1) cap2) (P ++ [c]) := by
    unfold Pd
    rw [List.length_append, List.map_append]
    have q := ho4.out
    rw [e1.1, e1.2] at q
    exact q
  refine ⟨rfl, ?_, _, p4.but G5 (fun k hk e => p4.no hb4.out (by decide) (by rw [← e]; exact hk)), heap_setCell_same _ _ _ _ _ _ hb4.out, ?_, ?_⟩
  · have q1 := M3.out.but G4 (fun e => hp3.out.noM M3.out e)
    exact q1.but G5 (fun e => hne.out e.symm)
  · exact ((hW3.out.mono fun k _ e => .inr (.inl e)).trans (G4.mono fun k _ e => .inr (.inr e))).trans (G5.mono fun k _ e => .inl e)
  · intro k hk
    simp only [Value.ownBlock, Option.some.injEq] at hk
    subst hk
    rcases hat.out with e | e
    · exact .inl e
    · right
      have := hW3.out.size
      omega
end Go.Proofs.YtjehpijjneghpaaGreat.Dk
namespace Go.Proofs.YtjehpijjneghpaaGreat.Dk
open Go.RowKit Go.Maps Go.Proofs.YtjehpijjneghpaaGreat.Nm
structure Dk (w : World) (b : Nat) (x : Dc) (f g : Nat) (l l2 : Dr) (P : List Ch) (al : Ar) : Prop where
  box : Bx w b x
  fm : x.fm = some f
  lm : x.lm = some g
  mf : Mp w f l
  mg : Mp w g l2
  fg : f ≠ g
  pd : Pd w x.pd P
  am : ∀ m, x.am = some m → Am w m al ∧ m ≠ f ∧ m ≠ g
  an : x.am = none → al = []
  run : l = runs l2 P
  can : Cans l2 P
  ok : ∀ c ∈ P, c.ok
  c0 : 0 ≤ x.c0 ∧ 0 ≤ x.c1 ∧ 0 ≤ x.c2 ∧ 0 ≤ x.c3 ∧ 0 ≤ x.c4 ∧ 0 ≤ x.c5 ∧ 0 ≤ x.c6 ∧ 0 ≤ x.c7
  c1 : x.c0 ≤ x.c7 ∧ x.c1 ≤ x.c7 ∧ x.c2 ≤ x.c7 ∧ x.c3 ≤ x.c7 ∧ x.c4 ≤ x.c7 ∧ x.c5 ≤ x.c7 ∧ x.c6 ≤ x.c7
def Own (b : Nat) (x : Dc) (k : Nat) : Prop := k = b ∨ x.fm = some k ∨ x.lm = some k ∨ x.pd.ownBlock = some k ∨ x.am = some k
def inc (x : Dc) : Nat → Dc
  | 0 => { x with c0 := x.c0 + 1, c7 := x.c7 + 1 }
  | 1 => { x with c1 := x.c1 + 1, c7 := x.c7 + 1 }
  | 2 => { x with c2 := x.c2 + 1, c7 := x.c7 + 1 }
  | 3 => { x with c3 := x.c3 + 1, c7 := x.c7 + 1 }
  | 4 => { x with c4 := x.c4 + 1, c7 := x.c7 + 1 }
  | 5 => { x with c5 := x.c5 + 1, c7 := x.c7 + 1 }
  | _ => { x with c6 := x.c6 + 1, c7 := x.c7 + 1 }
def cnt (x : Dc) : Nat → Int
  | 0 => x.c0 | 1 => x.c1 | 2 => x.c2 | 3 => x.c3 | 4 => x.c4 | 5 => x.c5 | _ => x.c6
theorem inc_cells (x : Dc) : ∀ j, j < 7 → ((dcells x).setIfInBounds (6 + j) (.int .i64 (cnt x j + 1))).setIfInBounds 13 (.int .i64 (x.c7 + 1)) = dcells (inc x j) := by
  intro j hj
  match j with
  | 0 => rfl
  | 1 => rfl
  | 2 => rfl
  | 3 => rfl
  | 4 => rfl
  | 5 => rfl
  | 6 => rfl
  | j + 7 => omega
theorem cnt_cell (x : Dc) : ∀ j, j < 7 → (dcells x)[6 + j]? = some (.int .i64 (cnt x j)) := by
  intro j hj
  match j with
  | 0 => rfl
  | 1 => rfl
  | 2 => rfl
  | 3 => rfl
  | 4 => rfl
  | 5 => rfl
  | 6 => rfl
  | j + 7 => omega
theorem inc_rest (x : Dc) (j : Nat) : (inc x j).most = x.most ∧ (inc x j).up = x.up ∧ (inc x j).fm = x.fm ∧ (inc x j).lm = x.lm ∧ (inc x j).pd = x.pd ∧ (inc x j).am = x.am ∧ (inc x j).c7 = x.c7 + 1 ∧ (inc x j).c8 = x.c8 := by
  unfold inc
  split <;> exact ⟨rfl, rfl, rfl, rfl, rfl, rfl, rfl, rfl⟩
theorem cnt_all {w : World} {b : Nat} {x : Dc} {f g : Nat} {l l2 : Dr} {P : List Ch} {al : Ar} (h : Dk w b x f g l l2 P al) (j : Nat) : 0 ≤ cnt x j ∧ cnt x j ≤ x.c7 ∧ 0 ≤ x.c7 := by
  have h0 := h.c0
  have h1 := h.c1
  unfold cnt
  split <;> omega
theorem inc_ok {x : Dc} (h0 : 0 ≤ x.c0 ∧ 0 ≤ x.c1 ∧ 0 ≤ x.c2 ∧ 0 ≤ x.c3 ∧ 0 ≤ x.c4 ∧ 0 ≤ x.c5 ∧ 0 ≤ x.c6 ∧ 0 ≤ x.c7) (h1 : x.c0 ≤ x.c7 ∧ x.c1 ≤ x.c7 ∧ x.c2 ≤ x.c7 ∧ x.c3 ≤ x.c7 ∧ x.c4 ≤ x.c7 ∧ x.c5 ≤ x.c7 ∧ x.c6 ≤ x.c7) (j : Nat) :
    (0 ≤ (inc x j).c0 ∧ 0 ≤ (inc x j).c1 ∧ 0 ≤ (inc x j).c2 ∧ 0 ≤ (inc x j).c3 ∧ 0 ≤ (inc x j).c4 ∧ 0 ≤ (inc x j).c5 ∧ 0 ≤ (inc x j).c6 ∧ 0 ≤ (inc x j).c7) ∧
    ((inc x j).c0 ≤ (inc x j).c7 ∧ (inc x j).c1 ≤ (inc x j).c7 ∧ (inc x j).c2 ≤ (inc x j).c7 ∧ (inc x j).c3 ≤ (inc x j).c7 ∧ (inc x j).c4 ≤ (inc x j).c7 ∧ (inc x j).c5 ≤ (inc x j).c7 ∧ (inc x j).c6 ≤ (inc x j).c7) := by
  unfold inc
  split <;> (dsimp only; omega)
theorem Dk.cells {w : World} {b : Nat} {x : Dc} {f g : Nat} {l l2 : Dr} {P : List Ch} {al : Ar} (h : Dk w b x f g l l2 P al) : w.heap[b]? = some (.cells (dcells x) TD (0, 0)) := h.box
theorem Dk.but {X : Nat → Prop} {A B : World} {b : Nat} {x : Dc} {f g : Nat} {l l2 : Dr} {P : List Ch} {al : Ar} (h : Dk A b x f g l l2 P al) (hb : But X A B) (hx : ∀ k, Own b x k → ¬ X k) : Dk B b x f g l l2 P al :=
  ⟨hb.at h.box (hx b (.inl rfl)), h.fm, h.lm, h.mf.but hb (hx f (.inr (.inl h.fm))), h.mg.but hb (hx g (.inr (.inr (.inl h.lm)))), h.fg, h.pd.but hb (fun k hk => hx k (.inr (.inr (.inr (.inl hk))))),
    fun m e => ⟨(h.am m e).1.but hb (hx m (.inr (.inr (.inr (.inr e))))), (h.am m e).2⟩, h.an, h.run, h.can, h.ok, h.c0, h.c1⟩
theorem Dk.below {A B : World} {b : Nat} {x : Dc} {f g : Nat} {l l2 : Dr} {P : List Ch} {al : Ar} (h : Dk A b x f g l l2 P al) (hb : Below A.heap.size A B) : Dk B b x f g l l2 P al := h.but (But.of_below hb fun _ => False) fun _ _ c => c
theorem Dk.lt {w : World} {b : Nat} {x : Dc} {f g : Nat} {l l2 : Dr} {P : List Ch} {al : Ar} (h : Dk w b x f g l l2 P al) : ∀ k, Own b x k → k < w.heap.size := by
  rintro k (rfl | e | e | e | e)
  · exact heap_lt h.box
  · rw [h.fm] at e; cases e; exact h.mf.lt
  · rw [h.lm] at e; cases e; exact h.mg.lt
  · exact h.pd.lt k e
  · exact (h.am k e).1.lt
theorem Dk.dp {w : World} {b : Nat} {x : Dc} {f g : Nat} {l l2 : Dr} {P : List Ch} {al : Ar} (h : Dk w b x f g l l2 P al) : Dp w (.pointer (some ⟨b, 0, none⟩)) (some x) := .inr ⟨b, x, rfl, rfl, h.box⟩
theorem begin_any (w : World) (b : Nat) (x : Dc) (f g : Nat) (l l2 : Dr) (P : List Ch) (al : Ar) (j : Nat) (hj : j < 7) (h : Dk w b x f g l l2 P al) (hc : x.c7 < 4611686018427387904) :
    Calls Tryz.prog 70 #[.pointer (some ⟨b, 0, none⟩), .pointer (some ⟨b, 6 + j, none⟩)] w fun e w' => e = .returned (fv ((aget al (x.c7 + 1)).getD zf)) ∧ Dk w' b (inc x j) f g l l2 P (adel al (x.c7 + 1)) ∧ But (Own b x) w w' := by
  obtain ⟨q0, q1, q2⟩ := cnt_all h j
  refine (begin_gen w b j (dcells x) (cnt x j) x.c7 x.am al h.box rfl hj (cnt_cell x j hj) rfl rfl (fun m e => (h.am m e).1) h.an q0 (by omega) q2 hc).mono ?_
  rintro e w' ⟨rfl, hb, hm, hB⟩
  rw [inc_cells x j hj] at hb
  obtain ⟨e1, e2, e3, e4, e5, e6, e7, e8⟩ := inc_rest x j
  obtain ⟨k0, k1⟩ := inc_ok h.c0 h.c1 j
  refine ⟨rfl, ⟨hb, by rw [e3]; exact h.fm, by rw [e4]; exact h.lm, ?_, ?_, h.fg, ?_, ?_, ?_, h.run, h.can, h.ok, k0, k1⟩, hB.mono ?_⟩
  · refine h.mf.but hB ?_
    rintro (c | c)
    · exact h.mf.ne h.box c.symm
    · exact (h.am f c).2.1 rfl
  · refine h.mg.but hB ?_
    rintro (c | c)
    · exact h.mg.ne h.box c.symm
    · exact (h.am g c).2.2 rfl
  · rw [e5]
    refine h.pd.but hB fun k hk => ?_
    rintro (c | c)
    · exact h.pd.no h.box (by decide) (by rw [← c]; exact hk)
    · rcases h.pd.2 with ⟨q, _⟩ | ⟨g', cap, cur, q, hg, hh, r⟩
      · rw [q] at hk; simp [Value.ownBlock] at hk
      · rw [q] at hk; simp [Value.ownBlock] at hk; subst hk; exact (h.am _ c).1.ne hh rfl
  · rw [e6]
    exact fun m e => ⟨hm m e, (h.am m e).2⟩
  · rw [e6]
    intro e
    rw [h.an e]
    rfl
  · rintro k _ (c | c)
    · exact .inl c
    · exact .inr (.inr (.inr (.inr c)))
end Go.Proofs.YtjehpijjneghpaaGreat.Dk
namespace Go.Proofs.YtjehpijjneghpaaGreat.Dk
open Go.RowKit Go.Maps Go.Proofs.YtjehpijjneghpaaGreat.Nm
def strX (k : Int) (x : Dc) : Dc := if k = 3 then { x with up := false } else x
theorem str_cells (k : Int) (x : Dc) : strC k (dcells x) = dcells (strX k x) := by
  unfold strC strX
  split <;> rfl
theorem strX_rest (k : Int) (x : Dc) : (strX k x).fm = x.fm ∧ (strX k x).lm = x.lm ∧ (strX k x).pd = x.pd ∧ (strX k x).am = x.am ∧ (strX k x).c0 = x.c0 ∧ (strX k x).c1 = x.c1 ∧ (strX k x).c2 = x.c2 ∧ (strX k x).c3 = x.c3 ∧ (strX k x).c4 = x.c4 ∧ (strX k x).c5 = x.c5 ∧ (strX k x).c6 = x.c6 ∧ (strX k x).c7 = x.c7 := by
  unfold strX
  split <;> exact ⟨rfl, rfl, rfl, rfl, rfl, rfl, rfl, rfl, rfl, rfl, rfl, rfl⟩
theorem Dk.noB {w : World} {b : Nat} {x : Dc} {f g : Nat} {l l2 : Dr} {P : List Ch} {al : Ar} (h : Dk w b x f g l l2 P al) : f ≠ b ∧ g ≠ b ∧ (∀ m, x.am = some m → m ≠ b) ∧ (∀ k, x.pd.ownBlock = some k → k ≠ b) :=
  ⟨fun e => h.mf.ne h.box e.symm, fun e => h.mg.ne h.box e.symm, fun m e c => (h.am m e).1.ne h.box c.symm, fun k e c => h.pd.no h.box (by decide) (by rw [← c]; exact e)⟩
theorem Dk.noP {w : World} {b : Nat} {x : Dc} {f g : Nat} {l l2 : Dr} {P : List Ch} {al : Ar} (h : Dk w b x f g l l2 P al) : ∀ k, x.pd.ownBlock = some k → k ≠ f ∧ k ≠ g ∧ x.am ≠ some k := by
  intro k hk
  refine ⟨fun e => h.pd.noM h.mf (by rw [← e]; exact hk), fun e => h.pd.noM h.mg (by rw [← e]; exact hk), fun c => ?_⟩
  rcases h.pd.2 with ⟨q, _⟩ | ⟨g', cap, cur, q, hg, hh, r⟩
  · rw [q] at hk; simp [Value.ownBlock] at hk
  · rw [q] at hk; simp [Value.ownBlock] at hk; subst hk; exact (h.am _ c).1.ne hh rfl
theorem Dk.strX {w w' : World} {b : Nat} {x : Dc} {f g : Nat} {l l2 : Dr} {P : List Ch} {al : Ar} (h : Dk w b x f g l l2 P al) (k : Int) (hc : w'.heap[b]? = some (.cells (strC k (dcells x)) TD (0, 0))) (hB : But (fun k => k = b) w w') : Dk w' b (strX k x) f g l l2 P al := by
  rw [str_cells] at hc
  obtain ⟨e3, e4, e5, e6, r⟩ := strX_rest k x
  obtain ⟨r0, r1, r2, r3, r4, r5, r6, r7⟩ := r
  obtain ⟨n1, n2, n3, n4⟩ := h.noB
  refine ⟨hc, by rw [e3]; exact h.fm, by rw [e4]; exact h.lm, h.mf.but hB n1, h.mg.but hB n2, h.fg, by rw [e5]; exact h.pd.but hB n4, ?_, by rw [e6]; exact h.an, h.run, h.can, h.ok, by rw [r0, r1, r2, r3, r4, r5, r6, r7]; exact h.c0, by rw [r0, r1, r2, r3, r4, r5, r6, r7]; exact h.c1⟩
  rw [e6]
  exact fun m e => ⟨(h.am m e).1.but hB (n3 m e), (h.am m e).2⟩
theorem dk_strike (w : World) (b : Nat) (x : Dc) (f g : Nat) (l l2 : Dr) (P : List Ch) (al : Ar) (t : Ft) (h : Dk w b x f g l l2 P al) (hk : t.2.1 ≠ 4) :
    Calls Tryz.prog 69 #[.pointer (some ⟨b, 0, none⟩), fv t] w fun e w' => e = .returned (.int .i64 (strF t.2.1)) ∧ Dk w' b (strX t.2.1 x) f g l l2 P al ∧ But (fun k => k = b) w w' :=
  (strike_any w b (dcells x) t h.box ⟨_, rfl⟩ hk).mono fun _ _ ⟨he, hc, hB⟩ => ⟨he, h.strX _ hc hB, hB⟩
theorem dk_strikeR (w : World) (b : Nat) (x : Dc) (f g : Nat) (l l2 : Dr) (P : List Ch) (al : Ar) (t : Ft) (h : Dk w b x f g l l2 P al) (hk : t.2.1 ≠ 4) :
    Calls Tryz.prog 73 #[.pointer (some ⟨b, 0, none⟩), fv t] w fun e w' => e = .returned (.int .i64 (strR t.2.1)) ∧ Dk w' b (strX t.2.1 x) f g l l2 P al ∧ But (fun k => k = b) w w' :=
  (strikeRoomless_any w b (dcells x) t h.box ⟨_, rfl⟩ hk).mono fun _ _ ⟨he, hc, hB⟩ => ⟨he, h.strX _ hc hB, hB⟩
theorem dk_settle (w : World) (b : Nat) (x : Dc) (f g : Nat) (l l2 : Dr) (P : List Ch) (al : Ar) (h : Dk w b x f g l l2 P al) :
    Calls Tryz.prog 74 #[.pointer (some ⟨b, 0, none⟩)] w fun e w' => e = .returned (.tuple #[]) ∧ ∃ g', w.heap.size ≤ g' ∧ Dk w' b { x with lm := some g', pd := .slice none 0 0 } f g' l l [] al ∧ But (fun k => k = b) w w' := by
  refine (settle_any w b f (dcells x) l h.box rfl (by rw [← h.fm]; rfl) h.mf).mono ?_
  rintro e w' ⟨rfl, g', hg, mg, hc, hB⟩
  obtain ⟨n1, n2, n3, n4⟩ := h.noB
  refine ⟨rfl, g', hg, ⟨hc, h.fm, rfl, h.mf.but hB n1, mg, ?_, Pd.nil _, ?_, h.an, rfl, trivial, by simp, h.c0, h.c1⟩, hB⟩
  · have := h.mf.lt; omega
  · intro m e
    refine ⟨(h.am m e).1.but hB (n3 m e), (h.am m e).2.1, ?_⟩
    have := (h.am m e).1.lt
    omega
theorem cans_snoc {l : Dr} {P : List Ch} {c : Ch} (h : Cans l P) (hc : c.can (runs l P)) : Cans l (P ++ [c]) := by
  induction P generalizing l with
  | nil => exact ⟨hc, trivial⟩
  | cons d r ih => exact ⟨h.1, ih h.2 (by simpa [runs] using hc)⟩
theorem dk_change (w : World) (b : Nat) (x : Dc) (f g : Nat) (l l2 : Dr) (P : List Ch) (al : Ar) (c : Ch) (h : Dk w b x f g l l2 P al) (hc : c.ok) (hk : c.can l) (hl : l.length < maxLen) (hP : P.length < 1000000000) :
    Calls Tryz.prog 71 #[.pointer (some ⟨b, 0, none⟩), c.iface] w fun e w' => e = .returned (.tuple #[]) ∧ ∃ pd', Dk w' b { x with pd := pd' } f g (c.run l) l2 (P ++ [c]) al ∧ But (Own b x) w w' ∧ (∀ k, pd'.ownBlock = some k → x.pd.ownBlock = some k ∨ w.heap.size ≤ k) := by
  refine (change_any w b f (dcells x) l P x.pd c h.box (by rw [← h.fm]; rfl) rfl h.mf h.pd hc hk hl hP).mono ?_
  rintro e w' ⟨rfl, mf, pd', hp, hb, hB, ho⟩
  obtain ⟨n1, n2, n3, n4⟩ := h.noB
  refine ⟨rfl, pd', ⟨hb, h.fm, h.lm, mf, ?_, h.fg, hp, ?_, h.an, by rw [runs_snoc, ← h.run], cans_snoc h.can (by rw [← h.run]; exact hk), ?_, h.c0, h.c1⟩, hB.mono ?_, ho⟩
  · refine h.mg.but hB ?_
    rintro (q | q | q)
    · exact n2 q
    · exact h.fg q.symm
    · exact (h.noP g q).2.1 rfl
  · intro m e
    refine ⟨(h.am m e).1.but hB ?_, (h.am m e).2⟩
    rintro (q | q | q)
    · exact n3 m e q
    · exact (h.am m e).2.1 q
    · exact (h.noP m q).2.2 e
  · intro d hd
    rcases List.mem_append.1 hd with q | q
    · exact h.ok d q
    · rw [List.mem_singleton.1 q]; exact hc
  · rintro k _ (q | q | q)
    · exact .inl q
    · rw [q]; exact .inr (.inl h.fm)
    · exact .inr (.inr (.inr (.inl q)))
end Go.Proofs.YtjehpijjneghpaaGreat.Dk
namespace Go.Proofs.YtjehpijjneghpaaGreat.Dk
open Go.RowKit Go.Maps Go.Proofs.YtjehpijjneghpaaGreat.Nm
def nextF (x : Dc) (al : Ar) : Ft := (aget al (x.c7 + 1)).getD zf
structure Stp (w w' : World) (b : Nat) (x x' : Dc) : Prop where
  but : But (Own b x) w w'
  own : ∀ k, Own b x' k → Own b x k ∨ w.heap.size ≤ k
theorem Stp.of_below {w w' : World} {b : Nat} {x : Dc} (h : Below w.heap.size w w') : Stp w w' b x x := ⟨But.of_below h _, fun _ q => .inl q⟩
theorem Stp.trans {w u w' : World} {b : Nat} {x y z : Dc} (h : Stp w u b x y) (k : Stp u w' b y z) : Stp w w' b x z := by
  refine ⟨⟨k.but.os.trans h.but.os, k.but.tape.trans h.but.tape, k.but.output.trans h.but.output, Nat.le_trans h.but.size k.but.size, fun i hi hx => ?_⟩, fun i hi => ?_⟩
  · rw [k.but.block i (Nat.lt_of_lt_of_le hi h.but.size) (fun c => ?_)]
    · exact h.but.block i hi hx
    · rcases h.own i c with q | q
      · exact hx q
      · omega
  · rcases k.own i hi with q | q
    · exact h.own i q
    · exact .inr (Nat.le_trans h.but.size q)
theorem own_inc {b : Nat} {x : Dc} {j k : Nat} : Own b (inc x j) k ↔ Own b x k := by
  obtain ⟨e1, e2, e3, e4, e5, e6, e7, e8⟩ := inc_rest x j
  unfold Own
  rw [e3, e4, e5, e6]
theorem own_strX {b : Nat} {x : Dc} {t : Int} {k : Nat} : Own b (strX t x) k ↔ Own b x k := by
  obtain ⟨e3, e4, e5, e6, _⟩ := strX_rest t x
  unfold Own
  rw [e3, e4, e5, e6]
theorem Stp.inc {w w' : World} {b : Nat} {x : Dc} {j : Nat} (h : But (Own b x) w w') : Stp w w' b x (inc x j) := ⟨h, fun _ q => .inl (own_inc.1 q)⟩
theorem Stp.strX {w w' : World} {b : Nat} {x : Dc} {t : Int} (h : But (fun k => k = b) w w') : Stp w w' b x (strX t x) := ⟨h.mono fun _ _ e => .inl e, fun _ q => .inl (own_strX.1 q)⟩
theorem Stp.settle {w w' : World} {b g' : Nat} {x : Dc} (h : But (fun k => k = b) w w') (hg : w.heap.size ≤ g') : Stp w w' b x { x with lm := some g', pd := .slice none 0 0 } := by
  refine ⟨h.mono fun _ _ e => .inl e, ?_⟩
  rintro k (q | q | q | q | q)
  · exact .inl (.inl q)
  · exact .inl (.inr (.inl q))
  · simp at q; subst q; exact .inr hg
  · simp [Value.ownBlock] at q
  · exact .inl (.inr (.inr (.inr (.inr q))))
theorem Stp.change {w w' : World} {b : Nat} {x : Dc} {pd : Value} (h : But (Own b x) w w') (ho : ∀ k, pd.ownBlock = some k → x.pd.ownBlock = some k ∨ w.heap.size ≤ k) : Stp w w' b x { x with pd := pd } := by
  refine ⟨h, ?_⟩
  rintro k (q | q | q | q | q)
  · exact .inl (.inl q)
  · exact .inl (.inr (.inl q))
  · exact .inl (.inr (.inr (.inl q)))
  · rcases ho k q with r | r
    · exact .inl (.inr (.inr (.inr (.inl r))))
    · exact .inr r
  · exact .inl (.inr (.inr (.inr (.inr q))))
set_option maxHeartbeats 1000000 in
theorem syncDir_any (w : World) (b : Nat) (x : Dc) (f g : Nat) (l l2 : Dr) (P : List Ch) (al : Ar) (h : Dk w b x f g l l2 P al) (hc : x.c7 < 4611686018427387904) (hk : (nextF x al).2.1 ≠ 4) :
    Calls Tryz.prog 15 #[.pointer (some ⟨b, 0, none⟩)] w fun e w' =>
      (refF (some x) [] ≠ 0 ∧ e = .returned (.int .i64 (refF (some x) [])) ∧ Dk w' b x f g l l2 P al ∧ Stp w w' b x x) ∨
      (refF (some x) [] = 0 ∧ e = .returned (.int .i64 (strR (nextF x al).2.1)) ∧ ((strR (nextF x al).2.1 ≠ 0 ∧ Dk w' b (strX (nextF x al).2.1 (inc x 6)) f g l l2 P (adel al (x.c7 + 1)) ∧ Stp w w' b x (strX (nextF x al).2.1 (inc x 6))) ∨
        (strR (nextF x al).2.1 = 0 ∧ ∃ g', Dk w' b { strX (nextF x al).2.1 (inc x 6) with lm := some g', pd := .slice none 0 0 } f g' l l [] (adel al (x.c7 + 1)) ∧ Stp w w' b x { strX (nextF x al).2.1 (inc x 6) with lm := some g', pd := .slice none 0 0 }))) := by
  have hr := refuse_any w _ _ (some x) [] h.dp (row0 w) (by simp)
  obtain ⟨r, hR⟩ : ∃ r, Hid (refF (some x) [] = r) := ⟨_, rfl⟩
  rw [hR.out] at hr ⊢
  have H := hide h
  by_cases r0 : r = 0
  · subst r0
    have hb := begin_any w b x f g l l2 P al 6 (by omega) h hc
    rw [show (aget al (x.c7 + 1)).getD zf = nextF x al from rfl] at hb
    generalize nextF x al = t at *
    have hS : Hid (∀ u, Dk u b (inc x 6) f g l l2 P (adel al (x.c7 + 1)) → _) := fun u hu => dk_strikeR u b (inc x 6) f g l l2 P (adel al (x.c7 + 1)) t hu hk
    obtain ⟨s, hs⟩ : ∃ s, Hid (strR t.2.1 = s) := ⟨_, rfl⟩
    rw [hs.out] at hS ⊢
    by_cases s0 : s = 0
    · subst s0
      have hT : Hid (∀ u, Dk u b (strX t.2.1 (inc x 6)) f g l l2 P (adel al (x.c7 + 1)) → _) := fun u hu => dk_settle u b _ f g l l2 P _ hu
      clear h hk
      generalize hX : strX t.2.1 (inc x 6) = y at *
      replace hX := hide hX
      go_enter Tryz.func15, Tryz.ntmps15
      go_wp2_with (first
        | (go_at_call 68; refine hr.mono ?_; rintro e w1 ⟨rfl, e1⟩; subst w1)
        | (go_at_call 70; refine hb.mono ?_; rintro e w1 ⟨rfl, D1, B1⟩; replace D1 := hide D1; replace B1 := hide B1)
        | (go_at_call 73; refine (hS.out _ D1.out).mono ?_; rintro e w2 ⟨rfl, D2, B2⟩; replace D2 := hide D2; replace B2 := hide B2)
        | (go_at_call 74; refine (hT.out _ D2.out).mono ?_; rintro e w3 ⟨rfl, g', hg, D3, B3⟩; replace D3 := hide D3; replace B3 := hide B3; replace hg := hide hg))
      go_ret
      have T2 : Stp w1 w2 b (inc x 6) y := by rw [← hX.out]; exact Stp.strX B2.out
      exact .inr ⟨by trivial, rfl, .inr ⟨by trivial, g', D3.out, ((Stp.inc B1.out).trans T2).trans (Stp.settle B3.out hg.out)⟩⟩
    · have s0' : (s != 0) = true := by simpa using s0
      clear h hk
      generalize hX : strX t.2.1 (inc x 6) = y at *
      replace hX := hide hX
      replace s0 := hide s0
      go_enter Tryz.func15, Tryz.ntmps15
      go_wp2_with (first
        | (go_at_call 68; refine hr.mono ?_; rintro e w1 ⟨rfl, e1⟩; subst w1)
        | (go_at_call 70; refine hb.mono ?_; rintro e w1 ⟨rfl, D1, B1⟩; replace D1 := hide D1; replace B1 := hide B1)
        | (go_at_call 73; refine (hS.out _ D1.out).mono ?_; rintro e w2 ⟨rfl, D2, B2⟩; replace D2 := hide D2; replace B2 := hide B2))
      go_ret
      have T2 : Stp w1 w2 b (inc x 6) y := by rw [← hX.out]; exact Stp.strX B2.out
      exact .inr ⟨by trivial, rfl, .inl ⟨s0.out, D2.out, (Stp.inc B1.out).trans T2⟩⟩
  · have r0' : (r != 0) = true := by simpa using r0
    replace r0 := hide r0
    clear h hk hR
    go_enter Tryz.func15, Tryz.ntmps15
    go_wp2_with (go_at_call 68; refine hr.mono ?_; rintro e w1 ⟨rfl, e1⟩; subst w1)
    go_ret
    exact .inl ⟨r0.out, rfl, H.out, Stp.of_below (Below.refl _ _)⟩
end Go.Proofs.YtjehpijjneghpaaGreat.Dk
