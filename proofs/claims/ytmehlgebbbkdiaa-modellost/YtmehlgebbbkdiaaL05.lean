/-
  Apply, Half of the package. (gen_UmO.py)
-/
import Derived.Test.YtmehlgebbbkdiaaL04
import Derived.BigRegion
import Derived.BigQuiet
import Derived.Deep.RegionHeld3
import Derived.Deep.Cut
namespace Go.Proofs.Ytmehlgebbbkdiaa.Um
open Go.RowKit Go.Maps
open Ix (wp_region_T wpAnyT wpAnyT_take wpAnyT_one wpAnyT_done vac)
set_option linter.unusedVariables false
set_option linter.unusedSimpArgs false
set_option maxRecDepth 100000
/-- What Apply and Half answer. -/
def Said (w : World) (R : Option Md) (e : Ending) (w' : World) : Prop :=
  Below w.heap.size w w' ∧ ∃ (m' : Md) (ao : Option Addr) (L ca : Nat), m' = R.getD zeroS ∧ e = .returned (.tuple #[.agg #[.int .i64 m'.ba, .int .i64 m'.fi, .int .i64 m'.du, .int .i64 m'.nx, .int .i64 m'.li, .slice ao L ca, .bool m'.fa, .bool m'.cl], .bool R.isSome]) ∧ Own w.heap.size w' (.slice ao L ca) m'.rs
theorem Inv.i64 {b : Int} {m : Md} (h : Inv b m) : I64 m.nx ∧ I64 m.ba := by
  have := h.b1; have := h.ba; have := h.bf; have := h.fd; have := h.dn; have := h.nt
  unfold I64
  omega
theorem ok_fit {b : Int} {m m' : Md} (hl : m.rs.length < 900) (h : Ok b m m') : m'.rs.length ≤ 1000 ∧ ∀ d ∈ m'.rs, d.length ≤ 140737488355328 := by
  have := h.2.rs
  exact ⟨by omega, fun d hd => by have := h.1.dl4 d hd; omega⟩
set_option maxHeartbeats 1000000 in
theorem clos2 (w : World) {sb : Nat} {m : Md} (h : St sb w m) (c : Cl) (ao : Option Addr) (ca : Nat) (r : Rs) (bo : Option Addr) (cb : Nat) (hA : Ask sb w m c r ao bo ca cb) {pc pr : Nat} (h2 : w.heap[pc]? = some (.cells #[.int .i64 c.k, .int .i64 c.n, .slice ao c.d.length ca] 33 (0, 0))) (h3 : w.heap[pr]? = some (.cells #[.int .i64 r.e, .int .i64 r.n, .slice bo r.d.length cb] 35 (0, 0))) :
    Calls Try.prog 25 #[.pointer (some ⟨sb, 0, none⟩), .pointer (some ⟨pc, 0, none⟩), .pointer (some ⟨pr, 0, none⟩)] w fun e w' => Goes sb w (answerS m c r) e w' := by
  have AN := hide (answer_any w h c r ao bo ca cb hA)
  have x0 := cell_of (off := 0) h2
  have x1 := cell_of (off := 1) h2
  have x2 := cell_of (off := 2) h2
  have y0 := cell_of (off := 0) h3
  have y1 := cell_of (off := 1) h3
  have y2 := cell_of (off := 2) h3
  simp only [List.getElem?_toArray, List.getElem?_cons_zero, List.getElem?_cons_succ] at x0 x1 x2 y0 y1 y2
  obtain ⟨R, hR⟩ : ∃ R, Hid (answerS m c r = R) := ⟨_, rfl⟩
  rw [hR.out] at AN ⊢
  clear hR h h2 h3 hA
  cases R with
  | none =>
    go_enter Try.func25, Try.ntmps25
    go_wp2_with (go_at_call 26; refine AN.out.mono ?_; rintro e w3 ⟨g3, rfl⟩)
    exact ⟨rfl, Goes.none g3⟩
  | some m1 =>
    go_enter Try.func25, Try.ntmps25
    go_wp2_with (go_at_call 26; refine AN.out.mono ?_; rintro e w3 ⟨g3, rfl, s3⟩)
    first | go_end0 | refine bodyPost_ret (results_none rfl _ _ _) rfl ?_
    exact Goes.some g3 s3
set_option maxHeartbeats 1000000 in
theorem clos1 (w : World) {sb : Nat} {m : Md} (h : St sb w m) (c : Cl) (ao : Option Addr) (ca : Nat) (hA : Ask sb w m c ⟨0, 0, []⟩ ao none ca 0) {pc : Nat} (h2 : w.heap[pc]? = some (.cells #[.int .i64 c.k, .int .i64 c.n, .slice ao c.d.length ca] 33 (0, 0))) :
    Calls Try.prog 20 #[.pointer (some ⟨sb, 0, none⟩), .pointer (some ⟨pc, 0, none⟩)] w fun e w' => Goes sb w (takeS m c) e w' := by
  have AN := hide (take_any w h c ao ca hA)
  have x0 := cell_of (off := 0) h2
  have x1 := cell_of (off := 1) h2
  have x2 := cell_of (off := 2) h2
  simp only [List.getElem?_toArray, List.getElem?_cons_zero, List.getElem?_cons_succ] at x0 x1 x2
  obtain ⟨R, hR⟩ : ∃ R, Hid (takeS m c = R) := ⟨_, rfl⟩
  rw [hR.out] at AN ⊢
  clear hR h h2 hA
  cases R with
  | none =>
    go_enter Try.func20, Try.ntmps20
    go_wp2_with (go_at_call 21; refine AN.out.mono ?_; rintro e w3 ⟨g3, rfl⟩)
    exact ⟨rfl, Goes.none g3⟩
  | some m1 =>
    go_enter Try.func20, Try.ntmps20
    go_wp2_with (go_at_call 21; refine AN.out.mono ?_; rintro e w3 ⟨g3, rfl, s3⟩)
    first | go_end0 | refine bodyPost_ret (results_none rfl _ _ _) rfl ?_
    exact Goes.some g3 s3
set_option maxHeartbeats 4000000 in
theorem apply_any (w : World) {b : Int} (m : Md) (v : Value) (vs : List Value) (hr : Row w v vs) (hs : Sls w vs m.rs) (hI : Inv b m) (hl : m.rs.length < 900) (c : Cl) (hn : I64 c.n) (ao : Option Addr) (ca : Nat) (hcd : Sl w (.slice ao c.d.length ca) c.d) (r : Rs) (bo : Option Addr) (cb : Nat) (hrd : Sl w (.slice bo r.d.length cb) r.d) :
    Calls Try.prog 12 #[.agg #[.int .i64 m.ba, .int .i64 m.fi, .int .i64 m.du, .int .i64 m.nx, .int .i64 m.li, v, .bool m.fa, .bool m.cl], .agg #[.int .i64 c.k, .int .i64 c.n, .slice ao c.d.length ca], .agg #[.int .i64 r.e, .int .i64 r.n, .slice bo r.d.length cb]] w fun e w' => Said w (answerS m c r) e w' := by
  have hmf : ∀ (fn : Fn) (first cap : Array Value) (w : World), (Instr.makeFunc fn first cap).run Try.prog w = .ok (.func fn first cap) w := fun _ _ _ _ => rfl
  have FIT : Hid (∀ m', answerS m c r = some m' → m'.rs.length ≤ 1000 ∧ ∀ d ∈ m'.rs, d.length ≤ 140737488355328) := hide (fun m' e => ok_fit hl (answer_ok hI e))
  have hlen := hs.1
  have ix := hI.i64
  obtain ⟨so, sc, ev, -⟩ := id hr
  subst ev
  have AC : Hid (∀ sb u (pc pr : Nat), w.heap.size ≤ sb → Below w.heap.size w u → St sb u m → u.heap[pc]? = some (.cells #[.int .i64 c.k, .int .i64 c.n, .slice ao c.d.length ca] 33 (0, 0)) → u.heap[pr]? = some (.cells #[.int .i64 r.e, .int .i64 r.n, .slice bo r.d.length cb] 35 (0, 0)) → Calls Try.prog 25 #[.pointer (some ⟨sb, 0, none⟩), .pointer (some ⟨pc, 0, none⟩), .pointer (some ⟨pr, 0, none⟩)] u fun e w' => Goes sb u (answerS m c r) e w') := hide (fun sb u pc pr h1 h2 h3 h4 h5 =>
    clos2 u h3 c ao ca r bo cb ⟨ix.1, ix.2, by omega, hn, Sd.of hcd h2 h1, Sd.of hrd h2 h1⟩ h4 h5)
  have FO : Hid (∀ q, Below w.heap.size w q → ∀ (R : Option Md), R = answerS m c r → ∀ (x y : Value), (∀ sb u, q.heap.size ≤ sb → Below q.heap.size q u → St sb u m → Calls Try.prog 25 #[.pointer (some ⟨sb, 0, none⟩), x, y] u fun e w' => Goes sb u R e w') → Calls Try.prog 19 #[.agg #[.int .i64 m.ba, .int .i64 m.fi, .int .i64 m.du, .int .i64 m.nx, .int .i64 m.li, .slice so vs.length sc, .bool m.fa, .bool m.cl], .func (.func 25) #[] #[x, y]] q fun e w' => Ans q R e w') := hide (fun q hq R hR x y hc => by
    have := following2_any q m (.slice so vs.length sc) vs (Below.row hq hr) (Below.sls hq hs) x y R (fun m' e => FIT.out m' (by rw [← hR]; exact e)) hc
    exact this)
  clear FIT hr hs hI hl hn hcd hrd ix hlen
  obtain ⟨R, hR⟩ : ∃ R, Hid (R = answerS m c r) := ⟨_, rfl⟩
  rw [← hR.out] at AC ⊢
  have FO2 := hide (fun q hq => FO.out q hq R hR.out)
  clear hR FO
  obtain ⟨ba, fi, du, nx, li, rs, fa, cl⟩ := m
  obtain ⟨ck, cn, cd⟩ := c
  obtain ⟨re, rn, rd⟩ := r
  simp only at AC FO2 ⊢
  generalize vs.length = L at *
  generalize cd.length = LC at *
  generalize rd.length = LR at *
  have B0 := box_below w (.cells #[.int .i64 ba, .int .i64 fi, .int .i64 du, .int .i64 nx, .int .i64 li, .slice so L sc, .bool fa, .bool cl] 26)
  have N0 := heap_alloc_new w (.cells #[.int .i64 ba, .int .i64 fi, .int .i64 du, .int .i64 nx, .int .i64 li, .slice so L sc, .bool fa, .bool cl] 26)
  obtain ⟨w0, hw0⟩ : ∃ uu, Hid (w.alloc (.cells #[.int .i64 ba, .int .i64 fi, .int .i64 du, .int .i64 nx, .int .i64 li, .slice so L sc, .bool fa, .bool cl] 26) = uu) := ⟨_, rfl⟩
  have hz0 : w0.heap.size = w.heap.size + 1 := by rw [← hw0.out]; simp
  rw [hw0.out] at B0 N0
  have B1 := box_below w0 (.cells #[.int .i64 ck, .int .i64 cn, .slice ao LC ca] 33)
  have N1 := heap_alloc_new w0 (.cells #[.int .i64 ck, .int .i64 cn, .slice ao LC ca] 33)
  obtain ⟨w1, hw1⟩ : ∃ uu, Hid (w0.alloc (.cells #[.int .i64 ck, .int .i64 cn, .slice ao LC ca] 33) = uu) := ⟨_, rfl⟩
  have hz1 : w1.heap.size = w.heap.size + 2 := by rw [← hw1.out]; simp; omega
  rw [hw1.out] at B1 N1
  rw [hz0] at N1
  have B2 := box_below w1 (.cells #[.int .i64 re, .int .i64 rn, .slice bo LR cb] 35)
  have N2 := heap_alloc_new w1 (.cells #[.int .i64 re, .int .i64 rn, .slice bo LR cb] 35)
  obtain ⟨w2, hw2⟩ : ∃ uu, Hid (w1.alloc (.cells #[.int .i64 re, .int .i64 rn, .slice bo LR cb] 35) = uu) := ⟨_, rfl⟩
  have hz2 : w2.heap.size = w.heap.size + 3 := by rw [← hw2.out]; simp; omega
  rw [hw2.out] at B2 N2
  rw [hz1] at N2
  have B3 := box_below w2 (.cells zc 26)
  have N3 := heap_alloc_new w2 (.cells zc 26)
  obtain ⟨w3, hw3⟩ : ∃ uu, Hid (w2.alloc (.cells zc 26) = uu) := ⟨_, rfl⟩
  have hz3 : w3.heap.size = w.heap.size + 4 := by rw [← hw3.out]; simp; omega
  rw [hw3.out] at B3 N3
  rw [hz2] at N3
  have hB0 : Below w.heap.size w w0 := B0
  have hB1 : Below w.heap.size w w1 := hB0.trans ⟨B1.os, B1.tape, B1.output, B1.size, fun i hi => B1.block i (by omega)⟩
  have hB2 : Below w.heap.size w w2 := hB1.trans ⟨B2.os, B2.tape, B2.output, B2.size, fun i hi => B2.block i (by omega)⟩
  have hB3 : Below w.heap.size w w3 := hB2.trans ⟨B3.os, B3.tape, B3.output, B3.size, fun i hi => B3.block i (by omega)⟩
  have hB := hB3
  clear hB0 hB1 hB2 hB3
  have K0 := (B3.block _ (by omega)).trans ((B2.block _ (by omega)).trans ((B1.block _ (by omega)).trans (N0)))
  have K1 := (B3.block _ (by omega)).trans ((B2.block _ (by omega)).trans (N1))
  have K2 := (B3.block _ (by omega)).trans (N2)
  have FOL := hide (FO2.out w3 hB (.pointer (some ⟨w.heap.size + 1, 0, none⟩)) (.pointer (some ⟨w.heap.size + 2, 0, none⟩)) (fun sb u h1 h2 h3 => AC.out sb u _ _ (by omega) (hB.trans ⟨h2.os, h2.tape, h2.output, h2.size, fun k hk => h2.block k (by omega)⟩) h3 ((h2.block _ (by omega)).trans K1) ((h2.block _ (by omega)).trans K2)))
  clear FO2 AC
  obtain ⟨t0, t1, t2, t3, t4, t5, t6, t7⟩ := eight K0
  have EN : Hid (∀ w5 m' ao' L' ca', Below w3.heap.size w3 w5 → Own w3.heap.size w5 (.slice ao' L' ca') m'.rs → m' = R.getD zeroS → ∃ W, Hid (put8 w5 (w.heap.size + 1 + 1 + 1) (.int .i64 m'.ba) (.int .i64 m'.fi) (.int .i64 m'.du) (.int .i64 m'.nx) (.int .i64 m'.li) (.slice ao' L' ca') (.bool m'.fa) (.bool m'.cl) = W) ∧ w5.heap[w.heap.size + 1 + 1 + 1]? = some (.cells zc 26 (0, 0)) ∧ W.heap[w.heap.size + 1 + 1 + 1]? = some (.cells #[.int .i64 m'.ba, .int .i64 m'.fi, .int .i64 m'.du, .int .i64 m'.nx, .int .i64 m'.li, .slice ao' L' ca', .bool m'.fa, .bool m'.cl] 26 (0, 0)) ∧ Said w R (.returned (.tuple #[.agg #[.int .i64 m'.ba, .int .i64 m'.fi, .int .i64 m'.du, .int .i64 m'.nx, .int .i64 m'.li, .slice ao' L' ca', .bool m'.fa, .bool m'.cl], .bool R.isSome])) W) := hide (fun w5 m' ao' L' ca' hB5 hO hm => by
    have k5 := (hB5.block _ (by omega)).trans N3
    have P := put8_but w5 (w.heap.size + 1 + 1 + 1) (.int .i64 m'.ba) (.int .i64 m'.fi) (.int .i64 m'.du) (.int .i64 m'.nx) (.int .i64 m'.li) (.slice ao' L' ca') (.bool m'.fa) (.bool m'.cl)
    have hB6 : Below w.heap.size w w5 := hB.trans ⟨hB5.os, hB5.tape, hB5.output, hB5.size, fun k hk => hB5.block k (by omega)⟩
    exact ⟨_, hide rfl, k5, put8_heap k5 _ _ _ _ _ _ _ _, hB6.trans (P.below hB6.size (fun k hk => by omega)), m', ao', L', ca', hm, rfl, (hO.but P (fun k hk => by omega)).low (by omega)⟩)
  have hw' : Hid (((((w.alloc (.cells #[.int .i64 ba, .int .i64 fi, .int .i64 du, .int .i64 nx, .int .i64 li, .slice so L sc, .bool fa, .bool cl] 26)).alloc (.cells #[.int .i64 ck, .int .i64 cn, .slice ao LC ca] 33)).alloc (.cells #[.int .i64 re, .int .i64 rn, .slice bo LR cb] 35)).alloc (.cells zc 26)) = w3) := hide (by rw [hw0.out, hw1.out, hw2.out, hw3.out])
  unfold zc at hw'
  have hzz := hide hz3
  clear B0 N0 hw0 hz0 B1 N1 hw1 hz1 B2 N2 hw2 hz2 B3 N3 hw3 hz3 K0 K1 K2 hB
  go_enter Try.func12, Try.ntmps12
  go_upto_region 1 with fail
  rw [hw'.out]
  go_wp2_with (go_at_call 19; refine FOL.out.mono ?_; rintro e w5 ⟨B5, rv, rfl, O5⟩; obtain ⟨m', hm⟩ : ∃ m', Hid (m' = R.getD zeroS) := ⟨_, rfl⟩; rw [← hm.out] at O5; unfold cellsOf; rw [← hm.out]; obtain ⟨ro, rc, er⟩ := O5.form; subst er; generalize hLR' : m'.rs.length = L' at *; obtain ⟨W, hW, k1, k2, FIN⟩ := EN.out w5 m' ro L' rc B5 O5 hm.out; unfold put8 at hW; unfold zc at k1; obtain ⟨y0, y1, y2, y3, y4, y5, y6, y7⟩ := eight k1; have z0 := frz_of (off := 0) k1; have z1 := frz_of (off := 1) k1; have z2 := frz_of (off := 2) k1; have z3 := frz_of (off := 3) k1; have z4 := frz_of (off := 4) k1; have z5 := frz_of (off := 5) k1; have z6 := frz_of (off := 6) k1; have z7 := frz_of (off := 7) k1; replace k2 := hide k2; replace FIN := hide FIN; clear t0 t1 t2 t3 t4 t5 t6 t7 k1 O5 B5 FOL EN hLR')
  rw [hW.out]
  obtain ⟨m0, m1, m2, m3, m4, m5, m6, m7⟩ := eight k2.out
  clear y0 y1 y2 y3 y4 y5 y6 y7 z0 z1 z2 z3 z4 z5 z6 z7 hW
  refine bodyPost_ret (v := .tuple #[.agg #[.int .i64 m'.ba, .int .i64 m'.fi, .int .i64 m'.du, .int .i64 m'.nx, .int .i64 m'.li, .slice ro L' rc, .bool m'.fa, .bool m'.cl], .bool R.isSome]) (by simp [results, Try.results12, go_sem, m0, m1, m2, m3, m4, m5, m6, m7]) rfl ?_
  exact FIN.out
set_option maxHeartbeats 4000000 in
theorem half_any (w : World) {b : Int} (m : Md) (v : Value) (vs : List Value) (hr : Row w v vs) (hs : Sls w vs m.rs) (hI : Inv b m) (hl : m.rs.length < 900) (c : Cl) (hn : I64 c.n) (ao : Option Addr) (ca : Nat) (hcd : Sl w (.slice ao c.d.length ca) c.d) :
    Calls Try.prog 10 #[.agg #[.int .i64 m.ba, .int .i64 m.fi, .int .i64 m.du, .int .i64 m.nx, .int .i64 m.li, v, .bool m.fa, .bool m.cl], .agg #[.int .i64 c.k, .int .i64 c.n, .slice ao c.d.length ca]] w fun e w' => Said w (takeS m c) e w' := by
  have hmf : ∀ (fn : Fn) (first cap : Array Value) (w : World), (Instr.makeFunc fn first cap).run Try.prog w = .ok (.func fn first cap) w := fun _ _ _ _ => rfl
  have FIT : Hid (∀ m', takeS m c = some m' → m'.rs.length ≤ 1000 ∧ ∀ d ∈ m'.rs, d.length ≤ 140737488355328) := hide (fun m' e => ok_fit hl (take_ok hI e))
  have hlen := hs.1
  have ix := hI.i64
  obtain ⟨so, sc, ev, -⟩ := id hr
  subst ev
  have AC : Hid (∀ sb u (pc : Nat), w.heap.size ≤ sb → Below w.heap.size w u → St sb u m → u.heap[pc]? = some (.cells #[.int .i64 c.k, .int .i64 c.n, .slice ao c.d.length ca] 33 (0, 0)) → Calls Try.prog 20 #[.pointer (some ⟨sb, 0, none⟩), .pointer (some ⟨pc, 0, none⟩)] u fun e w' => Goes sb u (takeS m c) e w') := hide (fun sb u pc h1 h2 h3 h4 =>
    clos1 u h3 c ao ca ⟨ix.1, ix.2, by omega, hn, Sd.of hcd h2 h1, Sd.nil _ _⟩ h4)
  have FO : Hid (∀ q, Below w.heap.size w q → ∀ (R : Option Md), R = takeS m c → ∀ (x : Value), (∀ sb u, q.heap.size ≤ sb → Below q.heap.size q u → St sb u m → Calls Try.prog 20 #[.pointer (some ⟨sb, 0, none⟩), x] u fun e w' => Goes sb u R e w') → Calls Try.prog 19 #[.agg #[.int .i64 m.ba, .int .i64 m.fi, .int .i64 m.du, .int .i64 m.nx, .int .i64 m.li, .slice so vs.length sc, .bool m.fa, .bool m.cl], .func (.func 20) #[] #[x]] q fun e w' => Ans q R e w') := hide (fun q hq R hR x hc => by
    have := following1_any q m (.slice so vs.length sc) vs (Below.row hq hr) (Below.sls hq hs) x R (fun m' e => FIT.out m' (by rw [← hR]; exact e)) hc
    exact this)
  clear FIT hr hs hI hl hn hcd ix hlen
  obtain ⟨R, hR⟩ : ∃ R, Hid (R = takeS m c) := ⟨_, rfl⟩
  rw [← hR.out] at AC ⊢
  have FO2 := hide (fun q hq => FO.out q hq R hR.out)
  clear hR FO
  obtain ⟨ba, fi, du, nx, li, rs, fa, cl⟩ := m
  obtain ⟨ck, cn, cd⟩ := c
  
  simp only at AC FO2 ⊢
  generalize vs.length = L at *
  generalize cd.length = LC at *
  
  have B0 := box_below w (.cells #[.int .i64 ba, .int .i64 fi, .int .i64 du, .int .i64 nx, .int .i64 li, .slice so L sc, .bool fa, .bool cl] 26)
  have N0 := heap_alloc_new w (.cells #[.int .i64 ba, .int .i64 fi, .int .i64 du, .int .i64 nx, .int .i64 li, .slice so L sc, .bool fa, .bool cl] 26)
  obtain ⟨w0, hw0⟩ : ∃ uu, Hid (w.alloc (.cells #[.int .i64 ba, .int .i64 fi, .int .i64 du, .int .i64 nx, .int .i64 li, .slice so L sc, .bool fa, .bool cl] 26) = uu) := ⟨_, rfl⟩
  have hz0 : w0.heap.size = w.heap.size + 1 := by rw [← hw0.out]; simp
  rw [hw0.out] at B0 N0
  have B1 := box_below w0 (.cells #[.int .i64 ck, .int .i64 cn, .slice ao LC ca] 33)
  have N1 := heap_alloc_new w0 (.cells #[.int .i64 ck, .int .i64 cn, .slice ao LC ca] 33)
  obtain ⟨w1, hw1⟩ : ∃ uu, Hid (w0.alloc (.cells #[.int .i64 ck, .int .i64 cn, .slice ao LC ca] 33) = uu) := ⟨_, rfl⟩
  have hz1 : w1.heap.size = w.heap.size + 2 := by rw [← hw1.out]; simp; omega
  rw [hw1.out] at B1 N1
  rw [hz0] at N1
  have B2 := box_below w1 (.cells zc 26)
  have N2 := heap_alloc_new w1 (.cells zc 26)
  obtain ⟨w2, hw2⟩ : ∃ uu, Hid (w1.alloc (.cells zc 26) = uu) := ⟨_, rfl⟩
  have hz2 : w2.heap.size = w.heap.size + 3 := by rw [← hw2.out]; simp; omega
  rw [hw2.out] at B2 N2
  rw [hz1] at N2
  have hB0 : Below w.heap.size w w0 := B0
  have hB1 : Below w.heap.size w w1 := hB0.trans ⟨B1.os, B1.tape, B1.output, B1.size, fun i hi => B1.block i (by omega)⟩
  have hB2 : Below w.heap.size w w2 := hB1.trans ⟨B2.os, B2.tape, B2.output, B2.size, fun i hi => B2.block i (by omega)⟩
  have hB := hB2
  clear hB0 hB1 hB2
  have K0 := (B2.block _ (by omega)).trans ((B1.block _ (by omega)).trans (N0))
  have K1 := (B2.block _ (by omega)).trans (N1)
  have FOL := hide (FO2.out w2 hB (.pointer (some ⟨w.heap.size + 1, 0, none⟩)) (fun sb u h1 h2 h3 => AC.out sb u _ (by omega) (hB.trans ⟨h2.os, h2.tape, h2.output, h2.size, fun k hk => h2.block k (by omega)⟩) h3 ((h2.block _ (by omega)).trans K1)))
  clear FO2 AC
  obtain ⟨t0, t1, t2, t3, t4, t5, t6, t7⟩ := eight K0
  have EN : Hid (∀ w5 m' ao' L' ca', Below w2.heap.size w2 w5 → Own w2.heap.size w5 (.slice ao' L' ca') m'.rs → m' = R.getD zeroS → ∃ W, Hid (put8 w5 (w.heap.size + 1 + 1) (.int .i64 m'.ba) (.int .i64 m'.fi) (.int .i64 m'.du) (.int .i64 m'.nx) (.int .i64 m'.li) (.slice ao' L' ca') (.bool m'.fa) (.bool m'.cl) = W) ∧ w5.heap[w.heap.size + 1 + 1]? = some (.cells zc 26 (0, 0)) ∧ W.heap[w.heap.size + 1 + 1]? = some (.cells #[.int .i64 m'.ba, .int .i64 m'.fi, .int .i64 m'.du, .int .i64 m'.nx, .int .i64 m'.li, .slice ao' L' ca', .bool m'.fa, .bool m'.cl] 26 (0, 0)) ∧ Said w R (.returned (.tuple #[.agg #[.int .i64 m'.ba, .int .i64 m'.fi, .int .i64 m'.du, .int .i64 m'.nx, .int .i64 m'.li, .slice ao' L' ca', .bool m'.fa, .bool m'.cl], .bool R.isSome])) W) := hide (fun w5 m' ao' L' ca' hB5 hO hm => by
    have k5 := (hB5.block _ (by omega)).trans N2
    have P := put8_but w5 (w.heap.size + 1 + 1) (.int .i64 m'.ba) (.int .i64 m'.fi) (.int .i64 m'.du) (.int .i64 m'.nx) (.int .i64 m'.li) (.slice ao' L' ca') (.bool m'.fa) (.bool m'.cl)
    have hB6 : Below w.heap.size w w5 := hB.trans ⟨hB5.os, hB5.tape, hB5.output, hB5.size, fun k hk => hB5.block k (by omega)⟩
    exact ⟨_, hide rfl, k5, put8_heap k5 _ _ _ _ _ _ _ _, hB6.trans (P.below hB6.size (fun k hk => by omega)), m', ao', L', ca', hm, rfl, (hO.but P (fun k hk => by omega)).low (by omega)⟩)
  have hw' : Hid ((((w.alloc (.cells #[.int .i64 ba, .int .i64 fi, .int .i64 du, .int .i64 nx, .int .i64 li, .slice so L sc, .bool fa, .bool cl] 26)).alloc (.cells #[.int .i64 ck, .int .i64 cn, .slice ao LC ca] 33)).alloc (.cells zc 26)) = w2) := hide (by rw [hw0.out, hw1.out, hw2.out])
  unfold zc at hw'
  have hzz := hide hz2
  clear B0 N0 hw0 hz0 B1 N1 hw1 hz1 B2 N2 hw2 hz2 K0 K1 hB
  go_enter Try.func10, Try.ntmps10
  go_upto_region 1 with fail
  rw [hw'.out]
  go_wp2_with (go_at_call 19; refine FOL.out.mono ?_; rintro e w5 ⟨B5, rv, rfl, O5⟩; obtain ⟨m', hm⟩ : ∃ m', Hid (m' = R.getD zeroS) := ⟨_, rfl⟩; rw [← hm.out] at O5; unfold cellsOf; rw [← hm.out]; obtain ⟨ro, rc, er⟩ := O5.form; subst er; generalize hLR' : m'.rs.length = L' at *; obtain ⟨W, hW, k1, k2, FIN⟩ := EN.out w5 m' ro L' rc B5 O5 hm.out; unfold put8 at hW; unfold zc at k1; obtain ⟨y0, y1, y2, y3, y4, y5, y6, y7⟩ := eight k1; have z0 := frz_of (off := 0) k1; have z1 := frz_of (off := 1) k1; have z2 := frz_of (off := 2) k1; have z3 := frz_of (off := 3) k1; have z4 := frz_of (off := 4) k1; have z5 := frz_of (off := 5) k1; have z6 := frz_of (off := 6) k1; have z7 := frz_of (off := 7) k1; replace k2 := hide k2; replace FIN := hide FIN; clear t0 t1 t2 t3 t4 t5 t6 t7 k1 O5 B5 FOL EN hLR')
  rw [hW.out]
  obtain ⟨m0, m1, m2, m3, m4, m5, m6, m7⟩ := eight k2.out
  clear y0 y1 y2 y3 y4 y5 y6 y7 z0 z1 z2 z3 z4 z5 z6 z7 hW
  refine bodyPost_ret (v := .tuple #[.agg #[.int .i64 m'.ba, .int .i64 m'.fi, .int .i64 m'.du, .int .i64 m'.nx, .int .i64 m'.li, .slice ro L' rc, .bool m'.fa, .bool m'.cl], .bool R.isSome]) (by simp [results, Try.results10, go_sem, m0, m1, m2, m3, m4, m5, m6, m7]) rfl ?_
  exact FIN.out
end Go.Proofs.Ytmehlgebbbkdiaa.Um

/-
  New of the package; slices.EqualFunc of records; Same.
-/
namespace Go.Proofs.Ytmehlgebbbkdiaa.Um
open Go.RowKit Go.Maps
set_option linter.unusedVariables false
set_option linter.unusedSimpArgs false
set_option maxRecDepth 100000
theorem new_any (w : World) (b : Int) (hb : 1 ≤ b) : Calls Try.prog 7 #[.int .i64 b] w fun e w' => e = .returned (.tuple #[.agg #[.int .i64 b, .int .i64 b, .int .i64 b, .int .i64 b, .int .i64 9223372036854775807, .slice none 0 0, .bool false, .bool false], .int .i64 0]) ∧ Below w.heap.size w w' := by
  have k1 : decide (b < 1) = false := by simp; omega
  have B1 := hide (box_below w (.cells zc 26))
  have N1 := heap_alloc_new w (.cells zc 26)
  obtain ⟨w1, hw1⟩ : ∃ w1, Hid (w.alloc (.cells zc 26) = w1) := ⟨_, rfl⟩
  rw [hw1.out] at B1 N1
  have P := put8_but w1 w.heap.size (.int .i64 b) (.int .i64 b) (.int .i64 b) (.int .i64 b) (.int .i64 9223372036854775807) (.slice none 0 0) (.bool false) (.bool false)
  have H := put8_heap N1 (.int .i64 b) (.int .i64 b) (.int .i64 b) (.int .i64 b) (.int .i64 9223372036854775807) (.slice none 0 0) (.bool false) (.bool false)
  obtain ⟨W, hW⟩ : ∃ W, Hid (put8 w1 w.heap.size (.int .i64 b) (.int .i64 b) (.int .i64 b) (.int .i64 b) (.int .i64 9223372036854775807) (.slice none 0 0) (.bool false) (.bool false) = W) := ⟨_, rfl⟩
  rw [hW.out] at P H
  have FIN : Hid (Below w.heap.size w W) := hide (B1.out.trans (P.below B1.out.size (fun k hk => by omega)))
  unfold put8 at hW
  unfold zc at hw1 N1
  obtain ⟨y0, y1, y2, y3, y4, y5, y6, y7⟩ := eight N1
  have z0 := frz_of (off := 0) N1
  have z1 := frz_of (off := 1) N1
  have z2 := frz_of (off := 2) N1
  have z3 := frz_of (off := 3) N1
  have z4 := frz_of (off := 4) N1
  have z5 := frz_of (off := 5) N1
  have z6 := frz_of (off := 6) N1
  have z7 := frz_of (off := 7) N1
  have H' := hide H
  clear P H N1 B1
  go_enter Try.func7, Try.ntmps7
  go_upto_region 1 with fail
  rw [hw1.out]
  go_wp2_with fail
  rw [hW.out]
  obtain ⟨m0, m1, m2, m3, m4, m5, m6, m7⟩ := eight H'.out
  refine bodyPost_ret (v := .tuple #[.agg #[.int .i64 b, .int .i64 b, .int .i64 b, .int .i64 b, .int .i64 9223372036854775807, .slice none 0 0, .bool false, .bool false], .int .i64 0]) (by simp [results, Try.results7, go_sem, m0, m1, m2, m3, m4, m5, m6, m7]) rfl ?_
  exact ⟨rfl, FIN.out⟩
/-- A list of rows as one reads it: its form, and each row. -/
theorem rows_at {w : World} {v : Value} {vs : List Value} {ls : List (List UInt8)} (hr : Row w v vs) (hs : Sls w vs ls) : ∃ ao cap, v = .slice ao ls.length cap ∧ (ls.length : Int) ≤ (cap : Int) ∧ (cap : Int) ≤ 9223372036854775807 ∧ ∀ i (h : i < ls.length), ∃ b off x, ao = some ⟨b, off, none⟩ ∧ w.cell? ⟨b, off + i, none⟩ = some x ∧ Sl w x ls[i] := by
  obtain ⟨ao, cap, rfl, _, hlc, hm, hat⟩ := hr
  refine ⟨ao, cap, by rw [hs.1], by have := hs.1; omega, by unfold maxLen at hm; omega, fun i h => ?_⟩
  obtain ⟨b, off, e, hc⟩ := hat i (by rw [hs.1]; exact h)
  exact ⟨b, off, _, e, hc, hs.2 i (by rw [hs.1]; exact h) h⟩
set_option maxHeartbeats 1000000 in
theorem eqfunc_any (w : World) (v v' : Value) (vs vs' : List Value) (ls ms : List (List UInt8)) (hr : Row w v vs) (hs : Sls w vs ls) (hr' : Row w v' vs') (hs' : Sls w vs' ms) :
    Calls Try.prog 29 #[v, v', .func (.func 30) #[] #[]] w fun e w' => e = .returned (.bool (decide (ls = ms))) ∧ w' = w := by
  obtain ⟨ao, ca, rfl, q0, q1, hc⟩ := rows_at hr hs
  obtain ⟨ao', ca', rfl, q0', q1', hc'⟩ := rows_at hr' hs'
  have HC := hide hc
  have HC' := hide hc'
  clear hc hc' hr hs hr' hs'
  by_cases hlm : ls.length = ms.length
  · have HS : Hid (∀ P : Prop, (P ↔ ∀ i (h : i < ls.length) (h' : i < ms.length), ls[i] = ms[i]) → (P ↔ ls = ms)) := hide fun P hP => by
      rw [hP]
      exact ⟨fun h => List.ext_getElem hlm h, fun h => by subst h; intro i a b; rfl⟩
    obtain ⟨N, hN⟩ : ∃ N, Hid (ls.length = N) := ⟨_, rfl⟩
    have hM : Hid (ms.length = N) := hide (by rw [← hlm]; exact hN.out)
    rw [hN.out] at q0
    rw [hM.out] at q0'
    rw [hN.out, hM.out]
    clear hlm
    go_enter Try.func29, Try.ntmps29
    go_wp2_with fail
    go_loopw [17] (fun v17 wr => ∃ i : Nat, i ≤ N ∧ v17 = .int .i64 (i : Int) ∧ Hid (∀ j (h : j < ls.length) (h' : j < ms.length), j < i → ls[j] = ms[j]) ∧ wr = w) (fun v _ => N - (intOf v).toNat)
    case atStart => exact ⟨0, by omega, rfl, fun j _ _ hj => by omega, rfl⟩
    case round =>
      obtain ⟨i, hi, rfl, hf, hwr⟩ := hrel
      subst hwr
      by_cases hin : i = N
      · subst hin
        have FIN : Hid (decide (ls = ms) = true) := hide (by
          simp only [decide_eq_true_eq]
          exact (HS.out _ Iff.rfl).1 (fun j a b => hf.out j a b (by rw [← hN.out]; exact a)))
        go_wp2
        go_ret
        exact ⟨by rw [FIN.out] <;> rfl, rfl⟩
      · have hil : i < N := by omega
        obtain ⟨bb, off, x, rfl, hcx, hx⟩ := HC.out i (by rw [hN.out]; exact hil)
        obtain ⟨bb', off', y, rfl, hcy, hy⟩ := HC'.out i (by rw [hM.out]; exact hil)
        have i1 : (i : Int) < (N : Int) := by omega
        have i2 : (0 : Int) ≤ (i : Int) := by omega
        have hS := hide (equal_any wr x y _ _ hx hy)
        by_cases hk : ls[i]'(by rw [hN.out]; exact hil) = ms[i]'(by rw [hM.out]; exact hil)
        · rw [decide_eq_true hk] at hS
          obtain ⟨xo, xc, rfl, _⟩ := hx
          obtain ⟨yo, yc, rfl, _⟩ := hy
          have hn := hide hk
          clear hk
          go_wp2_with (go_at_call 30; refine hS.out.mono ?_; rintro e w' ⟨rfl, hw⟩; rw [hw]; clear hw w')
          go_roundw
          case rel => exact ⟨i + 1, by omega, by go_num, fun j a b hj => by
            by_cases e : j = i
            · subst e; exact hn.out
            · exact hf.out j a b (by omega), by trivial⟩
          case measure => simp [intOf]; omega
        · rw [decide_eq_false hk] at hS
          have FIN : Hid (decide (ls = ms) = false) := hide (by
            simp only [decide_eq_false_iff_not]
            intro h
            subst h
            exact hk rfl)
          obtain ⟨xo, xc, rfl, _⟩ := hx
          obtain ⟨yo, yc, rfl, _⟩ := hy
          clear hk
          go_wp2_with (go_at_call 30; refine hS.out.mono ?_; rintro e w' ⟨rfl, hw⟩; rw [hw]; clear hw w')
          go_ret
          exact ⟨by rw [FIN.out] <;> rfl, rfl⟩
  · have FIN : Hid (decide (ls = ms) = false) := hide (by
      simp only [decide_eq_false_iff_not]
      intro h
      exact hlm (by rw [h]))
    have k : ((ls.length : Int) == (ms.length : Int)) = false := by simp; omega
    have k' : ¬ ls.length = ms.length := hlm
    go_enter Try.func29, Try.ntmps29
    go_wp2_with fail
    go_ret
    exact ⟨by rw [FIN.out] <;> rfl, rfl⟩
end Go.Proofs.Ytmehlgebbbkdiaa.Um

/-
  Same of the package. (gen_UmQ.py)
-/
namespace Go.Proofs.Ytmehlgebbbkdiaa.Um
open Go.RowKit Go.Maps
open Ix (wp_region_T wpAnyT wpAnyT_take wpAnyT_one wpAnyT_done vac)
set_option linter.unusedVariables false
set_option linter.unusedSimpArgs false
set_option maxRecDepth 100000
def sameB (a b : Md) : Bool := decide (a.ba = b.ba ∧ a.fi = b.fi ∧ a.du = b.du ∧ a.nx = b.nx ∧ a.li = b.li ∧ a.fa = b.fa ∧ a.cl = b.cl ∧ a.rs = b.rs)
set_option maxHeartbeats 8000000 in
theorem same_any (w : World) (a b : Md) (v v' : Value) (vs vs' : List Value) (hr : Row w v vs) (hs : Sls w vs a.rs) (hr' : Row w v' vs') (hs' : Sls w vs' b.rs) :
    Calls Try.prog 15 #[.agg #[.int .i64 a.ba, .int .i64 a.fi, .int .i64 a.du, .int .i64 a.nx, .int .i64 a.li, v, .bool a.fa, .bool a.cl], .agg #[.int .i64 b.ba, .int .i64 b.fi, .int .i64 b.du, .int .i64 b.nx, .int .i64 b.li, v', .bool b.fa, .bool b.cl]] w fun e w' => e = .returned (.bool (sameB a b)) ∧ Below w.heap.size w w' := by
  have EQ : Hid (∀ q, Below w.heap.size w q → Calls Try.prog 29 #[v, v', .func (.func 30) #[] #[]] q fun e w' => e = .returned (.bool (decide (a.rs = b.rs))) ∧ w' = q) := hide (fun q hq => eqfunc_any q v v' vs vs' a.rs b.rs (Below.row hq hr) (Below.sls hq hs) (Below.row hq hr') (Below.sls hq hs'))
  obtain ⟨so, sc, ev, -⟩ := id hr
  subst ev
  obtain ⟨so', sc', ev, -⟩ := id hr'
  subst ev
  generalize vs.length = L at *
  generalize vs'.length = L' at *
  have B0 := box_below w (.cells #[.int .i64 a.ba, .int .i64 a.fi, .int .i64 a.du, .int .i64 a.nx, .int .i64 a.li, .slice so L sc, .bool a.fa, .bool a.cl] 26)
  have N0 := heap_alloc_new w (.cells #[.int .i64 a.ba, .int .i64 a.fi, .int .i64 a.du, .int .i64 a.nx, .int .i64 a.li, .slice so L sc, .bool a.fa, .bool a.cl] 26)
  obtain ⟨w0, hw0⟩ : ∃ uu, Hid (w.alloc (.cells #[.int .i64 a.ba, .int .i64 a.fi, .int .i64 a.du, .int .i64 a.nx, .int .i64 a.li, .slice so L sc, .bool a.fa, .bool a.cl] 26) = uu) := ⟨_, rfl⟩
  have hz0 : w0.heap.size = w.heap.size + 1 := by rw [← hw0.out]; simp
  rw [hw0.out] at B0 N0
  have B1 := box_below w0 (.cells #[.int .i64 b.ba, .int .i64 b.fi, .int .i64 b.du, .int .i64 b.nx, .int .i64 b.li, .slice so' L' sc', .bool b.fa, .bool b.cl] 26)
  have N1 := heap_alloc_new w0 (.cells #[.int .i64 b.ba, .int .i64 b.fi, .int .i64 b.du, .int .i64 b.nx, .int .i64 b.li, .slice so' L' sc', .bool b.fa, .bool b.cl] 26)
  obtain ⟨w1, hw1⟩ : ∃ uu, Hid (w0.alloc (.cells #[.int .i64 b.ba, .int .i64 b.fi, .int .i64 b.du, .int .i64 b.nx, .int .i64 b.li, .slice so' L' sc', .bool b.fa, .bool b.cl] 26) = uu) := ⟨_, rfl⟩
  rw [hw1.out] at B1 N1
  rw [hz0] at N1
  have K0 := (B1.block _ (by omega)).trans N0
  have hB : Below w.heap.size w w1 := B0.trans ⟨B1.os, B1.tape, B1.output, B1.size, fun i hi => B1.block i (by omega)⟩
  have EQ1 := hide (EQ.out w1 hB)
  have hB := hide hB
  obtain ⟨x0, x1, x2, x3, x4, x5, x6, x7⟩ := eight K0
  obtain ⟨y0, y1, y2, y3, y4, y5, y6, y7⟩ := eight N1
  have hw' : Hid ((w.alloc (.cells #[.int .i64 a.ba, .int .i64 a.fi, .int .i64 a.du, .int .i64 a.nx, .int .i64 a.li, .slice so L sc, .bool a.fa, .bool a.cl] 26)).alloc (.cells #[.int .i64 b.ba, .int .i64 b.fi, .int .i64 b.du, .int .i64 b.nx, .int .i64 b.li, .slice so' L' sc', .bool b.fa, .bool b.cl] 26) = w1) := hide (by rw [hw0.out, hw1.out])
  clear EQ B0 N0 B1 N1 K0 hw0 hw1 hr hs hr' hs' hz0
  obtain ⟨ea, hea⟩ : ∃ e, Hid (decide (a.rs = b.rs) = e) := ⟨_, rfl⟩
  rw [hea.out] at EQ1
  have SB : Hid (sameB a b = (decide (a.ba = b.ba) && decide (a.fi = b.fi) && decide (a.du = b.du) && decide (a.nx = b.nx) && decide (a.li = b.li) && decide (a.fa = b.fa) && decide (a.cl = b.cl) && ea)) := hide (by
    rw [← hea.out]
    unfold sameB
    simp only [Bool.decide_and, Bool.and_assoc])
  rw [SB.out]
  obtain ⟨aba, afi, adu, anx, ali, ars, afa, acl⟩ := a
  obtain ⟨bba, bfi, bdu, bnx, bli, brs, bfa, bcl⟩ := b
  simp only at *
  clear SB hea
  by_cases hba : aba = bba
  case neg =>
    have kba : (aba == bba) = false := by simpa using hba
    go_enter Try.func15, Try.ntmps15
    go_upto_region 1 with fail
    rw [hw'.out]
    go_wp2_with (go_at_call 29; refine EQ1.out.mono ?_; rintro e w' ⟨rfl, hw⟩; rw [hw]; clear hw w')
    go_ret
    exact ⟨by simp [hba], hB.out⟩
  subst hba
  by_cases hfi : afi = bfi
  case neg =>
    have kfi : (afi == bfi) = false := by simpa using hfi
    go_enter Try.func15, Try.ntmps15
    go_upto_region 1 with fail
    rw [hw'.out]
    go_wp2_with (go_at_call 29; refine EQ1.out.mono ?_; rintro e w' ⟨rfl, hw⟩; rw [hw]; clear hw w')
    go_ret
    exact ⟨by simp [hfi], hB.out⟩
  subst hfi
  by_cases hdu : adu = bdu
  case neg =>
    have kdu : (adu == bdu) = false := by simpa using hdu
    go_enter Try.func15, Try.ntmps15
    go_upto_region 1 with fail
    rw [hw'.out]
    go_wp2_with (go_at_call 29; refine EQ1.out.mono ?_; rintro e w' ⟨rfl, hw⟩; rw [hw]; clear hw w')
    go_ret
    exact ⟨by simp [hdu], hB.out⟩
  subst hdu
  by_cases hnx : anx = bnx
  case neg =>
    have knx : (anx == bnx) = false := by simpa using hnx
    go_enter Try.func15, Try.ntmps15
    go_upto_region 1 with fail
    rw [hw'.out]
    go_wp2_with (go_at_call 29; refine EQ1.out.mono ?_; rintro e w' ⟨rfl, hw⟩; rw [hw]; clear hw w')
    go_ret
    exact ⟨by simp [hnx], hB.out⟩
  subst hnx
  by_cases hli : ali = bli
  case neg =>
    have kli : (ali == bli) = false := by simpa using hli
    go_enter Try.func15, Try.ntmps15
    go_upto_region 1 with fail
    rw [hw'.out]
    go_wp2_with (go_at_call 29; refine EQ1.out.mono ?_; rintro e w' ⟨rfl, hw⟩; rw [hw]; clear hw w')
    go_ret
    exact ⟨by simp [hli], hB.out⟩
  subst hli
  by_cases hfa : afa = bfa
  case neg =>
    have kfa : (afa == bfa) = false := by simpa using hfa
    go_enter Try.func15, Try.ntmps15
    go_upto_region 1 with fail
    rw [hw'.out]
    go_wp2_with (go_at_call 29; refine EQ1.out.mono ?_; rintro e w' ⟨rfl, hw⟩; rw [hw]; clear hw w')
    go_ret
    exact ⟨by simp [hfa], hB.out⟩
  subst hfa
  by_cases hcl : acl = bcl
  case neg =>
    have kcl : (acl == bcl) = false := by simpa using hcl
    go_enter Try.func15, Try.ntmps15
    go_upto_region 1 with fail
    rw [hw'.out]
    go_wp2_with (go_at_call 29; refine EQ1.out.mono ?_; rintro e w' ⟨rfl, hw⟩; rw [hw]; clear hw w')
    go_ret
    exact ⟨by simp [hcl], hB.out⟩
  subst hcl
  go_enter Try.func15, Try.ntmps15
  go_upto_region 1 with fail
  rw [hw'.out]
  go_wp2_with (go_at_call 29; refine EQ1.out.mono ?_; rintro e w' ⟨rfl, hw⟩; rw [hw]; clear hw w')
  go_ret
  exact ⟨by simp, hB.out⟩
end Go.Proofs.Ytmehlgebbbkdiaa.Um

/-
  A state in a box; begun.
-/
namespace Go.Proofs.Ytmehlgebbbkdiaa.Um
open Go.RowKit Go.Maps
set_option linter.unusedVariables false
set_option linter.unusedSimpArgs false
set_option maxRecDepth 100000
/-- Records that can be read. -/
def Rd2 (w : World) (v : Value) (m : Md) : Prop := ∃ vs, Row w v vs ∧ Sls w vs m.rs
theorem Rd2.below {w w' : World} {v : Value} {m : Md} (h : Rd2 w v m) (hb : Below w.heap.size w w') : Rd2 w' v m := by
  obtain ⟨vs, h1, h2⟩ := h
  exact ⟨vs, Below.row hb h1, Below.sls hb h2⟩
theorem Own.rd2 {B : Nat} {w : World} {v : Value} {m : Md} (h : Own B w v m.rs) : Rd2 w v m := h.read
theorem rd2_nil (w : World) (m : Md) (hm : m.rs = []) : Rd2 w (.slice none 0 0) m := ⟨[], Row.nil w, by rw [hm]; exact ⟨rfl, fun i h => by simp at h⟩⟩
theorem Rd2.form {w : World} {v : Value} {m : Md} (h : Rd2 w v m) : ∃ ao ca, v = .slice ao m.rs.length ca := by
  obtain ⟨vs, ⟨ao, ca, rfl, _⟩, h2⟩ := h
  exact ⟨ao, ca, by rw [h2.1]⟩
/-- In the box b lies the state m. -/
def Bm (w : World) (b : Nat) (m : Md) : Prop := ∃ ao ca, w.heap[b]? = some (.cells #[.int .i64 m.ba, .int .i64 m.fi, .int .i64 m.du, .int .i64 m.nx, .int .i64 m.li, .slice ao m.rs.length ca, .bool m.fa, .bool m.cl] 26 (0, 0)) ∧ Rd2 w (.slice ao m.rs.length ca) m
theorem Bm.lt {w : World} {b : Nat} {m : Md} (h : Bm w b m) : b < w.heap.size := by
  obtain ⟨ao, ca, h1, _⟩ := h
  exact heap_lt h1
theorem Bm.below {w w' : World} {b : Nat} {m : Md} (h : Bm w b m) (hb : Below w.heap.size w w') : Bm w' b m := by
  obtain ⟨ao, ca, h1, h2⟩ := h
  exact ⟨ao, ca, (hb.block b (heap_lt h1)).trans h1, h2.below hb⟩
theorem Bm.new {w : World} {m : Md} {ao : Option Addr} {L ca : Nat} (h : Rd2 w (.slice ao L ca) m) : Bm (w.alloc (.cells #[.int .i64 m.ba, .int .i64 m.fi, .int .i64 m.du, .int .i64 m.nx, .int .i64 m.li, .slice ao L ca, .bool m.fa, .bool m.cl] 26)) w.heap.size m := by
  obtain ⟨ao', ca', e⟩ := h.form
  simp only [Value.slice.injEq] at e
  obtain ⟨rfl, rfl, rfl⟩ := e
  exact ⟨ao, ca, heap_alloc_new w _, h.below (box_below w _)⟩
/-- What is read there. -/
theorem Bm.cells {w : World} {b : Nat} {m : Md} (h : Bm w b m) : ∃ ao ca, Rd2 w (.slice ao m.rs.length ca) m ∧ w.cell? ⟨b, 0, none⟩ = some (.int .i64 m.ba) ∧ w.cell? ⟨b, 1, none⟩ = some (.int .i64 m.fi) ∧ w.cell? ⟨b, 2, none⟩ = some (.int .i64 m.du) ∧ w.cell? ⟨b, 3, none⟩ = some (.int .i64 m.nx) ∧ w.cell? ⟨b, 4, none⟩ = some (.int .i64 m.li) ∧ w.cell? ⟨b, 5, none⟩ = some (.slice ao m.rs.length ca) ∧ w.cell? ⟨b, 6, none⟩ = some (.bool m.fa) ∧ w.cell? ⟨b, 7, none⟩ = some (.bool m.cl) := by
  obtain ⟨ao, ca, h1, h2⟩ := h
  exact ⟨ao, ca, h2, eight h1⟩
/-- Apply, of a state that is read. -/
theorem apply_rd {w : World} {b : Int} {m : Md} {ao : Option Addr} {L ca : Nat} (h : Rd2 w (.slice ao L ca) m) (hI : Inv b m) (hl : m.rs.length < 900) (c : Cl) (hn : I64 c.n) (co : Option Addr) (cc : Nat) (hcd : Sl w (.slice co c.d.length cc) c.d) (r : Rs) (ro : Option Addr) (rc : Nat) (hrd : Sl w (.slice ro r.d.length rc) r.d) :
    Calls Try.prog 12 #[.agg #[.int .i64 m.ba, .int .i64 m.fi, .int .i64 m.du, .int .i64 m.nx, .int .i64 m.li, .slice ao L ca, .bool m.fa, .bool m.cl], .agg #[.int .i64 c.k, .int .i64 c.n, .slice co c.d.length cc], .agg #[.int .i64 r.e, .int .i64 r.n, .slice ro r.d.length rc]] w fun e w' => Said w (answerS m c r) e w' := by
  obtain ⟨vs, h1, h2⟩ := h
  exact apply_any w m _ vs h1 h2 hI hl c hn co cc hcd r ro rc hrd
theorem half_rd {w : World} {b : Int} {m : Md} {ao : Option Addr} {L ca : Nat} (h : Rd2 w (.slice ao L ca) m) (hI : Inv b m) (hl : m.rs.length < 900) (c : Cl) (hn : I64 c.n) (co : Option Addr) (cc : Nat) (hcd : Sl w (.slice co c.d.length cc) c.d) :
    Calls Try.prog 10 #[.agg #[.int .i64 m.ba, .int .i64 m.fi, .int .i64 m.du, .int .i64 m.nx, .int .i64 m.li, .slice ao L ca, .bool m.fa, .bool m.cl], .agg #[.int .i64 c.k, .int .i64 c.n, .slice co c.d.length cc]] w fun e w' => Said w (takeS m c) e w' := by
  obtain ⟨vs, h1, h2⟩ := h
  exact half_any w m _ vs h1 h2 hI hl c hn co cc hcd
theorem same_rd {w : World} {a b : Md} {ao bo : Option Addr} {L ca L' cb : Nat} (h : Rd2 w (.slice ao L ca) a) (h' : Rd2 w (.slice bo L' cb) b) :
    Calls Try.prog 15 #[.agg #[.int .i64 a.ba, .int .i64 a.fi, .int .i64 a.du, .int .i64 a.nx, .int .i64 a.li, .slice ao L ca, .bool a.fa, .bool a.cl], .agg #[.int .i64 b.ba, .int .i64 b.fi, .int .i64 b.du, .int .i64 b.nx, .int .i64 b.li, .slice bo L' cb, .bool b.fa, .bool b.cl]] w fun e w' => e = .returned (.bool (sameB a b)) ∧ Below w.heap.size w w' := by
  obtain ⟨vs, h1, h2⟩ := h
  obtain ⟨vs', h1', h2'⟩ := h'
  exact same_any w a b _ _ vs vs' h1 h2 h1' h2'
/-- Said of some state. -/
theorem Said.yes {w w' : World} {m : Md} {e : Ending} (h : Said w (some m) e w') : Below w.heap.size w w' ∧ ∃ (ao : Option Addr) (ca : Nat), e = .returned (.tuple #[.agg #[.int .i64 m.ba, .int .i64 m.fi, .int .i64 m.du, .int .i64 m.nx, .int .i64 m.li, .slice ao m.rs.length ca, .bool m.fa, .bool m.cl], .bool true]) ∧ Own w.heap.size w' (.slice ao m.rs.length ca) m.rs := by
  obtain ⟨hb, m', ao, L, ca, e1, rfl, hO⟩ := h
  simp only [Option.getD_some] at e1
  subst e1
  obtain ⟨_, _, e2⟩ := hO.form
  simp only [Value.slice.injEq] at e2
  obtain ⟨rfl, rfl, rfl⟩ := e2
  exact ⟨hb, ao, ca, rfl, hO⟩
theorem Said.no {w w' : World} {e : Ending} (h : Said w none e w') : Below w.heap.size w w' ∧ ∃ (ao : Option Addr) (ca : Nat), e = .returned (.tuple #[.agg #[.int .i64 0, .int .i64 0, .int .i64 0, .int .i64 0, .int .i64 0, .slice ao 0 ca, .bool false, .bool false], .bool false]) ∧ Own w.heap.size w' (.slice ao 0 ca) [] := by
  obtain ⟨hb, m', ao, L, ca, e1, rfl, hO⟩ := h
  simp only [Option.getD_none] at e1
  subst e1
  obtain ⟨_, _, e2⟩ := hO.form
  simp only [Value.slice.injEq] at e2
  obtain ⟨rfl, e3, rfl⟩ := e2
  have e3 : L = 0 := e3
  subst e3
  exact ⟨hb, ao, ca, rfl, hO⟩
def mB1 : Md := newS 1
def mB2 : Md := ⟨1, 1, 1, 2, 9223372036854775807, [[97]], false, false⟩
def mB3 : Md := ⟨1, 1, 2, 2, 9223372036854775807, [[97]], false, false⟩
def mB4 : Md := ⟨1, 1, 1, 2, 9223372036854775807, [[]], false, false⟩
theorem b_1 : answerS mB1 ⟨2, 0, [97]⟩ ⟨0, 1, []⟩ = some mB2 := by rfl
theorem b_2 : answerS mB2 ⟨4, 1, []⟩ ⟨0, 1, [97]⟩ = some mB3 := by rfl
theorem b_3 : answerS mB3 ⟨4, 1, []⟩ ⟨42, 0, []⟩ = none := by rfl
theorem b_4 : takeS mB1 ⟨1, 0, []⟩ = some mB4 := by rfl
theorem iB1 : Inv 1 mB1 := new_inv (by decide) (by decide)
theorem iB2 : Inv 1 mB2 := (answer_ok iB1 b_1).1
theorem iB3 : Inv 1 mB3 := (answer_ok iB2 b_2).1
theorem s_11 : sameB mB1 mB1 = true := by simp [sameB]
theorem s_12 : sameB mB1 mB2 = false := by simp [sameB, mB1, mB2, newS]
end Go.Proofs.Ytmehlgebbbkdiaa.Um

/-
  begun.
-/
namespace Go.Proofs.Ytmehlgebbbkdiaa.Um
open Go.RowKit Go.Maps
set_option linter.unusedVariables false
set_option linter.unusedSimpArgs false
set_option maxRecDepth 100000
theorem sl_a (w : World) : Sl (w.alloc (.cells #[.int .u8 97] 5 (1, 2))) (.slice (some ⟨w.heap.size, 0, none⟩) 1 1) [97] := by
  refine ⟨some ⟨w.heap.size, 0, none⟩, 1, rfl, fun e => by simp at e, Nat.le_refl _, by unfold maxLen; omega, fun i hi => ⟨w.heap.size, 0, rfl, ?_⟩⟩
  have : i = 0 := by simp at hi; omega
  subst this
  rw [cell_of (heap_alloc_new w _)]
  rfl
set_option maxHeartbeats 4000000 in
theorem begun_any (w : World) : Calls Try.prog 6 #[] w fun e w' => e = .returned (.bool true) ∧ Below w.heap.size w w' := by
  have kc := fun (w : World) (C : Array Value) (n c : Nat) => Lib.run_convert_bytes_const (P := Try.prog) w 31 5 C n c Try.underlying31 Try.underlying5
  have NE := hide (new_any w 1 (by decide))
  have A1 : Hid (∀ q ao ca, Rd2 q (.slice ao 0 ca) mB1 → Calls Try.prog 12 #[.agg #[.int .i64 1, .int .i64 1, .int .i64 1, .int .i64 1, .int .i64 9223372036854775807, .slice ao 0 ca, .bool false, .bool false], .agg #[.int .i64 2, .int .i64 0, .slice (some ⟨q.heap.size, 0, none⟩) 1 1], .agg #[.int .i64 0, .int .i64 1, .slice none 0 0]] (q.alloc (.cells #[.int .u8 97] 5 (1, 2))) fun e w' => Below q.heap.size q w' ∧ ∃ (ao : Option Addr) (ca : Nat), e = .returned (.tuple #[.agg #[.int .i64 1, .int .i64 1, .int .i64 1, .int .i64 2, .int .i64 9223372036854775807, .slice ao 1 ca, .bool false, .bool false], .bool true]) ∧ Rd2 w' (.slice ao 1 ca) mB2) := hide (fun q ao ca h => by
    have B := box_below q (.cells #[.int .u8 97] 5 (1, 2))
    have := apply_rd (h.below B) iB1 (by decide) ⟨2, 0, [97]⟩ ⟨by decide, by decide⟩ (some ⟨q.heap.size, 0, none⟩) 1 (sl_a q) ⟨0, 1, []⟩ none 0 (Sl.nil _)
    refine this.mono ?_
    intro e w' hs
    rw [b_1] at hs
    obtain ⟨hb, ao, ca, rfl, hO⟩ := hs.yes
    exact ⟨B.trans (hb.mono B.size), ao, ca, rfl, hO.rd2⟩)
  have A2 : Hid (∀ q ao ca, Rd2 q (.slice ao 1 ca) mB2 → Calls Try.prog 12 #[.agg #[.int .i64 1, .int .i64 1, .int .i64 1, .int .i64 2, .int .i64 9223372036854775807, .slice ao 1 ca, .bool false, .bool false], .agg #[.int .i64 4, .int .i64 1, .slice none 0 0], .agg #[.int .i64 0, .int .i64 1, .slice (some ⟨q.heap.size, 0, none⟩) 1 1]] (q.alloc (.cells #[.int .u8 97] 5 (1, 2))) fun e w' => Below q.heap.size q w' ∧ ∃ (ao : Option Addr) (ca : Nat), e = .returned (.tuple #[.agg #[.int .i64 1, .int .i64 1, .int .i64 2, .int .i64 2, .int .i64 9223372036854775807, .slice ao 1 ca, .bool false, .bool false], .bool true]) ∧ Rd2 w' (.slice ao 1 ca) mB3) := hide (fun q ao ca h => by
    have B := box_below q (.cells #[.int .u8 97] 5 (1, 2))
    have := apply_rd (h.below B) iB2 (by decide) ⟨4, 1, []⟩ ⟨by decide, by decide⟩ none 0 (Sl.nil _) ⟨0, 1, [97]⟩ (some ⟨q.heap.size, 0, none⟩) 1 (sl_a q)
    refine this.mono ?_
    intro e w' hs
    rw [b_2] at hs
    obtain ⟨hb, ao, ca, rfl, hO⟩ := hs.yes
    exact ⟨B.trans (hb.mono B.size), ao, ca, rfl, hO.rd2⟩)
  have A3 : Hid (∀ q ao ca, Rd2 q (.slice ao 1 ca) mB3 → Calls Try.prog 12 #[.agg #[.int .i64 1, .int .i64 1, .int .i64 2, .int .i64 2, .int .i64 9223372036854775807, .slice ao 1 ca, .bool false, .bool false], .agg #[.int .i64 4, .int .i64 1, .slice none 0 0], .agg #[.int .i64 42, .int .i64 0, .slice none 0 0]] q fun e w' => Below q.heap.size q w' ∧ ∃ (ao : Option Addr) (ca : Nat), e = .returned (.tuple #[.agg #[.int .i64 0, .int .i64 0, .int .i64 0, .int .i64 0, .int .i64 0, .slice ao 0 ca, .bool false, .bool false], .bool false]) ∧ Rd2 w' (.slice ao 0 ca) zeroS) := hide (fun q ao ca h => by
    have := apply_rd h iB3 (by decide) ⟨4, 1, []⟩ ⟨by decide, by decide⟩ none 0 (Sl.nil _) ⟨42, 0, []⟩ none 0 (Sl.nil _)
    refine this.mono ?_
    intro e w' hs
    rw [b_3] at hs
    obtain ⟨hb, ao, ca, rfl, hO⟩ := hs.no
    exact ⟨hb, ao, ca, rfl, Own.rd2 (m := zeroS) hO⟩)
  have A4 : Hid (∀ q ao ca, Rd2 q (.slice ao 0 ca) mB1 → Calls Try.prog 10 #[.agg #[.int .i64 1, .int .i64 1, .int .i64 1, .int .i64 1, .int .i64 9223372036854775807, .slice ao 0 ca, .bool false, .bool false], .agg #[.int .i64 1, .int .i64 0, .slice none 0 0]] q fun e w' => Below q.heap.size q w' ∧ ∃ (ao : Option Addr) (ca : Nat), e = .returned (.tuple #[.agg #[.int .i64 1, .int .i64 1, .int .i64 1, .int .i64 2, .int .i64 9223372036854775807, .slice ao 1 ca, .bool false, .bool false], .bool true]) ∧ Rd2 w' (.slice ao 1 ca) mB4) := hide (fun q ao ca h => by
    have := half_rd h iB1 (by decide) ⟨1, 0, []⟩ ⟨by decide, by decide⟩ none 0 (Sl.nil _)
    refine this.mono ?_
    intro e w' hs
    rw [b_4] at hs
    obtain ⟨hb, ao, ca, rfl, hO⟩ := hs.yes
    exact ⟨hb, ao, ca, rfl, hO.rd2⟩)
  have A5 : Hid (∀ q ao ca, Rd2 q (.slice ao 0 ca) mB1 → Calls Try.prog 15 #[.agg #[.int .i64 1, .int .i64 1, .int .i64 1, .int .i64 1, .int .i64 9223372036854775807, .slice ao 0 ca, .bool false, .bool false], .agg #[.int .i64 1, .int .i64 1, .int .i64 1, .int .i64 1, .int .i64 9223372036854775807, .slice ao 0 ca, .bool false, .bool false]] q fun e w' => e = .returned (.bool true) ∧ Below q.heap.size q w') := hide (fun q ao ca h => by
    have := same_rd h h
    rw [s_11] at this
    exact this)
  have A6 : Hid (∀ q ao ca bo cb, Rd2 q (.slice ao 0 ca) mB1 → Rd2 q (.slice bo 1 cb) mB2 → Calls Try.prog 15 #[.agg #[.int .i64 1, .int .i64 1, .int .i64 1, .int .i64 1, .int .i64 9223372036854775807, .slice ao 0 ca, .bool false, .bool false], .agg #[.int .i64 1, .int .i64 1, .int .i64 1, .int .i64 2, .int .i64 9223372036854775807, .slice bo 1 cb, .bool false, .bool false]] q fun e w' => e = .returned (.bool false) ∧ Below q.heap.size q w') := hide (fun q ao ca bo cb h h' => by
    have := same_rd h h'
    rw [s_12] at this
    exact this)
  go_enter Try.func6, Try.ntmps6
  go_upto_region 2 with (go_at_call 7; refine NE.out.mono ?_; rintro e u1 ⟨rfl, B1⟩; replace B1 := hide B1)
  obtain ⟨X1, hX1⟩ : ∃ X, Hid (u1.alloc (.cells #[.int .i64 1, .int .i64 1, .int .i64 1, .int .i64 1, .int .i64 9223372036854775807, .slice none 0 0, .bool false, .bool false] 26) = X) := ⟨_, rfl⟩
  have m1 : Hid (Bm X1 u1.heap.size mB1) := hide (by rw [← hX1.out]; exact Bm.new (m := mB1) (rd2_nil _ _ rfl))
  have W1 : Hid (Below w.heap.size w X1) := hide (B1.out.trans (by rw [← hX1.out]; exact (box_below u1 _).mono B1.out.size))
  rw [hX1.out]
  clear hX1 B1 NE
  obtain ⟨a1, c1, r1, x0, x1, x2, x3, x4, x5, x6, x7⟩ := m1.out.cells
  simp only [mB1, newS, List.length_nil] at x0 x1 x2 x3 x4 x5 x6 x7
  replace r1 := hide r1
  go_upto_region 3 with (go_at_call 12; refine (A1.out X1 _ _ r1.out).mono ?_; rintro e u2 ⟨B2, a2, c2, rfl, r2⟩; replace B2 := hide B2; replace r2 := hide r2)
  obtain ⟨X2, hX2⟩ : ∃ X, Hid (u2.alloc (.cells #[.int .i64 1, .int .i64 1, .int .i64 1, .int .i64 2, .int .i64 9223372036854775807, .slice a2 1 c2, .bool false, .bool false] 26) = X) := ⟨_, rfl⟩
  have m2 : Hid (Bm X2 u2.heap.size mB2) := hide (by rw [← hX2.out]; exact Bm.new (m := mB2) r2.out)
  have V2 : Hid (Below X1.heap.size X1 X2) := hide (B2.out.trans (by rw [← hX2.out]; exact (box_below u2 _).mono B2.out.size))
  rw [hX2.out]
  clear hX2 B2 r2 x0 x1 x2 x3 x4 x5 x6 x7 r1 A1
  obtain ⟨d2, e2, r2, x0, x1, x2, x3, x4, x5, x6, x7⟩ := m2.out.cells
  simp only [mB2, List.length_singleton] at x0 x1 x2 x3 x4 x5 x6 x7
  replace r2 := hide r2
  go_upto_region 4 with (go_at_call 12; refine (A2.out X2 _ _ r2.out).mono ?_; rintro e u3 ⟨B3, a3, c3, rfl, r3⟩; replace B3 := hide B3; replace r3 := hide r3)
  obtain ⟨X3, hX3⟩ : ∃ X, Hid (u3.alloc (.cells #[.int .i64 1, .int .i64 1, .int .i64 2, .int .i64 2, .int .i64 9223372036854775807, .slice a3 1 c3, .bool false, .bool false] 26) = X) := ⟨_, rfl⟩
  have m3 : Hid (Bm X3 u3.heap.size mB3) := hide (by rw [← hX3.out]; exact Bm.new (m := mB3) r3.out)
  have V3 : Hid (Below X2.heap.size X2 X3) := hide (B3.out.trans (by rw [← hX3.out]; exact (box_below u3 _).mono B3.out.size))
  rw [hX3.out]
  clear hX3 B3 r3 x0 x1 x2 x3 x4 x5 x6 x7 r2 A2
  obtain ⟨d3, e3, r3, x0, x1, x2, x3, x4, x5, x6, x7⟩ := m3.out.cells
  simp only [mB3, List.length_singleton] at x0 x1 x2 x3 x4 x5 x6 x7
  replace r3 := hide r3
  go_upto_region 5 with (go_at_call 12; refine (A3.out X3 _ _ r3.out).mono ?_; rintro e u4 ⟨B4, a4, c4, rfl, r4⟩; replace B4 := hide B4; replace r4 := hide r4)
  obtain ⟨X4, hX4⟩ : ∃ X, Hid (u4.alloc (.cells #[.int .i64 0, .int .i64 0, .int .i64 0, .int .i64 0, .int .i64 0, .slice a4 0 c4, .bool false, .bool false] 26) = X) := ⟨_, rfl⟩
  have V4 : Hid (Below X3.heap.size X3 X4) := hide (B4.out.trans (by rw [← hX4.out]; exact (box_below u4 _).mono B4.out.size))
  rw [hX4.out]
  clear hX4 B4 r4 x0 x1 x2 x3 x4 x5 x6 x7 r3 A3
  have V24 : Hid (Below X2.heap.size X2 X4) := hide (V3.out.trans (V4.out.mono V3.out.size))
  have V14 : Hid (Below X1.heap.size X1 X4) := hide (V2.out.trans (V24.out.mono V2.out.size))
  have m14 := hide (m1.out.below V14.out)
  obtain ⟨d4, e4, r4, x0, x1, x2, x3, x4, x5, x6, x7⟩ := m14.out.cells
  simp only [mB1, newS, List.length_nil] at x0 x1 x2 x3 x4 x5 x6 x7
  replace r4 := hide r4
  go_upto_region 6 with (go_at_call 10; refine (A4.out X4 _ _ r4.out).mono ?_; rintro e u5 ⟨B5, a5, c5, rfl, r5⟩; replace B5 := hide B5; replace r5 := hide r5)
  obtain ⟨X5, hX5⟩ : ∃ X, Hid (u5.alloc (.cells #[.int .i64 1, .int .i64 1, .int .i64 1, .int .i64 2, .int .i64 9223372036854775807, .slice a5 1 c5, .bool false, .bool false] 26) = X) := ⟨_, rfl⟩
  have m5 : Hid (Bm X5 u5.heap.size mB4) := hide (by rw [← hX5.out]; exact Bm.new (m := mB4) r5.out)
  have V5 : Hid (Below X4.heap.size X4 X5) := hide (B5.out.trans (by rw [← hX5.out]; exact (box_below u5 _).mono B5.out.size))
  rw [hX5.out]
  clear hX5 B5 r5 x0 x1 x2 x3 x4 x5 x6 x7 r4 A4
  have CEL : Hid (∀ q, Below X5.heap.size X5 q → Bm q u1.heap.size mB1 ∧ Bm q u2.heap.size mB2 ∧ Bm q u3.heap.size mB3 ∧ Bm q u5.heap.size mB4 ∧ Below w.heap.size w q) := hide (fun q hq => by
    have b45 := V5.out.trans (hq.mono V5.out.size)
    have b35 := V4.out.trans (b45.mono V4.out.size)
    have b25 := V3.out.trans (b35.mono V3.out.size)
    have b15 := V2.out.trans (b25.mono V2.out.size)
    exact ⟨m1.out.below b15, m2.out.below b25, m3.out.below b35, m5.out.below hq, W1.out.trans (b15.mono W1.out.size)⟩)
  clear m1 m2 m3 m5 m14 V2 V3 V4 V5 V24 V14 W1
  obtain ⟨f1, f2, f3, f5, -⟩ := CEL.out X5 (Below.refl _ _)
  obtain ⟨g1, h1, r1, x0, x1, x2, x3, x4, x5, x6, x7⟩ := f1.cells
  obtain ⟨g2, h2, r2, y0, y1, y2, y3, y4, y5, y6, y7⟩ := f2.cells
  obtain ⟨g3, h3, r3, -, -, z2, -, -, -, -, -⟩ := f3.cells
  obtain ⟨g5, h5, r5, -, -, -, k3, -, -, -, -⟩ := f5.cells
  simp only [mB1, mB2, mB3, mB4, newS, List.length_nil, List.length_singleton] at x0 x1 x2 x3 x4 x5 x6 x7 y0 y1 y2 y3 y4 y5 y6 y7 z2 k3
  replace r1 := hide r1
  clear f1 f2 f3 f5 r2 r3 r5
  have S6 := hide (A5.out X5 g1 h1 r1.out)
  go_wp2_with (first
    | (go_at_call 15; refine S6.out.mono ?_; rintro e u6 ⟨rfl, B6⟩; clear S6 x0 x1 x2 x3 x4 x5 x6 x7 y0 y1 y2 y3 y4 y5 y6 y7 z2 k3; obtain ⟨f1, f2, f3, f5, Bw⟩ := CEL.out u6 B6; obtain ⟨g6, h6, r6, x0, x1, x2, x3, x4, x5, x6, x7⟩ := f1.cells; obtain ⟨g7, h7, r7, y0, y1, y2, y3, y4, y5, y6, y7⟩ := f2.cells; simp only [mB1, mB2, mB3, mB4, newS, List.length_nil, List.length_singleton] at x0 x1 x2 x3 x4 x5 x6 x7 y0 y1 y2 y3 y4 y5 y6 y7; have S7 := hide (A6.out u6 g6 h6 g7 h7 r6 r7); replace Bw := hide Bw; clear f1 f2 f3 f5 r6 r7 B6)
    | (go_at_call 15; refine S7.out.mono ?_; rintro e u7 ⟨rfl, B7⟩; replace Bw := hide (Bw.out.trans (B7.mono Bw.out.size)); clear B7))
  go_ret
  exact ⟨rfl, Bw.out⟩
end Go.Proofs.Ytmehlgebbbkdiaa.Um

/-
  ModelLost by data.
-/
namespace Go.Proofs.Ytmehlgebbbkdiaa.Um
set_option linter.unusedVariables false
set_option linter.unusedSimpArgs false
/-- Behind i calls, of which one came to ErrFailed with its number. -/
def lostS (b : Int) (lost : Nat) (d : List UInt8) (i : Nat) : Md := ⟨b, b, b, b + (i : Int), if lost < i then b + (lost : Int) else 9223372036854775807, List.replicate i d, false, false⟩
theorem lost_new (b : Int) (lost : Nat) (d : List UInt8) : lostS b lost d 0 = newS b := by simp [lostS, newS]
theorem ans_1 (m : Md) (d : List UInt8) (r : Rs) (hc : m.cl = false) (he : r.e ≠ 41) : answerS m ⟨1, 0, d⟩ r = appendS m ⟨1, 0, d⟩ r := by simp [answerS, fitsB, hc, he]
theorem ans_2 (m : Md) (d : List UInt8) (r : Rs) (hc : m.cl = false) (he : r.e ≠ 41) : answerS m ⟨2, 0, d⟩ r = appendS m ⟨2, 0, d⟩ r := by simp [answerS, fitsB, hc, he]
theorem ans_3 (m : Md) (r : Rs) (hc : m.cl = false) (he : r.e ≠ 41) : answerS m ⟨3, 0, []⟩ r = syncS m r := by simp [answerS, fitsB, hc, he]
theorem ans_4 (m : Md) (n : Int) (r : Rs) (hc : m.cl = false) (he : r.e ≠ 41) : answerS m ⟨4, n, []⟩ r = readS m ⟨4, n, []⟩ r := by simp [answerS, fitsB, hc, he]
theorem ans_6 (m : Md) (n : Int) (r : Rs) (hc : m.cl = false) (he : r.e ≠ 41) : answerS m ⟨6, n, []⟩ r = truncS m n r := by simp [answerS, fitsB, hc, he]
theorem ans_7 (m : Md) (r : Rs) (hc : m.cl = false) (he : r.e ≠ 41) : answerS m ⟨7, 0, []⟩ r = closeS m r := by simp [answerS, fitsB, hc, he]
theorem lost_step (b : Int) (lost : Nat) (d : List UInt8) (i : Nat) (hb : 1 ≤ b) (hb2 : b ≤ 1152921504606846976) (hi : i < 30) (hd : d.length ≤ 100) :
    answerS (lostS b lost d i) ⟨2, 0, d⟩ ⟨if i = lost then 40 else 0, b + (i : Int), []⟩ = some (lostS b lost d (i + 1)) := by
  have hR : reserveS (lostS b lost d i) d (b + (i : Int)) = some { lostS b lost d i with rs := (lostS b lost d i).rs ++ [d], nx := (lostS b lost d i).nx + 1 } := by
    unfold reserveS
    rw [if_pos]
    unfold resB lostS
    simp
    omega
  have h0 : b + (i : Int) ≠ 0 := by omega
  have hc : ((i + 1 : Nat) : Int) = (i : Int) + 1 := by omega
  by_cases e : i = lost
  · subst e
    simp only [if_true]
    rw [ans_2 _ _ _ rfl (by simp)]
    unfold appendS
    simp only [List.length_nil, if_true]
    rw [if_neg (by decide), if_pos ⟨trivial, h0⟩, hR, Option.bind_some]
    unfold loseS
    rw [if_pos (by unfold lostS; simp; omega)]
    unfold lostS
    simp [List.replicate_succ', Int.add_assoc]
    omega
  · rw [if_neg e]
    rw [ans_2 _ _ _ rfl (by simp)]
    unfold appendS
    simp only [List.length_nil, if_true]
    rw [if_pos (Or.inl trivial), hR]
    unfold lostS
    simp [List.replicate_succ', Int.add_assoc]
    by_cases h : lost < i
    · simp [h, Nat.lt_succ_of_lt h]
    · have : ¬ lost < i + 1 := by omega
      simp [h, this]
theorem lost_inv (b : Int) (lost : Nat) (d : List UInt8) (hb : 1 ≤ b) (hb2 : b ≤ 1152921504606846976) (hd : d.length ≤ 100) : ∀ i, i ≤ 30 → Inv b (lostS b lost d i)
  | 0, _ => by rw [lost_new]; exact new_inv hb (by omega)
  | i + 1, h => (answer_ok (lost_inv b lost d hb hb2 hd i (by omega)) (lost_step b lost d i hb hb2 (by omega) hd)).1
variable (b : Int) (lost n : Nat) (d : List UInt8) (hl : lost < n)
theorem lost_a : lost < n → answerS (lostS b lost d n) ⟨1, 0, d⟩ ⟨0, b + (n : Int), []⟩ = none := by
  intro hl
  rw [ans_1 _ _ _ rfl (by simp)]
  unfold appendS
  simp only [List.length_nil, if_true]
  rw [if_neg]
  unfold lostS
  simp only [if_pos hl]
  omega
theorem lost_b : lost < n → answerS (lostS b lost d n) ⟨3, 0, []⟩ ⟨0, 0, []⟩ = none := by
  intro hl
  rw [ans_3 _ _ rfl (by simp)]
  unfold syncS
  rw [if_pos (by decide), if_pos rfl, if_neg]
  unfold lostS
  simp only [if_pos hl]
  omega
theorem lost_c : lost < n → answerS (lostS b lost d n) ⟨7, 0, []⟩ ⟨0, 0, []⟩ = none := by
  intro hl
  rw [ans_7 _ _ rfl (by simp)]
  unfold closeS syncS
  rw [if_pos (by decide), if_pos rfl, if_neg]
  · rfl
  unfold lostS
  simp only [if_pos hl]
  omega
theorem lost_r (i : Nat) : lost < n → i < n → (answerS (lostS b lost d n) ⟨4, b + (i : Int), []⟩ ⟨0, b + (i : Int), d⟩).isSome = decide (i < lost) := by
  intro hl hi
  rw [ans_4 _ _ _ rfl (by simp)]
  unfold readS
  rw [if_pos rfl, if_pos]
  · unfold raiseS lostS
    simp only [if_pos hl]
    by_cases h : i < lost
    · rw [if_pos (by omega), if_pos (by omega)]
      simp [h]
    · rw [if_pos (by omega), if_neg (by omega)]
      simp [h]
  · refine ⟨rfl, ?_, ?_⟩
    · unfold reservedB lostS
      simp
      omega
    · unfold hasB lostS
      simp
      refine ⟨by omega, ?_⟩
      rw [show (b + (i : Int) - b).toNat = i by omega]
      simp [hi]
theorem lost_y (i : Nat) : (answerS (lostS b lost d n) ⟨4, b + (i : Int), []⟩ ⟨42, 0, []⟩).isSome = true := by
  rw [ans_4 _ _ _ rfl (by simp)]
  unfold readS
  rw [if_neg (by simp), if_pos (by simp [bareB]), if_neg (by simp), if_neg (by simp), if_pos (by simp), if_pos]
  · rfl
  · unfold lostS
    simp only
    omega
theorem lost_t (i : Nat) : lost < n → i < n → (answerS (lostS b lost d n) ⟨6, b + (i : Int), []⟩ ⟨0, 0, []⟩).isSome = decide (i ≤ lost) := by
  intro hl hi
  rw [ans_6 _ _ _ rfl (by simp)]
  unfold truncS
  simp only [List.length_nil, if_true]
  rw [if_neg (by simp), if_neg (by simp), if_pos (by simp [lostS])]
  unfold cutS
  rw [if_pos]
  · unfold raiseS lostS
    simp only [if_pos hl]
    by_cases h0 : i = 0
    · subst h0
      rw [if_neg (by omega)]
      simp
    · rw [if_pos (by omega)]
      by_cases h : i ≤ lost
      · rw [if_pos (by omega)]
        simp [h]
      · rw [if_neg (by omega)]
        simp [h]
  · unfold lostS
    simp only
    omega
end Go.Proofs.Ytmehlgebbbkdiaa.Um

/-
  ModelLost's walk.
-/
namespace Go.Proofs.Ytmehlgebbbkdiaa.Um
open Go.RowKit Go.Maps
set_option linter.unusedVariables false
set_option linter.unusedSimpArgs false
set_option maxRecDepth 100000
/-- Between the rounds. -/
structure LI (w wr : World) (p9 p11 : Nat) (m : Md) (cv : Value) : Prop where
  bm : Bm wr p9 m
  cl : wr.heap[p11]? = some (.cells #[.int .i64 2, .int .i64 0, cv] 33 (0, 0))
  be : Below w.heap.size w wr
  g9 : w.heap.size ≤ p9
  g11 : w.heap.size ≤ p11
  ne : p9 ≠ p11
theorem LI.below {w wr q : World} {p9 p11 : Nat} {m : Md} {cv : Value} (h : LI w wr p9 p11 m cv) (hb : Below wr.heap.size wr q) : LI w q p9 p11 m cv :=
  ⟨h.bm.below hb, (hb.block _ (heap_lt h.cl)).trans h.cl, h.be.trans (hb.mono h.be.size), h.g9, h.g11, h.ne⟩
theorem bm_but {w' : World} {b : Nat} {m : Md} {ao : Option Addr} {L ca : Nat} (h1 : w'.heap[b]? = some (.cells #[.int .i64 m.ba, .int .i64 m.fi, .int .i64 m.du, .int .i64 m.nx, .int .i64 m.li, .slice ao L ca, .bool m.fa, .bool m.cl] 26 (0, 0))) (h2 : Rd2 w' (.slice ao L ca) m) : Bm w' b m := by
  obtain ⟨ao', ca', e⟩ := h2.form
  simp only [Value.slice.injEq] at e
  obtain ⟨rfl, rfl, rfl⟩ := e
  exact ⟨ao, ca, h1, h2⟩
theorem rel_step {j i : Nat} (h : j < i) : j + 1 ≤ i ∧ Value.int IntKind.i64 ((j : Int) + 1) = Value.int IntKind.i64 ((j + 1 : Nat) : Int) ∧ i - (intOf (Value.int IntKind.i64 ((j : Int) + 1))).toNat < i - (intOf (Value.int IntKind.i64 (j : Int))).toNat := by
  refine ⟨by omega, congrArg (Value.int IntKind.i64) (by omega), ?_⟩
  simp [intOf]
  omega
theorem Said.bool {w w' : World} {R : Option Md} {e : Ending} {bb : Bool} (h : Said w R e w') (hb : R.isSome = bb) : Below w.heap.size w w' ∧ ∃ (m : Md) (ao : Option Addr) (L ca : Nat), e = .returned (.tuple #[.agg #[.int .i64 m.ba, .int .i64 m.fi, .int .i64 m.du, .int .i64 m.nx, .int .i64 m.li, .slice ao L ca, .bool m.fa, .bool m.cl], .bool bb]) := by
  obtain ⟨hb', m', ao, L, ca, _, rfl, hO⟩ := h
  exact ⟨hb', m', ao, L, ca, by rw [hb]⟩
theorem lost_apply {q : World} {b : Int} {K i : Nat} {d : List UInt8} (g1 : 1 ≤ b) (g2 : b ≤ 1152921504606846976) (gd : d.length ≤ 100) (gi : i ≤ 30) (gk : K < i) {ao : Option Addr} {ca : Nat} (rd : Rd2 q (.slice ao i ca) (lostS b K d i)) (c : Cl) (hn : I64 c.n) (co : Option Addr) (cc : Nat) (hcd : Sl q (.slice co c.d.length cc) c.d) (r : Rs) (ro : Option Addr) (rc : Nat) (hrd : Sl q (.slice ro r.d.length rc) r.d) {bb : Bool} (hb : (answerS (lostS b K d i) c r).isSome = bb) :
    Calls Try.prog 12 #[.agg #[.int .i64 b, .int .i64 b, .int .i64 b, .int .i64 (b + (i : Int)), .int .i64 (b + (K : Int)), .slice ao i ca, .bool false, .bool false], .agg #[.int .i64 c.k, .int .i64 c.n, .slice co c.d.length cc], .agg #[.int .i64 r.e, .int .i64 r.n, .slice ro r.d.length rc]] q fun e w' => Below q.heap.size q w' ∧ ∃ (m : Md) (ao : Option Addr) (L ca : Nat), e = .returned (.tuple #[.agg #[.int .i64 m.ba, .int .i64 m.fi, .int .i64 m.du, .int .i64 m.nx, .int .i64 m.li, .slice ao L ca, .bool m.fa, .bool m.cl], .bool bb]) := by
  have := apply_rd rd (lost_inv b K d g1 g2 gd i gi) (by simp [lostS]; omega) c hn co cc hcd r ro rc hrd
  have e : (lostS b K d i).li = b + (K : Int) := by simp [lostS]; omega
  rw [e] at this
  exact this.mono fun e w' hs => hs.bool hb
set_option maxHeartbeats 8000000 in
theorem lost_walk (w : World) (b n lost : Int) (v : Value) (d : List UInt8) (hb1 : -9223372036854775808 ≤ b) (hb2 : b ≤ 9223372036854775807) (hd : Sl w v d) :
    Calls Try.prog 5 #[.int .i64 b, .int .i64 n, .int .i64 lost, v] w fun e w' => e = .returned (.bool true) ∧ Below w.heap.size w w' := by
  have BG := hide (begun_any w)
  have HD := hide hd
  obtain ⟨vo, vc, rfl, -⟩ := hd
  by_cases hout : b < 1 ∨ b > 1152921504606846976 ∨ n < 1 ∨ n > 30 ∨ lost < 0 ∨ lost ≥ n ∨ d.length > 100
  · skip
    clear HD
    by_cases c1 : b < 1
    case pos =>
      go_enter Try.func5, Try.ntmps5
      go_wp2_with (go_at_call 6; refine BG.out.mono ?_; rintro e u0 ⟨rfl, B0⟩; replace B0 := hide B0)
      go_ret
      exact ⟨rfl, B0.out⟩
    have k1 : decide (b < 1) = false := by simpa using c1
    by_cases c2 : b > 1152921504606846976
    case pos =>
      go_enter Try.func5, Try.ntmps5
      go_wp2_with (go_at_call 6; refine BG.out.mono ?_; rintro e u0 ⟨rfl, B0⟩; replace B0 := hide B0)
      go_ret
      exact ⟨rfl, B0.out⟩
    have k2 : decide (b > 1152921504606846976) = false := by simpa using c2
    by_cases c3 : n < 1
    case pos =>
      go_enter Try.func5, Try.ntmps5
      go_wp2_with (go_at_call 6; refine BG.out.mono ?_; rintro e u0 ⟨rfl, B0⟩; replace B0 := hide B0)
      go_ret
      exact ⟨rfl, B0.out⟩
    have k3 : decide (n < 1) = false := by simpa using c3
    by_cases c4 : n > 30
    case pos =>
      go_enter Try.func5, Try.ntmps5
      go_wp2_with (go_at_call 6; refine BG.out.mono ?_; rintro e u0 ⟨rfl, B0⟩; replace B0 := hide B0)
      go_ret
      exact ⟨rfl, B0.out⟩
    have k4 : decide (n > 30) = false := by simpa using c4
    by_cases c5 : lost < 0
    case pos =>
      go_enter Try.func5, Try.ntmps5
      go_wp2_with (go_at_call 6; refine BG.out.mono ?_; rintro e u0 ⟨rfl, B0⟩; replace B0 := hide B0)
      go_ret
      exact ⟨rfl, B0.out⟩
    have k5 : decide (lost < 0) = false := by simpa using c5
    by_cases c6 : lost ≥ n
    case pos =>
      go_enter Try.func5, Try.ntmps5
      go_wp2_with (go_at_call 6; refine BG.out.mono ?_; rintro e u0 ⟨rfl, B0⟩; replace B0 := hide B0)
      go_ret
      exact ⟨rfl, B0.out⟩
    have k6 : decide (lost ≥ n) = false := by simpa using c6
    have c7 : (d.length : Int) > 100 := by omega
    generalize d.length = LD at c7 ⊢
    clear hout
    go_enter Try.func5, Try.ntmps5
    go_wp2_with (go_at_call 6; refine BG.out.mono ?_; rintro e u0 ⟨rfl, B0⟩; replace B0 := hide B0)
    go_ret
    exact ⟨rfl, B0.out⟩
  · have g1 : 1 ≤ b := by omega
    have g2 : b ≤ 1152921504606846976 := by omega
    have g3 : 1 ≤ n := by omega
    have g4 : n ≤ 30 := by omega
    have g5 : 0 ≤ lost := by omega
    have g6 : lost < n := by omega
    have g7 : d.length ≤ 100 := by omega
    clear hout
    obtain ⟨N, rfl⟩ := Int.eq_ofNat_of_zero_le (show 0 ≤ n by omega)
    obtain ⟨K, rfl⟩ := Int.eq_ofNat_of_zero_le g5
    have k1 : decide (b < 1) = false := by simp; omega
    have k2 : decide (b > 1152921504606846976) = false := by simp; omega
    have k3 : decide ((N : Int) < 1) = false := by simp; omega
    have k4 : decide ((N : Int) > 30) = false := by simp; omega
    have k5 : decide ((K : Int) < 0) = false := by simp
    have k6 : decide ((K : Int) ≥ (N : Int)) = false := by simp; omega
    obtain ⟨LD, hLD⟩ : ∃ LD, Hid (d.length = LD) := ⟨_, rfl⟩
    rw [hLD.out] at g7 HD ⊢
    have k7 : decide ((LD : Int) > 100) = false := by simp; omega
    have NE : Hid (∀ q, Calls Try.prog 7 #[.int .i64 b] q fun e w' => e = .returned (.tuple #[.agg #[.int .i64 b, .int .i64 b, .int .i64 b, .int .i64 b, .int .i64 9223372036854775807, .slice none 0 0, .bool false, .bool false], .int .i64 0]) ∧ Below q.heap.size q w') := hide (fun q => new_any q b g1)
    go_enter Try.func5, Try.ntmps5
    go_upto_region 6 with (first
      | (go_at_call 6; refine BG.out.mono ?_; rintro e u0 ⟨rfl, B0⟩; replace B0 := hide B0)
      | (go_at_call 7; refine (NE.out _).mono ?_; rintro e u1 ⟨rfl, B1⟩; replace B1 := hide B1))
    obtain ⟨X1, hX1⟩ : ∃ X, Hid (u1.alloc (.cells #[.int .i64 b, .int .i64 b, .int .i64 b, .int .i64 b, .int .i64 9223372036854775807, .slice none 0 0, .bool false, .bool false] 26) = X) := ⟨_, rfl⟩
    have m1 : Hid (Bm X1 u1.heap.size (newS b)) := hide (by rw [← hX1.out]; exact Bm.new (m := newS b) (rd2_nil _ _ rfl))
    have W1 : Hid (Below w.heap.size w X1 ∧ w.heap.size ≤ u1.heap.size ∧ X1.heap.size = u1.heap.size + 1) := hide (by
      have a := B0.out.trans (B1.out.mono B0.out.size)
      refine ⟨a.trans ((by rw [← hX1.out]; exact box_below u1 _ : Below u1.heap.size u1 X1).mono a.size), a.size, by rw [← hX1.out]; simp⟩)
    rw [hX1.out]
    clear hX1 B0 B1 NE BG
    go_upto_region 7 with fail
    obtain ⟨X2, hX2⟩ : ∃ X, Hid (X1.alloc (.cells #[.int .i64 2, .int .i64 0, .slice vo LD vc] 33) = X) := ⟨_, rfl⟩
    have li : Hid (LI w X2 u1.heap.size X1.heap.size (lostS b K d 0) (.slice vo LD vc)) := hide (by
      have hB := box_below X1 (.cells #[.int .i64 2, .int .i64 0, .slice vo LD vc] 33)
      have hN := heap_alloc_new X1 (.cells #[.int .i64 2, .int .i64 0, .slice vo LD vc] 33)
      rw [hX2.out] at hB hN
      obtain ⟨a1, a2, a3⟩ := W1.out
      refine ⟨?_, hN, a1.trans (hB.mono a1.size), a2, by omega, by omega⟩
      rw [lost_new]
      exact m1.out.below hB)
    rw [hX2.out]
    generalize u1.heap.size = p9 at *
    generalize X1.heap.size = p11 at *
    clear hX2 m1 W1
    go_wp2_with fail
    go_loopw [12] (fun v12 wr => ∃ i : Nat, i ≤ N ∧ v12 = .int .i64 (i : Int) ∧ Hid (LI w wr p9 p11 (lostS b K d i) (.slice vo LD vc))) (fun v _ => N - (intOf v).toNat)
    case atStart => exact ⟨0, by omega, rfl, li⟩
    case round =>
      obtain ⟨i, hi, rfl, hL⟩ := hrel
      by_cases hin : i = N
      · skip
        subst hin
        have gk : K < i := by omega
        have gd : d.length ≤ 100 := by rw [hLD.out]; exact g7
        have gi : i ≤ 30 := by omega
        have A1 : Hid (∀ q ao ca, Rd2 q (.slice ao i ca) (lostS b K d i) → Below w.heap.size w q → Calls Try.prog 12 #[.agg #[.int .i64 b, .int .i64 b, .int .i64 b, .int .i64 (b + (i : Int)), .int .i64 (b + (K : Int)), .slice ao i ca, .bool false, .bool false], .agg #[.int .i64 1, .int .i64 0, .slice vo LD vc], .agg #[.int .i64 0, .int .i64 (b + (i : Int)), .slice none 0 0]] q fun e w' => Below q.heap.size q w' ∧ ∃ (m : Md) (ao : Option Addr) (L ca : Nat), e = .returned (.tuple #[.agg #[.int .i64 m.ba, .int .i64 m.fi, .int .i64 m.du, .int .i64 m.nx, .int .i64 m.li, .slice ao L ca, .bool m.fa, .bool m.cl], .bool false])) := hide (fun q ao ca rd hq => by
          have := lost_apply g1 g2 gd gi gk rd ⟨1, 0, d⟩ ⟨by simp, by simp⟩ vo vc (by simp only [hLD.out]; exact Below.sl hq HD.out) ⟨0, b + (i : Int), []⟩ none 0 (Sl.nil _) (bb := false) (by rw [lost_a b K i d gk]; rfl)
          simp only [hLD.out] at this
          exact this)
        have A2 : Hid (∀ q ao ca, Rd2 q (.slice ao i ca) (lostS b K d i) → Below w.heap.size w q → Calls Try.prog 12 #[.agg #[.int .i64 b, .int .i64 b, .int .i64 b, .int .i64 (b + (i : Int)), .int .i64 (b + (K : Int)), .slice ao i ca, .bool false, .bool false], .agg #[.int .i64 3, .int .i64 0, .slice none 0 0], .agg #[.int .i64 0, .int .i64 0, .slice none 0 0]] q fun e w' => Below q.heap.size q w' ∧ ∃ (m : Md) (ao : Option Addr) (L ca : Nat), e = .returned (.tuple #[.agg #[.int .i64 m.ba, .int .i64 m.fi, .int .i64 m.du, .int .i64 m.nx, .int .i64 m.li, .slice ao L ca, .bool m.fa, .bool m.cl], .bool false])) := hide (fun q ao ca rd hq => lost_apply g1 g2 gd gi gk rd ⟨3, 0, []⟩ ⟨by simp, by simp⟩ none 0 (Sl.nil _) ⟨0, 0, []⟩ none 0 (Sl.nil _) (bb := false) (by rw [lost_b b K i d gk]; rfl))
        have A3 : Hid (∀ q ao ca, Rd2 q (.slice ao i ca) (lostS b K d i) → Below w.heap.size w q → Calls Try.prog 12 #[.agg #[.int .i64 b, .int .i64 b, .int .i64 b, .int .i64 (b + (i : Int)), .int .i64 (b + (K : Int)), .slice ao i ca, .bool false, .bool false], .agg #[.int .i64 7, .int .i64 0, .slice none 0 0], .agg #[.int .i64 0, .int .i64 0, .slice none 0 0]] q fun e w' => Below q.heap.size q w' ∧ ∃ (m : Md) (ao : Option Addr) (L ca : Nat), e = .returned (.tuple #[.agg #[.int .i64 m.ba, .int .i64 m.fi, .int .i64 m.du, .int .i64 m.nx, .int .i64 m.li, .slice ao L ca, .bool m.fa, .bool m.cl], .bool false])) := hide (fun q ao ca rd hq => lost_apply g1 g2 gd gi gk rd ⟨7, 0, []⟩ ⟨by simp, by simp⟩ none 0 (Sl.nil _) ⟨0, 0, []⟩ none 0 (Sl.nil _) (bb := false) (by rw [lost_c b K i d gk]; rfl))
        have A4 : Hid (∀ q ao ca, Rd2 q (.slice ao i ca) (lostS b K d i) → Below w.heap.size w q → ∀ j : Nat, j < i → Calls Try.prog 12 #[.agg #[.int .i64 b, .int .i64 b, .int .i64 b, .int .i64 (b + (i : Int)), .int .i64 (b + (K : Int)), .slice ao i ca, .bool false, .bool false], .agg #[.int .i64 4, .int .i64 (b + (j : Int)), .slice none 0 0], .agg #[.int .i64 0, .int .i64 (b + (j : Int)), .slice vo LD vc]] q fun e w' => Below q.heap.size q w' ∧ ∃ (m : Md) (ao : Option Addr) (L ca : Nat), e = .returned (.tuple #[.agg #[.int .i64 m.ba, .int .i64 m.fi, .int .i64 m.du, .int .i64 m.nx, .int .i64 m.li, .slice ao L ca, .bool m.fa, .bool m.cl], .bool (decide (j < K))])) := hide (fun q ao ca rd hq j hj => by
          have := lost_apply g1 g2 gd gi gk rd ⟨4, b + (j : Int), []⟩ ⟨by simp only; omega, by simp only; omega⟩ none 0 (Sl.nil _) ⟨0, b + (j : Int), d⟩ vo vc (by simp only [hLD.out]; exact Below.sl hq HD.out) (lost_r b K i d j gk hj)
          simp only [hLD.out] at this
          exact this)
        have A5 : Hid (∀ q ao ca, Rd2 q (.slice ao i ca) (lostS b K d i) → Below w.heap.size w q → ∀ j : Nat, j < i → Calls Try.prog 12 #[.agg #[.int .i64 b, .int .i64 b, .int .i64 b, .int .i64 (b + (i : Int)), .int .i64 (b + (K : Int)), .slice ao i ca, .bool false, .bool false], .agg #[.int .i64 4, .int .i64 (b + (j : Int)), .slice none 0 0], .agg #[.int .i64 42, .int .i64 0, .slice none 0 0]] q fun e w' => Below q.heap.size q w' ∧ ∃ (m : Md) (ao : Option Addr) (L ca : Nat), e = .returned (.tuple #[.agg #[.int .i64 m.ba, .int .i64 m.fi, .int .i64 m.du, .int .i64 m.nx, .int .i64 m.li, .slice ao L ca, .bool m.fa, .bool m.cl], .bool true])) := hide (fun q ao ca rd hq j hj => lost_apply g1 g2 gd gi gk rd ⟨4, b + (j : Int), []⟩ ⟨by simp only; omega, by simp only; omega⟩ none 0 (Sl.nil _) ⟨42, 0, []⟩ none 0 (Sl.nil _) (lost_y b K i d j))
        have A6 : Hid (∀ q ao ca, Rd2 q (.slice ao i ca) (lostS b K d i) → Below w.heap.size w q → ∀ j : Nat, j < i → Calls Try.prog 12 #[.agg #[.int .i64 b, .int .i64 b, .int .i64 b, .int .i64 (b + (i : Int)), .int .i64 (b + (K : Int)), .slice ao i ca, .bool false, .bool false], .agg #[.int .i64 6, .int .i64 (b + (j : Int)), .slice none 0 0], .agg #[.int .i64 0, .int .i64 0, .slice none 0 0]] q fun e w' => Below q.heap.size q w' ∧ ∃ (m : Md) (ao : Option Addr) (L ca : Nat), e = .returned (.tuple #[.agg #[.int .i64 m.ba, .int .i64 m.fi, .int .i64 m.du, .int .i64 m.nx, .int .i64 m.li, .slice ao L ca, .bool m.fa, .bool m.cl], .bool (decide (j ≤ K))])) := hide (fun q ao ca rd hq j hj => lost_apply g1 g2 gd gi gk rd ⟨6, b + (j : Int), []⟩ ⟨by simp only; omega, by simp only; omega⟩ none 0 (Sl.nil _) ⟨0, 0, []⟩ none 0 (Sl.nil _) (lost_t b K i d j gk hj))
        have CE : Hid (∀ q, LI w q p9 p11 (lostS b K d i) (.slice vo LD vc) → ∃ ao ca, Rd2 q (.slice ao i ca) (lostS b K d i) ∧ q.cell? ⟨p9, 0, none⟩ = some (.int .i64 b) ∧ q.cell? ⟨p9, 1, none⟩ = some (.int .i64 b) ∧ q.cell? ⟨p9, 2, none⟩ = some (.int .i64 b) ∧ q.cell? ⟨p9, 3, none⟩ = some (.int .i64 (b + (i : Int))) ∧ q.cell? ⟨p9, 4, none⟩ = some (.int .i64 (b + (K : Int))) ∧ q.cell? ⟨p9, 5, none⟩ = some (.slice ao i ca) ∧ q.cell? ⟨p9, 6, none⟩ = some (.bool false) ∧ q.cell? ⟨p9, 7, none⟩ = some (.bool false) ∧ Below w.heap.size w q) := hide (fun q hq => by
          obtain ⟨ao, ca, rd, x0, x1, x2, x3, x4, x5, x6, x7⟩ := hq.bm.cells
          have e : (lostS b K d i).li = b + (K : Int) := by simp [lostS]; omega
          have hlen : (lostS b K d i).rs.length = i := by simp [lostS]
          rw [hlen] at rd x5
          rw [e] at x4
          exact ⟨ao, ca, rd, x0, x1, x2, x3, x4, x5, x6, x7, hq.be⟩)
        have kK : IntKind.i64.wrap (b + (K : Int)) = b + (K : Int) := by rw [IntKind.wrap_i64]; omega
        have kN : IntKind.i64.wrap (b + (i : Int)) = b + (i : Int) := by rw [IntKind.wrap_i64]; omega
        go_upto_region 17 with fail
        obtain ⟨ao, ca, rd, x0, x1, x2, x3, x4, x5, x6, x7, bw⟩ := CE.out wr hL.out
        replace rd := hide rd
        replace bw := hide bw
        have AP := hide (A1.out wr ao ca rd.out bw.out)
        go_upto_region 18 with (go_at_call 12; refine AP.out.mono ?_; rintro e v1 ⟨B1, n1, ra1, rl1, rc1, rfl⟩; replace B1 := hide B1)
        obtain ⟨Y1, hY1⟩ : ∃ X, Hid (v1.alloc (.cells #[.int .i64 n1.ba, .int .i64 n1.fi, .int .i64 n1.du, .int .i64 n1.nx, .int .i64 n1.li, .slice ra1 rl1 rc1, .bool n1.fa, .bool n1.cl] 26) = X) := ⟨_, rfl⟩
        have M1 : Hid (LI w Y1 p9 p11 (lostS b K d i) (.slice vo LD vc)) := hide (by rw [← hY1.out]; exact (hL.out.below B1.out).below (box_below _ _))
        rw [hY1.out]
        clear hY1 B1 AP rd bw x0 x1 x2 x3 x4 x5 x6 x7
        obtain ⟨ao, ca, rd, x0, x1, x2, x3, x4, x5, x6, x7, bw⟩ := CE.out Y1 M1.out
        replace rd := hide rd
        replace bw := hide bw
        have AP := hide (A2.out Y1 ao ca rd.out bw.out)
        go_upto_region 19 with (go_at_call 12; refine AP.out.mono ?_; rintro e v2 ⟨B2, n2, ra2, rl2, rc2, rfl⟩; replace B2 := hide B2)
        obtain ⟨Y2, hY2⟩ : ∃ X, Hid (v2.alloc (.cells #[.int .i64 n2.ba, .int .i64 n2.fi, .int .i64 n2.du, .int .i64 n2.nx, .int .i64 n2.li, .slice ra2 rl2 rc2, .bool n2.fa, .bool n2.cl] 26) = X) := ⟨_, rfl⟩
        have M2 : Hid (LI w Y2 p9 p11 (lostS b K d i) (.slice vo LD vc)) := hide (by rw [← hY2.out]; exact (M1.out.below B2.out).below (box_below _ _))
        rw [hY2.out]
        clear hY2 B2 AP rd bw x0 x1 x2 x3 x4 x5 x6 x7
        obtain ⟨ao, ca, rd, x0, x1, x2, x3, x4, x5, x6, x7, bw⟩ := CE.out Y2 M2.out
        replace rd := hide rd
        replace bw := hide bw
        have AP := hide (A3.out Y2 ao ca rd.out bw.out)
        go_upto_region 20 with (go_at_call 12; refine AP.out.mono ?_; rintro e v3 ⟨B3, n3, ra3, rl3, rc3, rfl⟩; replace B3 := hide B3)
        obtain ⟨Y3, hY3⟩ : ∃ X, Hid (v3.alloc (.cells #[.int .i64 n3.ba, .int .i64 n3.fi, .int .i64 n3.du, .int .i64 n3.nx, .int .i64 n3.li, .slice ra3 rl3 rc3, .bool n3.fa, .bool n3.cl] 26) = X) := ⟨_, rfl⟩
        have M3 : Hid (LI w Y3 p9 p11 (lostS b K d i) (.slice vo LD vc)) := hide (by rw [← hY3.out]; exact (M2.out.below B3.out).below (box_below _ _))
        rw [hY3.out]
        clear hY3 B3 AP rd bw x0 x1 x2 x3 x4 x5 x6 x7
        obtain ⟨ao, ca, rd, x0, x1, x2, x3, x4, x5, x6, x7, bw⟩ := CE.out Y3 M3.out
        replace rd := hide rd
        replace bw := hide bw
        go_wp2_with fail
        clear rd bw x0 x1 x2 x3 x4 x5 x6 x7 M1 M2 hL A1 A2 A3
        go_loopw [22] (fun v22 wr => ∃ j : Nat, j ≤ i ∧ v22 = .int .i64 (j : Int) ∧ Hid (LI w wr p9 p11 (lostS b K d i) (.slice vo LD vc))) (fun v _ => i - (intOf v).toNat)
        case atStart => exact ⟨0, by omega, rfl, M3⟩
        case round =>
          obtain ⟨j, hj, rfl, hJ⟩ := hrel
          by_cases hjn : j = i
          · subst hjn
            have FIN := hide hJ.out.be
            go_wp2
            go_ret
            exact ⟨rfl, FIN.out⟩
          · have hjl : (j : Int) < (i : Int) := by omega
            have kj : IntKind.i64.wrap (b + (j : Int)) = b + (j : Int) := by rw [IntKind.wrap_i64]; omega
            have hjn' : j < i := by omega
            have RS := hide (rel_step hjn')
            rcases Nat.lt_trichotomy j K with hc | hc | hc
            · have D1 : Hid (decide (j < K) = true) := hide (by simp; omega)
              have D2 : Hid (decide (j ≤ K) = true) := hide (by simp; omega)
              have e1 : (j : Int) < (K : Int) := by omega
              have e2 : (j : Int) ≤ (K : Int) := by omega
              go_upto_region 26 with fail
              obtain ⟨ao, ca, rd, x0, x1, x2, x3, x4, x5, x6, x7, bw⟩ := CE.out wr hJ.out
              replace rd := hide rd
              replace bw := hide bw
              have AP := hide (A4.out wr ao ca rd.out bw.out j hjn')
              rw [D1.out] at AP
              go_upto_region 27 with (go_at_call 12; refine AP.out.mono ?_; rintro e v4 ⟨B4, n4, ra4, rl4, rc4, rfl⟩; replace B4 := hide B4)
              obtain ⟨Z1, hZ1⟩ : ∃ X, Hid (v4.alloc (.cells #[.int .i64 n4.ba, .int .i64 n4.fi, .int .i64 n4.du, .int .i64 n4.nx, .int .i64 n4.li, .slice ra4 rl4 rc4, .bool n4.fa, .bool n4.cl] 26) = X) := ⟨_, rfl⟩
              have J1 : Hid (LI w Z1 p9 p11 (lostS b K d i) (.slice vo LD vc)) := hide (by rw [← hZ1.out]; exact (hJ.out.below B4.out).below (box_below _ _))
              rw [hZ1.out]
              clear hZ1 B4 AP rd bw x0 x1 x2 x3 x4 x5 x6 x7
              obtain ⟨ao, ca, rd, x0, x1, x2, x3, x4, x5, x6, x7, bw⟩ := CE.out Z1 J1.out
              replace rd := hide rd
              replace bw := hide bw
              have AP := hide (A5.out Z1 ao ca rd.out bw.out j hjn')
              go_upto_region 28 with (go_at_call 12; refine AP.out.mono ?_; rintro e v5 ⟨B5, n5, ra5, rl5, rc5, rfl⟩; replace B5 := hide B5)
              obtain ⟨Z2, hZ2⟩ : ∃ X, Hid (v5.alloc (.cells #[.int .i64 n5.ba, .int .i64 n5.fi, .int .i64 n5.du, .int .i64 n5.nx, .int .i64 n5.li, .slice ra5 rl5 rc5, .bool n5.fa, .bool n5.cl] 26) = X) := ⟨_, rfl⟩
              have J2 : Hid (LI w Z2 p9 p11 (lostS b K d i) (.slice vo LD vc)) := hide (by rw [← hZ2.out]; exact (J1.out.below B5.out).below (box_below _ _))
              rw [hZ2.out]
              clear hZ2 B5 AP rd bw x0 x1 x2 x3 x4 x5 x6 x7
              obtain ⟨ao, ca, rd, x0, x1, x2, x3, x4, x5, x6, x7, bw⟩ := CE.out Z2 J2.out
              replace rd := hide rd
              replace bw := hide bw
              have AP := hide (A6.out Z2 ao ca rd.out bw.out j hjn')
              rw [D2.out] at AP
              go_upto_region 29 with (go_at_call 12; refine AP.out.mono ?_; rintro e v6 ⟨B6, n6, ra6, rl6, rc6, rfl⟩; replace B6 := hide B6)
              obtain ⟨Z3, hZ3⟩ : ∃ X, Hid (v6.alloc (.cells #[.int .i64 n6.ba, .int .i64 n6.fi, .int .i64 n6.du, .int .i64 n6.nx, .int .i64 n6.li, .slice ra6 rl6 rc6, .bool n6.fa, .bool n6.cl] 26) = X) := ⟨_, rfl⟩
              have J3 : Hid (LI w Z3 p9 p11 (lostS b K d i) (.slice vo LD vc)) := hide (by rw [← hZ3.out]; exact (J2.out.below B6.out).below (box_below _ _))
              rw [hZ3.out]
              clear hZ3 B6 AP rd bw x0 x1 x2 x3 x4 x5 x6 x7
              clear hJ J1 J2
              go_wp2_with fail
              exact ⟨⟨j + 1, RS.out.1, RS.out.2.1, J3⟩, RS.out.2.2⟩
            · subst hc
              have D1 : Hid (decide (j < j) = false) := hide (by simp)
              have D2 : Hid (decide (j ≤ j) = true) := hide (by simp)
              have e1 : decide ((j : Int) < (j : Int)) = false := by simp
              have e2 : (j : Int) ≤ (j : Int) := Int.le_refl _
              go_upto_region 26 with fail
              obtain ⟨ao, ca, rd, x0, x1, x2, x3, x4, x5, x6, x7, bw⟩ := CE.out wr hJ.out
              replace rd := hide rd
              replace bw := hide bw
              have AP := hide (A4.out wr ao ca rd.out bw.out j hjn')
              rw [D1.out] at AP
              go_upto_region 27 with (go_at_call 12; refine AP.out.mono ?_; rintro e v4 ⟨B4, n4, ra4, rl4, rc4, rfl⟩; replace B4 := hide B4)
              obtain ⟨Z1, hZ1⟩ : ∃ X, Hid (v4.alloc (.cells #[.int .i64 n4.ba, .int .i64 n4.fi, .int .i64 n4.du, .int .i64 n4.nx, .int .i64 n4.li, .slice ra4 rl4 rc4, .bool n4.fa, .bool n4.cl] 26) = X) := ⟨_, rfl⟩
              have J1 : Hid (LI w Z1 p9 p11 (lostS b j d i) (.slice vo LD vc)) := hide (by rw [← hZ1.out]; exact (hJ.out.below B4.out).below (box_below _ _))
              rw [hZ1.out]
              clear hZ1 B4 AP rd bw x0 x1 x2 x3 x4 x5 x6 x7
              obtain ⟨ao, ca, rd, x0, x1, x2, x3, x4, x5, x6, x7, bw⟩ := CE.out Z1 J1.out
              replace rd := hide rd
              replace bw := hide bw
              have AP := hide (A5.out Z1 ao ca rd.out bw.out j hjn')
              go_upto_region 28 with (go_at_call 12; refine AP.out.mono ?_; rintro e v5 ⟨B5, n5, ra5, rl5, rc5, rfl⟩; replace B5 := hide B5)
              obtain ⟨Z2, hZ2⟩ : ∃ X, Hid (v5.alloc (.cells #[.int .i64 n5.ba, .int .i64 n5.fi, .int .i64 n5.du, .int .i64 n5.nx, .int .i64 n5.li, .slice ra5 rl5 rc5, .bool n5.fa, .bool n5.cl] 26) = X) := ⟨_, rfl⟩
              have J2 : Hid (LI w Z2 p9 p11 (lostS b j d i) (.slice vo LD vc)) := hide (by rw [← hZ2.out]; exact (J1.out.below B5.out).below (box_below _ _))
              rw [hZ2.out]
              clear hZ2 B5 AP rd bw x0 x1 x2 x3 x4 x5 x6 x7
              obtain ⟨ao, ca, rd, x0, x1, x2, x3, x4, x5, x6, x7, bw⟩ := CE.out Z2 J2.out
              replace rd := hide rd
              replace bw := hide bw
              have AP := hide (A6.out Z2 ao ca rd.out bw.out j hjn')
              rw [D2.out] at AP
              go_upto_region 29 with (go_at_call 12; refine AP.out.mono ?_; rintro e v6 ⟨B6, n6, ra6, rl6, rc6, rfl⟩; replace B6 := hide B6)
              obtain ⟨Z3, hZ3⟩ : ∃ X, Hid (v6.alloc (.cells #[.int .i64 n6.ba, .int .i64 n6.fi, .int .i64 n6.du, .int .i64 n6.nx, .int .i64 n6.li, .slice ra6 rl6 rc6, .bool n6.fa, .bool n6.cl] 26) = X) := ⟨_, rfl⟩
              have J3 : Hid (LI w Z3 p9 p11 (lostS b j d i) (.slice vo LD vc)) := hide (by rw [← hZ3.out]; exact (J2.out.below B6.out).below (box_below _ _))
              rw [hZ3.out]
              clear hZ3 B6 AP rd bw x0 x1 x2 x3 x4 x5 x6 x7
              clear hJ J1 J2
              go_wp2_with fail
              exact ⟨⟨j + 1, RS.out.1, RS.out.2.1, J3⟩, RS.out.2.2⟩
            · have D1 : Hid (decide (j < K) = false) := hide (by simp; omega)
              have D2 : Hid (decide (j ≤ K) = false) := hide (by simp; omega)
              have e1 : decide ((j : Int) < (K : Int)) = false := by simp; omega
              have e2 : decide ((j : Int) ≤ (K : Int)) = false := by simp; omega
              go_upto_region 26 with fail
              obtain ⟨ao, ca, rd, x0, x1, x2, x3, x4, x5, x6, x7, bw⟩ := CE.out wr hJ.out
              replace rd := hide rd
              replace bw := hide bw
              have AP := hide (A4.out wr ao ca rd.out bw.out j hjn')
              rw [D1.out] at AP
              go_upto_region 27 with (go_at_call 12; refine AP.out.mono ?_; rintro e v4 ⟨B4, n4, ra4, rl4, rc4, rfl⟩; replace B4 := hide B4)
              obtain ⟨Z1, hZ1⟩ : ∃ X, Hid (v4.alloc (.cells #[.int .i64 n4.ba, .int .i64 n4.fi, .int .i64 n4.du, .int .i64 n4.nx, .int .i64 n4.li, .slice ra4 rl4 rc4, .bool n4.fa, .bool n4.cl] 26) = X) := ⟨_, rfl⟩
              have J1 : Hid (LI w Z1 p9 p11 (lostS b K d i) (.slice vo LD vc)) := hide (by rw [← hZ1.out]; exact (hJ.out.below B4.out).below (box_below _ _))
              rw [hZ1.out]
              clear hZ1 B4 AP rd bw x0 x1 x2 x3 x4 x5 x6 x7
              obtain ⟨ao, ca, rd, x0, x1, x2, x3, x4, x5, x6, x7, bw⟩ := CE.out Z1 J1.out
              replace rd := hide rd
              replace bw := hide bw
              have AP := hide (A5.out Z1 ao ca rd.out bw.out j hjn')
              go_upto_region 28 with (go_at_call 12; refine AP.out.mono ?_; rintro e v5 ⟨B5, n5, ra5, rl5, rc5, rfl⟩; replace B5 := hide B5)
              obtain ⟨Z2, hZ2⟩ : ∃ X, Hid (v5.alloc (.cells #[.int .i64 n5.ba, .int .i64 n5.fi, .int .i64 n5.du, .int .i64 n5.nx, .int .i64 n5.li, .slice ra5 rl5 rc5, .bool n5.fa, .bool n5.cl] 26) = X) := ⟨_, rfl⟩
              have J2 : Hid (LI w Z2 p9 p11 (lostS b K d i) (.slice vo LD vc)) := hide (by rw [← hZ2.out]; exact (J1.out.below B5.out).below (box_below _ _))
              rw [hZ2.out]
              clear hZ2 B5 AP rd bw x0 x1 x2 x3 x4 x5 x6 x7
              obtain ⟨ao, ca, rd, x0, x1, x2, x3, x4, x5, x6, x7, bw⟩ := CE.out Z2 J2.out
              replace rd := hide rd
              replace bw := hide bw
              have AP := hide (A6.out Z2 ao ca rd.out bw.out j hjn')
              rw [D2.out] at AP
              go_upto_region 29 with (go_at_call 12; refine AP.out.mono ?_; rintro e v6 ⟨B6, n6, ra6, rl6, rc6, rfl⟩; replace B6 := hide B6)
              obtain ⟨Z3, hZ3⟩ : ∃ X, Hid (v6.alloc (.cells #[.int .i64 n6.ba, .int .i64 n6.fi, .int .i64 n6.du, .int .i64 n6.nx, .int .i64 n6.li, .slice ra6 rl6 rc6, .bool n6.fa, .bool n6.cl] 26) = X) := ⟨_, rfl⟩
              have J3 : Hid (LI w Z3 p9 p11 (lostS b K d i) (.slice vo LD vc)) := hide (by rw [← hZ3.out]; exact (J2.out.below B6.out).below (box_below _ _))
              rw [hZ3.out]
              clear hZ3 B6 AP rd bw x0 x1 x2 x3 x4 x5 x6 x7
              clear hJ J1 J2
              go_wp2_with fail
              exact ⟨⟨j + 1, RS.out.1, RS.out.2.1, J3⟩, RS.out.2.2⟩
      · have hil : (i : Int) < (N : Int) := by omega
        have kw : IntKind.i64.wrap (b + (i : Int)) = b + (i : Int) := by rw [IntKind.wrap_i64]; omega
        by_cases hk : i = K
        · subst hk
          go_upto_region 13 with fail
          obtain ⟨X3, hX3⟩ : ∃ X, Hid (wr.alloc (.cells #[.int .i64 40, .int .i64 (b + (i : Int)), .slice none 0 0] 35) = X) := ⟨_, rfl⟩
          have B3 := box_below wr (.cells #[.int .i64 40, .int .i64 (b + (i : Int)), .slice none 0 0] 35)
          have N3 := heap_alloc_new wr (.cells #[.int .i64 40, .int .i64 (b + (i : Int)), .slice none 0 0] 35)
          rw [hX3.out] at B3 N3
          have L3 := hide (hL.out.below B3)
          obtain ⟨ao, ca, rd, x0, x1, x2, x3, x4, x5, x6, x7⟩ := L3.out.bm.cells
          have hlen : (lostS b i d i).rs.length = i := by simp [lostS]
          rw [hlen] at rd x5
          have y0 := cell_of (off := 0) L3.out.cl
          have y1 := cell_of (off := 1) L3.out.cl
          have y2 := cell_of (off := 2) L3.out.cl
          have z0 := cell_of (off := 0) N3
          have z1 := cell_of (off := 1) N3
          have z2 := cell_of (off := 2) N3
          simp only [List.getElem?_toArray, List.getElem?_cons_zero, List.getElem?_cons_succ] at y0 y1 y2 z0 z1 z2
          obtain ⟨M, hM⟩ : ∃ M, Hid (lostS b i d i = M) := ⟨_, rfl⟩
          obtain ⟨M2, hM2⟩ : ∃ M, Hid (lostS b i d (i + 1) = M) := ⟨_, rfl⟩
          have AP : Hid (Calls Try.prog 12 #[.agg #[.int .i64 M.ba, .int .i64 M.fi, .int .i64 M.du, .int .i64 M.nx, .int .i64 M.li, .slice ao i ca, .bool M.fa, .bool M.cl], .agg #[.int .i64 2, .int .i64 0, .slice vo LD vc], .agg #[.int .i64 40, .int .i64 (b + (i : Int)), .slice none 0 0]] X3 fun e w' => Said X3 (some M2) e w') := hide (by
            have st := lost_step b i d i g1 g2 (by omega) (by rw [hLD.out]; exact g7)
            rw [if_pos rfl] at st
            have := apply_rd rd (lost_inv b i d g1 g2 (by rw [hLD.out]; exact g7) i (by omega)) (by rw [hlen]; omega) ⟨2, 0, d⟩ ⟨by simp, by simp⟩ vo vc (by simp only [hLD.out]; exact Below.sl L3.out.be HD.out) ⟨40, b + (i : Int), []⟩ none 0 (Sl.nil _)
            simp only [hLD.out] at this
            rw [st] at this
            rw [← hM.out, ← hM2.out]
            exact this)
          rw [hM.out] at x0 x1 x2 x3 x4 x6 x7
          rw [hX3.out]
          clear rd B3 N3 hX3 hlen
          go_upto_region 16 with (go_at_call 12; refine AP.out.mono ?_; intro e u4 hs; obtain ⟨B4, ao4, ca4, rfl, hO⟩ := hs.yes; replace B4 := hide B4; replace hO := hide hO)
          obtain ⟨X4, hX4⟩ : ∃ X, Hid (u4.alloc (.cells #[.int .i64 M2.ba, .int .i64 M2.fi, .int .i64 M2.du, .int .i64 M2.nx, .int .i64 M2.li, .slice ao4 M2.rs.length ca4, .bool M2.fa, .bool M2.cl] 26) = X) := ⟨_, rfl⟩
          have B5 := box_below u4 (.cells #[.int .i64 M2.ba, .int .i64 M2.fi, .int .i64 M2.du, .int .i64 M2.nx, .int .i64 M2.li, .slice ao4 M2.rs.length ca4, .bool M2.fa, .bool M2.cl] 26)
          have N5 := heap_alloc_new u4 (.cells #[.int .i64 M2.ba, .int .i64 M2.fi, .int .i64 M2.du, .int .i64 M2.nx, .int .i64 M2.li, .slice ao4 M2.rs.length ca4, .bool M2.fa, .bool M2.cl] 26)
          rw [hX4.out] at B5 N5
          rw [hX4.out]
          clear x0 x1 x2 x3 x4 x5 x6 x7 y0 y1 y2 z0 z1 z2 AP hX4
          obtain ⟨m0, m1, m2, m3, m4, m5, m6, m7⟩ := eight N5
          have L5 := hide ((L3.out.below B4.out).below B5)
          obtain ⟨po, pc, ph, prd⟩ := L5.out.bm
          rw [hM.out] at ph
          obtain ⟨x0, x1, x2, x3, x4, x5, x6, x7⟩ := eight ph
          have f0 := frz_of (off := 0) ph
          have f1 := frz_of (off := 1) ph
          have f2 := frz_of (off := 2) ph
          have f3 := frz_of (off := 3) ph
          have f4 := frz_of (off := 4) ph
          have f5 := frz_of (off := 5) ph
          have f6 := frz_of (off := 6) ph
          have f7 := frz_of (off := 7) ph
          obtain ⟨W, hW⟩ : ∃ W, Hid (put8 X4 p9 (.int .i64 M2.ba) (.int .i64 M2.fi) (.int .i64 M2.du) (.int .i64 M2.nx) (.int .i64 M2.li) (.slice ao4 M2.rs.length ca4) (.bool M2.fa) (.bool M2.cl) = W) := ⟨_, rfl⟩
          have NL : Hid (LI w W p9 p11 (lostS b i d (i + 1)) (.slice vo LD vc)) := hide (by
            have P := put8_but X4 p9 (.int .i64 M2.ba) (.int .i64 M2.fi) (.int .i64 M2.du) (.int .i64 M2.nx) (.int .i64 M2.li) (.slice ao4 M2.rs.length ca4) (.bool M2.fa) (.bool M2.cl)
            have H := put8_heap ph (.int .i64 M2.ba) (.int .i64 M2.fi) (.int .i64 M2.du) (.int .i64 M2.nx) (.int .i64 M2.li) (.slice ao4 M2.rs.length ca4) (.bool M2.fa) (.bool M2.cl)
            rw [hW.out] at P H
            have q5 := L5.out
            rw [hM2.out]
            have hp9 := hL.out.bm.lt
            have O5 := (hO.out.below B5).but P (fun k hk => by have := L3.out.bm.lt; omega)
            exact ⟨bm_but H O5.rd2, (P.block p11 (heap_lt q5.cl) (fun c => q5.ne c.symm)).trans q5.cl, q5.be.trans (P.below q5.be.size (fun k hk => by rw [hk]; exact q5.g9)), q5.g9, q5.g11, q5.ne⟩)
          have hW' := hide hW.out
          unfold put8 at hW'
          clear N5 ph prd B5 hW L5 L3 hL hO B4
          go_upto_region 9 with fail
          rw [hW'.out]
          clear m0 m1 m2 m3 m4 m5 m6 m7 x0 x1 x2 x3 x4 x5 x6 x7 f0 f1 f2 f3 f4 f5 f6 f7 hW'
          go_wp2_with fail
          go_roundw
          case rel => exact ⟨i + 1, by omega, by go_num, NL⟩
          case measure => simp [intOf]; omega
        · have kk : ((i : Int) == (K : Int)) = false := by simp; omega
          go_upto_region 13 with fail
          obtain ⟨X3, hX3⟩ : ∃ X, Hid (wr.alloc (.cells #[.int .i64 0, .int .i64 (b + (i : Int)), .slice none 0 0] 35) = X) := ⟨_, rfl⟩
          have B3 := box_below wr (.cells #[.int .i64 0, .int .i64 (b + (i : Int)), .slice none 0 0] 35)
          have N3 := heap_alloc_new wr (.cells #[.int .i64 0, .int .i64 (b + (i : Int)), .slice none 0 0] 35)
          rw [hX3.out] at B3 N3
          have L3 := hide (hL.out.below B3)
          obtain ⟨ao, ca, rd, x0, x1, x2, x3, x4, x5, x6, x7⟩ := L3.out.bm.cells
          have hlen : (lostS b K d i).rs.length = i := by simp [lostS]
          rw [hlen] at rd x5
          have y0 := cell_of (off := 0) L3.out.cl
          have y1 := cell_of (off := 1) L3.out.cl
          have y2 := cell_of (off := 2) L3.out.cl
          have z0 := cell_of (off := 0) N3
          have z1 := cell_of (off := 1) N3
          have z2 := cell_of (off := 2) N3
          simp only [List.getElem?_toArray, List.getElem?_cons_zero, List.getElem?_cons_succ] at y0 y1 y2 z0 z1 z2
          obtain ⟨M, hM⟩ : ∃ M, Hid (lostS b K d i = M) := ⟨_, rfl⟩
          obtain ⟨M2, hM2⟩ : ∃ M, Hid (lostS b K d (i + 1) = M) := ⟨_, rfl⟩
          have AP : Hid (Calls Try.prog 12 #[.agg #[.int .i64 M.ba, .int .i64 M.fi, .int .i64 M.du, .int .i64 M.nx, .int .i64 M.li, .slice ao i ca, .bool M.fa, .bool M.cl], .agg #[.int .i64 2, .int .i64 0, .slice vo LD vc], .agg #[.int .i64 0, .int .i64 (b + (i : Int)), .slice none 0 0]] X3 fun e w' => Said X3 (some M2) e w') := hide (by
            have st := lost_step b K d i g1 g2 (by omega) (by rw [hLD.out]; exact g7)
            rw [if_neg hk] at st
            have := apply_rd rd (lost_inv b K d g1 g2 (by rw [hLD.out]; exact g7) i (by omega)) (by rw [hlen]; omega) ⟨2, 0, d⟩ ⟨by simp, by simp⟩ vo vc (by simp only [hLD.out]; exact Below.sl L3.out.be HD.out) ⟨0, b + (i : Int), []⟩ none 0 (Sl.nil _)
            simp only [hLD.out] at this
            rw [st] at this
            rw [← hM.out, ← hM2.out]
            exact this)
          rw [hM.out] at x0 x1 x2 x3 x4 x6 x7
          rw [hX3.out]
          clear rd B3 N3 hX3 hlen
          go_upto_region 16 with (go_at_call 12; refine AP.out.mono ?_; intro e u4 hs; obtain ⟨B4, ao4, ca4, rfl, hO⟩ := hs.yes; replace B4 := hide B4; replace hO := hide hO)
          obtain ⟨X4, hX4⟩ : ∃ X, Hid (u4.alloc (.cells #[.int .i64 M2.ba, .int .i64 M2.fi, .int .i64 M2.du, .int .i64 M2.nx, .int .i64 M2.li, .slice ao4 M2.rs.length ca4, .bool M2.fa, .bool M2.cl] 26) = X) := ⟨_, rfl⟩
          have B5 := box_below u4 (.cells #[.int .i64 M2.ba, .int .i64 M2.fi, .int .i64 M2.du, .int .i64 M2.nx, .int .i64 M2.li, .slice ao4 M2.rs.length ca4, .bool M2.fa, .bool M2.cl] 26)
          have N5 := heap_alloc_new u4 (.cells #[.int .i64 M2.ba, .int .i64 M2.fi, .int .i64 M2.du, .int .i64 M2.nx, .int .i64 M2.li, .slice ao4 M2.rs.length ca4, .bool M2.fa, .bool M2.cl] 26)
          rw [hX4.out] at B5 N5
          rw [hX4.out]
          clear x0 x1 x2 x3 x4 x5 x6 x7 y0 y1 y2 z0 z1 z2 AP hX4
          obtain ⟨m0, m1, m2, m3, m4, m5, m6, m7⟩ := eight N5
          have L5 := hide ((L3.out.below B4.out).below B5)
          obtain ⟨po, pc, ph, prd⟩ := L5.out.bm
          rw [hM.out] at ph
          obtain ⟨x0, x1, x2, x3, x4, x5, x6, x7⟩ := eight ph
          have f0 := frz_of (off := 0) ph
          have f1 := frz_of (off := 1) ph
          have f2 := frz_of (off := 2) ph
          have f3 := frz_of (off := 3) ph
          have f4 := frz_of (off := 4) ph
          have f5 := frz_of (off := 5) ph
          have f6 := frz_of (off := 6) ph
          have f7 := frz_of (off := 7) ph
          obtain ⟨W, hW⟩ : ∃ W, Hid (put8 X4 p9 (.int .i64 M2.ba) (.int .i64 M2.fi) (.int .i64 M2.du) (.int .i64 M2.nx) (.int .i64 M2.li) (.slice ao4 M2.rs.length ca4) (.bool M2.fa) (.bool M2.cl) = W) := ⟨_, rfl⟩
          have NL : Hid (LI w W p9 p11 (lostS b K d (i + 1)) (.slice vo LD vc)) := hide (by
            have P := put8_but X4 p9 (.int .i64 M2.ba) (.int .i64 M2.fi) (.int .i64 M2.du) (.int .i64 M2.nx) (.int .i64 M2.li) (.slice ao4 M2.rs.length ca4) (.bool M2.fa) (.bool M2.cl)
            have H := put8_heap ph (.int .i64 M2.ba) (.int .i64 M2.fi) (.int .i64 M2.du) (.int .i64 M2.nx) (.int .i64 M2.li) (.slice ao4 M2.rs.length ca4) (.bool M2.fa) (.bool M2.cl)
            rw [hW.out] at P H
            have q5 := L5.out
            rw [hM2.out]
            have hp9 := hL.out.bm.lt
            have O5 := (hO.out.below B5).but P (fun k hk => by have := L3.out.bm.lt; omega)
            exact ⟨bm_but H O5.rd2, (P.block p11 (heap_lt q5.cl) (fun c => q5.ne c.symm)).trans q5.cl, q5.be.trans (P.below q5.be.size (fun k hk => by rw [hk]; exact q5.g9)), q5.g9, q5.g11, q5.ne⟩)
          have hW' := hide hW.out
          unfold put8 at hW'
          clear N5 ph prd B5 hW L5 L3 hL hO B4
          go_upto_region 9 with fail
          rw [hW'.out]
          clear m0 m1 m2 m3 m4 m5 m6 m7 x0 x1 x2 x3 x4 x5 x6 x7 f0 f1 f2 f3 f4 f5 f6 f7 hW'
          go_wp2_with fail
          go_roundw
          case rel => exact ⟨i + 1, by omega, by go_num, NL⟩
          case measure => simp [intOf]; omega
end Go.Proofs.Ytmehlgebbbkdiaa.Um

