/-
  Apply, Half of the package. (gen_UmO.py)
-/
import Derived.Test.YtmehlgebbbkdiaaM04
import Derived.BigRegion
import Derived.BigQuiet
import Derived.Deep.RegionHeld3
import Derived.Deep.Cut
import Derived.Test.YtmehlgebbbkdiaaM01
namespace Go.Proofs.Ytmehlgebbbkdiaa.Um
open Go.RowKit Go.Maps
open Ix (wp_region_T wpAnyT wpAnyT_take wpAnyT_one wpAnyT_done vac)
set_option linter.unusedVariables false
set_option linter.unusedSimpArgs false
set_option maxRecDepth 100000
/-- What Apply and Half answer. -/
def Said (w : World) (R : Option Md) (e : Ending) (w' : World) : Prop :=
  Below w.heap.size w w' ∧ ∃ (m' : Md) (ao : Option Addr) (L ca : Nat), m' = R.getD zeroS ∧ e = .returned (.tuple #[.agg #[.int .i64 m'.ba, .int .i64 m'.fi, .int .i64 m'.du, .int .i64 m'.nx, .int .i64 m'.li, .slice ao L ca, .bool m'.fa, .bool m'.cl], .bool R.isSome]) ∧ Own w.heap.size w' (.slice ao L ca) m'.rs
theorem Inv.i64 {b : Int} {m : Md} (h : Inv b m) : I64 m.nx ∧ I64 m.ba := by
  have := h.b1; have := h.ba; have := h.bf; have := h.fd; have := h.dn; have := h.nt
  unfold I64
  omega
theorem ok_fit {b : Int} {m m' : Md} (hl : m.rs.length < 900) (h : Ok b m m') : m'.rs.length ≤ 1000 ∧ ∀ d ∈ m'.rs, d.length ≤ 140737488355328 := by
  have := h.2.rs
  exact ⟨by omega, fun d hd => by have := h.1.dl4 d hd; omega⟩
set_option maxHeartbeats 1000000 in
theorem clos2 (w : World) {sb : Nat} {m : Md} (h : St sb w m) (c : Cl) (ao : Option Addr) (ca : Nat) (r : Rs) (bo : Option Addr) (cb : Nat) (hA : Ask sb w m c r ao bo ca cb) {pc pr : Nat} (h2 : w.heap[pc]? = some (.cells #[.int .i64 c.k, .int .i64 c.n, .slice ao c.d.length ca] 33 (0, 0))) (h3 : w.heap[pr]? = some (.cells #[.int .i64 r.e, .int .i64 r.n, .slice bo r.d.length cb] 35 (0, 0))) :
    Calls Try.prog 25 #[.pointer (some ⟨sb, 0, none⟩), .pointer (some ⟨pc, 0, none⟩), .pointer (some ⟨pr, 0, none⟩)] w fun e w' => Goes sb w (answerS m c r) e w' := by
  have AN := hide (answer_any w h c r ao bo ca cb hA)
  have x0 := cell_of (off := 0) h2
  have x1 := cell_of (off := 1) h2
  have x2 := cell_of (off := 2) h2
  have y0 := cell_of (off := 0) h3
  have y1 := cell_of (off := 1) h3
  have y2 := cell_of (off := 2) h3
  simp only [List.getElem?_toArray, List.getElem?_cons_zero, List.getElem?_cons_succ] at x0 x1 x2 y0 y1 y2
  obtain ⟨R, hR⟩ : ∃ R, Hid (answerS m c r = R) := ⟨_, rfl⟩
  rw [hR.out] at AN ⊢
  clear hR h h2 h3 hA
  cases R with
  | none =>
    go_enter Try.func25, Try.ntmps25
    go_wp2_with (go_at_call 26; refine AN.out.mono ?_; rintro e w3 ⟨g3, rfl⟩)
    exact ⟨rfl, Goes.none g3⟩
  | some m1 =>
    go_enter Try.func25, Try.ntmps25
    go_wp2_with (go_at_call 26; refine AN.out.mono ?_; rintro e w3 ⟨g3, rfl, s3⟩)
    first | go_end0 | refine bodyPost_ret (results_none rfl _ _ _) rfl ?_
    exact Goes.some g3 s3
set_option maxHeartbeats 1000000 in
theorem clos1 (w : World) {sb : Nat} {m : Md} (h : St sb w m) (c : Cl) (ao : Option Addr) (ca : Nat) (hA : Ask sb w m c ⟨0, 0, []⟩ ao none ca 0) {pc : Nat} (h2 : w.heap[pc]? = some (.cells #[.int .i64 c.k, .int .i64 c.n, .slice ao c.d.length ca] 33 (0, 0))) :
    Calls Try.prog 20 #[.pointer (some ⟨sb, 0, none⟩), .pointer (some ⟨pc, 0, none⟩)] w fun e w' => Goes sb w (takeS m c) e w' := by
  have AN := hide (take_any w h c ao ca hA)
  have x0 := cell_of (off := 0) h2
  have x1 := cell_of (off := 1) h2
  have x2 := cell_of (off := 2) h2
  simp only [List.getElem?_toArray, List.getElem?_cons_zero, List.getElem?_cons_succ] at x0 x1 x2
  obtain ⟨R, hR⟩ : ∃ R, Hid (takeS m c = R) := ⟨_, rfl⟩
  rw [hR.out] at AN ⊢
  clear hR h h2 hA
  cases R with
  | none =>
    go_enter Try.func20, Try.ntmps20
    go_wp2_with (go_at_call 21; refine AN.out.mono ?_; rintro e w3 ⟨g3, rfl⟩)
    exact ⟨rfl, Goes.none g3⟩
  | some m1 =>
    go_enter Try.func20, Try.ntmps20
    go_wp2_with (go_at_call 21; refine AN.out.mono ?_; rintro e w3 ⟨g3, rfl, s3⟩)
    first | go_end0 | refine bodyPost_ret (results_none rfl _ _ _) rfl ?_
    exact Goes.some g3 s3
set_option maxHeartbeats 4000000 in
theorem apply_any (w : World) {b : Int} (m : Md) (v : Value) (vs : List Value) (hr : Row w v vs) (hs : Sls w vs m.rs) (hI : Inv b m) (hl : m.rs.length < 900) (c : Cl) (hn : I64 c.n) (ao : Option Addr) (ca : Nat) (hcd : Sl w (.slice ao c.d.length ca) c.d) (r : Rs) (bo : Option Addr) (cb : Nat) (hrd : Sl w (.slice bo r.d.length cb) r.d) :
    Calls Try.prog 12 #[.agg #[.int .i64 m.ba, .int .i64 m.fi, .int .i64 m.du, .int .i64 m.nx, .int .i64 m.li, v, .bool m.fa, .bool m.cl], .agg #[.int .i64 c.k, .int .i64 c.n, .slice ao c.d.length ca], .agg #[.int .i64 r.e, .int .i64 r.n, .slice bo r.d.length cb]] w fun e w' => Said w (answerS m c r) e w' := by
  have hmf : ∀ (fn : Fn) (first cap : Array Value) (w : World), (Instr.makeFunc fn first cap).run Try.prog w = .ok (.func fn first cap) w := fun _ _ _ _ => rfl
  have FIT : Hid (∀ m', answerS m c r = some m' → m'.rs.length ≤ 1000 ∧ ∀ d ∈ m'.rs, d.length ≤ 140737488355328) := hide (fun m' e => ok_fit hl (answer_ok hI e))
  have hlen := hs.1
  have ix := hI.i64
  obtain ⟨so, sc, ev, -⟩ := id hr
  subst ev
  have AC : Hid (∀ sb u (pc pr : Nat), w.heap.size ≤ sb → Below w.heap.size w u → St sb u m → u.heap[pc]? = some (.cells #[.int .i64 c.k, .int .i64 c.n, .slice ao c.d.length ca] 33 (0, 0)) → u.heap[pr]? = some (.cells #[.int .i64 r.e, .int .i64 r.n, .slice bo r.d.length cb] 35 (0, 0)) → Calls Try.prog 25 #[.pointer (some ⟨sb, 0, none⟩), .pointer (some ⟨pc, 0, none⟩), .pointer (some ⟨pr, 0, none⟩)] u fun e w' => Goes sb u (answerS m c r) e w') := hide (fun sb u pc pr h1 h2 h3 h4 h5 =>
    clos2 u h3 c ao ca r bo cb ⟨ix.1, ix.2, by omega, hn, Sd.of hcd h2 h1, Sd.of hrd h2 h1⟩ h4 h5)
  have FO : Hid (∀ q, Below w.heap.size w q → ∀ (R : Option Md), R = answerS m c r → ∀ (x y : Value), (∀ sb u, q.heap.size ≤ sb → Below q.heap.size q u → St sb u m → Calls Try.prog 25 #[.pointer (some ⟨sb, 0, none⟩), x, y] u fun e w' => Goes sb u R e w') → Calls Try.prog 19 #[.agg #[.int .i64 m.ba, .int .i64 m.fi, .int .i64 m.du, .int .i64 m.nx, .int .i64 m.li, .slice so vs.length sc, .bool m.fa, .bool m.cl], .func (.func 25) #[] #[x, y]] q fun e w' => Ans q R e w') := hide (fun q hq R hR x y hc => by
    have := following2_any q m (.slice so vs.length sc) vs (Below.row hq hr) (Below.sls hq hs) x y R (fun m' e => FIT.out m' (by rw [← hR]; exact e)) hc
    exact this)
  clear FIT hr hs hI hl hn hcd hrd ix hlen
  obtain ⟨R, hR⟩ : ∃ R, Hid (R = answerS m c r) := ⟨_, rfl⟩
  rw [← hR.out] at AC ⊢
  have FO2 := hide (fun q hq => FO.out q hq R hR.out)
  clear hR FO
  obtain ⟨ba, fi, du, nx, li, rs, fa, cl⟩ := m
  obtain ⟨ck, cn, cd⟩ := c
  obtain ⟨re, rn, rd⟩ := r
  simp only at AC FO2 ⊢
  generalize vs.length = L at *
  generalize cd.length = LC at *
  generalize rd.length = LR at *
  have B0 := box_below w (.cells #[.int .i64 ba, .int .i64 fi, .int .i64 du, .int .i64 nx, .int .i64 li, .slice so L sc, .bool fa, .bool cl] 26)
  have N0 := heap_alloc_new w (.cells #[.int .i64 ba, .int .i64 fi, .int .i64 du, .int .i64 nx, .int .i64 li, .slice so L sc, .bool fa, .bool cl] 26)
  obtain ⟨w0, hw0⟩ : ∃ uu, Hid (w.alloc (.cells #[.int .i64 ba, .int .i64 fi, .int .i64 du, .int .i64 nx, .int .i64 li, .slice so L sc, .bool fa, .bool cl] 26) = uu) := ⟨_, rfl⟩
  have hz0 : w0.heap.size = w.heap.size + 1 := by rw [← hw0.out]; simp
  rw [hw0.out] at B0 N0
  have B1 := box_below w0 (.cells #[.int .i64 ck, .int .i64 cn, .slice ao LC ca] 33)
  have N1 := heap_alloc_new w0 (.cells #[.int .i64 ck, .int .i64 cn, .slice ao LC ca] 33)
  obtain ⟨w1, hw1⟩ : ∃ uu, Hid (w0.alloc (.cells #[.int .i64 ck, .int .i64 cn, .slice ao LC ca] 33) = uu) := ⟨_, rfl⟩
  have hz1 : w1.heap.size = w.heap.size + 2 := by rw [← hw1.out]; simp; omega
  rw [hw1.out] at B1 N1
  rw [hz0] at N1
  have B2 := box_below w1 (.cells #[.int .i64 re, .int .i64 rn, .slice bo LR cb] 35)
  have N2 := heap_alloc_new w1 (.cells #[.int .i64 re, .int .i64 rn, .slice bo LR cb] 35)
  obtain ⟨w2, hw2⟩ : ∃ uu, Hid (w1.alloc (.cells #[.int .i64 re, .int .i64 rn, .slice bo LR cb] 35) = uu) := ⟨_, rfl⟩
  have hz2 : w2.heap.size = w.heap.size + 3 := by rw [← hw2.out]; simp; omega
  rw [hw2.out] at B2 N2
  rw [hz1] at N2
  have B3 := box_below w2 (.cells zc 26)
  have N3 := heap_alloc_new w2 (.cells zc 26)
  obtain ⟨w3, hw3⟩ : ∃ uu, Hid (w2.alloc (.cells zc 26) = uu) := ⟨_, rfl⟩
  have hz3 : w3.heap.size = w.heap.size + 4 := by rw [← hw3.out]; simp; omega
  rw [hw3.out] at B3 N3
  rw [hz2] at N3
  have hB0 : Below w.heap.size w w0 := B0
  have hB1 : Below w.heap.size w w1 := hB0.trans ⟨B1.os, B1.tape, B1.output, B1.size, fun i hi => B1.block i (by omega)⟩
  have hB2 : Below w.heap.size w w2 := hB1.trans ⟨B2.os, B2.tape, B2.output, B2.size, fun i hi => B2.block i (by omega)⟩
  have hB3 : Below w.heap.size w w3 := hB2.trans ⟨B3.os, B3.tape, B3.output, B3.size, fun i hi => B3.block i (by omega)⟩
  have hB := hB3
  clear hB0 hB1 hB2 hB3
  have K0 := (B3.block _ (by omega)).trans ((B2.block _ (by omega)).trans ((B1.block _ (by omega)).trans (N0)))
  have K1 := (B3.block _ (by omega)).trans ((B2.block _ (by omega)).trans (N1))
  have K2 := (B3.block _ (by omega)).trans (N2)
  have FOL := hide (FO2.out w3 hB (.pointer (some ⟨w.heap.size + 1, 0, none⟩)) (.pointer (some ⟨w.heap.size + 2, 0, none⟩)) (fun sb u h1 h2 h3 => AC.out sb u _ _ (by omega) (hB.trans ⟨h2.os, h2.tape, h2.output, h2.size, fun k hk => h2.block k (by omega)⟩) h3 ((h2.block _ (by omega)).trans K1) ((h2.block _ (by omega)).trans K2)))
  clear FO2 AC
  obtain ⟨t0, t1, t2, t3, t4, t5, t6, t7⟩ := eight K0
  have EN : Hid (∀ w5 m' ao' L' ca', Below w3.heap.size w3 w5 → Own w3.heap.size w5 (.slice ao' L' ca') m'.rs → m' = R.getD zeroS → ∃ W, Hid (put8 w5 (w.heap.size + 1 + 1 + 1) (.int .i64 m'.ba) (.int .i64 m'.fi) (.int .i64 m'.du) (.int .i64 m'.nx) (.int .i64 m'.li) (.slice ao' L' ca') (.bool m'.fa) (.bool m'.cl) = W) ∧ w5.heap[w.heap.size + 1 + 1 + 1]? = some (.cells zc 26 (0, 0)) ∧ W.heap[w.heap.size + 1 + 1 + 1]? = some (.cells #[.int .i64 m'.ba, .int .i64 m'.fi, .int .i64 m'.du, .int .i64 m'.nx, .int .i64 m'.li, .slice ao' L' ca', .bool m'.fa, .bool m'.cl] 26 (0, 0)) ∧ Said w R (.returned (.tuple #[.agg #[.int .i64 m'.ba, .int .i64 m'.fi, .int .i64 m'.du, .int .i64 m'.nx, .int .i64 m'.li, .slice ao' L' ca', .bool m'.fa, .bool m'.cl], .bool R.isSome])) W) := hide (fun w5 m' ao' L' ca' hB5 hO hm => by
    have k5 := (hB5.block _ (by omega)).trans N3
    have P := put8_but w5 (w.heap.size + 1 + 1 + 1) (.int .i64 m'.ba) (.int .i64 m'.fi) (.int .i64 m'.du) (.int .i64 m'.nx) (.int .i64 m'.li) (.slice ao' L' ca') (.bool m'.fa) (.bool m'.cl)
    have hB6 : Below w.heap.size w w5 := hB.trans ⟨hB5.os, hB5.tape, hB5.output, hB5.size, fun k hk => hB5.block k (by omega)⟩
    exact ⟨_, hide rfl, k5, put8_heap k5 _ _ _ _ _ _ _ _, hB6.trans (P.below hB6.size (fun k hk => by omega)), m', ao', L', ca', hm, rfl, (hO.but P (fun k hk => by omega)).low (by omega)⟩)
  have hw' : Hid (((((w.alloc (.cells #[.int .i64 ba, .int .i64 fi, .int .i64 du, .int .i64 nx, .int .i64 li, .slice so L sc, .bool fa, .bool cl] 26)).alloc (.cells #[.int .i64 ck, .int .i64 cn, .slice ao LC ca] 33)).alloc (.cells #[.int .i64 re, .int .i64 rn, .slice bo LR cb] 35)).alloc (.cells zc 26)) = w3) := hide (by rw [hw0.out, hw1.out, hw2.out, hw3.out])
  unfold zc at hw'
  have hzz := hide hz3
  clear B0 N0 hw0 hz0 B1 N1 hw1 hz1 B2 N2 hw2 hz2 B3 N3 hw3 hz3 K0 K1 K2 hB
  go_enter Try.func12, Try.ntmps12
  go_upto_region 1 with fail
  rw [hw'.out]
  go_wp2_with (go_at_call 19; refine FOL.out.mono ?_; rintro e w5 ⟨B5, rv, rfl, O5⟩; obtain ⟨m', hm⟩ : ∃ m', Hid (m' = R.getD zeroS) := ⟨_, rfl⟩; rw [← hm.out] at O5; unfold cellsOf; rw [← hm.out]; obtain ⟨ro, rc, er⟩ := O5.form; subst er; generalize hLR' : m'.rs.length = L' at *; obtain ⟨W, hW, k1, k2, FIN⟩ := EN.out w5 m' ro L' rc B5 O5 hm.out; unfold put8 at hW; unfold zc at k1; obtain ⟨y0, y1, y2, y3, y4, y5, y6, y7⟩ := eight k1; have z0 := frz_of (off := 0) k1; have z1 := frz_of (off := 1) k1; have z2 := frz_of (off := 2) k1; have z3 := frz_of (off := 3) k1; have z4 := frz_of (off := 4) k1; have z5 := frz_of (off := 5) k1; have z6 := frz_of (off := 6) k1; have z7 := frz_of (off := 7) k1; replace k2 := hide k2; replace FIN := hide FIN; clear t0 t1 t2 t3 t4 t5 t6 t7 k1 O5 B5 FOL EN hLR')
  rw [hW.out]
  obtain ⟨m0, m1, m2, m3, m4, m5, m6, m7⟩ := eight k2.out
  clear y0 y1 y2 y3 y4 y5 y6 y7 z0 z1 z2 z3 z4 z5 z6 z7 hW
  refine bodyPost_ret (v := .tuple #[.agg #[.int .i64 m'.ba, .int .i64 m'.fi, .int .i64 m'.du, .int .i64 m'.nx, .int .i64 m'.li, .slice ro L' rc, .bool m'.fa, .bool m'.cl], .bool R.isSome]) (by simp [results, Try.results12, go_sem, m0, m1, m2, m3, m4, m5, m6, m7]) rfl ?_
  exact FIN.out
set_option maxHeartbeats 4000000 in
theorem half_any (w : World) {b : Int} (m : Md) (v : Value) (vs : List Value) (hr : Row w v vs) (hs : Sls w vs m.rs) (hI : Inv b m) (hl : m.rs.length < 900) (c : Cl) (hn : I64 c.n) (ao : Option Addr) (ca : Nat) (hcd : Sl w (.slice ao c.d.length ca) c.d) :
    Calls Try.prog 10 #[.agg #[.int .i64 m.ba, .int .i64 m.fi, .int .i64 m.du, .int .i64 m.nx, .int .i64 m.li, v, .bool m.fa, .bool m.cl], .agg #[.int .i64 c.k, .int .i64 c.n, .slice ao c.d.length ca]] w fun e w' => Said w (takeS m c) e w' := by
  have hmf : ∀ (fn : Fn) (first cap : Array Value) (w : World), (Instr.makeFunc fn first cap).run Try.prog w = .ok (.func fn first cap) w := fun _ _ _ _ => rfl
  have FIT : Hid (∀ m', takeS m c = some m' → m'.rs.length ≤ 1000 ∧ ∀ d ∈ m'.rs, d.length ≤ 140737488355328) := hide (fun m' e => ok_fit hl (take_ok hI e))
  have hlen := hs.1
  have ix := hI.i64
  obtain ⟨so, sc, ev, -⟩ := id hr
  subst ev
  have AC : Hid (∀ sb u (pc : Nat), w.heap.size ≤ sb → Below w.heap.size w u → St sb u m → u.heap[pc]? = some (.cells #[.int .i64 c.k, .int .i64 c.n, .slice ao c.d.length ca] 33 (0, 0)) → Calls Try.prog 20 #[.pointer (some ⟨sb, 0, none⟩), .pointer (some ⟨pc, 0, none⟩)] u fun e w' => Goes sb u (takeS m c) e w') := hide (fun sb u pc h1 h2 h3 h4 =>
    clos1 u h3 c ao ca ⟨ix.1, ix.2, by omega, hn, Sd.of hcd h2 h1, Sd.nil _ _⟩ h4)
  have FO : Hid (∀ q, Below w.heap.size w q → ∀ (R : Option Md), R = takeS m c → ∀ (x : Value), (∀ sb u, q.heap.size ≤ sb → Below q.heap.size q u → St sb u m → Calls Try.prog 20 #[.pointer (some ⟨sb, 0, none⟩), x] u fun e w' => Goes sb u R e w') → Calls Try.prog 19 #[.agg #[.int .i64 m.ba, .int .i64 m.fi, .int .i64 m.du, .int .i64 m.nx, .int .i64 m.li, .slice so vs.length sc, .bool m.fa, .bool m.cl], .func (.func 20) #[] #[x]] q fun e w' => Ans q R e w') := hide (fun q hq R hR x hc => by
    have := following1_any q m (.slice so vs.length sc) vs (Below.row hq hr) (Below.sls hq hs) x R (fun m' e => FIT.out m' (by rw [← hR]; exact e)) hc
    exact this)
  clear FIT hr hs hI hl hn hcd ix hlen
  obtain ⟨R, hR⟩ : ∃ R, Hid (R = takeS m c) := ⟨_, rfl⟩
  rw [← hR.out] at AC ⊢
  have FO2 := hide (fun q hq => FO.out q hq R hR.out)
  clear hR FO
  obtain ⟨ba, fi, du, nx, li, rs, fa, cl⟩ := m
  obtain ⟨ck, cn, cd⟩ := c
  
  simp only at AC FO2 ⊢
  generalize vs.length = L at *
  generalize cd.length = LC at *
  
  have B0 := box_below w (.cells #[.int .i64 ba, .int .i64 fi, .int .i64 du, .int .i64 nx, .int .i64 li, .slice so L sc, .bool fa, .bool cl] 26)
  have N0 := heap_alloc_new w (.cells #[.int .i64 ba, .int .i64 fi, .int .i64 du, .int .i64 nx, .int .i64 li, .slice so L sc, .bool fa, .bool cl] 26)
  obtain ⟨w0, hw0⟩ : ∃ uu, Hid (w.alloc (.cells #[.int .i64 ba, .int .i64 fi, .int .i64 du, .int .i64 nx, .int .i64 li, .slice so L sc, .bool fa, .bool cl] 26) = uu) := ⟨_, rfl⟩
  have hz0 : w0.heap.size = w.heap.size + 1 := by rw [← hw0.out]; simp
  rw [hw0.out] at B0 N0
  have B1 := box_below w0 (.cells #[.int .i64 ck, .int .i64 cn, .slice ao LC ca] 33)
  have N1 := heap_alloc_new w0 (.cells #[.int .i64 ck, .int .i64 cn, .slice ao LC ca] 33)
  obtain ⟨w1, hw1⟩ : ∃ uu, Hid (w0.alloc (.cells #[.int .i64 ck, .int .i64 cn, .slice ao LC ca] 33) = uu) := ⟨_, rfl⟩
  have hz1 : w1.heap.size = w.heap.size + 2 := by rw [← hw1.out]; simp; omega
  rw [hw1.out] at B1 N1
  rw [hz0] at N1
  have B2 := box_below w1 (.cells zc 26)
  have N2 := heap_alloc_new w1 (.cells zc 26)
  obtain ⟨w2, hw2⟩ : ∃ uu, Hid (w1.alloc (.cells zc 26) = uu) := ⟨_, rfl⟩
  have hz2 : w2.heap.size = w.heap.size + 3 := by rw [← hw2.out]; simp; omega
  rw [hw2.out] at B2 N2
  rw [hz1] at N2
  have hB0 : Below w.heap.size w w0 := B0
  have hB1 : Below w.heap.size w w1 := hB0.trans ⟨B1.os, B1.tape, B1.output, B1.size, fun i hi => B1.block i (by omega)⟩
  have hB2 : Below w.heap.size w w2 := hB1.trans ⟨B2.os, B2.tape, B2.output, B2.size, fun i hi => B2.block i (by omega)⟩
  have hB := hB2
  clear hB0 hB1 hB2
  have K0 := (B2.block _ (by omega)).trans ((B1.block _ (by omega)).trans (N0))
  have K1 := (B2.block _ (by omega)).trans (N1)
  have FOL := hide (FO2.out w2 hB (.pointer (some ⟨w.heap.size + 1, 0, none⟩)) (fun sb u h1 h2 h3 => AC.out sb u _ (by omega) (hB.trans ⟨h2.os, h2.tape, h2.output, h2.size, fun k hk => h2.block k (by omega)⟩) h3 ((h2.block _ (by omega)).trans K1)))
  clear FO2 AC
  obtain ⟨t0, t1, t2, t3, t4, t5, t6, t7⟩ := eight K0
  have EN : Hid (∀ w5 m' ao' L' ca', Below w2.heap.size w2 w5 → Own w2.heap.size w5 (.slice ao' L' ca') m'.rs → m' = R.getD zeroS → ∃ W, Hid (put8 w5 (w.heap.size + 1 + 1) (.int .i64 m'.ba) (.int .i64 m'.fi) (.int .i64 m'.du) (.int .i64 m'.nx) (.int .i64 m'.li) (.slice ao' L' ca') (.bool m'.fa) (.bool m'.cl) = W) ∧ w5.heap[w.heap.size + 1 + 1]? = some (.cells zc 26 (0, 0)) ∧ W.heap[w.heap.size + 1 + 1]? = some (.cells #[.int .i64 m'.ba, .int .i64 m'.fi, .int .i64 m'.du, .int .i64 m'.nx, .int .i64 m'.li, .slice ao' L' ca', .bool m'.fa, .bool m'.cl] 26 (0, 0)) ∧ Said w R (.returned (.tuple #[.agg #[.int .i64 m'.ba, .int .i64 m'.fi, .int .i64 m'.du, .int .i64 m'.nx, .int .i64 m'.li, .slice ao' L' ca', .bool m'.fa, .bool m'.cl], .bool R.isSome])) W) := hide (fun w5 m' ao' L' ca' hB5 hO hm => by
    have k5 := (hB5.block _ (by omega)).trans N2
    have P := put8_but w5 (w.heap.size + 1 + 1) (.int .i64 m'.ba) (.int .i64 m'.fi) (.int .i64 m'.du) (.int .i64 m'.nx) (.int .i64 m'.li) (.slice ao' L' ca') (.bool m'.fa) (.bool m'.cl)
    have hB6 : Below w.heap.size w w5 := hB.trans ⟨hB5.os, hB5.tape, hB5.output, hB5.size, fun k hk => hB5.block k (by omega)⟩
    exact ⟨_, hide rfl, k5, put8_heap k5 _ _ _ _ _ _ _ _, hB6.trans (P.below hB6.size (fun k hk => by omega)), m', ao', L', ca', hm, rfl, (hO.but P (fun k hk => by omega)).low (by omega)⟩)
  have hw' : Hid ((((w.alloc (.cells #[.int .i64 ba, .int .i64 fi, .int .i64 du, .int .i64 nx, .int .i64 li, .slice so L sc, .bool fa, .bool cl] 26)).alloc (.cells #[.int .i64 ck, .int .i64 cn, .slice ao LC ca] 33)).alloc (.cells zc 26)) = w2) := hide (by rw [hw0.out, hw1.out, hw2.out])
  unfold zc at hw'
  have hzz := hide hz2
  clear B0 N0 hw0 hz0 B1 N1 hw1 hz1 B2 N2 hw2 hz2 K0 K1 hB
  go_enter Try.func10, Try.ntmps10
  go_upto_region 1 with fail
  rw [hw'.out]
  go_wp2_with (go_at_call 19; refine FOL.out.mono ?_; rintro e w5 ⟨B5, rv, rfl, O5⟩; obtain ⟨m', hm⟩ : ∃ m', Hid (m' = R.getD zeroS) := ⟨_, rfl⟩; rw [← hm.out] at O5; unfold cellsOf; rw [← hm.out]; obtain ⟨ro, rc, er⟩ := O5.form; subst er; generalize hLR' : m'.rs.length = L' at *; obtain ⟨W, hW, k1, k2, FIN⟩ := EN.out w5 m' ro L' rc B5 O5 hm.out; unfold put8 at hW; unfold zc at k1; obtain ⟨y0, y1, y2, y3, y4, y5, y6, y7⟩ := eight k1; have z0 := frz_of (off := 0) k1; have z1 := frz_of (off := 1) k1; have z2 := frz_of (off := 2) k1; have z3 := frz_of (off := 3) k1; have z4 := frz_of (off := 4) k1; have z5 := frz_of (off := 5) k1; have z6 := frz_of (off := 6) k1; have z7 := frz_of (off := 7) k1; replace k2 := hide k2; replace FIN := hide FIN; clear t0 t1 t2 t3 t4 t5 t6 t7 k1 O5 B5 FOL EN hLR')
  rw [hW.out]
  obtain ⟨m0, m1, m2, m3, m4, m5, m6, m7⟩ := eight k2.out
  clear y0 y1 y2 y3 y4 y5 y6 y7 z0 z1 z2 z3 z4 z5 z6 z7 hW
  refine bodyPost_ret (v := .tuple #[.agg #[.int .i64 m'.ba, .int .i64 m'.fi, .int .i64 m'.du, .int .i64 m'.nx, .int .i64 m'.li, .slice ro L' rc, .bool m'.fa, .bool m'.cl], .bool R.isSome]) (by simp [results, Try.results10, go_sem, m0, m1, m2, m3, m4, m5, m6, m7]) rfl ?_
  exact FIN.out
end Go.Proofs.Ytmehlgebbbkdiaa.Um

/-
  New of the package; slices.EqualFunc of records; Same.
-/
namespace Go.Proofs.Ytmehlgebbbkdiaa.Um
open Go.RowKit Go.Maps
set_option linter.unusedVariables false
set_option linter.unusedSimpArgs false
set_option maxRecDepth 100000
theorem new_any (w : World) (b : Int) (hb : 1 ≤ b) : Calls Try.prog 7 #[.int .i64 b] w fun e w' => e = .returned (.tuple #[.agg #[.int .i64 b, .int .i64 b, .int .i64 b, .int .i64 b, .int .i64 9223372036854775807, .slice none 0 0, .bool false, .bool false], .int .i64 0]) ∧ Below w.heap.size w w' := by
  have k1 : decide (b < 1) = false := by simp; omega
  have B1 := hide (box_below w (.cells zc 26))
  have N1 := heap_alloc_new w (.cells zc 26)
  obtain ⟨w1, hw1⟩ : ∃ w1, Hid (w.alloc (.cells zc 26) = w1) := ⟨_, rfl⟩
  rw [hw1.out] at B1 N1
  have P := put8_but w1 w.heap.size (.int .i64 b) (.int .i64 b) (.int .i64 b) (.int .i64 b) (.int .i64 9223372036854775807) (.slice none 0 0) (.bool false) (.bool false)
  have H := put8_heap N1 (.int .i64 b) (.int .i64 b) (.int .i64 b) (.int .i64 b) (.int .i64 9223372036854775807) (.slice none 0 0) (.bool false) (.bool false)
  obtain ⟨W, hW⟩ : ∃ W, Hid (put8 w1 w.heap.size (.int .i64 b) (.int .i64 b) (.int .i64 b) (.int .i64 b) (.int .i64 9223372036854775807) (.slice none 0 0) (.bool false) (.bool false) = W) := ⟨_, rfl⟩
  rw [hW.out] at P H
  have FIN : Hid (Below w.heap.size w W) := hide (B1.out.trans (P.below B1.out.size (fun k hk => by omega)))
  unfold put8 at hW
  unfold zc at hw1 N1
  obtain ⟨y0, y1, y2, y3, y4, y5, y6, y7⟩ := eight N1
  have z0 := frz_of (off := 0) N1
  have z1 := frz_of (off := 1) N1
  have z2 := frz_of (off := 2) N1
  have z3 := frz_of (off := 3) N1
  have z4 := frz_of (off := 4) N1
  have z5 := frz_of (off := 5) N1
  have z6 := frz_of (off := 6) N1
  have z7 := frz_of (off := 7) N1
  have H' := hide H
  clear P H N1 B1
  go_enter Try.func7, Try.ntmps7
  go_upto_region 1 with fail
  rw [hw1.out]
  go_wp2_with fail
  rw [hW.out]
  obtain ⟨m0, m1, m2, m3, m4, m5, m6, m7⟩ := eight H'.out
  refine bodyPost_ret (v := .tuple #[.agg #[.int .i64 b, .int .i64 b, .int .i64 b, .int .i64 b, .int .i64 9223372036854775807, .slice none 0 0, .bool false, .bool false], .int .i64 0]) (by simp [results, Try.results7, go_sem, m0, m1, m2, m3, m4, m5, m6, m7]) rfl ?_
  exact ⟨rfl, FIN.out⟩
theorem new_no (w : World) (b : Int) (hb : b < 1) : Calls Try.prog 7 #[.int .i64 b] w fun e w' => e = .returned (.tuple #[.agg #[.int .i64 0, .int .i64 0, .int .i64 0, .int .i64 0, .int .i64 0, .slice none 0 0, .bool false, .bool false], .int .i64 1]) ∧ Below w.heap.size w w' := by
  have B1 := hide (box_below w (.cells zc 26))
  have N1 := heap_alloc_new w (.cells zc 26)
  obtain ⟨w1, hw1⟩ : ∃ w1, Hid (w.alloc (.cells zc 26) = w1) := ⟨_, rfl⟩
  rw [hw1.out] at B1 N1
  have P := put8_but w1 w.heap.size (.int .i64 0) (.int .i64 0) (.int .i64 0) (.int .i64 0) (.int .i64 0) (.slice none 0 0) (.bool false) (.bool false)
  have H := put8_heap N1 (.int .i64 0) (.int .i64 0) (.int .i64 0) (.int .i64 0) (.int .i64 0) (.slice none 0 0) (.bool false) (.bool false)
  obtain ⟨W, hW⟩ : ∃ W, Hid (put8 w1 w.heap.size (.int .i64 0) (.int .i64 0) (.int .i64 0) (.int .i64 0) (.int .i64 0) (.slice none 0 0) (.bool false) (.bool false) = W) := ⟨_, rfl⟩
  rw [hW.out] at P H
  have FIN : Hid (Below w.heap.size w W) := hide (B1.out.trans (P.below B1.out.size (fun k hk => by omega)))
  unfold put8 at hW
  unfold zc at hw1 N1
  obtain ⟨y0, y1, y2, y3, y4, y5, y6, y7⟩ := eight N1
  have z0 := frz_of (off := 0) N1
  have z1 := frz_of (off := 1) N1
  have z2 := frz_of (off := 2) N1
  have z3 := frz_of (off := 3) N1
  have z4 := frz_of (off := 4) N1
  have z5 := frz_of (off := 5) N1
  have z6 := frz_of (off := 6) N1
  have z7 := frz_of (off := 7) N1
  have H' := hide H
  clear P H N1 B1
  go_enter Try.func7, Try.ntmps7
  go_upto_region 1 with fail
  rw [hw1.out]
  go_wp2_with fail
  rw [hW.out]
  obtain ⟨m0, m1, m2, m3, m4, m5, m6, m7⟩ := eight H'.out
  refine bodyPost_ret (v := .tuple #[.agg #[.int .i64 0, .int .i64 0, .int .i64 0, .int .i64 0, .int .i64 0, .slice none 0 0, .bool false, .bool false], .int .i64 1]) (by simp [results, Try.results7, go_sem, m0, m1, m2, m3, m4, m5, m6, m7]) rfl ?_
  exact ⟨rfl, FIN.out⟩
/-- A list of rows as one reads it: its form, and each row. -/
theorem rows_at {w : World} {v : Value} {vs : List Value} {ls : List (List UInt8)} (hr : Row w v vs) (hs : Sls w vs ls) : ∃ ao cap, v = .slice ao ls.length cap ∧ (ls.length : Int) ≤ (cap : Int) ∧ (cap : Int) ≤ 9223372036854775807 ∧ ∀ i (h : i < ls.length), ∃ b off x, ao = some ⟨b, off, none⟩ ∧ w.cell? ⟨b, off + i, none⟩ = some x ∧ Sl w x ls[i] := by
  obtain ⟨ao, cap, rfl, _, hlc, hm, hat⟩ := hr
  refine ⟨ao, cap, by rw [hs.1], by have := hs.1; omega, by unfold maxLen at hm; omega, fun i h => ?_⟩
  obtain ⟨b, off, e, hc⟩ := hat i (by rw [hs.1]; exact h)
  exact ⟨b, off, _, e, hc, hs.2 i (by rw [hs.1]; exact h) h⟩
set_option maxHeartbeats 1000000 in
theorem eqfunc_any (w : World) (v v' : Value) (vs vs' : List Value) (ls ms : List (List UInt8)) (hr : Row w v vs) (hs : Sls w vs ls) (hr' : Row w v' vs') (hs' : Sls w vs' ms) :
    Calls Try.prog 29 #[v, v', .func (.func 30) #[] #[]] w fun e w' => e = .returned (.bool (decide (ls = ms))) ∧ w' = w := by
  obtain ⟨ao, ca, rfl, q0, q1, hc⟩ := rows_at hr hs
  obtain ⟨ao', ca', rfl, q0', q1', hc'⟩ := rows_at hr' hs'
  have HC := hide hc
  have HC' := hide hc'
  clear hc hc' hr hs hr' hs'
  by_cases hlm : ls.length = ms.length
  · have HS : Hid (∀ P : Prop, (P ↔ ∀ i (h : i < ls.length) (h' : i < ms.length), ls[i] = ms[i]) → (P ↔ ls = ms)) := hide fun P hP => by
      rw [hP]
      exact ⟨fun h => List.ext_getElem hlm h, fun h => by subst h; intro i a b; rfl⟩
    obtain ⟨N, hN⟩ : ∃ N, Hid (ls.length = N) := ⟨_, rfl⟩
    have hM : Hid (ms.length = N) := hide (by rw [← hlm]; exact hN.out)
    rw [hN.out] at q0
    rw [hM.out] at q0'
    rw [hN.out, hM.out]
    clear hlm
    go_enter Try.func29, Try.ntmps29
    go_wp2_with fail
    go_loopw [17] (fun v17 wr => ∃ i : Nat, i ≤ N ∧ v17 = .int .i64 (i : Int) ∧ Hid (∀ j (h : j < ls.length) (h' : j < ms.length), j < i → ls[j] = ms[j]) ∧ wr = w) (fun v _ => N - (intOf v).toNat)
    case atStart => exact ⟨0, by omega, rfl, fun j _ _ hj => by omega, rfl⟩
    case round =>
      obtain ⟨i, hi, rfl, hf, hwr⟩ := hrel
      subst hwr
      by_cases hin : i = N
      · subst hin
        have FIN : Hid (decide (ls = ms) = true) := hide (by
          simp only [decide_eq_true_eq]
          exact (HS.out _ Iff.rfl).1 (fun j a b => hf.out j a b (by rw [← hN.out]; exact a)))
        go_wp2
        go_ret
        exact ⟨by rw [FIN.out] <;> rfl, rfl⟩
      · have hil : i < N := by omega
        obtain ⟨bb, off, x, rfl, hcx, hx⟩ := HC.out i (by rw [hN.out]; exact hil)
        obtain ⟨bb', off', y, rfl, hcy, hy⟩ := HC'.out i (by rw [hM.out]; exact hil)
        have i1 : (i : Int) < (N : Int) := by omega
        have i2 : (0 : Int) ≤ (i : Int) := by omega
        have hS := hide (equal_any wr x y _ _ hx hy)
        by_cases hk : ls[i]'(by rw [hN.out]; exact hil) = ms[i]'(by rw [hM.out]; exact hil)
        · rw [decide_eq_true hk] at hS
          obtain ⟨xo, xc, rfl, _⟩ := hx
          obtain ⟨yo, yc, rfl, _⟩ := hy
          have hn := hide hk
          clear hk
          go_wp2_with (go_at_call 30; refine hS.out.mono ?_; rintro e w' ⟨rfl, hw⟩; rw [hw]; clear hw w')
          go_roundw
          case rel => exact ⟨i + 1, by omega, by go_num, fun j a b hj => by
            by_cases e : j = i
            · subst e; exact hn.out
            · exact hf.out j a b (by omega), by trivial⟩
          case measure => simp [intOf]; omega
        · rw [decide_eq_false hk] at hS
          have FIN : Hid (decide (ls = ms) = false) := hide (by
            simp only [decide_eq_false_iff_not]
            intro h
            subst h
            exact hk rfl)
          obtain ⟨xo, xc, rfl, _⟩ := hx
          obtain ⟨yo, yc, rfl, _⟩ := hy
          clear hk
          go_wp2_with (go_at_call 30; refine hS.out.mono ?_; rintro e w' ⟨rfl, hw⟩; rw [hw]; clear hw w')
          go_ret
          exact ⟨by rw [FIN.out] <;> rfl, rfl⟩
  · have FIN : Hid (decide (ls = ms) = false) := hide (by
      simp only [decide_eq_false_iff_not]
      intro h
      exact hlm (by rw [h]))
    have k : ((ls.length : Int) == (ms.length : Int)) = false := by simp; omega
    have k' : ¬ ls.length = ms.length := hlm
    go_enter Try.func29, Try.ntmps29
    go_wp2_with fail
    go_ret
    exact ⟨by rw [FIN.out] <;> rfl, rfl⟩
end Go.Proofs.Ytmehlgebbbkdiaa.Um

/-
  Same of the package. (gen_UmQ.py)
-/
namespace Go.Proofs.Ytmehlgebbbkdiaa.Um
open Go.RowKit Go.Maps
open Ix (wp_region_T wpAnyT wpAnyT_take wpAnyT_one wpAnyT_done vac)
set_option linter.unusedVariables false
set_option linter.unusedSimpArgs false
set_option maxRecDepth 100000
def sameB (a b : Md) : Bool := decide (a.ba = b.ba ∧ a.fi = b.fi ∧ a.du = b.du ∧ a.nx = b.nx ∧ a.li = b.li ∧ a.fa = b.fa ∧ a.cl = b.cl ∧ a.rs = b.rs)
set_option maxHeartbeats 8000000 in
theorem same_any (w : World) (a b : Md) (v v' : Value) (vs vs' : List Value) (hr : Row w v vs) (hs : Sls w vs a.rs) (hr' : Row w v' vs') (hs' : Sls w vs' b.rs) :
    Calls Try.prog 15 #[.agg #[.int .i64 a.ba, .int .i64 a.fi, .int .i64 a.du, .int .i64 a.nx, .int .i64 a.li, v, .bool a.fa, .bool a.cl], .agg #[.int .i64 b.ba, .int .i64 b.fi, .int .i64 b.du, .int .i64 b.nx, .int .i64 b.li, v', .bool b.fa, .bool b.cl]] w fun e w' => e = .returned (.bool (sameB a b)) ∧ Below w.heap.size w w' := by
  have EQ : Hid (∀ q, Below w.heap.size w q → Calls Try.prog 29 #[v, v', .func (.func 30) #[] #[]] q fun e w' => e = .returned (.bool (decide (a.rs = b.rs))) ∧ w' = q) := hide (fun q hq => eqfunc_any q v v' vs vs' a.rs b.rs (Below.row hq hr) (Below.sls hq hs) (Below.row hq hr') (Below.sls hq hs'))
  obtain ⟨so, sc, ev, -⟩ := id hr
  subst ev
  obtain ⟨so', sc', ev, -⟩ := id hr'
  subst ev
  generalize vs.length = L at *
  generalize vs'.length = L' at *
  have B0 := box_below w (.cells #[.int .i64 a.ba, .int .i64 a.fi, .int .i64 a.du, .int .i64 a.nx, .int .i64 a.li, .slice so L sc, .bool a.fa, .bool a.cl] 26)
  have N0 := heap_alloc_new w (.cells #[.int .i64 a.ba, .int .i64 a.fi, .int .i64 a.du, .int .i64 a.nx, .int .i64 a.li, .slice so L sc, .bool a.fa, .bool a.cl] 26)
  obtain ⟨w0, hw0⟩ : ∃ uu, Hid (w.alloc (.cells #[.int .i64 a.ba, .int .i64 a.fi, .int .i64 a.du, .int .i64 a.nx, .int .i64 a.li, .slice so L sc, .bool a.fa, .bool a.cl] 26) = uu) := ⟨_, rfl⟩
  have hz0 : w0.heap.size = w.heap.size + 1 := by rw [← hw0.out]; simp
  rw [hw0.out] at B0 N0
  have B1 := box_below w0 (.cells #[.int .i64 b.ba, .int .i64 b.fi, .int .i64 b.du, .int .i64 b.nx, .int .i64 b.li, .slice so' L' sc', .bool b.fa, .bool b.cl] 26)
  have N1 := heap_alloc_new w0 (.cells #[.int .i64 b.ba, .int .i64 b.fi, .int .i64 b.du, .int .i64 b.nx, .int .i64 b.li, .slice so' L' sc', .bool b.fa, .bool b.cl] 26)
  obtain ⟨w1, hw1⟩ : ∃ uu, Hid (w0.alloc (.cells #[.int .i64 b.ba, .int .i64 b.fi, .int .i64 b.du, .int .i64 b.nx, .int .i64 b.li, .slice so' L' sc', .bool b.fa, .bool b.cl] 26) = uu) := ⟨_, rfl⟩
  rw [hw1.out] at B1 N1
  rw [hz0] at N1
  have K0 := (B1.block _ (by omega)).trans N0
  have hB : Below w.heap.size w w1 := B0.trans ⟨B1.os, B1.tape, B1.output, B1.size, fun i hi => B1.block i (by omega)⟩
  have EQ1 := hide (EQ.out w1 hB)
  have hB := hide hB
  obtain ⟨x0, x1, x2, x3, x4, x5, x6, x7⟩ := eight K0
  obtain ⟨y0, y1, y2, y3, y4, y5, y6, y7⟩ := eight N1
  have hw' : Hid ((w.alloc (.cells #[.int .i64 a.ba, .int .i64 a.fi, .int .i64 a.du, .int .i64 a.nx, .int .i64 a.li, .slice so L sc, .bool a.fa, .bool a.cl] 26)).alloc (.cells #[.int .i64 b.ba, .int .i64 b.fi, .int .i64 b.du, .int .i64 b.nx, .int .i64 b.li, .slice so' L' sc', .bool b.fa, .bool b.cl] 26) = w1) := hide (by rw [hw0.out, hw1.out])
  clear EQ B0 N0 B1 N1 K0 hw0 hw1 hr hs hr' hs' hz0
  obtain ⟨ea, hea⟩ : ∃ e, Hid (decide (a.rs = b.rs) = e) := ⟨_, rfl⟩
  rw [hea.out] at EQ1
  have SB : Hid (sameB a b = (decide (a.ba = b.ba) && decide (a.fi = b.fi) && decide (a.du = b.du) && decide (a.nx = b.nx) && decide (a.li = b.li) && decide (a.fa = b.fa) && decide (a.cl = b.cl) && ea)) := hide (by
    rw [← hea.out]
    unfold sameB
    simp only [Bool.decide_and, Bool.and_assoc])
  rw [SB.out]
  obtain ⟨aba, afi, adu, anx, ali, ars, afa, acl⟩ := a
  obtain ⟨bba, bfi, bdu, bnx, bli, brs, bfa, bcl⟩ := b
  simp only at *
  clear SB hea
  by_cases hba : aba = bba
  case neg =>
    have kba : (aba == bba) = false := by simpa using hba
    go_enter Try.func15, Try.ntmps15
    go_upto_region 1 with fail
    rw [hw'.out]
    go_wp2_with (go_at_call 29; refine EQ1.out.mono ?_; rintro e w' ⟨rfl, hw⟩; rw [hw]; clear hw w')
    go_ret
    exact ⟨by simp [hba], hB.out⟩
  subst hba
  by_cases hfi : afi = bfi
  case neg =>
    have kfi : (afi == bfi) = false := by simpa using hfi
    go_enter Try.func15, Try.ntmps15
    go_upto_region 1 with fail
    rw [hw'.out]
    go_wp2_with (go_at_call 29; refine EQ1.out.mono ?_; rintro e w' ⟨rfl, hw⟩; rw [hw]; clear hw w')
    go_ret
    exact ⟨by simp [hfi], hB.out⟩
  subst hfi
  by_cases hdu : adu = bdu
  case neg =>
    have kdu : (adu == bdu) = false := by simpa using hdu
    go_enter Try.func15, Try.ntmps15
    go_upto_region 1 with fail
    rw [hw'.out]
    go_wp2_with (go_at_call 29; refine EQ1.out.mono ?_; rintro e w' ⟨rfl, hw⟩; rw [hw]; clear hw w')
    go_ret
    exact ⟨by simp [hdu], hB.out⟩
  subst hdu
  by_cases hnx : anx = bnx
  case neg =>
    have knx : (anx == bnx) = false := by simpa using hnx
    go_enter Try.func15, Try.ntmps15
    go_upto_region 1 with fail
    rw [hw'.out]
    go_wp2_with (go_at_call 29; refine EQ1.out.mono ?_; rintro e w' ⟨rfl, hw⟩; rw [hw]; clear hw w')
    go_ret
    exact ⟨by simp [hnx], hB.out⟩
  subst hnx
  by_cases hli : ali = bli
  case neg =>
    have kli : (ali == bli) = false := by simpa using hli
    go_enter Try.func15, Try.ntmps15
    go_upto_region 1 with fail
    rw [hw'.out]
    go_wp2_with (go_at_call 29; refine EQ1.out.mono ?_; rintro e w' ⟨rfl, hw⟩; rw [hw]; clear hw w')
    go_ret
    exact ⟨by simp [hli], hB.out⟩
  subst hli
  by_cases hfa : afa = bfa
  case neg =>
    have kfa : (afa == bfa) = false := by simpa using hfa
    go_enter Try.func15, Try.ntmps15
    go_upto_region 1 with fail
    rw [hw'.out]
    go_wp2_with (go_at_call 29; refine EQ1.out.mono ?_; rintro e w' ⟨rfl, hw⟩; rw [hw]; clear hw w')
    go_ret
    exact ⟨by simp [hfa], hB.out⟩
  subst hfa
  by_cases hcl : acl = bcl
  case neg =>
    have kcl : (acl == bcl) = false := by simpa using hcl
    go_enter Try.func15, Try.ntmps15
    go_upto_region 1 with fail
    rw [hw'.out]
    go_wp2_with (go_at_call 29; refine EQ1.out.mono ?_; rintro e w' ⟨rfl, hw⟩; rw [hw]; clear hw w')
    go_ret
    exact ⟨by simp [hcl], hB.out⟩
  subst hcl
  go_enter Try.func15, Try.ntmps15
  go_upto_region 1 with fail
  rw [hw'.out]
  go_wp2_with (go_at_call 29; refine EQ1.out.mono ?_; rintro e w' ⟨rfl, hw⟩; rw [hw]; clear hw w')
  go_ret
  exact ⟨by simp, hB.out⟩
end Go.Proofs.Ytmehlgebbbkdiaa.Um

/-
  A state in a box; begun.
-/
namespace Go.Proofs.Ytmehlgebbbkdiaa.Um
open Go.RowKit Go.Maps
set_option linter.unusedVariables false
set_option linter.unusedSimpArgs false
set_option maxRecDepth 100000
/-- Records that can be read. -/
def Rd2 (w : World) (v : Value) (m : Md) : Prop := ∃ vs, Row w v vs ∧ Sls w vs m.rs
theorem Rd2.below {w w' : World} {v : Value} {m : Md} (h : Rd2 w v m) (hb : Below w.heap.size w w') : Rd2 w' v m := by
  obtain ⟨vs, h1, h2⟩ := h
  exact ⟨vs, Below.row hb h1, Below.sls hb h2⟩
theorem Own.rd2 {B : Nat} {w : World} {v : Value} {m : Md} (h : Own B w v m.rs) : Rd2 w v m := h.read
theorem rd2_nil (w : World) (m : Md) (hm : m.rs = []) : Rd2 w (.slice none 0 0) m := ⟨[], Row.nil w, by rw [hm]; exact ⟨rfl, fun i h => by simp at h⟩⟩
theorem Rd2.form {w : World} {v : Value} {m : Md} (h : Rd2 w v m) : ∃ ao ca, v = .slice ao m.rs.length ca := by
  obtain ⟨vs, ⟨ao, ca, rfl, _⟩, h2⟩ := h
  exact ⟨ao, ca, by rw [h2.1]⟩
/-- In the box b lies the state m. -/
def Bm (w : World) (b : Nat) (m : Md) : Prop := ∃ ao ca, w.heap[b]? = some (.cells #[.int .i64 m.ba, .int .i64 m.fi, .int .i64 m.du, .int .i64 m.nx, .int .i64 m.li, .slice ao m.rs.length ca, .bool m.fa, .bool m.cl] 26 (0, 0)) ∧ Rd2 w (.slice ao m.rs.length ca) m
theorem Bm.lt {w : World} {b : Nat} {m : Md} (h : Bm w b m) : b < w.heap.size := by
  obtain ⟨ao, ca, h1, _⟩ := h
  exact heap_lt h1
theorem Bm.below {w w' : World} {b : Nat} {m : Md} (h : Bm w b m) (hb : Below w.heap.size w w') : Bm w' b m := by
  obtain ⟨ao, ca, h1, h2⟩ := h
  exact ⟨ao, ca, (hb.block b (heap_lt h1)).trans h1, h2.below hb⟩
theorem Bm.new {w : World} {m : Md} {ao : Option Addr} {L ca : Nat} (h : Rd2 w (.slice ao L ca) m) : Bm (w.alloc (.cells #[.int .i64 m.ba, .int .i64 m.fi, .int .i64 m.du, .int .i64 m.nx, .int .i64 m.li, .slice ao L ca, .bool m.fa, .bool m.cl] 26)) w.heap.size m := by
  obtain ⟨ao', ca', e⟩ := h.form
  simp only [Value.slice.injEq] at e
  obtain ⟨rfl, rfl, rfl⟩ := e
  exact ⟨ao, ca, heap_alloc_new w _, h.below (box_below w _)⟩
/-- What is read there. -/
theorem Bm.cells {w : World} {b : Nat} {m : Md} (h : Bm w b m) : ∃ ao ca, Rd2 w (.slice ao m.rs.length ca) m ∧ w.cell? ⟨b, 0, none⟩ = some (.int .i64 m.ba) ∧ w.cell? ⟨b, 1, none⟩ = some (.int .i64 m.fi) ∧ w.cell? ⟨b, 2, none⟩ = some (.int .i64 m.du) ∧ w.cell? ⟨b, 3, none⟩ = some (.int .i64 m.nx) ∧ w.cell? ⟨b, 4, none⟩ = some (.int .i64 m.li) ∧ w.cell? ⟨b, 5, none⟩ = some (.slice ao m.rs.length ca) ∧ w.cell? ⟨b, 6, none⟩ = some (.bool m.fa) ∧ w.cell? ⟨b, 7, none⟩ = some (.bool m.cl) := by
  obtain ⟨ao, ca, h1, h2⟩ := h
  exact ⟨ao, ca, h2, eight h1⟩
/-- Apply, of a state that is read. -/
theorem apply_rd {w : World} {b : Int} {m : Md} {ao : Option Addr} {L ca : Nat} (h : Rd2 w (.slice ao L ca) m) (hI : Inv b m) (hl : m.rs.length < 900) (c : Cl) (hn : I64 c.n) (co : Option Addr) (cc : Nat) (hcd : Sl w (.slice co c.d.length cc) c.d) (r : Rs) (ro : Option Addr) (rc : Nat) (hrd : Sl w (.slice ro r.d.length rc) r.d) :
    Calls Try.prog 12 #[.agg #[.int .i64 m.ba, .int .i64 m.fi, .int .i64 m.du, .int .i64 m.nx, .int .i64 m.li, .slice ao L ca, .bool m.fa, .bool m.cl], .agg #[.int .i64 c.k, .int .i64 c.n, .slice co c.d.length cc], .agg #[.int .i64 r.e, .int .i64 r.n, .slice ro r.d.length rc]] w fun e w' => Said w (answerS m c r) e w' := by
  obtain ⟨vs, h1, h2⟩ := h
  exact apply_any w m _ vs h1 h2 hI hl c hn co cc hcd r ro rc hrd
theorem half_rd {w : World} {b : Int} {m : Md} {ao : Option Addr} {L ca : Nat} (h : Rd2 w (.slice ao L ca) m) (hI : Inv b m) (hl : m.rs.length < 900) (c : Cl) (hn : I64 c.n) (co : Option Addr) (cc : Nat) (hcd : Sl w (.slice co c.d.length cc) c.d) :
    Calls Try.prog 10 #[.agg #[.int .i64 m.ba, .int .i64 m.fi, .int .i64 m.du, .int .i64 m.nx, .int .i64 m.li, .slice ao L ca, .bool m.fa, .bool m.cl], .agg #[.int .i64 c.k, .int .i64 c.n, .slice co c.d.length cc]] w fun e w' => Said w (takeS m c) e w' := by
  obtain ⟨vs, h1, h2⟩ := h
  exact half_any w m _ vs h1 h2 hI hl c hn co cc hcd
theorem same_rd {w : World} {a b : Md} {ao bo : Option Addr} {L ca L' cb : Nat} (h : Rd2 w (.slice ao L ca) a) (h' : Rd2 w (.slice bo L' cb) b) :
    Calls Try.prog 15 #[.agg #[.int .i64 a.ba, .int .i64 a.fi, .int .i64 a.du, .int .i64 a.nx, .int .i64 a.li, .slice ao L ca, .bool a.fa, .bool a.cl], .agg #[.int .i64 b.ba, .int .i64 b.fi, .int .i64 b.du, .int .i64 b.nx, .int .i64 b.li, .slice bo L' cb, .bool b.fa, .bool b.cl]] w fun e w' => e = .returned (.bool (sameB a b)) ∧ Below w.heap.size w w' := by
  obtain ⟨vs, h1, h2⟩ := h
  obtain ⟨vs', h1', h2'⟩ := h'
  exact same_any w a b _ _ vs vs' h1 h2 h1' h2'
/-- Said of some state. -/
theorem Said.yes {w w' : World} {m : Md} {e : Ending} (h : Said w (some m) e w') : Below w.heap.size w w' ∧ ∃ (ao : Option Addr) (ca : Nat), e = .returned (.tuple #[.agg #[.int .i64 m.ba, .int .i64 m.fi, .int .i64 m.du, .int .i64 m.nx, .int .i64 m.li, .slice ao m.rs.length ca, .bool m.fa, .bool m.cl], .bool true]) ∧ Own w.heap.size w' (.slice ao m.rs.length ca) m.rs := by
  obtain ⟨hb, m', ao, L, ca, e1, rfl, hO⟩ := h
  simp only [Option.getD_some] at e1
  subst e1
  obtain ⟨_, _, e2⟩ := hO.form
  simp only [Value.slice.injEq] at e2
  obtain ⟨rfl, rfl, rfl⟩ := e2
  exact ⟨hb, ao, ca, rfl, hO⟩
theorem Said.no {w w' : World} {e : Ending} (h : Said w none e w') : Below w.heap.size w w' ∧ ∃ (ao : Option Addr) (ca : Nat), e = .returned (.tuple #[.agg #[.int .i64 0, .int .i64 0, .int .i64 0, .int .i64 0, .int .i64 0, .slice ao 0 ca, .bool false, .bool false], .bool false]) ∧ Own w.heap.size w' (.slice ao 0 ca) [] := by
  obtain ⟨hb, m', ao, L, ca, e1, rfl, hO⟩ := h
  simp only [Option.getD_none] at e1
  subst e1
  obtain ⟨_, _, e2⟩ := hO.form
  simp only [Value.slice.injEq] at e2
  obtain ⟨rfl, e3, rfl⟩ := e2
  have e3 : L = 0 := e3
  subst e3
  exact ⟨hb, ao, ca, rfl, hO⟩
def mB1 : Md := newS 1
def mB2 : Md := ⟨1, 1, 1, 2, 9223372036854775807, [[97]], false, false⟩
def mB3 : Md := ⟨1, 1, 2, 2, 9223372036854775807, [[97]], false, false⟩
def mB4 : Md := ⟨1, 1, 1, 2, 9223372036854775807, [[]], false, false⟩
theorem b_1 : answerS mB1 ⟨2, 0, [97]⟩ ⟨0, 1, []⟩ = some mB2 := by rfl
theorem b_2 : answerS mB2 ⟨4, 1, []⟩ ⟨0, 1, [97]⟩ = some mB3 := by rfl
theorem b_3 : answerS mB3 ⟨4, 1, []⟩ ⟨42, 0, []⟩ = none := by rfl
theorem b_4 : takeS mB1 ⟨1, 0, []⟩ = some mB4 := by rfl
theorem iB1 : Inv 1 mB1 := new_inv (by decide) (by decide)
theorem iB2 : Inv 1 mB2 := (answer_ok iB1 b_1).1
theorem iB3 : Inv 1 mB3 := (answer_ok iB2 b_2).1
theorem s_11 : sameB mB1 mB1 = true := by simp [sameB]
theorem s_12 : sameB mB1 mB2 = false := by simp [sameB, mB1, mB2, newS]
end Go.Proofs.Ytmehlgebbbkdiaa.Um

/-
  Calls with results as arguments, opened.
-/
namespace Go.Proofs.Ytmehlgebbbkdiaa.Um
open Go.ChangeShapes Go.WideShapes Go.ChangeAt Go.RowKit Go.Deep
set_option linter.unusedVariables false
set_option maxRecDepth 100000
/-- A call with what is said to be its result, by data, and where its bytes lie. -/
structure Mop where
  k : Int
  n : Int
  cv : Value
  cd : List UInt8
  e : Int
  rn : Int
  rv : Value
  rd : List UInt8
  hf : Bool
  st : Bool
def Mop.cells (o : Mop) : List Value := [.int .i64 o.k, .int .i64 o.n, o.cv, .int .i64 o.e, .int .i64 o.rn, o.rv, .bool o.hf, .bool o.st]
structure MopOk (w : World) (o : Mop) : Prop where
  k : I64 o.k
  n : I64 o.n
  cd : Sl w o.cv o.cd
  e : I64 o.e
  rn : I64 o.rn
  rd : Sl w o.rv o.rd
theorem MopOk.below {w w' : World} {o : Mop} (h : MopOk w o) (hb : Below w.heap.size w w') : MopOk w' o := ⟨h.k, h.n, Below.sl hb h.cd, h.e, h.rn, Below.sl hb h.rd⟩
theorem cellsMop : Try.prog.cellsOf 37 = 8 := by kernel_rfl
theorem cellsCall : Try.prog.cellsOf 33 = 3 := by kernel_rfl
theorem cellsResult : Try.prog.cellsOf 35 = 3 := by kernel_rfl
theorem cellsOne : Try.prog.cellsOf 4 = 1 ∧ Try.prog.cellsOf 3 = 1 ∧ Try.prog.cellsOf 2 = 1 ∧ Try.prog.cellsOf 27 = 1 ∧ Try.prog.cellsOf 31 = 1 := ⟨by kernel_rfl, by kernel_rfl, by kernel_rfl, by kernel_rfl, by kernel_rfl⟩
theorem mopFields : ∃ fs, Try.prog.underlying 37 = some (.struct fs) ∧ (fs.map fun f : Field => (f.type, f.offset)) = #[(33, 0), (35, 3), (4, 6), (4, 7)] := ⟨_, Try.underlying37, by kernel_rfl⟩
theorem callFields : ∃ fs, Try.prog.underlying 33 = some (.struct fs) ∧ (fs.map fun f : Field => (f.type, f.offset)) = #[(3, 0), (2, 1), (31, 2)] := ⟨_, Try.underlying33, by kernel_rfl⟩
theorem resultFields : ∃ fs, Try.prog.underlying 35 = some (.struct fs) ∧ (fs.map fun f : Field => (f.type, f.offset)) = #[(27, 0), (2, 1), (31, 2)] := ⟨_, Try.underlying35, by kernel_rfl⟩
/-- The fields of a struct that was read. -/
theorem open_fields {H : Type} {enc : TypeId × Value → H} {w : World} {base : Nat} {spare : Nat → Bool} {held : Bool} {fuel : Nat} {cs : List Value} {y : DataW H × List MemPlace} {T : TypeId} {fs : Array Field}
    (hfs : Try.prog.underlying T = some (.struct fs)) (h : DataW.trod enc Try.prog w base spare held fuel T cs = some y) :
    cs.length = Try.prog.cellsOf T ∧ ∃ m, ∀ (i : Nat) (t : TypeId) (o : Nat), (fs.map fun f : Field => (f.type, f.offset))[i]? = some (t, o) → ∃ y, DataW.trod enc Try.prog w base spare held m t ((cs.drop o).take (Try.prog.cellsOf t)) = some y := by
  obtain ⟨xs, m, hm, hxe, hlen, hxl, hel⟩ := DataW.trod_struct hfs h
  refine ⟨by first | exact hlen | omega, m, ?_⟩
  intro i t o hf
  rw [Array.getElem?_map] at hf
  obtain ⟨f, e1, e2⟩ := Option.map_eq_some_iff.1 hf
  simp only [Prod.mk.injEq] at e2
  obtain ⟨e2, e3⟩ := e2
  have hi : i < fs.size := (Array.getElem?_eq_some_iff.1 e1).1
  have hE := hel i f e1
  rw [e2, e3, List.getElem?_eq_getElem (by omega)] at hE
  exact ⟨_, hE⟩
theorem open_call {H : Type} {enc : TypeId × Value → H} {w : World} {base : Nat} {spare : Nat → Bool} {held : Bool} {fuel : Nat} {c0 c1 c2 : Value} {y : DataW H × List MemPlace}
    (h : DataW.trod enc Try.prog w base spare held fuel 33 [c0, c1, c2] = some y) : ∃ k n d, c0 = .int .i64 k ∧ c1 = .int .i64 n ∧ I64 k ∧ I64 n ∧ Sl w c2 d := by
  obtain ⟨fs, hfs, hmap⟩ := callFields
  obtain ⟨_, m, hpt⟩ := open_fields hfs h
  rw [hmap] at hpt
  obtain ⟨k1, k2, k3, k4, k5⟩ := cellsOne
  obtain ⟨y0, t0⟩ := hpt 0 _ _ rfl
  obtain ⟨y1, t1⟩ := hpt 1 _ _ rfl
  obtain ⟨y2, t2⟩ := hpt 2 _ _ rfl
  simp only [k2, k3, k5] at t0 t1 t2
  obtain ⟨a0, e0, _, w0⟩ := DataW.trod_int Try.underlying3 t0
  obtain ⟨a1, e1, _, w1⟩ := DataW.trod_int Try.underlying2 t1
  simp at e0 e1
  obtain ⟨l2, s2, d2⟩ := open_bytes (v := c2) (by simpa using t2)
  exact ⟨a0, a1, l2, e0, e1, i64_bounds w0, i64_bounds w1, s2⟩
theorem open_result {H : Type} {enc : TypeId × Value → H} {w : World} {base : Nat} {spare : Nat → Bool} {held : Bool} {fuel : Nat} {c0 c1 c2 : Value} {y : DataW H × List MemPlace}
    (h : DataW.trod enc Try.prog w base spare held fuel 35 [c0, c1, c2] = some y) : ∃ k n d, c0 = .int .i64 k ∧ c1 = .int .i64 n ∧ I64 k ∧ I64 n ∧ Sl w c2 d := by
  obtain ⟨fs, hfs, hmap⟩ := resultFields
  obtain ⟨_, m, hpt⟩ := open_fields hfs h
  rw [hmap] at hpt
  obtain ⟨k1, k2, k3, k4, k5⟩ := cellsOne
  obtain ⟨y0, t0⟩ := hpt 0 _ _ rfl
  obtain ⟨y1, t1⟩ := hpt 1 _ _ rfl
  obtain ⟨y2, t2⟩ := hpt 2 _ _ rfl
  simp only [k4, k3, k5] at t0 t1 t2
  obtain ⟨a0, e0, _, w0⟩ := DataW.trod_int Try.underlying27 t0
  obtain ⟨a1, e1, _, w1⟩ := DataW.trod_int Try.underlying2 t1
  simp at e0 e1
  obtain ⟨l2, s2, d2⟩ := open_bytes (v := c2) (by simpa using t2)
  exact ⟨a0, a1, l2, e0, e1, i64_bounds w0, i64_bounds w1, s2⟩
theorem open_mop {H : Type} {enc : TypeId × Value → H} {w : World} {base : Nat} {spare : Nat → Bool} {held : Bool} {fuel : Nat} {cs : List Value} {y : DataW H × List MemPlace}
    (h : DataW.trod enc Try.prog w base spare held fuel 37 cs = some y) : ∃ o : Mop, cs = o.cells ∧ MopOk w o := by
  obtain ⟨fs, hfs, hmap⟩ := mopFields
  obtain ⟨hlen, m, hpt⟩ := open_fields hfs h
  rw [hmap] at hpt
  rw [cellsMop] at hlen
  obtain ⟨c0, c1, c2, c3, c4, c5, c6, c7, rfl⟩ : ∃ c0 c1 c2 c3 c4 c5 c6 c7, cs = [c0, c1, c2, c3, c4, c5, c6, c7] := by
    match cs, hlen with
    | [c0, c1, c2, c3, c4, c5, c6, c7], _ => exact ⟨c0, c1, c2, c3, c4, c5, c6, c7, rfl⟩
  obtain ⟨k1, k2, k3, k4, k5⟩ := cellsOne
  obtain ⟨y0, t0⟩ := hpt 0 _ _ rfl
  obtain ⟨y1, t1⟩ := hpt 1 _ _ rfl
  obtain ⟨y2, t2⟩ := hpt 2 _ _ rfl
  obtain ⟨y3, t3⟩ := hpt 3 _ _ rfl
  simp only [cellsCall, cellsResult, k1] at t0 t1 t2 t3
  obtain ⟨a, b, d, rfl, rfl, q1, q2, q3⟩ := open_call (c0 := c0) (c1 := c1) (c2 := c2) (by simpa using t0)
  obtain ⟨a', b', d', rfl, rfl, q1', q2', q3'⟩ := open_result (c0 := c3) (c1 := c4) (c2 := c5) (by simpa using t1)
  obtain ⟨f2, e2, _⟩ := DataW.trod_bool Try.underlying4 t2
  obtain ⟨f3, e3, _⟩ := DataW.trod_bool Try.underlying4 t3
  simp at e2 e3
  subst e2 e3
  exact ⟨⟨a, b, c2, d, a', b', c5, d', f2, f3⟩, rfl, ⟨q1, q2, q3, q1', q2', q3'⟩⟩
/-- Calls lie from address ao on. -/
def AtMops (w : World) (ao : Option Addr) (os : List Mop) : Prop :=
  ∀ i (h : i < os.length), ∃ b off, ao = some ⟨b, off, none⟩ ∧ ∀ j u, (os[i]).cells[j]? = some u → w.cell? ⟨b, off + i * 8 + j, none⟩ = some u
theorem open_mops {H : Type} {enc : TypeId × Value → H} {w : World} {base : Nat} {spare : Nat → Bool} {held : Bool} {fuel : Nat} {v : Value} {x : DataW H × List MemPlace}
    (h : DataW.trod enc Try.prog w base spare held fuel 22 [v] = some x) :
    ∃ (os : List Mop) (ao : Option Addr) (cap : Nat), v = .slice ao os.length cap ∧ os.length ≤ cap ∧ cap ≤ maxLen ∧ AtMops w ao os ∧ (∀ o ∈ os, MopOk w o) := by
  rcases open_slice Try.underlying22 h with ⟨hcs, hx⟩ | ⟨a, len, cap, m, n, D, Pl, hcs, hb, hl, hm, hmm, hx, hel⟩
  · simp at hcs
    subst hcs hx
    exact ⟨[], none, 0, rfl, Nat.le_refl _, Nat.zero_le _, fun i hi => by simp at hi, fun o ho => by simp at ho⟩
  · simp at hcs
    have hlm : len ≤ m := by split at hmm <;> omega
    have each : ∀ i, ∃ o : Mop, i < len → MopOk w o ∧ ∃ b off, a = ⟨b, off, none⟩ ∧ ∀ j u, o.cells[j]? = some u → w.cell? ⟨b, off + i * 8 + j, none⟩ = some u := by
      intro i
      by_cases hi : i < len
      · obtain ⟨cs', h1, h2⟩ := hel i (by omega)
        obtain ⟨o, ho, hok⟩ := open_mop h2
        rw [cellsMop] at h1
        obtain ⟨b, off, sp⟩ := a
        have hsp : sp = none := by
          obtain ⟨cs0, g1, g2⟩ := hel 0 (by omega)
          have g3 := (World.cells?_some g1).2.2 0 (by rw [cellsMop]; omega)
          have g4 : cs0.length = 8 := by
            have := (World.cells?_some g1).2.1
            rw [cellsMop] at this
            first | exact this | omega
          simp [Addr.add, g4] at g3
          exact World.cell?_spot g3
        subst hsp
        have hcell := (World.cells?_some h1).2.2
        rw [addr_add] at hcell
        refine ⟨o, fun _ => ⟨hok, b, off, rfl, fun j u hu => ?_⟩⟩
        have hj : j < 8 := by
          have := (List.getElem?_eq_some_iff.1 hu).1
          simpa [Mop.cells] using this
        have k0 := hcell j (by omega)
        rw [addr_add] at k0
        rw [k0, ← hu]
        simp [ho]
      · exact ⟨⟨0, 0, .slice none 0 0, [], 0, 0, .slice none 0 0, [], false, false⟩, fun h => absurd h hi⟩
    obtain ⟨O, hO⟩ : ∃ O : Nat → Mop, ∀ i, i < len → MopOk w (O i) ∧ ∃ b off, a = ⟨b, off, none⟩ ∧ ∀ j u, (O i).cells[j]? = some u → w.cell? ⟨b, off + i * 8 + j, none⟩ = some u := ⟨fun i => Classical.choose (each i), fun i => Classical.choose_spec (each i)⟩
    refine ⟨(List.range len).map O, some a, cap, by simp [hcs], by simp; omega, by omega, ?_, ?_⟩
    · intro i hi
      simp at hi
      obtain ⟨_, b, off, rfl, q1⟩ := hO i (by omega)
      exact ⟨b, off, rfl, fun j u hu => q1 j u (by simpa using hu)⟩
    · intro o ho
      simp only [List.mem_map, List.mem_range] at ho
      obtain ⟨i, hi, rfl⟩ := ho
      exact (hO i (by omega)).1
/-- The call i, in a later world. -/
theorem AtMops.at {w w' : World} {ao : Option Addr} {os : List Mop} (h : AtMops w ao os) (hb : Below w.heap.size w w') (hk : ∀ o ∈ os, MopOk w o) {i : Nat} (hi : i < os.length) : ∃ b off o co cc ro rc, ao = some ⟨b, off, none⟩ ∧ o = os[i] ∧ MopOk w' o ∧ o.cv = .slice co o.cd.length cc ∧ o.rv = .slice ro o.rd.length rc ∧ w'.cell? ⟨b, off + i * 8, none⟩ = some (.int .i64 o.k) ∧ w'.cell? ⟨b, off + i * 8 + 1, none⟩ = some (.int .i64 o.n) ∧ w'.cell? ⟨b, off + i * 8 + 2, none⟩ = some (.slice co o.cd.length cc) ∧ w'.cell? ⟨b, off + i * 8 + 3, none⟩ = some (.int .i64 o.e) ∧ w'.cell? ⟨b, off + i * 8 + 4, none⟩ = some (.int .i64 o.rn) ∧ w'.cell? ⟨b, off + i * 8 + 5, none⟩ = some (.slice ro o.rd.length rc) ∧ w'.cell? ⟨b, off + i * 8 + 6, none⟩ = some (.bool o.hf) ∧ w'.cell? ⟨b, off + i * 8 + 7, none⟩ = some (.bool o.st) := by
  obtain ⟨b, off, e, hc⟩ := h i hi
  have ok := (hk _ (List.getElem_mem hi)).below hb
  obtain ⟨co, cc, e1, -⟩ := ok.cd
  obtain ⟨ro, rc, e2, -⟩ := ok.rd
  have cell : ∀ j u, (os[i]).cells[j]? = some u → w'.cell? ⟨b, off + i * 8 + j, none⟩ = some u := fun j u hu => by
    have := hc j u hu
    rw [hb.cell (p := ⟨b, off + i * 8 + j, none⟩) (lt_of_cell this)]; exact this
  exact ⟨b, off, os[i], co, cc, ro, rc, e, rfl, ok, e1, e2, by simpa using cell 0 _ rfl, cell 1 _ rfl, by rw [← e1]; exact cell 2 _ rfl, cell 3 _ rfl, cell 4 _ rfl, by rw [← e2]; exact cell 5 _ rfl, cell 6 _ rfl, cell 7 _ rfl⟩
end Go.Proofs.Ytmehlgebbbkdiaa.Um

/-
  begun.
-/
namespace Go.Proofs.Ytmehlgebbbkdiaa.Um
open Go.RowKit Go.Maps
set_option linter.unusedVariables false
set_option linter.unusedSimpArgs false
set_option maxRecDepth 100000
theorem sl_a (w : World) : Sl (w.alloc (.cells #[.int .u8 97] 5 (1, 2))) (.slice (some ⟨w.heap.size, 0, none⟩) 1 1) [97] := by
  refine ⟨some ⟨w.heap.size, 0, none⟩, 1, rfl, fun e => by simp at e, Nat.le_refl _, by unfold maxLen; omega, fun i hi => ⟨w.heap.size, 0, rfl, ?_⟩⟩
  have : i = 0 := by simp at hi; omega
  subst this
  rw [cell_of (heap_alloc_new w _)]
  rfl
set_option maxHeartbeats 4000000 in
theorem begun_any (w : World) : Calls Try.prog 6 #[] w fun e w' => e = .returned (.bool true) ∧ Below w.heap.size w w' := by
  have kc := fun (w : World) (C : Array Value) (n c : Nat) => Lib.run_convert_bytes_const (P := Try.prog) w 31 5 C n c Try.underlying31 Try.underlying5
  have NE := hide (new_any w 1 (by decide))
  have A1 : Hid (∀ q ao ca, Rd2 q (.slice ao 0 ca) mB1 → Calls Try.prog 12 #[.agg #[.int .i64 1, .int .i64 1, .int .i64 1, .int .i64 1, .int .i64 9223372036854775807, .slice ao 0 ca, .bool false, .bool false], .agg #[.int .i64 2, .int .i64 0, .slice (some ⟨q.heap.size, 0, none⟩) 1 1], .agg #[.int .i64 0, .int .i64 1, .slice none 0 0]] (q.alloc (.cells #[.int .u8 97] 5 (1, 2))) fun e w' => Below q.heap.size q w' ∧ ∃ (ao : Option Addr) (ca : Nat), e = .returned (.tuple #[.agg #[.int .i64 1, .int .i64 1, .int .i64 1, .int .i64 2, .int .i64 9223372036854775807, .slice ao 1 ca, .bool false, .bool false], .bool true]) ∧ Rd2 w' (.slice ao 1 ca) mB2) := hide (fun q ao ca h => by
    have B := box_below q (.cells #[.int .u8 97] 5 (1, 2))
    have := apply_rd (h.below B) iB1 (by decide) ⟨2, 0, [97]⟩ ⟨by decide, by decide⟩ (some ⟨q.heap.size, 0, none⟩) 1 (sl_a q) ⟨0, 1, []⟩ none 0 (Sl.nil _)
    refine this.mono ?_
    intro e w' hs
    rw [b_1] at hs
    obtain ⟨hb, ao, ca, rfl, hO⟩ := hs.yes
    exact ⟨B.trans (hb.mono B.size), ao, ca, rfl, hO.rd2⟩)
  have A2 : Hid (∀ q ao ca, Rd2 q (.slice ao 1 ca) mB2 → Calls Try.prog 12 #[.agg #[.int .i64 1, .int .i64 1, .int .i64 1, .int .i64 2, .int .i64 9223372036854775807, .slice ao 1 ca, .bool false, .bool false], .agg #[.int .i64 4, .int .i64 1, .slice none 0 0], .agg #[.int .i64 0, .int .i64 1, .slice (some ⟨q.heap.size, 0, none⟩) 1 1]] (q.alloc (.cells #[.int .u8 97] 5 (1, 2))) fun e w' => Below q.heap.size q w' ∧ ∃ (ao : Option Addr) (ca : Nat), e = .returned (.tuple #[.agg #[.int .i64 1, .int .i64 1, .int .i64 2, .int .i64 2, .int .i64 9223372036854775807, .slice ao 1 ca, .bool false, .bool false], .bool true]) ∧ Rd2 w' (.slice ao 1 ca) mB3) := hide (fun q ao ca h => by
    have B := box_below q (.cells #[.int .u8 97] 5 (1, 2))
    have := apply_rd (h.below B) iB2 (by decide) ⟨4, 1, []⟩ ⟨by decide, by decide⟩ none 0 (Sl.nil _) ⟨0, 1, [97]⟩ (some ⟨q.heap.size, 0, none⟩) 1 (sl_a q)
    refine this.mono ?_
    intro e w' hs
    rw [b_2] at hs
    obtain ⟨hb, ao, ca, rfl, hO⟩ := hs.yes
    exact ⟨B.trans (hb.mono B.size), ao, ca, rfl, hO.rd2⟩)
  have A3 : Hid (∀ q ao ca, Rd2 q (.slice ao 1 ca) mB3 → Calls Try.prog 12 #[.agg #[.int .i64 1, .int .i64 1, .int .i64 2, .int .i64 2, .int .i64 9223372036854775807, .slice ao 1 ca, .bool false, .bool false], .agg #[.int .i64 4, .int .i64 1, .slice none 0 0], .agg #[.int .i64 42, .int .i64 0, .slice none 0 0]] q fun e w' => Below q.heap.size q w' ∧ ∃ (ao : Option Addr) (ca : Nat), e = .returned (.tuple #[.agg #[.int .i64 0, .int .i64 0, .int .i64 0, .int .i64 0, .int .i64 0, .slice ao 0 ca, .bool false, .bool false], .bool false]) ∧ Rd2 w' (.slice ao 0 ca) zeroS) := hide (fun q ao ca h => by
    have := apply_rd h iB3 (by decide) ⟨4, 1, []⟩ ⟨by decide, by decide⟩ none 0 (Sl.nil _) ⟨42, 0, []⟩ none 0 (Sl.nil _)
    refine this.mono ?_
    intro e w' hs
    rw [b_3] at hs
    obtain ⟨hb, ao, ca, rfl, hO⟩ := hs.no
    exact ⟨hb, ao, ca, rfl, Own.rd2 (m := zeroS) hO⟩)
  have A4 : Hid (∀ q ao ca, Rd2 q (.slice ao 0 ca) mB1 → Calls Try.prog 10 #[.agg #[.int .i64 1, .int .i64 1, .int .i64 1, .int .i64 1, .int .i64 9223372036854775807, .slice ao 0 ca, .bool false, .bool false], .agg #[.int .i64 1, .int .i64 0, .slice none 0 0]] q fun e w' => Below q.heap.size q w' ∧ ∃ (ao : Option Addr) (ca : Nat), e = .returned (.tuple #[.agg #[.int .i64 1, .int .i64 1, .int .i64 1, .int .i64 2, .int .i64 9223372036854775807, .slice ao 1 ca, .bool false, .bool false], .bool true]) ∧ Rd2 w' (.slice ao 1 ca) mB4) := hide (fun q ao ca h => by
    have := half_rd h iB1 (by decide) ⟨1, 0, []⟩ ⟨by decide, by decide⟩ none 0 (Sl.nil _)
    refine this.mono ?_
    intro e w' hs
    rw [b_4] at hs
    obtain ⟨hb, ao, ca, rfl, hO⟩ := hs.yes
    exact ⟨hb, ao, ca, rfl, hO.rd2⟩)
  have A5 : Hid (∀ q ao ca, Rd2 q (.slice ao 0 ca) mB1 → Calls Try.prog 15 #[.agg #[.int .i64 1, .int .i64 1, .int .i64 1, .int .i64 1, .int .i64 9223372036854775807, .slice ao 0 ca, .bool false, .bool false], .agg #[.int .i64 1, .int .i64 1, .int .i64 1, .int .i64 1, .int .i64 9223372036854775807, .slice ao 0 ca, .bool false, .bool false]] q fun e w' => e = .returned (.bool true) ∧ Below q.heap.size q w') := hide (fun q ao ca h => by
    have := same_rd h h
    rw [s_11] at this
    exact this)
  have A6 : Hid (∀ q ao ca bo cb, Rd2 q (.slice ao 0 ca) mB1 → Rd2 q (.slice bo 1 cb) mB2 → Calls Try.prog 15 #[.agg #[.int .i64 1, .int .i64 1, .int .i64 1, .int .i64 1, .int .i64 9223372036854775807, .slice ao 0 ca, .bool false, .bool false], .agg #[.int .i64 1, .int .i64 1, .int .i64 1, .int .i64 2, .int .i64 9223372036854775807, .slice bo 1 cb, .bool false, .bool false]] q fun e w' => e = .returned (.bool false) ∧ Below q.heap.size q w') := hide (fun q ao ca bo cb h h' => by
    have := same_rd h h'
    rw [s_12] at this
    exact this)
  go_enter Try.func6, Try.ntmps6
  go_upto_region 2 with (go_at_call 7; refine NE.out.mono ?_; rintro e u1 ⟨rfl, B1⟩; replace B1 := hide B1)
  obtain ⟨X1, hX1⟩ : ∃ X, Hid (u1.alloc (.cells #[.int .i64 1, .int .i64 1, .int .i64 1, .int .i64 1, .int .i64 9223372036854775807, .slice none 0 0, .bool false, .bool false] 26) = X) := ⟨_, rfl⟩
  have m1 : Hid (Bm X1 u1.heap.size mB1) := hide (by rw [← hX1.out]; exact Bm.new (m := mB1) (rd2_nil _ _ rfl))
  have W1 : Hid (Below w.heap.size w X1) := hide (B1.out.trans (by rw [← hX1.out]; exact (box_below u1 _).mono B1.out.size))
  rw [hX1.out]
  clear hX1 B1 NE
  obtain ⟨a1, c1, r1, x0, x1, x2, x3, x4, x5, x6, x7⟩ := m1.out.cells
  simp only [mB1, newS, List.length_nil] at x0 x1 x2 x3 x4 x5 x6 x7
  replace r1 := hide r1
  go_upto_region 3 with (go_at_call 12; refine (A1.out X1 _ _ r1.out).mono ?_; rintro e u2 ⟨B2, a2, c2, rfl, r2⟩; replace B2 := hide B2; replace r2 := hide r2)
  obtain ⟨X2, hX2⟩ : ∃ X, Hid (u2.alloc (.cells #[.int .i64 1, .int .i64 1, .int .i64 1, .int .i64 2, .int .i64 9223372036854775807, .slice a2 1 c2, .bool false, .bool false] 26) = X) := ⟨_, rfl⟩
  have m2 : Hid (Bm X2 u2.heap.size mB2) := hide (by rw [← hX2.out]; exact Bm.new (m := mB2) r2.out)
  have V2 : Hid (Below X1.heap.size X1 X2) := hide (B2.out.trans (by rw [← hX2.out]; exact (box_below u2 _).mono B2.out.size))
  rw [hX2.out]
  clear hX2 B2 r2 x0 x1 x2 x3 x4 x5 x6 x7 r1 A1
  obtain ⟨d2, e2, r2, x0, x1, x2, x3, x4, x5, x6, x7⟩ := m2.out.cells
  simp only [mB2, List.length_singleton] at x0 x1 x2 x3 x4 x5 x6 x7
  replace r2 := hide r2
  go_upto_region 4 with (go_at_call 12; refine (A2.out X2 _ _ r2.out).mono ?_; rintro e u3 ⟨B3, a3, c3, rfl, r3⟩; replace B3 := hide B3; replace r3 := hide r3)
  obtain ⟨X3, hX3⟩ : ∃ X, Hid (u3.alloc (.cells #[.int .i64 1, .int .i64 1, .int .i64 2, .int .i64 2, .int .i64 9223372036854775807, .slice a3 1 c3, .bool false, .bool false] 26) = X) := ⟨_, rfl⟩
  have m3 : Hid (Bm X3 u3.heap.size mB3) := hide (by rw [← hX3.out]; exact Bm.new (m := mB3) r3.out)
  have V3 : Hid (Below X2.heap.size X2 X3) := hide (B3.out.trans (by rw [← hX3.out]; exact (box_below u3 _).mono B3.out.size))
  rw [hX3.out]
  clear hX3 B3 r3 x0 x1 x2 x3 x4 x5 x6 x7 r2 A2
  obtain ⟨d3, e3, r3, x0, x1, x2, x3, x4, x5, x6, x7⟩ := m3.out.cells
  simp only [mB3, List.length_singleton] at x0 x1 x2 x3 x4 x5 x6 x7
  replace r3 := hide r3
  go_upto_region 5 with (go_at_call 12; refine (A3.out X3 _ _ r3.out).mono ?_; rintro e u4 ⟨B4, a4, c4, rfl, r4⟩; replace B4 := hide B4; replace r4 := hide r4)
  obtain ⟨X4, hX4⟩ : ∃ X, Hid (u4.alloc (.cells #[.int .i64 0, .int .i64 0, .int .i64 0, .int .i64 0, .int .i64 0, .slice a4 0 c4, .bool false, .bool false] 26) = X) := ⟨_, rfl⟩
  have V4 : Hid (Below X3.heap.size X3 X4) := hide (B4.out.trans (by rw [← hX4.out]; exact (box_below u4 _).mono B4.out.size))
  rw [hX4.out]
  clear hX4 B4 r4 x0 x1 x2 x3 x4 x5 x6 x7 r3 A3
  have V24 : Hid (Below X2.heap.size X2 X4) := hide (V3.out.trans (V4.out.mono V3.out.size))
  have V14 : Hid (Below X1.heap.size X1 X4) := hide (V2.out.trans (V24.out.mono V2.out.size))
  have m14 := hide (m1.out.below V14.out)
  obtain ⟨d4, e4, r4, x0, x1, x2, x3, x4, x5, x6, x7⟩ := m14.out.cells
  simp only [mB1, newS, List.length_nil] at x0 x1 x2 x3 x4 x5 x6 x7
  replace r4 := hide r4
  go_upto_region 6 with (go_at_call 10; refine (A4.out X4 _ _ r4.out).mono ?_; rintro e u5 ⟨B5, a5, c5, rfl, r5⟩; replace B5 := hide B5; replace r5 := hide r5)
  obtain ⟨X5, hX5⟩ : ∃ X, Hid (u5.alloc (.cells #[.int .i64 1, .int .i64 1, .int .i64 1, .int .i64 2, .int .i64 9223372036854775807, .slice a5 1 c5, .bool false, .bool false] 26) = X) := ⟨_, rfl⟩
  have m5 : Hid (Bm X5 u5.heap.size mB4) := hide (by rw [← hX5.out]; exact Bm.new (m := mB4) r5.out)
  have V5 : Hid (Below X4.heap.size X4 X5) := hide (B5.out.trans (by rw [← hX5.out]; exact (box_below u5 _).mono B5.out.size))
  rw [hX5.out]
  clear hX5 B5 r5 x0 x1 x2 x3 x4 x5 x6 x7 r4 A4
  have CEL : Hid (∀ q, Below X5.heap.size X5 q → Bm q u1.heap.size mB1 ∧ Bm q u2.heap.size mB2 ∧ Bm q u3.heap.size mB3 ∧ Bm q u5.heap.size mB4 ∧ Below w.heap.size w q) := hide (fun q hq => by
    have b45 := V5.out.trans (hq.mono V5.out.size)
    have b35 := V4.out.trans (b45.mono V4.out.size)
    have b25 := V3.out.trans (b35.mono V3.out.size)
    have b15 := V2.out.trans (b25.mono V2.out.size)
    exact ⟨m1.out.below b15, m2.out.below b25, m3.out.below b35, m5.out.below hq, W1.out.trans (b15.mono W1.out.size)⟩)
  clear m1 m2 m3 m5 m14 V2 V3 V4 V5 V24 V14 W1
  obtain ⟨f1, f2, f3, f5, -⟩ := CEL.out X5 (Below.refl _ _)
  obtain ⟨g1, h1, r1, x0, x1, x2, x3, x4, x5, x6, x7⟩ := f1.cells
  obtain ⟨g2, h2, r2, y0, y1, y2, y3, y4, y5, y6, y7⟩ := f2.cells
  obtain ⟨g3, h3, r3, -, -, z2, -, -, -, -, -⟩ := f3.cells
  obtain ⟨g5, h5, r5, -, -, -, k3, -, -, -, -⟩ := f5.cells
  simp only [mB1, mB2, mB3, mB4, newS, List.length_nil, List.length_singleton] at x0 x1 x2 x3 x4 x5 x6 x7 y0 y1 y2 y3 y4 y5 y6 y7 z2 k3
  replace r1 := hide r1
  clear f1 f2 f3 f5 r2 r3 r5
  have S6 := hide (A5.out X5 g1 h1 r1.out)
  go_wp2_with (first
    | (go_at_call 15; refine S6.out.mono ?_; rintro e u6 ⟨rfl, B6⟩; clear S6 x0 x1 x2 x3 x4 x5 x6 x7 y0 y1 y2 y3 y4 y5 y6 y7 z2 k3; obtain ⟨f1, f2, f3, f5, Bw⟩ := CEL.out u6 B6; obtain ⟨g6, h6, r6, x0, x1, x2, x3, x4, x5, x6, x7⟩ := f1.cells; obtain ⟨g7, h7, r7, y0, y1, y2, y3, y4, y5, y6, y7⟩ := f2.cells; simp only [mB1, mB2, mB3, mB4, newS, List.length_nil, List.length_singleton] at x0 x1 x2 x3 x4 x5 x6 x7 y0 y1 y2 y3 y4 y5 y6 y7; have S7 := hide (A6.out u6 g6 h6 g7 h7 r6 r7); replace Bw := hide Bw; clear f1 f2 f3 f5 r6 r7 B6)
    | (go_at_call 15; refine S7.out.mono ?_; rintro e u7 ⟨rfl, B7⟩; replace Bw := hide (Bw.out.trans (B7.mono Bw.out.size)); clear B7))
  go_ret
  exact ⟨rfl, Bw.out⟩
end Go.Proofs.Ytmehlgebbbkdiaa.Um

/-
  ModelOrder's walk. (gen_UmV.py)
-/
namespace Go.Proofs.Ytmehlgebbbkdiaa.Um
open Go.RowKit Go.Maps
set_option linter.unusedVariables false
set_option linter.unusedSimpArgs false
set_option maxRecDepth 100000
theorem bm_at {w' : World} {b : Nat} {m : Md} {ao : Option Addr} {L ca : Nat} (h1 : w'.heap[b]? = some (.cells #[.int .i64 m.ba, .int .i64 m.fi, .int .i64 m.du, .int .i64 m.nx, .int .i64 m.li, .slice ao L ca, .bool m.fa, .bool m.cl] 26 (0, 0))) (h2 : Rd2 w' (.slice ao L ca) m) : Bm w' b m := by
  obtain ⟨ao', ca', e⟩ := h2.form
  simp only [Value.slice.injEq] at e
  obtain ⟨rfl, rfl, rfl⟩ := e
  exact ⟨ao, ca, h1, h2⟩
/-- Between the rounds. -/
structure LJ (w wr : World) (p5 : Nat) (b : Int) (m : Md) (i : Nat) : Prop where
  bm : Bm wr p5 m
  be : Below w.heap.size w wr
  g5 : w.heap.size ≤ p5
  inv : Inv b m
  len : m.rs.length ≤ i
theorem LJ.below {w wr q : World} {p5 : Nat} {b : Int} {m : Md} {i : Nat} (h : LJ w wr p5 b m i) (hb : Below wr.heap.size wr q) : LJ w q p5 b m (i + 1) :=
  ⟨h.bm.below hb, h.be.trans (hb.mono h.be.size), h.g5, h.inv, Nat.le_succ_of_le h.len⟩
theorem rel_next {j i : Nat} (h : j < i) : j + 1 ≤ i ∧ Value.int IntKind.i64 ((j : Int) + 1) = Value.int IntKind.i64 ((j + 1 : Nat) : Int) ∧ i - (intOf (Value.int IntKind.i64 ((j : Int) + 1))).toNat < i - (intOf (Value.int IntKind.i64 (j : Int))).toNat := by
  refine ⟨by omega, congrArg (Value.int IntKind.i64) (by omega), ?_⟩
  simp [intOf]
  omega
theorem s_zz : sameB zeroS zeroS = true := by simp [sameB]
set_option maxHeartbeats 16000000 in
theorem order_walk (w : World) (b : Int) (os : List Mop) (ao : Option Addr) (cap : Nat) (hb1 : -9223372036854775808 ≤ b) (hb2 : b ≤ 9223372036854775807) (hat : AtMops w ao os) (hln : os.length ≤ cap) (hcm : cap ≤ maxLen) (hk : ∀ o ∈ os, MopOk w o) :
    Calls Try.prog 4 #[.int .i64 b, .slice ao os.length cap] w fun e w' => e = .returned (.bool true) ∧ Below w.heap.size w w' := by
  have BG := hide (begun_any w)
  by_cases hb : b < 1
  · have NO : Hid (∀ q, Calls Try.prog 7 #[.int .i64 b] q fun e w' => e = .returned (.tuple #[.agg #[.int .i64 0, .int .i64 0, .int .i64 0, .int .i64 0, .int .i64 0, .slice none 0 0, .bool false, .bool false], .int .i64 1]) ∧ Below q.heap.size q w') := hide (fun q => new_no q b hb)
    clear hat hk
    go_enter Try.func4, Try.ntmps4
    go_upto_region 4 with (first
      | (go_at_call 6; refine BG.out.mono ?_; rintro e u0 ⟨rfl, B0⟩; replace B0 := hide B0)
      | (go_at_call 7; refine (NO.out _).mono ?_; rintro e u1 ⟨rfl, B1⟩; replace B1 := hide B1))
    have FIN : Hid (Below w.heap.size w (u1.alloc (.cells #[.int .i64 0, .int .i64 0, .int .i64 0, .int .i64 0, .int .i64 0, .slice none 0 0, .bool false, .bool false] 26))) := hide (by
      have a := B0.out.trans (B1.out.mono B0.out.size)
      exact a.trans ((box_below u1 _).mono a.size))
    go_wp2_with fail
    go_ret
    exact ⟨rfl, FIN.out⟩
  · have g1 : 1 ≤ b := by omega
    have NE : Hid (∀ q, Calls Try.prog 7 #[.int .i64 b] q fun e w' => e = .returned (.tuple #[.agg #[.int .i64 b, .int .i64 b, .int .i64 b, .int .i64 b, .int .i64 9223372036854775807, .slice none 0 0, .bool false, .bool false], .int .i64 0]) ∧ Below q.heap.size q w') := hide (fun q => new_any q b g1)
    have HAT := hide hat
    have HK := hide hk
    obtain ⟨N, hN⟩ : ∃ N, Hid (os.length = N) := ⟨_, rfl⟩
    rw [hN.out] at hln ⊢
    have hcap : (cap : Int) ≤ 9223372036854775807 := by unfold maxLen at hcm; omega
    have hcap2 : (N : Int) ≤ (cap : Int) := by omega
    clear hat hk hb
    go_enter Try.func4, Try.ntmps4
    go_upto_region 4 with (first
      | (go_at_call 6; refine BG.out.mono ?_; rintro e u0 ⟨rfl, B0⟩; replace B0 := hide B0)
      | (go_at_call 7; refine (NE.out _).mono ?_; rintro e u1 ⟨rfl, B1⟩; replace B1 := hide B1))
    obtain ⟨X1, hX1⟩ : ∃ X, Hid (u1.alloc (.cells #[.int .i64 b, .int .i64 b, .int .i64 b, .int .i64 b, .int .i64 9223372036854775807, .slice none 0 0, .bool false, .bool false] 26) = X) := ⟨_, rfl⟩
    have lj : Hid (LJ w X1 u1.heap.size b (newS b) 0) := hide (by
      have a := B0.out.trans (B1.out.mono B0.out.size)
      refine ⟨by rw [← hX1.out]; exact Bm.new (m := newS b) (rd2_nil _ _ rfl), a.trans ((by rw [← hX1.out]; exact box_below u1 _ : Below u1.heap.size u1 X1).mono a.size), a.size, new_inv g1 hb2, by simp [newS]⟩)
    rw [hX1.out]
    generalize u1.heap.size = p5 at *
    clear hX1 B0 B1 NE BG
    go_wp2_with fail
    go_loopw [7] (fun v7 wr => ∃ i : Nat, i ≤ N ∧ v7 = .int .i64 (i : Int) ∧ i ≤ 80 ∧ Hid (∃ m, LJ w wr p5 b m i)) (fun v _ => N - (intOf v).toNat)
    case atStart => exact ⟨0, by omega, rfl, by omega, hide ⟨_, lj.out⟩⟩
    case round =>
      obtain ⟨i, hi, rfl, hi80, hL⟩ := hrel
      by_cases hin : i = N
      · subst hin
        have FIN : Hid (Below w.heap.size w wr) := hide (by obtain ⟨m, h⟩ := hL.out; exact h.be)
        go_wp2
        go_ret
        exact ⟨rfl, FIN.out⟩
      have hil : (i : Int) < (N : Int) := by omega
      by_cases hi8 : i = 80
      · subst hi8
        have FIN : Hid (Below w.heap.size w wr) := hide (by obtain ⟨m, h⟩ := hL.out; exact h.be)
        go_wp2
        go_ret
        exact ⟨rfl, FIN.out⟩
      have hi9 : (i : Int) < 80 := by omega
      have hiN : i < N := by omega
      have RS := hide (rel_next hiN)
      have kwi : IntKind.i64.wrap ((i : Int) + 1) = (i : Int) + 1 := by rw [IntKind.wrap_i64]; omega
      obtain ⟨m, hJ⟩ := hL.out
      replace hJ := hide hJ
      obtain ⟨q8, off, o, co, cc, ro, rc, rfl, ho, ok, e1, e2, c0, c1, c2, c3, c4, c5, c6, c7⟩ := HAT.out.at hJ.out.be HK.out (i := i) (by rw [hN.out]; exact hiN)
      clear hL ho
      obtain ⟨LC, hLC⟩ : ∃ l, Hid (o.cd.length = l) := ⟨_, rfl⟩
      obtain ⟨LR, hLR⟩ : ∃ l, Hid (o.rd.length = l) := ⟨_, rfl⟩
      rw [hLC.out] at c2
      rw [hLR.out] at c5
      go_upto_region 10 with fail
      have B2 := box_below wr (.cells #[.int .i64 o.k, .int .i64 o.n, .slice co LC cc, .int .i64 o.e, .int .i64 o.rn, .slice ro LR rc, .bool o.hf, .bool o.st] 37)
      have N2 := heap_alloc_new wr (.cells #[.int .i64 o.k, .int .i64 o.n, .slice co LC cc, .int .i64 o.e, .int .i64 o.rn, .slice ro LR rc, .bool o.hf, .bool o.st] 37)
      obtain ⟨X2, hX2⟩ : ∃ X, Hid (wr.alloc (.cells #[.int .i64 o.k, .int .i64 o.n, .slice co LC cc, .int .i64 o.e, .int .i64 o.rn, .slice ro LR rc, .bool o.hf, .bool o.st] 37) = X) := ⟨_, rfl⟩
      have hz2 : X2.heap.size = wr.heap.size + 1 := by rw [← hX2.out]; simp
      rw [hX2.out] at B2 N2
      rw [hX2.out]
      obtain ⟨x0, x1, x2, x3, x4, x5, x6, x7⟩ := eight N2
      clear c0 c1 c2 c3 c4 c5 c6 c7 hX2
      have J2 : Hid (LJ w X2 p5 b m (i + 1)) := hide (hJ.out.below B2)
      by_cases h5 : (LC : Int) > 5000
      · have FIN : Hid (∃ m, LJ w X2 p5 b m (i + 1)) := hide ⟨m, J2.out⟩
        go_wp2_with fail
        exact ⟨⟨i + 1, RS.out.1, RS.out.2.1, by omega, FIN⟩, RS.out.2.2⟩
      have k5 : decide ((LC : Int) > 5000) = false := by simpa using h5
      have B3 := box_below X2 (.cells zc 26)
      have N3 := heap_alloc_new X2 (.cells zc 26)
      obtain ⟨X3, hX3⟩ : ∃ X, Hid (X2.alloc (.cells zc 26) = X) := ⟨_, rfl⟩
      have hz3 : X3.heap.size = wr.heap.size + 2 := by rw [← hX3.out]; simp; omega
      rw [hX3.out] at B3 N3
      rw [hz2] at N3
      have N23 := (B3.block _ (heap_lt N2)).trans N2
      have J3 : Hid (LJ w X3 p5 b m (i + 1)) := hide ⟨J2.out.bm.below B3, J2.out.be.trans (B3.mono J2.out.be.size), J2.out.g5, J2.out.inv, J2.out.len⟩
      have ok3 : MopOk X3 o := (ok.below B2).below B3
      obtain ⟨mo, mc, mrd, y0, y1, y2, y3, y4, y5, y6, y7⟩ := J3.out.bm.cells
      have AP := hide (apply_rd mrd J3.out.inv (by have := hJ.out.len; omega) ⟨o.k, o.n, o.cd⟩ ok3.n co cc (by have := ok3.cd; rw [e1] at this; exact this) ⟨o.e, o.rn, o.rd⟩ ro rc (by have := ok3.rd; rw [e2] at this; exact this))
      have HP := hide (half_rd mrd J3.out.inv (by have := hJ.out.len; omega) ⟨o.k, o.n, o.cd⟩ ok3.n co cc (by have := ok3.cd; rw [e1] at this; exact this))
      simp only [hLC.out, hLR.out] at AP HP
      have OKA : Hid (∀ m', answerS m ⟨o.k, o.n, o.cd⟩ ⟨o.e, o.rn, o.rd⟩ = some m' → Ok b m m') := hide (fun m' e => answer_ok hJ.out.inv e)
      have OKH : Hid (∀ m', takeS m ⟨o.k, o.n, o.cd⟩ = some m' → Ok b m m') := hide (fun m' e => take_ok hJ.out.inv e)
      have NX : Hid (∀ u W m' (ao4 : Option Addr) (L4 ca4 : Nat), Below X3.heap.size X3 u → Own X3.heap.size u (.slice ao4 L4 ca4) m'.rs → Hid (put8 u (wr.heap.size + 1) (.int .i64 m'.ba) (.int .i64 m'.fi) (.int .i64 m'.du) (.int .i64 m'.nx) (.int .i64 m'.li) (.slice ao4 L4 ca4) (.bool m'.fa) (.bool m'.cl) = W) → W.heap[wr.heap.size + 1]? = some (.cells #[.int .i64 m'.ba, .int .i64 m'.fi, .int .i64 m'.du, .int .i64 m'.nx, .int .i64 m'.li, .slice ao4 L4 ca4, .bool m'.fa, .bool m'.cl] 26 (0, 0)) ∧ u.heap[wr.heap.size + 1]? = some (.cells zc 26 (0, 0)) ∧ LJ w W p5 b m (i + 1) ∧ Rd2 W (.slice ao4 L4 ca4) m' ∧ Own X3.heap.size W (.slice ao4 L4 ca4) m'.rs) := hide (fun u W m' ao4 L4 ca4 hb hO hW => by
        have k := (hb.block _ (heap_lt N3)).trans N3
        have P := put8_but u (wr.heap.size + 1) (.int .i64 m'.ba) (.int .i64 m'.fi) (.int .i64 m'.du) (.int .i64 m'.nx) (.int .i64 m'.li) (.slice ao4 L4 ca4) (.bool m'.fa) (.bool m'.cl)
        have H := put8_heap k (.int .i64 m'.ba) (.int .i64 m'.fi) (.int .i64 m'.du) (.int .i64 m'.nx) (.int .i64 m'.li) (.slice ao4 L4 ca4) (.bool m'.fa) (.bool m'.cl)
        rw [hW.out] at P H
        have j3 := J3.out
        have hp5 := hJ.out.bm.lt
        have be4 := j3.be.trans (hb.mono j3.be.size)
        have bw : Below wr.heap.size wr W := (B2.trans (Below.mono B3 (by omega))).trans ((hb.mono (by omega)).trans (P.below (by have := hb.size; omega) (fun k hk => by omega)))
        have O2 := hO.but P (fun k hk => by omega)
        exact ⟨H, k, ⟨hJ.out.bm.below bw, hJ.out.be.trans (bw.mono hJ.out.be.size), hJ.out.g5, hJ.out.inv, Nat.le_succ_of_le hJ.out.len⟩, O2.rd2, O2⟩)
      have hp5 : Hid (p5 < wr.heap.size) := hide hJ.out.bm.lt
      have LENM : Hid (m.rs.length ≤ i) := hide hJ.out.len
      obtain ⟨z0, z1, z2, z3, z4, z5, z6, z7⟩ := eight N23
      have hw3 := hide hX3.out
      unfold zc at hw3
      have HZ3 : Hid (wr.heap.size + 2 = X3.heap.size) := hide hz3.symm
      clear B2 N2 B3 N3 N23 J2 J3 ok ok3 mrd hX3 hJ hz3 HAT HK
      clear x0 x1 x3 x4 x5 x7
      go_upto_region 12 with fail
      rw [hw3.out]
      clear x2 x6 hw3 hz2
      by_cases hf : o.hf = true
      · skip
        obtain ⟨R, hR⟩ : ∃ R, Hid (takeS m ⟨o.k, o.n, o.cd⟩ = R) := ⟨_, rfl⟩
        rw [hR.out] at HP OKH
        clear hR AP OKA
        rw [hf] at z6
        cases R with
        | none =>
          go_upto_region 16 with (go_at_call 10; refine HP.out.mono ?_; intro e u4 hs; obtain ⟨B4, ao4, ca4, rfl, hO⟩ := hs.no; obtain ⟨W, hW⟩ : ∃ W, Hid (put8 u4 (wr.heap.size + 1) (.int .i64 zeroS.ba) (.int .i64 zeroS.fi) (.int .i64 zeroS.du) (.int .i64 zeroS.nx) (.int .i64 zeroS.li) (.slice ao4 0 ca4) (.bool zeroS.fa) (.bool zeroS.cl) = W) := ⟨_, rfl⟩; obtain ⟨f1, f2, f3, f4, -⟩ := NX.out u4 W zeroS ao4 0 ca4 B4 hO hW; unfold zc at f2; obtain ⟨s0, s1, s2, s3, s4, s5, s6, s7⟩ := eight f2; have t0 := frz_of (off := 0) f2; have t1 := frz_of (off := 1) f2; have t2 := frz_of (off := 2) f2; have t3 := frz_of (off := 3) f2; have t4 := frz_of (off := 4) f2; have t5 := frz_of (off := 5) f2; have t6 := frz_of (off := 6) f2; have t7 := frz_of (off := 7) f2; replace f1 := hide f1; replace f3 := hide f3; replace f4 := hide f4; have hW' := hide hW.out; unfold put8 zeroS at hW'; simp only at hW'; clear f2 hW B4 hO z0 z1 z2 z3 z4 z5 z6 z7 y0 y1 y2 y3 y4 y5 y6 y7)
          rw [hW'.out]
          clear s0 s1 s2 s3 s4 s5 s6 s7 t0 t1 t2 t3 t4 t5 t6 t7 hW' NX
          obtain ⟨s0, s1, s2, s3, s4, s5, s6, s7⟩ := eight f1.out
          simp only [zeroS] at s0 s1 s2 s3 s4 s6 s7
          have SM := hide (same_rd f4.out (rd2_nil W zeroS rfl))
          rw [s_zz] at SM
          simp only [zeroS] at SM
          go_wp2_with (go_at_call 15; refine SM.out.mono ?_; rintro e u5 ⟨rfl, B5⟩; have J5 : Hid (∃ m, LJ w u5 p5 b m (i + 1)) := hide ⟨m, f3.out.bm.below B5, f3.out.be.trans (B5.mono f3.out.be.size), f3.out.g5, f3.out.inv, f3.out.len⟩; clear B5 SM)
          exact ⟨⟨i + 1, RS.out.1, RS.out.2.1, by omega, J5⟩, RS.out.2.2⟩
        | some m1 =>
          obtain ⟨iv, fw⟩ := OKH.out m1 rfl
          have FW := hide fw
          have IV := hide iv
          have hm5 : Hid (m1.rs.length ≤ i + 1) := hide (by have := fw.rs; have := LENM.out; omega)
          have q1 : decide (m1.fi > m1.du) = false := by have := iv.fd; simp; omega
          have q2 : decide (m1.du > m1.nx) = false := by have := iv.dn; simp; omega
          have q3 : decide (m1.du > m1.li) = false := by have := iv.dl; simp; omega
          have q4 : IntKind.i64.wrap (m1.nx - m1.ba) = m1.nx - m1.ba := by have := iv.b1; have := iv.ba; have := iv.nt; have := iv.len; rw [IntKind.wrap_i64]; omega
          have q6 : m1.ba = b := iv.ba
          have q5 : ((m1.rs.length : Int) != m1.nx - b) = false := by have := iv.len; simp; omega
          have q7 : decide (m1.fi < m.fi) = false := by have := fw.fi; simp; omega
          have q8 : decide (m1.du < m.du) = false := by have := fw.du; simp; omega
          have q9 : decide (m1.nx < m.nx) = false := by have := fw.nx; simp; omega
          have qa : decide (m1.li > m.li) = false := by have := fw.li; simp; omega
          rw [q6] at q4
          obtain ⟨nba, nfi, ndu, nnx, nli, nrs, nfa, ncl⟩ := m1
          simp only at q1 q2 q3 q4 q5 q6 q7 q8 q9 qa
          subst q6
          clear iv fw
          obtain ⟨LN, hLN⟩ : ∃ l, Hid (nrs.length = l) := ⟨_, rfl⟩
          rw [hLN.out] at q5
          go_upto_region 16 with (go_at_call 10; refine HP.out.mono ?_; intro e u4 hs; obtain ⟨B4, ao4, ca4, rfl, hO⟩ := hs.yes; simp only [hLN.out] at hO ⊢; obtain ⟨W, hW⟩ : ∃ W, Hid (put8 u4 (wr.heap.size + 1) (.int .i64 nba) (.int .i64 nfi) (.int .i64 ndu) (.int .i64 nnx) (.int .i64 nli) (.slice ao4 LN ca4) (.bool nfa) (.bool ncl) = W) := ⟨_, rfl⟩; obtain ⟨f1, f2, f3, f4, f5⟩ := NX.out u4 W ⟨nba, nfi, ndu, nnx, nli, nrs, nfa, ncl⟩ ao4 LN ca4 B4 hO hW; unfold zc at f2; obtain ⟨s0, s1, s2, s3, s4, s5, s6, s7⟩ := eight f2; have t0 := frz_of (off := 0) f2; have t1 := frz_of (off := 1) f2; have t2 := frz_of (off := 2) f2; have t3 := frz_of (off := 3) f2; have t4 := frz_of (off := 4) f2; have t5 := frz_of (off := 5) f2; have t6 := frz_of (off := 6) f2; have t7 := frz_of (off := 7) f2; replace f1 := hide f1; replace f3 := hide f3; replace f4 := hide f4; replace f5 := hide f5; have hW' := hide hW.out; unfold put8 at hW'; clear f2 hW B4 hO z0 z1 z2 z3 z4 z5 z6 z7 y0 y1 y2 y3 y4 y5 y6 y7)
          rw [hW'.out]
          clear s0 s1 s2 s3 s4 s5 s6 s7 t0 t1 t2 t3 t4 t5 t6 t7 hW' NX
          obtain ⟨s0, s1, s2, s3, s4, s5, s6, s7⟩ := eight f1.out
          obtain ⟨po, pc, ph, prd⟩ := f3.out.bm
          obtain ⟨y0, y1, y2, y3, y4, y5, y6, y7⟩ := eight ph
          have t0 := frz_of (off := 0) ph
          have t1 := frz_of (off := 1) ph
          have t2 := frz_of (off := 2) ph
          have t3 := frz_of (off := 3) ph
          have t4 := frz_of (off := 4) ph
          have t5 := frz_of (off := 5) ph
          have t6 := frz_of (off := 6) ph
          have t7 := frz_of (off := 7) ph
          obtain ⟨V, hV⟩ : ∃ V, Hid (put8 W p5 (.int .i64 nba) (.int .i64 nfi) (.int .i64 ndu) (.int .i64 nnx) (.int .i64 nli) (.slice ao4 LN ca4) (.bool nfa) (.bool ncl) = V) := ⟨_, rfl⟩
          have JV : Hid (∃ m, LJ w V p5 nba m (i + 1)) := hide (by
            have P := put8_but W p5 (.int .i64 nba) (.int .i64 nfi) (.int .i64 ndu) (.int .i64 nnx) (.int .i64 nli) (.slice ao4 LN ca4) (.bool nfa) (.bool ncl)
            have H := put8_heap ph (.int .i64 nba) (.int .i64 nfi) (.int .i64 ndu) (.int .i64 nnx) (.int .i64 nli) (.slice ao4 LN ca4) (.bool nfa) (.bool ncl)
            rw [hV.out] at P H
            have z := HZ3.out
            have z' := hp5.out
            have O2 := f5.out.but P (fun k hk => by omega)
            exact ⟨⟨nba, nfi, ndu, nnx, nli, nrs, nfa, ncl⟩, bm_at (m := ⟨nba, nfi, ndu, nnx, nli, nrs, nfa, ncl⟩) H O2.rd2, f3.out.be.trans (P.below f3.out.be.size (fun k hk => by have := f3.out.g5; omega)), f3.out.g5, IV.out, hm5.out⟩)
          have hV' := hide hV.out
          unfold put8 at hV'
          clear ph prd hV f1 f3 f4 f5
          have ffa : Hid (m.fa = true → nfa = true) := hide FW.out.fa
          have fcl : Hid (m.cl = true → ncl = true) := hide FW.out.cl
          clear FW IV
          obtain ⟨mfa, hmfa⟩ : ∃ x, Hid (m.fa = x) := ⟨_, rfl⟩
          obtain ⟨mcl, hmcl⟩ : ∃ x, Hid (m.cl = x) := ⟨_, rfl⟩
          rw [hmfa.out] at y6 ffa
          rw [hmcl.out] at y7 fcl
          go_upto_region 21 with fail
          all_goals first
            | (exfalso; have a := ffa.out (by assumption); exact absurd a (by assumption))
            | (exfalso; have a := fcl.out (by assumption); rename_i hx; rw [a] at hx; exact absurd hx (by decide))
            | (have a := ffa.out (by assumption); have c := fcl.out (by assumption); subst a; subst c; go_upto_region 8 with fail; rw [hV'.out]; clear s0 s1 s2 s3 s4 s5 s6 s7 t0 t1 t2 t3 t4 t5 t6 t7 y0 y1 y2 y3 y4 y5 y6 y7 hV'; go_wp2_with fail; exact ⟨⟨i + 1, RS.out.1, RS.out.2.1, by omega, JV⟩, RS.out.2.2⟩)
            | (have a := ffa.out (by assumption); subst a; go_upto_region 8 with fail; rw [hV'.out]; clear s0 s1 s2 s3 s4 s5 s6 s7 t0 t1 t2 t3 t4 t5 t6 t7 y0 y1 y2 y3 y4 y5 y6 y7 hV'; go_wp2_with fail; exact ⟨⟨i + 1, RS.out.1, RS.out.2.1, by omega, JV⟩, RS.out.2.2⟩)
            | (have c := fcl.out (by assumption); subst c; go_upto_region 8 with fail; rw [hV'.out]; clear s0 s1 s2 s3 s4 s5 s6 s7 t0 t1 t2 t3 t4 t5 t6 t7 y0 y1 y2 y3 y4 y5 y6 y7 hV'; go_wp2_with fail; exact ⟨⟨i + 1, RS.out.1, RS.out.2.1, by omega, JV⟩, RS.out.2.2⟩)
            | (go_upto_region 8 with fail; rw [hV'.out]; clear s0 s1 s2 s3 s4 s5 s6 s7 t0 t1 t2 t3 t4 t5 t6 t7 y0 y1 y2 y3 y4 y5 y6 y7 hV'; go_wp2_with fail; exact ⟨⟨i + 1, RS.out.1, RS.out.2.1, by omega, JV⟩, RS.out.2.2⟩)
      · have hf' : o.hf = false := by simpa using hf
        replace hf := hf'
        clear hf'
        obtain ⟨R, hR⟩ : ∃ R, Hid (answerS m ⟨o.k, o.n, o.cd⟩ ⟨o.e, o.rn, o.rd⟩ = R) := ⟨_, rfl⟩
        rw [hR.out] at AP OKA
        clear hR HP OKH
        rw [hf] at z6
        cases R with
        | none =>
          go_upto_region 16 with (go_at_call 12; refine AP.out.mono ?_; intro e u4 hs; obtain ⟨B4, ao4, ca4, rfl, hO⟩ := hs.no; obtain ⟨W, hW⟩ : ∃ W, Hid (put8 u4 (wr.heap.size + 1) (.int .i64 zeroS.ba) (.int .i64 zeroS.fi) (.int .i64 zeroS.du) (.int .i64 zeroS.nx) (.int .i64 zeroS.li) (.slice ao4 0 ca4) (.bool zeroS.fa) (.bool zeroS.cl) = W) := ⟨_, rfl⟩; obtain ⟨f1, f2, f3, f4, -⟩ := NX.out u4 W zeroS ao4 0 ca4 B4 hO hW; unfold zc at f2; obtain ⟨s0, s1, s2, s3, s4, s5, s6, s7⟩ := eight f2; have t0 := frz_of (off := 0) f2; have t1 := frz_of (off := 1) f2; have t2 := frz_of (off := 2) f2; have t3 := frz_of (off := 3) f2; have t4 := frz_of (off := 4) f2; have t5 := frz_of (off := 5) f2; have t6 := frz_of (off := 6) f2; have t7 := frz_of (off := 7) f2; replace f1 := hide f1; replace f3 := hide f3; replace f4 := hide f4; have hW' := hide hW.out; unfold put8 zeroS at hW'; simp only at hW'; clear f2 hW B4 hO z0 z1 z2 z3 z4 z5 z6 z7 y0 y1 y2 y3 y4 y5 y6 y7)
          rw [hW'.out]
          clear s0 s1 s2 s3 s4 s5 s6 s7 t0 t1 t2 t3 t4 t5 t6 t7 hW' NX
          obtain ⟨s0, s1, s2, s3, s4, s5, s6, s7⟩ := eight f1.out
          simp only [zeroS] at s0 s1 s2 s3 s4 s6 s7
          have SM := hide (same_rd f4.out (rd2_nil W zeroS rfl))
          rw [s_zz] at SM
          simp only [zeroS] at SM
          go_wp2_with (go_at_call 15; refine SM.out.mono ?_; rintro e u5 ⟨rfl, B5⟩; have J5 : Hid (∃ m, LJ w u5 p5 b m (i + 1)) := hide ⟨m, f3.out.bm.below B5, f3.out.be.trans (B5.mono f3.out.be.size), f3.out.g5, f3.out.inv, f3.out.len⟩; clear B5 SM)
          exact ⟨⟨i + 1, RS.out.1, RS.out.2.1, by omega, J5⟩, RS.out.2.2⟩
        | some m1 =>
          obtain ⟨iv, fw⟩ := OKA.out m1 rfl
          have FW := hide fw
          have IV := hide iv
          have hm5 : Hid (m1.rs.length ≤ i + 1) := hide (by have := fw.rs; have := LENM.out; omega)
          have q1 : decide (m1.fi > m1.du) = false := by have := iv.fd; simp; omega
          have q2 : decide (m1.du > m1.nx) = false := by have := iv.dn; simp; omega
          have q3 : decide (m1.du > m1.li) = false := by have := iv.dl; simp; omega
          have q4 : IntKind.i64.wrap (m1.nx - m1.ba) = m1.nx - m1.ba := by have := iv.b1; have := iv.ba; have := iv.nt; have := iv.len; rw [IntKind.wrap_i64]; omega
          have q6 : m1.ba = b := iv.ba
          have q5 : ((m1.rs.length : Int) != m1.nx - b) = false := by have := iv.len; simp; omega
          have q7 : decide (m1.fi < m.fi) = false := by have := fw.fi; simp; omega
          have q8 : decide (m1.du < m.du) = false := by have := fw.du; simp; omega
          have q9 : decide (m1.nx < m.nx) = false := by have := fw.nx; simp; omega
          have qa : decide (m1.li > m.li) = false := by have := fw.li; simp; omega
          rw [q6] at q4
          obtain ⟨nba, nfi, ndu, nnx, nli, nrs, nfa, ncl⟩ := m1
          simp only at q1 q2 q3 q4 q5 q6 q7 q8 q9 qa
          subst q6
          clear iv fw
          obtain ⟨LN, hLN⟩ : ∃ l, Hid (nrs.length = l) := ⟨_, rfl⟩
          rw [hLN.out] at q5
          go_upto_region 16 with (go_at_call 12; refine AP.out.mono ?_; intro e u4 hs; obtain ⟨B4, ao4, ca4, rfl, hO⟩ := hs.yes; simp only [hLN.out] at hO ⊢; obtain ⟨W, hW⟩ : ∃ W, Hid (put8 u4 (wr.heap.size + 1) (.int .i64 nba) (.int .i64 nfi) (.int .i64 ndu) (.int .i64 nnx) (.int .i64 nli) (.slice ao4 LN ca4) (.bool nfa) (.bool ncl) = W) := ⟨_, rfl⟩; obtain ⟨f1, f2, f3, f4, f5⟩ := NX.out u4 W ⟨nba, nfi, ndu, nnx, nli, nrs, nfa, ncl⟩ ao4 LN ca4 B4 hO hW; unfold zc at f2; obtain ⟨s0, s1, s2, s3, s4, s5, s6, s7⟩ := eight f2; have t0 := frz_of (off := 0) f2; have t1 := frz_of (off := 1) f2; have t2 := frz_of (off := 2) f2; have t3 := frz_of (off := 3) f2; have t4 := frz_of (off := 4) f2; have t5 := frz_of (off := 5) f2; have t6 := frz_of (off := 6) f2; have t7 := frz_of (off := 7) f2; replace f1 := hide f1; replace f3 := hide f3; replace f4 := hide f4; replace f5 := hide f5; have hW' := hide hW.out; unfold put8 at hW'; clear f2 hW B4 hO z0 z1 z2 z3 z4 z5 z6 z7 y0 y1 y2 y3 y4 y5 y6 y7)
          rw [hW'.out]
          clear s0 s1 s2 s3 s4 s5 s6 s7 t0 t1 t2 t3 t4 t5 t6 t7 hW' NX
          obtain ⟨s0, s1, s2, s3, s4, s5, s6, s7⟩ := eight f1.out
          obtain ⟨po, pc, ph, prd⟩ := f3.out.bm
          obtain ⟨y0, y1, y2, y3, y4, y5, y6, y7⟩ := eight ph
          have t0 := frz_of (off := 0) ph
          have t1 := frz_of (off := 1) ph
          have t2 := frz_of (off := 2) ph
          have t3 := frz_of (off := 3) ph
          have t4 := frz_of (off := 4) ph
          have t5 := frz_of (off := 5) ph
          have t6 := frz_of (off := 6) ph
          have t7 := frz_of (off := 7) ph
          obtain ⟨V, hV⟩ : ∃ V, Hid (put8 W p5 (.int .i64 nba) (.int .i64 nfi) (.int .i64 ndu) (.int .i64 nnx) (.int .i64 nli) (.slice ao4 LN ca4) (.bool nfa) (.bool ncl) = V) := ⟨_, rfl⟩
          have JV : Hid (∃ m, LJ w V p5 nba m (i + 1)) := hide (by
            have P := put8_but W p5 (.int .i64 nba) (.int .i64 nfi) (.int .i64 ndu) (.int .i64 nnx) (.int .i64 nli) (.slice ao4 LN ca4) (.bool nfa) (.bool ncl)
            have H := put8_heap ph (.int .i64 nba) (.int .i64 nfi) (.int .i64 ndu) (.int .i64 nnx) (.int .i64 nli) (.slice ao4 LN ca4) (.bool nfa) (.bool ncl)
            rw [hV.out] at P H
            have z := HZ3.out
            have z' := hp5.out
            have O2 := f5.out.but P (fun k hk => by omega)
            exact ⟨⟨nba, nfi, ndu, nnx, nli, nrs, nfa, ncl⟩, bm_at (m := ⟨nba, nfi, ndu, nnx, nli, nrs, nfa, ncl⟩) H O2.rd2, f3.out.be.trans (P.below f3.out.be.size (fun k hk => by have := f3.out.g5; omega)), f3.out.g5, IV.out, hm5.out⟩)
          have hV' := hide hV.out
          unfold put8 at hV'
          clear ph prd hV f1 f3 f4 f5
          have ffa : Hid (m.fa = true → nfa = true) := hide FW.out.fa
          have fcl : Hid (m.cl = true → ncl = true) := hide FW.out.cl
          clear FW IV
          obtain ⟨mfa, hmfa⟩ : ∃ x, Hid (m.fa = x) := ⟨_, rfl⟩
          obtain ⟨mcl, hmcl⟩ : ∃ x, Hid (m.cl = x) := ⟨_, rfl⟩
          rw [hmfa.out] at y6 ffa
          rw [hmcl.out] at y7 fcl
          go_upto_region 21 with fail
          all_goals first
            | (exfalso; have a := ffa.out (by assumption); exact absurd a (by assumption))
            | (exfalso; have a := fcl.out (by assumption); rename_i hx; rw [a] at hx; exact absurd hx (by decide))
            | (have a := ffa.out (by assumption); have c := fcl.out (by assumption); subst a; subst c; go_upto_region 8 with fail; rw [hV'.out]; clear s0 s1 s2 s3 s4 s5 s6 s7 t0 t1 t2 t3 t4 t5 t6 t7 y0 y1 y2 y3 y4 y5 y6 y7 hV'; go_wp2_with fail; exact ⟨⟨i + 1, RS.out.1, RS.out.2.1, by omega, JV⟩, RS.out.2.2⟩)
            | (have a := ffa.out (by assumption); subst a; go_upto_region 8 with fail; rw [hV'.out]; clear s0 s1 s2 s3 s4 s5 s6 s7 t0 t1 t2 t3 t4 t5 t6 t7 y0 y1 y2 y3 y4 y5 y6 y7 hV'; go_wp2_with fail; exact ⟨⟨i + 1, RS.out.1, RS.out.2.1, by omega, JV⟩, RS.out.2.2⟩)
            | (have c := fcl.out (by assumption); subst c; go_upto_region 8 with fail; rw [hV'.out]; clear s0 s1 s2 s3 s4 s5 s6 s7 t0 t1 t2 t3 t4 t5 t6 t7 y0 y1 y2 y3 y4 y5 y6 y7 hV'; go_wp2_with fail; exact ⟨⟨i + 1, RS.out.1, RS.out.2.1, by omega, JV⟩, RS.out.2.2⟩)
            | (go_upto_region 8 with fail; rw [hV'.out]; clear s0 s1 s2 s3 s4 s5 s6 s7 t0 t1 t2 t3 t4 t5 t6 t7 y0 y1 y2 y3 y4 y5 y6 y7 hV'; go_wp2_with fail; exact ⟨⟨i + 1, RS.out.1, RS.out.2.1, by omega, JV⟩, RS.out.2.2⟩)
end Go.Proofs.Ytmehlgebbbkdiaa.Um

