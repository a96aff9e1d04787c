/-
  Package series: the rest of the byte under way; so many numbers read; what Unpack answers.
-/
import Derived.Test.YtojohcckaklmpaaDoorSw
import Derived.Test.YtojohcckaklmpaaDoorSp
import Derived.Test.YtojohcckaklmpaaDoorRvb
namespace Go.Proofs.YtojohcckaklmpaaDoor.Sr
open Go.RowKit
open Go.Proofs.YtojohcckaklmpaaDoor.Rl (fvals Bs uvals)
set_option maxRecDepth 100000
set_option linter.unusedVariables false

theorem low_all : ∀ (u : Fin 256) (k : Fin 8), bits .and .u8 (u.val : Int) (((2 : Int) ^ k.val - 1) % 256) = ((u.val % 2 ^ k.val : Nat) : Int) := by decide +kernel
theorem rest_any (w : World) (base q : Nat) (R : List Nat) (hs : Src w base q R) :
    Calls Tryd.prog 63 #[.pointer (some ⟨q, 0, none⟩)] w fun e w' => e = .returned (.int .u8 ((ofB 0 (R.take (R.length % 8)) : Nat) : Int)) ∧ Qt w w' := by
  obtain ⟨A, u, k, h0, rfl⟩ := hs
  obtain ⟨ao, cap, hq, hA, h1, h2, hu, hk⟩ := h0
  have e1 : ofB 0 ((bitsOf u k ++ unb A).take ((bitsOf u k ++ unb A).length % 8)) = u % 2 ^ k := by
    rw [show (bitsOf u k ++ unb A).length % 8 = k by rw [List.length_append, bitsOf_len, unb_len]; omega, List.take_left' (by simp), ofB_bitsOf]; simp
  rw [e1]
  have c1 : w.cell? ⟨q, 1, none⟩ = some (.int .u8 (u : Int)) := by simp [World.cell?, hq]
  have c2 : w.cell? ⟨q, 2, none⟩ = some (.int .i64 (k : Int)) := by simp [World.cell?, hq]
  have hl := low_all ⟨u, hu⟩ ⟨k, hk⟩
  obtain ⟨x, hx⟩ : ∃ x, Hid (u % 2 ^ k = x) := ⟨_, rfl⟩
  simp only at hl
  rw [hx.out] at hl ⊢
  have k0 : (0 : Int) ≤ (k : Int) := by omega
  have k8 : (k : Int) < 8 := by omega
  clear hq hA h1 e1 h2
  go_enter Tryd.func63, Tryd.ntmps63
  go_wp2_with fail
  go_region
  go_wp2
  go_ret
  exact ⟨rfl, ⟨1, rfl⟩⟩
#print axioms rest_any

theorem Src.other {w w' : World} {base q g : Nat} {R : List Nat} (h : Src w base q R) (hg : w.grownBy w' (some g)) (hne : q ≠ g) (hb : base ≤ g) : Src w' base q R := by
  obtain ⟨A, u, k, ⟨ao, cap, hq, hA, h1, h2, hu, hk⟩, rfl⟩ := h
  exact ⟨A, u, k, ⟨ao, cap, by rw [hg.block q (heap_lt hq) (by simpa using hne)]; exact hq, hA.grown hg hb, h1, h2, hu, hk⟩, rfl⟩
theorem Src.below {w w' : World} {base q : Nat} {R : List Nat} (h : Src w base q R) (hb : Below w.heap.size w w') : Src w' base q R := by
  obtain ⟨A, u, k, ⟨ao, cap, hq, hA, h1, h2, hu, hk⟩, rfl⟩ := h
  refine ⟨A, u, k, ⟨ao, cap, by rw [hb.block q (heap_lt hq)]; exact hq, fun i hi => ?_, h1, h2, hu, hk⟩, rfl⟩
  obtain ⟨b, off, e, g1, g2⟩ := hA i hi
  exact ⟨b, off, e, g1, by rw [hb.cell (p := ⟨b, off + i, none⟩) (lt_of_cell g2)]; exact g2⟩
theorem grown_new {w w' : World} {q g : Nat} (h : w.grownBy w' (some q)) (hg : w.heap.size ≤ g) (o : Nat) (v : Value) : w.grownBy (w'.setCell ⟨g, o, none⟩ v) (some q) :=
  ⟨h.os, h.tape, h.output, by simpa using h.size, fun k hk hne => by rw [heap_setCell_other w' ⟨g, o, none⟩ k v (by simp; omega)]; exact h.block k hk hne⟩
/-- What reading so many numbers answers: r is the numbers, the error's number, what is left. -/
def NumP (base q S n : Nat) (r : List Nat × Int × List Nat) (e : Ending) (w' : World) : Prop :=
  if r.2.1 = 0 then ∃ v, e = .returned (.tuple #[v, .int .i64 0]) ∧ w'.ownsRow S 26 1 v n (fvals r.1) ∧ Src w' base q r.2.2 else e = .returned (.tuple #[.slice none 0 0, .int .i64 r.2.1])
theorem NumP.bad {base q S n : Nat} {r : List Nat × Int × List Nat} {w' : World} {er : Int} (h : r = ([], er, [])) (h0 : er ≠ 0) : NumP base q S n r (.returned (.tuple #[.slice none 0 0, .int .i64 er])) w' := by
  subst h; unfold NumP; rw [if_neg h0]
theorem zeros_set (acc : List Nat) (k x : Nat) : (fvals acc ++ List.replicate (k + 1) (Value.float .f64 0)).set acc.length (.float .f64 x) = fvals (acc ++ [x]) ++ List.replicate k (Value.float .f64 0) := by
  have hl : (fvals acc).length = acc.length := by simp [fvals]
  rw [List.set_append_right _ _ (by omega), hl, Nat.sub_self, List.replicate_succ, List.set_cons_zero]
  simp [fvals]
theorem rdGo_succ (k i was : Nat) (acc l : List Nat) : rdGo (k + 1) i was acc l = if (rdNext i l).2.1 = 0 then rdGo k (i + 1) (was ^^^ (rdNext i l).1) (acc ++ [was ^^^ (rdNext i l).1]) (rdNext i l).2.2 else ([], (rdNext i l).2.1, []) := by rw [rdGo]
theorem rdNext_lt (i : Nat) (l : List Nat) (hl : IsB l) : (rdNext i l).1 < 18446744073709551616 := by
  by_cases h : (rdNext i l).2.1 = 0
  · exact (put_rdNext i l hl h).2
  · unfold rdNext at h ⊢
    by_cases hi : i = 0
    · rw [if_pos hi] at h ⊢
      by_cases h1 : l.length < 64
      · rw [if_pos h1]; decide
      · rw [if_neg h1] at h; exact (h rfl).elim
    · rw [if_neg hi] at h ⊢
      cases l with
      | nil => decide
      | cons b l =>
        revert h
        rw [rdDiff]
        (repeat' split) <;> intro h <;> first | decide | exact (h rfl).elim
set_option maxHeartbeats 4000000 in
theorem numbers_any (w : World) (base q n : Nat) (R : List Nat) (hs : Src w base q R) (hb : base ≤ q) (hq : q < w.heap.size) (hn : n ≤ 4096) :
    Calls Tryd.prog 38 #[.pointer (some ⟨q, 0, none⟩), .int .i64 (n : Int)] w fun e w' => NumP base q w.heap.size n (rdGo n 0 0 [] R) e w' ∧ w.grownBy w' (some q) := by
  have kst : ∀ (w : World) (a : Addr) (x : Nat) (m : Mode), (store a (.float .f64 x) m).run Tryd.prog w = stored Tryd.prog w a (.float .f64 x) m := fun w a x m => run_store Tryd.prog w a _ m rfl
  have k2 := Rl.of_run
  obtain ⟨i0, hi0, hz0, hz1, hz2⟩ := Rl.infoF_parts Rl.Tryd.infoF64
  replace hs : Hid (Src w base q R) := hs
  obtain ⟨T, hT⟩ : ∃ T, Hid (rdGo n 0 0 [] R = T) := ⟨_, rfl⟩
  rw [hT.out]
  go_enter Tryd.func38, Tryd.ntmps38
  go_wp2_with (at_make; refine wpList_make_full w rfl _ _ 24 rfl w.heap.size 26 i0 (.float .f64 0) 1 Tryd.underlying24 hi0 hz0 hz1 .i64 .i64 _ _ n rfl rfl rfl rfl (by rw [hz2]; omega) (by unfold maxLen; omega) (Nat.le_refl _) ?_)
  intro w1 ho1 hg1
  obtain ⟨g, hgv⟩ : ∃ g, Hid (w.heap.size = g) := ⟨_, rfl⟩
  have ho1' : Hid (w1.ownsRow w.heap.size 26 1 (.slice (some ⟨g, 0, none⟩) n n) n (fvals [] ++ List.replicate n (.float .f64 0))) := by
    have := ho1
    rw [← hgv.out]
    show World.ownsRow _ _ _ _ _ _ _
    simpa [toList_madeCells_one, fvals, Value.cells] using this
  have hg1' : Hid (w.grownBy w1 (some q)) := ⟨hg1.os, hg1.tape, hg1.output, hg1.size, fun k hk _ => hg1.block k hk (by simp)⟩
  have hs1 : Hid (Src w1 base q R) := hs.out.below ⟨hg1.os, hg1.tape, hg1.output, hg1.size, fun k hk => hg1.block k hk (by simp)⟩
  clear ho1 hg1
  rw [hgv.out]
  go_wp2_with fail
  go_loopw [7, 15] (fun vn vi wr => ∃ (i was : Nat) (acc L : List Nat), i ≤ n ∧ vi = .int .i64 (i : Int) ∧ vn = .int .u64 (was : Int) ∧ was < 18446744073709551616 ∧ Hid (acc.length = i) ∧ Hid (rdGo (n - i) i was acc L = T) ∧ Hid (Src wr base q L) ∧ Hid (w.grownBy wr (some q)) ∧ Hid (wr.ownsRow w.heap.size 26 1 (.slice (some ⟨g, 0, none⟩) n n) n (fvals acc ++ List.replicate (n - i) (.float .f64 0)))) (fun _ v _ => n - (intOf v).toNat)
  case atStart => exact ⟨0, 0, [], R, by omega, rfl, rfl, by omega, rfl, hT, hs1, hg1', ho1'⟩
  case round =>
    clear hs1 hg1' ho1' hs
    obtain ⟨i, was, acc, L, hi, rfl, rfl, hwas, hacc, hgo, hS, hG, ho⟩ := hrel
    by_cases hin : i = n
    · subst hin
      have hgo0 : Hid (rdGo 0 i was acc L = T) := by have := hgo.out; rwa [Nat.sub_self] at this
      have hrest : Hid (Calls Tryd.prog 63 #[.pointer (some ⟨q, 0, none⟩)] wr fun e w' => e = .returned (.int .u8 ((ofB 0 (L.take (L.length % 8)) : Nat) : Int)) ∧ Qt wr w') := rest_any wr base q L hS.out
      have hT2 : Hid (T = if ofB 0 (L.take (L.length % 8)) = 0 then (acc, 0, L) else ([], 4, [])) := by
        show _ = _
        rw [← hgo0.out, rdGo]
      obtain ⟨x, hx⟩ : ∃ x, Hid (ofB 0 (L.take (L.length % 8)) = x) := ⟨_, rfl⟩
      rw [hx.out] at hrest hT2
      go_wp2_with fail
      refine hrest.out.mono ?_
      rintro e w2 ⟨rfl, hq2⟩
      replace hq2 : Hid (Qt wr w2) := hq2
      have hG2 : Hid (w.grownBy w2 (some q)) := grown_trans hG.out (hq2.out.grown _)
      by_cases hx0 : x = 0
      · have hT3 : Hid (T = (acc, 0, L)) := hT2.out.trans (if_pos hx0)
        subst hx0
        go_wp2
        go_ret2
        refine ⟨?_, hG2.out⟩
        rw [hT3.out]
        refine ⟨_, rfl, ?_, hS.out.below (hq2.out.below _)⟩
        have h3 := ownsRow_below ho.out (hq2.out.below _)
        simpa using h3
      · have hxz : ((x : Int) != 0) = true := by simp; omega
        have hT3 : Hid (T = ([], 4, [])) := hT2.out.trans (if_neg hx0)
        clear hx0
        go_wp2
        go_ret2
        exact ⟨NumP.bad hT3.out (by decide), hG2.out⟩
    · have i1 : (i : Int) < (n : Int) := by omega
      have i2 : (0 : Int) ≤ (i : Int) := by omega
      obtain ⟨k, hk⟩ : ∃ k, n - i = k + 1 := ⟨n - i - 1, by omega⟩
      have hgo1 := hgo.out
      rw [hk, rdGo_succ] at hgo1
      have hnx : Calls Tryd.prog 62 #[.pointer (some ⟨q, 0, none⟩), .bool (decide (i = 0))] wr fun e w' => NextP base q (rdNext i L) e w' ∧ wr.grownBy w' (some q) := next_any wr base q i L hS.out hb
      rw [show decide (i = 0) = ((i : Int) == 0) by (rw [Bool.eq_iff_iff]; simp)] at hnx
      have hlt := rdNext_lt i L hS.out.isB
      have herr := rdNext_err i L
      generalize rdNext i L = r at *
      obtain ⟨x, er, L'⟩ := r
      simp only at hgo1 hlt herr
      replace hnx : Hid (Calls Tryd.prog 62 #[.pointer (some ⟨q, 0, none⟩), .bool ((i : Int) == 0)] wr fun e w' => NextP base q (x, er, L') e w' ∧ wr.grownBy w' (some q)) := hnx
      replace hgo1 : Hid ((if er = 0 then rdGo k (i + 1) (was ^^^ x) (acc ++ [was ^^^ x]) L' else ([], er, [])) = T) := hgo1
      clear hgo
      go_wp2_with fail
      refine hnx.out.mono ?_
      rintro e w2 ⟨⟨rfl, hS2⟩, hG2⟩
      replace hS2 : Hid (er = 0 → Src w2 base q L') := hS2
      have ho2 : w2.ownsRow w.heap.size 26 1 (.slice (some ⟨g, 0, none⟩) n n) n (fvals acc ++ List.replicate (n - i) (.float .f64 0)) := ho.out.kept hG2 (Or.inr (by simp [Value.ownBlock]; have := hgv.out; omega))
      replace hG2 : Hid (w.grownBy w2 (some q)) := grown_trans hG.out hG2
      clear hnx hS hG ho
      by_cases he0 : er = 0
      · subst he0
        have hx := xor_nat was x hwas hlt
        obtain ⟨X, hX⟩ : ∃ X, Hid (was ^^^ x = X) := ⟨_, rfl⟩
        rw [hX.out] at hx
        have hXl : X < 18446744073709551616 := by rw [← hX.out]; exact xor_lt hwas hlt
        replace hgo1 : Hid (rdGo k (i + 1) X (acc ++ [X]) L' = T) := by
          have := hgo1.out
          rw [if_pos rfl, hX.out] at this
          exact this
        have hfr := ho2.frozenAt i
        have hcl : ∃ v0, w2.cell? ⟨g, i, none⟩ = some v0 := by
          have hll : i < (fvals acc ++ List.replicate (n - i) (Value.float .f64 0)).length := by simp [fvals]; have := hacc.out; omega
          exact ⟨_, (ho2.cellAt i (by omega)).trans (List.getElem?_eq_getElem hll)⟩
        obtain ⟨v0, hcl⟩ := hcl
        obtain ⟨ho3, hg3⟩ := ho2.stored i (.float .f64 X)
        have hS3 : Hid (Src (w2.setCell ⟨g, i, none⟩ (.float .f64 X)) base q L') := (hS2.out rfl).other hg3 (by have := hgv.out; omega) (by have := hgv.out; omega)
        have hG3 : Hid (w.grownBy (w2.setCell ⟨g, i, none⟩ (.float .f64 X)) (some q)) := grown_new hG2.out (by have := hgv.out; omega) _ _
        have ho4 : Hid ((w2.setCell ⟨g, i, none⟩ (.float .f64 X)).ownsRow w.heap.size 26 1 (.slice (some ⟨g, 0, none⟩) n n) n (fvals (acc ++ [X]) ++ List.replicate (n - (i + 1)) (.float .f64 0))) := by
          have := ho3
          rw [hk] at this
          have e1 := zeros_set acc k X
          rw [hacc.out] at e1
          rw [e1] at this
          rw [show n - (i + 1) = k by omega]
          exact this
        obtain ⟨w3, hw3⟩ : ∃ w3, w3 = w2.setCell ⟨g, i, none⟩ (.float .f64 X) := ⟨_, rfl⟩
        rw [← hw3] at hS3 hG3 ho4
        clear ho2 ho3 hg3 hS2 hG2 hlt herr hwas
        go_wp2_with fail
        go_roundw
        case rel =>
          rw [← hw3]
          exact ⟨i + 1, X, acc ++ [X], L', by omega, by go_num, rfl, hXl, by show _ = _; rw [List.length_append, hacc.out]; rfl, by show _ = _; rw [show n - (i + 1) = k by omega]; exact hgo1.out, hS3, hG3, ho4⟩
        case measure => simp [intOf]; omega
      · have hT3 : Hid (T = ([], er, [])) := by
          have := hgo1.out
          rw [if_neg he0] at this
          exact this.symm
        have hez : (er != 0) = true := by simpa using he0
        replace he0 : Hid (er ≠ 0) := he0
        clear herr
        go_wp2
        go_ret2
        exact ⟨NumP.bad hT3.out he0.out, hG2.out⟩
#print axioms numbers_any
end Go.Proofs.YtojohcckaklmpaaDoor.Sr
