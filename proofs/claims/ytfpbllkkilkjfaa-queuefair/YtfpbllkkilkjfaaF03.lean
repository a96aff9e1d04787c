/-
  goOut: the first ones go. (gen_QuQ.py)
-/
import Derived.Test.YtfpbllkkilkjfaaF02
import Derived.Test.YtfpbllkkilkjfaaF01
import Derived.Deep.Strs
import Derived.Deep.Slices
import Derived.Deep.CutBlock
namespace Go.Proofs.Ytfpbllkkilkjfaa.Qu
open Go.RowKit
set_option linter.unusedVariables false
set_option maxRecDepth 100000
/-- How many go out. -/
def outC (most bytes : Int) : Nat → Int → List Itm → Nat
  | _, _, [] => 0
  | c, t, x :: r => if (c : Int) < most ∧ (c = 0 ∨ t + x.2 ≤ bytes) then outC most bytes (c + 1) (t + x.2) r + 1 else 0
def lenV : Value → Nat
  | .slice _ n _ => n
  | _ => 0
theorem out_le (most bytes : Int) (H : List Itm) : ∀ c t, outC most bytes c t H ≤ H.length := by
  induction H with
  | nil => intro c t; exact Nat.le_refl _
  | cons x r ih =>
    intro c t
    unfold outC
    split
    · have := ih (c + 1) (t + x.2); simp; omega
    · simp
theorem out_low (most bytes : Int) (H : List Itm) : ∀ c t j, j < outC most bytes c t H → ((c + j : Nat) : Int) < most ∧ (c + j = 0 ∨ t + sumS (H.take j) + (g H j).2 ≤ bytes) := by
  induction H with
  | nil => intro c t j hj; simp [outC] at hj
  | cons x r ih =>
    intro c t j hj
    unfold outC at hj
    split at hj
    · rename_i hr
      match j with
      | 0 => rw [g_zero]; simpa [sumS] using hr
      | j + 1 =>
        rw [g_cons, List.take_succ_cons, sumS_cons]
        have := ih (c + 1) (t + x.2) j (by omega)
        refine ⟨by have := this.1; omega, .inr ?_⟩
        rcases this.2 with e | e
        · omega
        · omega
    · omega
theorem out_at (most bytes : Int) (H : List Itm) : ∀ c t, outC most bytes c t H < H.length → ¬ (((c + outC most bytes c t H : Nat) : Int) < most ∧ (c + outC most bytes c t H = 0 ∨ t + sumS (H.take (outC most bytes c t H)) + (g H (outC most bytes c t H)).2 ≤ bytes)) := by
  induction H with
  | nil => intro c t hj; simp at hj
  | cons x r ih =>
    intro c t hj
    unfold outC at hj ⊢
    split at hj
    · rename_i hr
      rw [if_pos hr, g_cons, List.take_succ_cons, sumS_cons]
      have := ih (c + 1) (t + x.2) (by simpa using hj)
      intro ⟨h1, h2⟩
      refine this ⟨by omega, ?_⟩
      rcases h2 with e | e
      · omega
      · exact .inr (by omega)
    · rename_i hr
      rw [if_neg hr, g_zero]
      simpa [sumS] using hr
def outN (q : Q) (most bytes : Int) : Nat := outC most bytes 0 0 q.H
def outQ (q : Q) (most bytes : Int) : List Itm × Q := (q.H.take (outN q most bytes), ⟨q.cap, q.bytes, q.H.drop (outN q most bytes), q.L⟩)
theorem sum_split (l : List Itm) (i : Nat) : sumS l = sumS (l.take i) + sumS (l.drop i) := by rw [← sumS_app, List.take_append_drop]
theorem out_ok {q : Q} (h : Ok q) (most bytes : Int) : Ok (outQ q most bytes).2 := by
  have hs := sum_split q.H (outN q most bytes)
  have h1 : 0 ≤ sumS (q.H.take (outN q most bytes)) := sumS_nonneg fun x hx => (h.sz x (List.mem_of_mem_take hx)).1
  have := h.us
  have := h.hl
  exact ⟨h.c1, h.c2, h.b1, h.b2, by show ((q.H.drop _).length : Int) ≤ q.cap; rw [List.length_drop]; omega, by show sumS (q.H.drop _) ≤ q.bytes; omega, h.ln, fun x hx => h.sz x (List.mem_of_mem_drop hx), h.szL⟩
theorem wpList_append_runI {w : World} {ops : Array Oper} {rest : List Oper} {o : Oper} {a : Act} {Q : Exit → Act → World → Prop} (hgd : o.guard = none) (s x : Operand) {vs vx v' : Value} {w' : World}
    (ho : o.op = .call { callee := .builtin .append, args := #[s, x], argTypes := #[35, 35] }) (hs : a.eval s = vs) (hx : a.eval x = vx)
    (hr : (Builtin.append_ #[35, 35] o.type #[vs, vx]).run Try.prog w = .ok v' w') (h : wpList Try.prog ops Q rest (a.put o.dst v') w') : wpList Try.prog ops Q (o :: rest) a w := by
  refine wpList_plain hgd fun K hK => ?_
  exact Lib.wp_append_run _ s x 35 35 ho vs vx hs hx v' w' hr (hK _ _ h)
/-- Behind i that went. -/
def Go_ (w wr : World) (b : Nat) (q : Q) (v vl ov : Value) (i : Nat) : Prop :=
  ∃ R f, At wr b ⟨q.cap, q.bytes, sumS q.H, R, f, q.H.drop i, q.L⟩ v vl ∧ Stp b v vl v vl w wr ∧ Itb w.heap.size wr ov (q.H.take i)
theorem Go_.below {w wr w1 : World} {b : Nat} {q : Q} {v vl ov : Value} {i : Nat} (h : Go_ w wr b q v vl ov i) (hb : Below wr.heap.size wr w1) : Go_ w w1 b q v vl ov i := by
  obtain ⟨R, f, h1, h2, h3⟩ := h
  exact ⟨R, f, h1.below hb, h2.trans (Stp.below hb), h3.below hb⟩
theorem Go_.next {w w4 w6 : World} {b : Nat} {q : Q} {v vl ov v6 : Value} {i : Nat} {R : List Itm} {f : Nat} {o : Obj} (hi : i < q.H.length) (hlt : ∀ k, Own b v vl k → k < w.heap.size) (hA : At w4 b ⟨q.cap, q.bytes, sumS q.H, R, f, q.H.drop (i + 1), q.L⟩ v vl) (hS : Stp b v vl v vl w w4) (hI : Itb w.heap.size w4 ov (q.H.take i))
    (h6 : Itb w.heap.size w6 v6 (q.H.take i ++ [g q.H i])) (hg : (w4.alloc o).grownBy w6 ov.ownBlock) : Go_ w w6 b q v vl v6 (i + 1) := by
  have b5 := box_below w4 o
  have gb : But (fun k => ov.ownBlock = some k) (w4.alloc o) w6 := But.of_grownBy hg fun k e => e
  refine ⟨R, f, ?_, ?_, ?_⟩
  · exact (hA.below b5).but gb fun k hk e => by
      have h1 := hlt k hk
      have h2 := (hI.lt k e).1
      omega
  · refine ⟨⟨gb.os.trans ((But.of_below b5 (fun _ => False)).os.trans hS.1.os), gb.tape.trans ((But.of_below b5 (fun _ => False)).tape.trans hS.1.tape), gb.output.trans ((But.of_below b5 (fun _ => False)).output.trans hS.1.output), Nat.le_trans hS.1.size (Nat.le_trans b5.size gb.size), fun k hk hx => ?_⟩, hS.2⟩
    rw [gb.block k (Nat.lt_of_lt_of_le hk (Nat.le_trans hS.1.size b5.size)) (fun e => by have := (hI.lt k e).1; omega), b5.block k (Nat.lt_of_lt_of_le hk hS.1.size)]
    exact hS.1.block k hk hx
  · rw [← list_take hi]
    exact h6
set_option maxHeartbeats 4000000 in
theorem goOut_any (w : World) (b : Nat) (q : Q) (v vl : Value) (most bytes : Int) (hq : QA w b q v vl) (ok : Ok q) :
    Calls Try.prog 30 #[.pointer (some ⟨b, 0, none⟩), .int .i64 most, .int .i64 bytes] w fun e w' => ∃ ov, e = .returned ov ∧ QA w' b (outQ q most bytes).2 v vl ∧ Stp b v vl v vl w w' ∧ Itb w.heap.size w' ov (outQ q most bytes).1 := by
  have hlt := hide hq.lt
  have hbl : Hid (b < w.heap.size) := hq.lt b (.inl rfl)
  have H0 : Hid (Go_ w w b q v vl (.slice none 0 0) 0) := by
    obtain ⟨R, f, h⟩ := hq
    exact ⟨R, f, by simpa using h, Stp.refl _ _ _ _, World.ownsRow_nil _ _ _ _⟩
  have HLo := hide (out_low most bytes q.H 0 0)
  have HAt := hide (out_at most bytes q.H 0 0)
  have hKN := hide (out_le most bytes q.H 0 0)
  have hsum : Hid (∀ i, sumS (q.H.take i) ≤ 16777216 ∧ 0 ≤ sumS (q.H.take i) ∧ sumS q.H - sumS (q.H.take i) = sumS (q.H.drop i)) := by
    intro i
    have h1 := sum_split q.H i
    have h2 : 0 ≤ sumS (q.H.take i) := sumS_nonneg fun x hx => (ok.sz x (List.mem_of_mem_take hx)).1
    have h3 : 0 ≤ sumS (q.H.drop i) := sumS_nonneg fun x hx => (ok.sz x (List.mem_of_mem_drop hx)).1
    have := ok.us
    have := ok.b2
    omega
  have hsw : Hid (∀ i, wrap64 (sumS (q.H.drop i)) = sumS (q.H.drop i)) := by
    intro i
    have h1 := sum_split q.H i
    have h2 : 0 ≤ sumS (q.H.take i) := sumS_nonneg fun x hx => (ok.sz x (List.mem_of_mem_take hx)).1
    have h3 : 0 ≤ sumS (q.H.drop i) := sumS_nonneg fun x hx => (ok.sz x (List.mem_of_mem_drop hx)).1
    have := ok.us
    have := ok.b2
    unfold wrap64
    omega
  have hHl : Hid (q.H.length ≤ 1024) := by have := ok.hl; have := ok.c2; show _ ≤ _; omega
  have hsz := hide ok.sz
  have hb2 := hide ok.b2
  unfold outQ
  simp only
  obtain ⟨K, hK⟩ : ∃ K, Hid (outN q most bytes = K) := ⟨_, rfl⟩
  have eK : outC most bytes 0 0 q.H = K := hK.out
  rw [eK] at HLo HAt hKN
  rw [hK.out]
  clear eK hq ok
  go_enter Try.func30, Try.ntmps30
  go_wp2_with fail
  go_loopw [7, 8] (fun s7 s8 wr => ∃ i : Nat, s8 = .int .i64 (sumS (q.H.take i)) ∧ i ≤ K ∧ Hid (Go_ w wr b q v vl s7 i)) (fun s7 s8 wr => q.H.length - lenV s7)
  case atStart => exact ⟨0, rfl, Nat.zero_le _, H0.out⟩
  case round =>
    obtain ⟨i, rfl, hiK, hst⟩ := hrel
    obtain ⟨R1, f1, A1, S1, I1⟩ := hst.out
    obtain ⟨ai, ci, hidv, p1, p2⟩ := I1.its.form
    clear p1 p2
    have lki : (q.H.take i).length = i := by rw [List.length_take]; exact Nat.min_eq_left (Nat.le_trans hiK hKN.out)
    rw [lki] at hidv
    subst hidv
    obtain ⟨-, -, -, -, c4, -⟩ := A1.cells
    simp only [List.length_drop] at c4
    by_cases hin : i < q.H.length
    · have hc0 : ((q.H.length - i : Nat) : Int) > 0 := by omega
      by_cases hm : (i : Int) < most
      · have hd : q.H.drop i = g q.H i :: q.H.drop (i + 1) := by rw [← g_get hin]; exact List.drop_eq_getElem_cons hin
        have hrg := A1.rg
        simp only [hd] at hrg
        obtain ⟨hf, hx⟩ := hrg.first
        have CF := hide (first_any wr b _ v vl A1 hf)
        simp only [hx] at CF
        unfold iv at CF
        have hxs := hsz.out (g q.H i) (by rw [← g_get hin]; exact List.getElem_mem hin)
        have hk2 := hsum.out i
        have hb2' := hb2.out
        have ew : wrap64 (sumS (q.H.take i) + (g q.H i).2) = sumS (q.H.take i) + (g q.H i).2 := by unfold wrap64; omega
        have fld : ∀ (a c : Int) (u : World), (Instr.field 48 (.agg #[.int .i64 a, .int .i64 c]) 1).run Try.prog u = .ok (.int .i64 c) u := fun a c u => by kernel_rfl
        clear hxs hk2 hb2'
        by_cases hg : i = 0 ∨ sumS (q.H.take i) + (g q.H i).2 ≤ bytes
        · have hlK : i < K := by
            rcases Nat.lt_or_ge i K with h | h
            · exact h
            · exfalso
              obtain rfl : i = K := Nat.le_antisymm hiK h
              exact HAt.out hin ⟨by simpa using hm, by simpa using hg⟩
          have PO : Hid (∀ w2, Below wr.heap.size wr w2 → Calls Try.prog 43 #[.pointer (some ⟨b, 2, none⟩)] w2 fun e w4 => e = .returned (.agg #[.int .i64 (g q.H i).1, .int .i64 (g q.H i).2]) ∧ ∃ R2 f2, Hid (At w4 b ⟨q.cap, q.bytes, sumS q.H, R2, f2, q.H.drop (i + 1), q.L⟩ v vl ∧ Stp b v vl v vl w w4 ∧ Itb w.heap.size w4 (.slice ai i ci) (q.H.take i))) := by
            intro w2 b2
            have A2 := A1.below b2
            refine (pop_any w2 b _ v vl (g q.H i) (q.H.drop (i + 1)) A2 hd).mono ?_
            rintro e w4 ⟨rfl, k1, k2⟩
            refine ⟨rfl, _, _, k1, ⟨(S1.trans (Stp.below b2)).1.trans (k2.mono fun k _ e => .inl e), fun k hk => .inl hk⟩, (I1.below b2).but k2 fun k hk e => ?_⟩
            have h1 := (I1.lt k hk).1
            have h2 := hbl.out
            omega
          have AP : Hid (∀ w4 R2 f2, (At w4 b ⟨q.cap, q.bytes, sumS q.H, R2, f2, q.H.drop (i + 1), q.L⟩ v vl ∧ Stp b v vl v vl w w4 ∧ Itb w.heap.size w4 (.slice ai i ci) (q.H.take i)) → ∃ v6 ai6 n6 ci6 w6, v6 = Value.slice ai6 n6 ci6 ∧ Hid ((Builtin.append_ #[35, 35] 35 #[.slice ai i ci, .slice (some ⟨w4.heap.size, 0, none⟩) 1 1]).run Try.prog (w4.alloc (.cells #[.int .i64 (g q.H i).1, .int .i64 (g q.H i).2] 48)) = .ok v6 w6) ∧ Hid (Go_ w w6 b q v vl v6 (i + 1) ∧ n6 = i + 1)) := by
            rintro w4 R2 f2 ⟨A4, S4, I4⟩
            have B5 := box_below w4 (.cells #[.int .i64 (g q.H i).1, .int .i64 (g q.H i).2] 48)
            obtain ⟨v6, w6, r6, I6, G6, H6⟩ := run_appI (g q.H i) w4.heap.size (I4.below B5) (Ib.new w4 (g q.H i)) (by rw [lki]; exact Nat.le_trans (Nat.le_of_lt hin) (Nat.le_trans hHl.out (by decide))) (Nat.le_trans S4.1.size B5.size) 35
            obtain ⟨ai6, ci6, e6, _, _⟩ := I6.its.form
            have l6 : (q.H.take i ++ [g q.H i]).length = i + 1 := by rw [List.length_append, lki]; rfl
            exact ⟨v6, ai6, _, ci6, w6, e6, r6, Go_.next hin hlt.out A4 S4 I4 I6 G6, l6⟩
          clear A1 S1 I1 hst hrg hx hf HLo HAt hd
          by_cases hi0 : i = 0
          · have hgi' : ¬ (i : Int) > 0 := by omega
            clear hg hi0
            go_upto_region 6 with (go_at_call 42; refine CF.out.mono ?_; rintro e w2 ⟨rfl, b2⟩)
            go_wp2_with (first | (go_at_call 43; refine (PO.out w2 b2).mono ?_; rintro e w4 ⟨rfl, R2, f2, hh⟩; obtain ⟨v6, ai6, n6, ci6, w6, hv6, r6, CN⟩ := AP.out w4 R2 f2 hh.out; subst hv6) | (at_builtin; refine wpList_append_runI rfl (.tmp 37) (.tmp 42) rfl rfl rfl r6.out ?_))
            go_roundw
            case measure => (have h1 := CN.out.2; simp only [lenV]; omega)
            case rel => exact ⟨i + 1, by rw [← list_take hin, sumS_snoc, ew], Nat.succ_le_of_lt hlK, CN.out.1⟩
          · have hgi' : (i : Int) > 0 := by omega
            have hgb : ¬ sumS (q.H.take i) + (g q.H i).2 > bytes := by
              have := hg.resolve_left hi0
              omega
            clear hg hi0
            go_upto_region 6 with (go_at_call 42; refine CF.out.mono ?_; rintro e w2 ⟨rfl, b2⟩)
            go_wp2_with (first | (go_at_call 43; refine (PO.out w2 b2).mono ?_; rintro e w4 ⟨rfl, R2, f2, hh⟩; obtain ⟨v6, ai6, n6, ci6, w6, hv6, r6, CN⟩ := AP.out w4 R2 f2 hh.out; subst hv6) | (at_builtin; refine wpList_append_runI rfl (.tmp 37) (.tmp 42) rfl rfl rfl r6.out ?_))
            go_roundw
            case measure => (have h1 := CN.out.2; simp only [lenV]; omega)
            case rel => exact ⟨i + 1, by rw [← list_take hin, sumS_snoc, ew], Nat.succ_le_of_lt hlK, CN.out.1⟩
        · have hgi : 0 < i := Nat.pos_of_ne_zero fun e => hg (.inl e)
          have hgi' : (i : Int) > 0 := by omega
          have hgb : sumS (q.H.take i) + (g q.H i).2 > bytes := by
            have := fun e => hg (.inr e)
            omega
          obtain rfl : i = K := by
            rcases Nat.lt_or_ge i K with h | h
            · exfalso
              have := (HLo.out i h).2
              exact hg (by simpa using this)
            · exact Nat.le_antisymm hiK h
          have STB : Hid (∀ w2, Below wr.heap.size wr w2 → Go_ w w2 b q v vl (.slice ai i ci) i) := fun w2 b2 => hst.out.below b2
          clear A1 S1 I1 hst hg hrg hx hf HLo HAt hd
          go_upto_region 8 with (go_at_call 42; refine CF.out.mono ?_; rintro e w2 ⟨rfl, b2⟩)
          have ST2 := hide (STB.out w2 b2)
          clear STB CF b2 c4
          obtain ⟨R', f', A5, S5, I5⟩ := ST2.out
          obtain ⟨-, -, -, -, -, c5, -⟩ := A5.cells
          have g5 := A5.frozen 5
          simp only at c5
          have hK2 : sumS (q.H.take i) ≤ 16777216 ∧ 0 ≤ sumS (q.H.take i) ∧ sumS q.H - sumS (q.H.take i) = sumS (q.H.drop i) := hsum.out i
          have ews := hsw.out i
          obtain ⟨-, -, hK3⟩ := hK2
          have FIN : Hid (QA (w2.setCell ⟨b, 5, none⟩ (.int .i64 (sumS (q.H.drop i)))) b ⟨q.cap, q.bytes, q.H.drop i, q.L⟩ v vl ∧ Stp b v vl v vl w (w2.setCell ⟨b, 5, none⟩ (.int .i64 (sumS (q.H.drop i)))) ∧ Itb w.heap.size (w2.setCell ⟨b, 5, none⟩ (.int .i64 (sumS (q.H.drop i)))) (.slice ai i ci) (q.H.take i)) := by
            have bb := But.set (w := w2) b 5 (.int .i64 (sumS (q.H.drop i)))
            refine ⟨⟨R', f', A5.re bb ?_ rfl rfl A5.rg⟩, ⟨S5.1.trans (bb.mono fun k _ e => .inl e), S5.2⟩, I5.but bb fun k hk e => ?_⟩
            · rw [heap_setCell_same w2 b 5 _ _ _ A5.box]; rfl
            · have h1 := (I5.lt k hk).1
              have h2 := hbl.out
              omega
          clear A5 S5 I5
          go_wp2_with fail
          go_ret
          exact ⟨_, rfl, FIN.out⟩
      · obtain rfl : i = K := by
          rcases Nat.lt_or_ge i K with h | h
          · exfalso
            have := (HLo.out i h).1
            exact hm (by simpa using this)
          · exact Nat.le_antisymm hiK h
        clear A1 S1 I1 HLo HAt
        go_upto_region 8 with fail
        clear c4
        obtain ⟨R', f', A5, S5, I5⟩ := hst.out
        obtain ⟨-, -, -, -, -, c5, -⟩ := A5.cells
        have g5 := A5.frozen 5
        simp only at c5
        have hK2 : sumS (q.H.take i) ≤ 16777216 ∧ 0 ≤ sumS (q.H.take i) ∧ sumS q.H - sumS (q.H.take i) = sumS (q.H.drop i) := hsum.out i
        have ews := hsw.out i
        obtain ⟨-, -, hK3⟩ := hK2
        have FIN : Hid (QA (wr.setCell ⟨b, 5, none⟩ (.int .i64 (sumS (q.H.drop i)))) b ⟨q.cap, q.bytes, q.H.drop i, q.L⟩ v vl ∧ Stp b v vl v vl w (wr.setCell ⟨b, 5, none⟩ (.int .i64 (sumS (q.H.drop i)))) ∧ Itb w.heap.size (wr.setCell ⟨b, 5, none⟩ (.int .i64 (sumS (q.H.drop i)))) (.slice ai i ci) (q.H.take i)) := by
          have bb := But.set (w := wr) b 5 (.int .i64 (sumS (q.H.drop i)))
          refine ⟨⟨R', f', A5.re bb ?_ rfl rfl A5.rg⟩, ⟨S5.1.trans (bb.mono fun k _ e => .inl e), S5.2⟩, I5.but bb fun k hk e => ?_⟩
          · rw [heap_setCell_same wr b 5 _ _ _ A5.box]; rfl
          · have h1 := (I5.lt k hk).1
            have h2 := hbl.out
            omega
        clear A5 S5 I5
        go_wp2_with fail
        go_ret
        exact ⟨_, rfl, FIN.out⟩
    · obtain rfl : i = K := Nat.le_antisymm hiK (Nat.le_trans hKN.out (Nat.not_lt.1 hin))
      have hc0 : q.H.length - i = 0 := by omega
      rw [hc0] at c4
      clear A1 S1 I1 HLo HAt hc0
      go_upto_region 8 with fail
      clear c4
      obtain ⟨R', f', A5, S5, I5⟩ := hst.out
      obtain ⟨-, -, -, -, -, c5, -⟩ := A5.cells
      have g5 := A5.frozen 5
      simp only at c5
      have hK2 : sumS (q.H.take i) ≤ 16777216 ∧ 0 ≤ sumS (q.H.take i) ∧ sumS q.H - sumS (q.H.take i) = sumS (q.H.drop i) := hsum.out i
      have ews := hsw.out i
      obtain ⟨-, -, hK3⟩ := hK2
      have FIN : Hid (QA (wr.setCell ⟨b, 5, none⟩ (.int .i64 (sumS (q.H.drop i)))) b ⟨q.cap, q.bytes, q.H.drop i, q.L⟩ v vl ∧ Stp b v vl v vl w (wr.setCell ⟨b, 5, none⟩ (.int .i64 (sumS (q.H.drop i)))) ∧ Itb w.heap.size (wr.setCell ⟨b, 5, none⟩ (.int .i64 (sumS (q.H.drop i)))) (.slice ai i ci) (q.H.take i)) := by
        have bb := But.set (w := wr) b 5 (.int .i64 (sumS (q.H.drop i)))
        refine ⟨⟨R', f', A5.re bb ?_ rfl rfl A5.rg⟩, ⟨S5.1.trans (bb.mono fun k _ e => .inl e), S5.2⟩, I5.but bb fun k hk e => ?_⟩
        · rw [heap_setCell_same wr b 5 _ _ _ A5.box]; rfl
        · have h1 := (I5.lt k hk).1
          have h2 := hbl.out
          omega
      clear A5 S5 I5
      go_wp2_with fail
      go_ret
      exact ⟨_, rfl, FIN.out⟩
end Go.Proofs.Ytfpbllkkilkjfaa.Qu

/-
  Take, Leave, Look, Line.
-/
namespace Go.Proofs.Ytfpbllkkilkjfaa.Qu
open Go.RowKit
open Ix (wp_region_T wpAnyT wpAnyT_take wpAnyT_one wpAnyT_done vac)
set_option linter.unusedVariables false
set_option maxRecDepth 100000
def takeQ (q : Q) (most bytes : Int) : List Itm × List Int × Q := ((outQ q most bytes).1, (comeQ (outQ q most bytes).2).1, (comeQ (outQ q most bytes).2).2)
theorem take_ok {q : Q} (h : Ok q) (most bytes : Int) : Ok (takeQ q most bytes).2.2 := come_ok2 (out_ok h most bytes)
theorem take_any (w : World) (b : Nat) (q : Q) (v vl : Value) (most bytes : Int) (hq : QA w b q v vl) (ok : Ok q) :
    Calls Try.prog 11 #[.pointer (some ⟨b, 0, none⟩), .int .i64 most, .int .i64 bytes] w fun e w' => ∃ ov idv v' vl', e = .returned (.tuple #[ov, idv]) ∧ QA w' b (takeQ q most bytes).2.2 v' vl' ∧ Stp b v vl v' vl' w w' ∧ Itb w.heap.size w' ov (takeQ q most bytes).1 ∧ Ids w.heap.size w' idv (takeQ q most bytes).2.1 := by
  have hlt := hq.lt
  have GO := hide (goOut_any w b q v vl most bytes hq ok)
  have HM : Hid (Calls Try.prog 29 #[.pointer (some ⟨b, 0, none⟩)] w fun e w' => e = .returned (.bool true) ∧ w' = w) := by
    obtain ⟨R, f, h⟩ := hq
    exact made_any w b _ v vl h ok.c1
  have CI : Hid (∀ w2 ov, QA w2 b (outQ q most bytes).2 v vl → Stp b v vl v vl w w2 → Itb w.heap.size w2 ov (outQ q most bytes).1 → Calls Try.prog 31 #[.pointer (some ⟨b, 0, none⟩)] w2 fun e w' => ∃ idv, e = .returned idv ∧ Hid (∃ v' vl', QA w' b (takeQ q most bytes).2.2 v' vl' ∧ Stp b v vl v' vl' w w' ∧ Itb w.heap.size w' ov (takeQ q most bytes).1 ∧ Ids w.heap.size w' idv (takeQ q most bytes).2.1)) := by
    intro w2 ov h1 h2 h3
    refine (comeIn_any w2 b _ v vl h1 (out_ok ok most bytes)).mono ?_
    rintro e w' ⟨idv, v', vl', rfl, k1, k2, k3⟩
    refine ⟨idv, rfl, v', vl', k1, h2.trans k2, h3.but k2.1 fun k hk e => ?_, ?_⟩
    · have := (h3.lt k hk).1
      have := hlt k e
      omega
    · refine ⟨k3.1, ?_⟩
      rcases k3.2 with h | ⟨g, cap, cur, rfl, hg, r⟩
      · exact .inl h
      · exact .inr ⟨g, cap, cur, rfl, Nat.le_trans h2.1.size hg, r⟩
  clear hq ok hlt
  go_enter Try.func11, Try.ntmps11
  go_wp2_with (first | (go_at_call 29; refine HM.out.mono ?_; rintro e w' ⟨rfl, hw⟩; rw [hw]; clear hw w') | (go_at_call 30; refine GO.out.mono ?_; rintro e w2 ⟨ov, rfl, g1, g2, g3⟩; have CC := hide (CI.out w2 ov g1 g2 g3); clear g1 g2 g3) | (go_at_call 31; refine CC.out.mono ?_; rintro e w3 ⟨idv, rfl, hh⟩))
  go_ret2
  obtain ⟨v', vl', k1, k2, k3, k4⟩ := hh.out
  exact ⟨ov, idv, v', vl', rfl, k1, k2, k3, k4⟩
end Go.Proofs.Ytfpbllkkilkjfaa.Qu

/-
  Leave, Look, Line.
-/
namespace Go.Proofs.Ytfpbllkkilkjfaa.Qu
open Go.RowKit
set_option linter.unusedVariables false
set_option maxRecDepth 100000
end Go.Proofs.Ytfpbllkkilkjfaa.Qu

/-
  Look, Line.
-/
namespace Go.Proofs.Ytfpbllkkilkjfaa.Qu
open Go.RowKit
set_option linter.unusedVariables false
set_option maxRecDepth 100000
def lookV (a b c : Int) : Value := .agg #[.int .i64 a, .int .i64 b, .int .i64 c]
/-- A look in memory. -/
def Lx (w : World) (k : Nat) (a b c : Int) : Prop := w.heap[k]? = some (.cells #[.int .i64 a, .int .i64 b, .int .i64 c] 50 (0, 0))
theorem Lx.new (w : World) (a b c : Int) : Lx (w.alloc (.cells #[.int .i64 a, .int .i64 b, .int .i64 c] 50)) w.heap.size a b c := heap_alloc_new _ _
theorem Lx.cells {w : World} {k : Nat} {a b c : Int} (h : Lx w k a b c) : w.cell? ⟨k, 0, none⟩ = some (.int .i64 a) ∧ w.cell? ⟨k, 1, none⟩ = some (.int .i64 b) ∧ w.cell? ⟨k, 2, none⟩ = some (.int .i64 c) := ⟨by rw [cell_of h]; rfl, by rw [cell_of h]; rfl, by rw [cell_of h]; rfl⟩
theorem Lx.frozen {w : World} {k : Nat} {a b c : Int} (h : Lx w k a b c) (j : Nat) : w.frozen? ⟨k, j, none⟩ = false := by
  unfold Lx at h
  simp [World.frozen?, h]
theorem Lx.all {w : World} {k : Nat} {a b c : Int} (h : Lx w k a b c) (x y z : Int) : Lx (((w.setCell ⟨k, 0, none⟩ (.int .i64 x)).setCell ⟨k, 1, none⟩ (.int .i64 y)).setCell ⟨k, 2, none⟩ (.int .i64 z)) k x y z := by
  unfold Lx at *
  have h1 : (w.setCell ⟨k, 0, none⟩ (.int .i64 x)).heap[k]? = some (.cells #[.int .i64 x, .int .i64 b, .int .i64 c] 50 (0, 0)) := by rw [heap_setCell_same w k 0 _ _ _ h]; rfl
  have h2 : ((w.setCell ⟨k, 0, none⟩ (.int .i64 x)).setCell ⟨k, 1, none⟩ (.int .i64 y)).heap[k]? = some (.cells #[.int .i64 x, .int .i64 y, .int .i64 c] 50 (0, 0)) := by rw [heap_setCell_same _ k 1 _ _ _ h1]; rfl
  rw [heap_setCell_same _ k 2 _ _ _ h2]; rfl
theorem lookSize : (Try.prog.info? 50).map (·.size) = some 3 := by kernel_rfl
theorem below_three {w w1 : World} (h : Below w.heap.size w w1) (k : Nat) (hk : w.heap.size ≤ k) (x y z : Value) : Below w.heap.size w (((w1.setCell ⟨k, 0, none⟩ x).setCell ⟨k, 1, none⟩ y).setCell ⟨k, 2, none⟩ z) := below_block h (World.grownBy.trans (grown_two _ _ _ _ _ _) (grown_setCell _ _ _ _)) hk
theorem look_any (w : World) (b : Nat) (q : Q) (v vl : Value) (hq : QA w b q v vl) (ok : Ok q) : Calls Try.prog 20 #[.pointer (some ⟨b, 0, none⟩)] w fun e w' => e = .returned (lookV q.H.length (sumS q.H) q.L.length) ∧ Below w.heap.size w w' := by
  obtain ⟨R, f, h⟩ := hq
  have B1 := box_below w (.cells #[.int .i64 0, .int .i64 0, .int .i64 0] 50)
  have X1 : Lx (w.alloc (.cells #[.int .i64 0, .int .i64 0, .int .i64 0] 50)) w.heap.size 0 0 0 := Lx.new w 0 0 0
  have h1 := h.below B1
  have HM := hide (made_any _ b _ v vl h1 ok.c1)
  obtain ⟨-, -, -, -, c4, c5, c6⟩ := h1.cells
  obtain ⟨s0, s1, s2⟩ := X1.cells
  have y0 := X1.frozen 0
  have y1 := X1.frozen 1
  have y2 := X1.frozen 2
  have FIN := hide (X1.all q.H.length (sumS q.H) q.L.length)
  have FB := hide (fun x y z => below_three B1 w.heap.size (Nat.le_refl _) x y z)
  obtain ⟨va, vc, hvl, _, _⟩ := h.line.form
  obtain ⟨w1, hw1⟩ : ∃ w1, Hid (w.alloc (.cells #[.int .i64 0, .int .i64 0, .int .i64 0] 50) = w1) := ⟨_, rfl⟩
  simp only at c4 c5 c6 hvl
  subst hvl
  rw [hw1.out] at HM c4 c5 c6 s0 s1 s2 y0 y1 y2 FIN FB
  clear h h1 ok B1 X1
  unfold lookV
  obtain ⟨cap, bytes, H, L⟩ := q
  simp only at *
  obtain ⟨hl, hhl⟩ : ∃ hl, Hid ((H.length : Int) = hl) := ⟨_, rfl⟩
  obtain ⟨us, hus⟩ : ∃ us, Hid (sumS H = us) := ⟨_, rfl⟩
  obtain ⟨n, hn⟩ : ∃ n, Hid (L.length = n) := ⟨_, rfl⟩
  rw [hhl.out] at c4 FIN ⊢
  rw [hus.out] at c5 FIN ⊢
  rw [hn.out] at c6 FIN ⊢
  go_enter Try.func20, Try.ntmps20
  go_upto_region 1 with fail
  rw [hw1.out]
  go_upto_region 3 with (go_at_call 29; refine HM.out.mono ?_; rintro e w' ⟨rfl, hw⟩; rw [hw]; clear hw w')
  go_region
  go_wp2_with fail
  try simp only [Exit.inBlock, Exit.then]
  refine bodyPost_ret (v := .agg _) (results_cell_row rfl _ _ w.heap.size 50 _ (0, 0) _ rfl FIN.out Try.underlying50 rfl lookSize) rfl ?_
  exact ⟨rfl, (FB.out _ _ _).drew⟩
theorem clone_any (w : World) (v : Value) (l : List Itm) (h : Its w v l) (hl : l.length ≤ 1000000) : Calls Try.prog 38 #[v] w fun e w' => ∃ vf, e = .returned vf ∧ Itb w.heap.size w' vf l ∧ Below w.heap.size w w' := by
  have he := fun (u : World) (ao : Option Addr) (n c n' c' : Nat) => Lib.run_eql_slice_nil (P := Try.prog) u 35 48 ao n c n' c' Try.underlying35
  rcases h.2 with ⟨rfl, e0⟩ | ⟨gb, cap, cur, rfl, hg, hh, q1, q2, q3, q4⟩
  · have e1 : l = [] := List.length_eq_zero_iff.1 e0
    subst e1
    go_enter Try.func38, Try.ntmps38
    go_wp2_with fail
    go_ret
    exact ⟨_, rfl, World.ownsRow_nil _ _ _ _, Below.refl _ _⟩
  · have HN : Hid (∀ o, ∀ j u, (icells l)[j]? = some u → (w.alloc o).cell? ((⟨gb, 0, none⟩ : Addr).add j) = some u) := fun o j u hu => by rw [addr_add]; exact (h.below (box_below w o)).lie j u hu
    obtain ⟨i0, hi, hz0, hz1, hz2⟩ := info_parts infoIt
    have OWN := hide (World.ownsRow_made (base := w.heap.size) (e := 48) (size := 2) w #[] 0 (Nat.le_refl _) (Nat.zero_le _) rfl)
    have hcl : Hid ((icells l).length = l.length * 2) := icells_len l
    obtain ⟨N, hN⟩ : ∃ N, Hid (l.length = N) := ⟨_, rfl⟩
    rw [hN.out] at hcl hl ⊢
    clear h hg hh q1 q2 q3 q4
    go_enter Try.func38, Try.ntmps38
    go_wp2_with (at_builtin; refine wpList_append_own_at _ rfl (.tmp 5) (.tmp 6) 35 rfl w.heap.size 48 i0 (.agg #[.int .i64 0, .int .i64 0]) 2 16 Try.underlying35 hi hz0 hz1 hz2 rfl (by decide) _ 0 [] rfl OWN.out ⟨gb, 0, none⟩ N cap (icells l) rfl hcl.out (HN.out _) (ione l) (by unfold maxLen; omega) (by omega) (by simp) ?_; intro v' w1 hown' hgrow hnil hat; rw [List.nil_append, Nat.zero_add] at hown'; replace hown' := hide hown'; have hgr := hide hgrow; clear hgrow hnil hat)
    go_ret
    refine ⟨_, rfl, ?_, ?_⟩
    · unfold Itb; rw [hN.out]; exact hown'.out
    · exact Below.grown (box_below w _) hgr.out (by simp) (fun k hk => by cases hk; exact Nat.le_refl _)
theorem line_any (w : World) (b : Nat) (q : Q) (v vl : Value) (hq : QA w b q v vl) (ok : Ok q) : Calls Try.prog 21 #[.pointer (some ⟨b, 0, none⟩)] w fun e w' => ∃ vf, e = .returned vf ∧ Itb w.heap.size w' vf q.L ∧ Below w.heap.size w w' := by
  obtain ⟨R, f, h⟩ := hq
  have HM := hide (made_any _ b _ v vl h ok.c1)
  have CL := hide (clone_any w vl q.L h.line (by have := ok.ln; omega))
  obtain ⟨-, -, -, -, -, -, c6⟩ := h.cells
  clear h ok
  go_enter Try.func21, Try.ntmps21
  go_wp2_with (first | (go_at_call 29; refine HM.out.mono ?_; rintro e w' ⟨rfl, hw⟩; rw [hw]; clear hw w') | (go_at_call 38; refine CL.out.mono ?_; rintro e w2 ⟨vf, rfl, i1, b1⟩; replace i1 := hide i1; replace b1 := hide b1))
  go_ret
  exact ⟨vf, rfl, i1.out, b1.out⟩
end Go.Proofs.Ytfpbllkkilkjfaa.Qu

/-
  A queue of the call's own; begun; the nil queue.
-/
namespace Go.Proofs.Ytfpbllkkilkjfaa.Qu
open Go.RowKit
set_option linter.unusedVariables false
set_option maxRecDepth 100000
/-- At block b lies the queue q, made since w. -/
def Mine (w u : World) (b : Nat) (q : Q) : Prop := ∃ v vl, QA u b q v vl ∧ Ok q ∧ Below w.heap.size w u ∧ ∀ k, Own b v vl k → w.heap.size ≤ k
theorem Mine.below {w u u' : World} {b : Nat} {q : Q} (h : Mine w u b q) (hb : Below u.heap.size u u') : Mine w u' b q := by
  obtain ⟨v, vl, h1, h2, h3, h4⟩ := h
  exact ⟨v, vl, h1.below hb, h2, h3.trans (hb.mono h3.size), h4⟩
theorem Mine.bel {w u : World} {b : Nat} {q : Q} (h : Mine w u b q) : Below w.heap.size w u := by obtain ⟨v, vl, h1, h2, h3, h4⟩ := h; exact h3
theorem Mine.ok {w u : World} {b : Nat} {q : Q} (h : Mine w u b q) : Ok q := by obtain ⟨v, vl, h1, h2, h3, h4⟩ := h; exact h2
theorem Mine.step {w u u' : World} {b : Nat} {q' : Q} {v vl v' vl' : Value} (h3 : Below w.heap.size w u) (h4 : ∀ k, Own b v vl k → w.heap.size ≤ k) (hq : QA u' b q' v' vl') (ok : Ok q') (hs : Stp b v vl v' vl' u u') : Mine w u' b q' :=
  ⟨v', vl', hq, ok, h3.trans (hs.1.below h3.size h4), fun k hk => (hs.2 k hk).elim (h4 k) fun e => Nat.le_trans h3.size e⟩
def q0 (cap bytes : Int) : Q := ⟨cap, bytes, [], []⟩
theorem q0_ok {cap bytes : Int} (h : mayB cap bytes) : Ok (q0 cap bytes) := by
  obtain ⟨h1, h2, h3, h4⟩ := h
  exact ⟨h1, h2, h3, h4, by show ((0 : Nat) : Int) ≤ cap; omega, by show (0 : Int) ≤ bytes; omega, by simp [q0], by simp [q0], by simp [q0]⟩
theorem mine_new (w u : World) (hw : Below w.heap.size w u) (cap bytes : Int) (h : mayB cap bytes) : Calls Try.prog 7 #[.int .i64 cap, .int .i64 bytes] u fun e u' => e = .returned (.tuple #[.pointer (some ⟨u.heap.size, 0, none⟩), .int .i64 0]) ∧ Mine w u' u.heap.size (q0 cap bytes) := by
  refine (new_any u cap bytes h).mono ?_
  rintro e u' ⟨rfl, h1, h2⟩
  refine ⟨rfl, _, _, ⟨[], 0, h1⟩, q0_ok h, hw.trans (h2.mono hw.size), ?_⟩
  rintro k (rfl | e | e)
  · exact hw.size
  · simp [Value.ownBlock] at e
  · simp [Value.ownBlock] at e
theorem Mine.put {w u : World} {b : Nat} {q : Q} (h : Mine w u b q) (id s : Int) : Calls Try.prog 9 #[.pointer (some ⟨b, 0, none⟩), .int .i64 id, .int .i64 s] u fun e u' => e = .returned (.tuple #[.bool (putQ q id s).1, .int .i64 (putQ q id s).2.1]) ∧ Mine w u' b (putQ q id s).2.2 := by
  obtain ⟨v, vl, h1, h2, h3, h4⟩ := h
  refine (put_any u b q v vl id s h1 h2).mono ?_
  rintro e u' ⟨rfl, v', vl', k1, k2⟩
  exact ⟨rfl, Mine.step h3 h4 k1 (put_ok h2 id s) k2⟩
theorem Mine.take {w u : World} {b : Nat} {q : Q} (h : Mine w u b q) (most bytes : Int) : Calls Try.prog 11 #[.pointer (some ⟨b, 0, none⟩), .int .i64 most, .int .i64 bytes] u fun e u' => ∃ ov idv, e = .returned (.tuple #[ov, idv]) ∧ Mine w u' b (takeQ q most bytes).2.2 ∧ Itb u.heap.size u' ov (takeQ q most bytes).1 ∧ Ids u.heap.size u' idv (takeQ q most bytes).2.1 := by
  obtain ⟨v, vl, h1, h2, h3, h4⟩ := h
  refine (take_any u b q v vl most bytes h1 h2).mono ?_
  rintro e u' ⟨ov, idv, v', vl', rfl, k1, k2, k3, k4⟩
  exact ⟨ov, idv, rfl, Mine.step h3 h4 k1 (take_ok h2 most bytes) k2, k3, k4⟩
theorem Mine.look {w u : World} {b : Nat} {q : Q} (h : Mine w u b q) : Calls Try.prog 20 #[.pointer (some ⟨b, 0, none⟩)] u fun e u' => e = .returned (lookV q.H.length (sumS q.H) q.L.length) ∧ Below u.heap.size u u' := by
  obtain ⟨v, vl, h1, h2, h3, h4⟩ := h
  exact look_any u b q v vl h1 h2
theorem Ids.cell {B : Nat} {w : World} {v : Value} {l : List Int} (h : Ids B w v l) {x : Int} {r : List Int} (hl : l = x :: r) : ∃ gb ca, v = .slice (some ⟨gb, 0, none⟩) l.length ca ∧ w.cell? ⟨gb, 0, none⟩ = some (.int .i64 x) := by
  rcases h.2 with ⟨_, e⟩ | ⟨gb, cap, cur, rfl, hg, hh, q1, q2, q3, q4⟩
  · rw [hl] at e; simp at e
  · refine ⟨gb, cap, rfl, ?_⟩
    rw [cell_of hh]
    have h0 : (cur.toList.take (l.length * 1))[0]? = cur.toList[0]? := List.getElem?_take_of_lt (by rw [hl]; simp)
    rw [← Array.getElem?_toList, ← h0, q4, hl]
    rfl
set_option maxHeartbeats 2000000 in
theorem begun_any (w : World) : Calls Try.prog 6 #[] w fun e w' => e = .returned (.bool true) ∧ Below w.heap.size w w' := by
  have NW := hide (mine_new w w (Below.refl _ _) 2 100 (by decide))
  have p1 : Hid (putQ (q0 2 100) 1 60 = (true, 0, ⟨2, 100, [(1, 60)], []⟩)) := rfl
  have p2 : Hid (putQ ⟨2, 100, [(1, 60)], []⟩ 2 50 = (false, 0, ⟨2, 100, [(1, 60)], [(2, 50)]⟩)) := rfl
  have p3 : Hid (putQ ⟨2, 100, [(1, 60)], [(2, 50)]⟩ 2 1 = (false, 7, ⟨2, 100, [(1, 60)], [(2, 50)]⟩)) := rfl
  have p4 : Hid (takeQ ⟨2, 100, [(1, 60)], [(2, 50)]⟩ 5 10 = ([(1, 60)], [2], ⟨2, 100, [(2, 50)], []⟩)) := rfl
  have P1 : Hid (∀ u, Mine w u w.heap.size (q0 2 100) → Calls Try.prog 9 #[.pointer (some ⟨w.heap.size, 0, none⟩), .int .i64 1, .int .i64 60] u fun e u' => e = .returned (.tuple #[.bool true, .int .i64 0]) ∧ Mine w u' w.heap.size ⟨2, 100, [(1, 60)], []⟩) := fun u h => by have := h.put 1 60; rwa [p1.out] at this
  have P2 : Hid (∀ u, Mine w u w.heap.size ⟨2, 100, [(1, 60)], []⟩ → Calls Try.prog 9 #[.pointer (some ⟨w.heap.size, 0, none⟩), .int .i64 2, .int .i64 50] u fun e u' => e = .returned (.tuple #[.bool false, .int .i64 0]) ∧ Mine w u' w.heap.size ⟨2, 100, [(1, 60)], [(2, 50)]⟩) := fun u h => by have := h.put 2 50; rwa [p2.out] at this
  have P3 : Hid (∀ u, Mine w u w.heap.size ⟨2, 100, [(1, 60)], [(2, 50)]⟩ → Calls Try.prog 9 #[.pointer (some ⟨w.heap.size, 0, none⟩), .int .i64 2, .int .i64 1] u fun e u' => e = .returned (.tuple #[.bool false, .int .i64 7]) ∧ Mine w u' w.heap.size ⟨2, 100, [(1, 60)], [(2, 50)]⟩) := fun u h => by have := h.put 2 1; rwa [p3.out] at this
  have P4 : Hid (∀ u, Mine w u w.heap.size ⟨2, 100, [(1, 60)], [(2, 50)]⟩ → Calls Try.prog 11 #[.pointer (some ⟨w.heap.size, 0, none⟩), .int .i64 5, .int .i64 10] u fun e u' => ∃ ob oc ib ic, e = .returned (.tuple #[.slice (some ⟨ob, 0, none⟩) 1 oc, .slice (some ⟨ib, 0, none⟩) 1 ic]) ∧ Mine w u' w.heap.size ⟨2, 100, [(2, 50)], []⟩ ∧ u'.cell? ⟨ob, 0, none⟩ = some (.int .i64 1) ∧ u'.cell? ⟨ib, 0, none⟩ = some (.int .i64 2)) := fun u h => by
    have := h.take 5 10
    rw [p4.out] at this
    refine this.mono ?_
    rintro e u' ⟨ov, idv, rfl, m1, m2, m3⟩
    obtain ⟨ob, oc, cs, rfl, _⟩ := m2.its.at (by simp)
    obtain ⟨r0, -⟩ := m2.its.read 0 (by simp)
    obtain ⟨ib, ic, rfl, r1⟩ := m3.cell rfl
    exact ⟨ob, oc, ib, ic, rfl, m1, r0, r1⟩
  have P5 : Hid (∀ u, Mine w u w.heap.size ⟨2, 100, [(2, 50)], []⟩ → Calls Try.prog 20 #[.pointer (some ⟨w.heap.size, 0, none⟩)] u fun e u' => e = .returned (.agg #[.int .i64 1, .int .i64 50, .int .i64 0]) ∧ Below w.heap.size w u') := fun u h => by
    refine h.look.mono ?_
    rintro e u' ⟨rfl, hb⟩
    exact ⟨rfl, h.bel.trans (hb.mono h.bel.size)⟩
  have hq : ∀ u : World, (binOp .eql 50 (.agg #[.int .i64 1, .int .i64 50, .int .i64 0]) (.agg #[.int .i64 1, .int .i64 50, .int .i64 0])).run Try.prog u = .ok (.bool true) u := fun u => by kernel_rfl
  clear p1 p2 p3 p4
  go_enter Try.func6, Try.ntmps6
  go_upto_region 4 with (go_at_call 7; refine NW.out.mono ?_; rintro e u1 ⟨rfl, m1⟩; replace m1 := hide m1)
  go_upto_region 5 with (go_at_call 9; refine (P1.out u1 m1.out).mono ?_; rintro e u2 ⟨rfl, m2⟩; replace m2 := hide m2)
  go_upto_region 6 with (go_at_call 9; refine (P2.out u2 m2.out).mono ?_; rintro e u3 ⟨rfl, m3⟩; replace m3 := hide m3)
  go_upto_region 7 with (go_at_call 9; refine (P3.out u3 m3.out).mono ?_; rintro e u4 ⟨rfl, m4⟩; replace m4 := hide m4)
  go_upto_region 8 with (go_at_call 11; refine (P4.out u4 m4.out).mono ?_; rintro e u5 ⟨ob, oc, ib, ic, rfl, m5, r0, r1⟩; replace m5 := hide m5)
  go_wp2_with (go_at_call 20; refine (P5.out u5 m5.out).mono ?_; rintro e u6 ⟨rfl, m6⟩; replace m6 := hide m6)
  go_ret
  exact ⟨rfl, m6.out⟩
end Go.Proofs.Ytfpbllkkilkjfaa.Qu

/-
  Who came first goes out first, by data.
-/
namespace Go.Proofs.Ytfpbllkkilkjfaa.Qu
open Go.RowKit
set_option linter.unusedVariables false
/-- The numbers from o on, so many. -/
def rng (o n : Nat) : List Int := (List.range n).map fun j => ((o + j : Nat) : Int)
theorem rng_len (o n : Nat) : (rng o n).length = n := by simp [rng]
theorem rng_snoc (o n : Nat) : rng o (n + 1) = rng o n ++ [((o + n : Nat) : Int)] := by simp [rng, List.range_succ]
theorem rng_drop (o n k : Nat) : (rng o n).drop k = rng (o + k) (n - k) := by
  apply List.ext_getElem
  · simp [rng]
  · intro i h1 h2
    simp [rng]
    omega
theorem rng_take (o n k : Nat) (h : k ≤ n) : (rng o n).take k = rng o k := by
  apply List.ext_getElem
  · simp [rng]; omega
  · intro i h1 h2
    simp [rng]
theorem rng_mem {o n : Nat} {x : Int} (h : x ∈ rng o n) : x < ((o + n : Nat) : Int) := by
  simp [rng] at h
  obtain ⟨a, ha, rfl⟩ := h
  omega
/-- No room for the first of the line. -/
def Wt (q : Q) : Prop := q.L ≠ [] → room q (g q.L 0).2 = false
/-- The numbers in the order in which they came: p put, o gone. -/
structure Fr (q : Q) (p o : Nat) : Prop where
  ids : (q.H ++ q.L).map (·.1) = rng o (p - o)
  le : o ≤ p
  wt : Wt q
theorem Fr.len {q : Q} {p o : Nat} (h : Fr q p o) : q.H.length + q.L.length = p - o := by
  have := congrArg List.length h.ids
  rw [rng_len] at this
  simpa using this
theorem Fr.new (cap bytes : Int) : Fr (q0 cap bytes) 0 0 := ⟨rfl, Nat.le_refl _, fun h => absurd rfl h⟩
theorem Fr.no {q : Q} {p o : Nat} (h : Fr q p o) : (hasI q.H p || hasI q.L p) = false := by
  have hn : (p : Int) ∉ (q.H ++ q.L).map (·.1) := by
    intro hm
    rw [h.ids] at hm
    have := rng_mem hm
    have := h.le
    omega
  rw [List.map_append, List.mem_append] at hn
  unfold hasI
  rw [decide_eq_false (fun c => hn (.inl c)), decide_eq_false (fun c => hn (.inr c))]
  rfl
theorem Fr.put {q : Q} {p o : Nat} (h : Fr q p o) (s : Int) : ((putQ q p s).2.1 = 0 ∧ Fr (putQ q p s).2.2 (p + 1) o) ∨ ((putQ q p s).2.1 ≠ 0 ∧ (putQ q p s).2.2 = q) := by
  have hle := h.le
  unfold putQ
  by_cases h0 : refQ q p s ≠ 0
  · rw [if_pos h0]
    exact .inr ⟨h0, rfl⟩
  · rw [if_neg h0]
    left
    have e1 : rng o (p + 1 - o) = rng o (p - o) ++ [(p : Int)] := by
      rw [show p + 1 - o = (p - o) + 1 by omega, rng_snoc, show o + (p - o) = p by omega]
    split
    · rename_i hr
      refine ⟨rfl, ?_, by omega, fun c => absurd hr.1 c⟩
      have := h.ids
      rw [hr.1] at this ⊢
      simp only [List.append_nil] at this ⊢
      rw [List.map_append, this, e1]
      rfl
    · rename_i hr
      refine ⟨rfl, ?_, by omega, ?_⟩
      · show (q.H ++ (q.L ++ [((p : Int), s)])).map (·.1) = _
        rw [← List.append_assoc, List.map_append, h.ids, e1]
        rfl
      · intro _
        by_cases hL : q.L = []
        · have hf : room q s = false := by
            have := fun c => hr ⟨hL, c⟩
            simpa using this
          show room _ (g (q.L ++ [((p : Int), s)]) 0).2 = false
          rw [hL]
          exact hf
        · have := h.wt hL
          show room _ (g (q.L ++ [((p : Int), s)]) 0).2 = false
          rw [g_app_left (List.length_pos_iff.2 hL)]
          exact this
theorem Fr.take {q : Q} {p o : Nat} (h : Fr q p o) (n b : Int) : Fr (takeQ q n b).2.2 p (o + (takeQ q n b).1.length) ∧ (takeQ q n b).1.map (·.1) = rng o (takeQ q n b).1.length ∧ (takeQ q n b).1.length ≤ p - o ∧ (((takeQ q n b).1.length : Int) ≤ max n 0) ∧ (1 < (takeQ q n b).1.length → sumS (takeQ q n b).1 ≤ b) := by
  have hKn := out_le n b q.H 0 0
  have hlow := out_low n b q.H 0 0
  have hlen := h.len
  have hle := h.le
  unfold takeQ comeQ outQ comeN
  simp only
  obtain ⟨K, hK⟩ : ∃ K, outN q n b = K := ⟨_, rfl⟩
  have hK' : outC n b 0 0 q.H = K := hK
  rw [hK'] at hKn hlow
  rw [hK]
  have hkl := cnt_le q.cap q.bytes q.L (q.H.drop K)
  have hat := cnt_at q.cap q.bytes q.L (q.H.drop K)
  obtain ⟨c, hc⟩ : ∃ c, cnt q.cap q.bytes (q.H.drop K) q.L = c := ⟨_, rfl⟩
  rw [hc] at hkl hat ⊢
  have e0 : (q.H.take K).length = K := by rw [List.length_take]; omega
  rw [e0]
  refine ⟨⟨?_, by omega, ?_⟩, ?_, by omega, ?_, ?_⟩
  · show ((q.H.drop K ++ q.L.take c) ++ q.L.drop c).map (·.1) = rng (o + K) (p - (o + K))
    rw [List.append_assoc, List.take_append_drop, show p - (o + K) = (p - o) - K by omega, ← rng_drop, ← h.ids, ← List.map_drop, List.drop_append_of_le_length hKn]
  · intro hne
    have hcl : c < q.L.length := by
      rcases Nat.lt_or_ge c q.L.length with q' | q'
      · exact q'
      · exact absurd (List.drop_of_length_le q') hne
    have := hat hcl
    have eg : g (q.L.drop c) 0 = g q.L c := by simp [g]
    show room _ (g (q.L.drop c) 0).2 = false
    rw [eg]
    exact this
  · rw [← rng_take o (p - o) K (by omega), ← h.ids, ← List.map_take, List.take_append_of_le_length hKn]
  · rcases Nat.eq_zero_or_pos K with e | e
    · omega
    · have := (hlow (K - 1) (by omega)).1
      omega
  · intro h1
    have := (hlow (K - 1) (by omega)).2
    rcases this with e | e
    · omega
    · have hlt : K - 1 < q.H.length := by omega
      rw [show q.H.take K = q.H.take (K - 1) ++ [g q.H (K - 1)] by rw [list_take hlt]; congr 1; omega, sumS_snoc]
      omega
theorem Fr.held {q : Q} {p o : Nat} (h : Fr q p o) (ok : Ok q) (hL : q.L ≠ []) : q.H ≠ [] ∧ ((q.H.length : Int) < q.cap → ¬ sumS q.H + (g q.L 0).2 ≤ q.bytes) := by
  have hw := h.wt hL
  unfold room at hw
  simp only [decide_eq_false_iff_not] at hw
  have hx : (g q.L 0).2 ≤ q.bytes := by
    have hlt : 0 < q.L.length := List.length_pos_iff.2 hL
    exact (ok.szL _ (by rw [← g_get hlt]; exact List.getElem_mem hlt)).2
  refine ⟨fun e => hw ?_, fun h1 h2 => hw ⟨h1, by omega⟩⟩
  rw [e]
  have := ok.c1
  exact ⟨by show ((0 : Nat) : Int) < q.cap; omega, by show _ ≤ q.bytes - 0; omega⟩
end Go.Proofs.Ytfpbllkkilkjfaa.Qu

/-
  Arguments that are calls of a queue, opened.
-/
namespace Go.Proofs.Ytfpbllkkilkjfaa.Qu
open Go.ChangeShapes Go.WideShapes Go.ChangeAt Go.RowKit Go.Deep
set_option maxRecDepth 100000
theorem cellsQop : Try.prog.cellsOf 32 = 4 := by kernel_rfl
theorem cellsI64 : Try.prog.cellsOf 2 = 1 := by kernel_rfl
theorem cellsInt : Try.prog.cellsOf 3 = 1 := by kernel_rfl
/-- A call. -/
structure Qop where
  k : Int
  id : Int
  n : Int
  b : Int
def QpAt (w : World) (b off : Nat) (o : Qop) : Prop := w.cell? ⟨b, off, none⟩ = some (.int .i64 o.k) ∧ w.cell? ⟨b, off + 1, none⟩ = some (.int .i64 o.id) ∧ w.cell? ⟨b, off + 2, none⟩ = some (.int .i64 o.n) ∧ w.cell? ⟨b, off + 3, none⟩ = some (.int .i64 o.b)
/-- They lie from address ao on. -/
def AtQops (w : World) (ao : Option Addr) (hs : List Qop) : Prop :=
  ∀ i (h : i < hs.length), ∃ b off, ao = some ⟨b, off, none⟩ ∧ QpAt w b (off + i * 4) hs[i]
structure QopOk (o : Qop) : Prop where
  a1 : -9223372036854775808 ≤ o.k
  a2 : o.k ≤ 9223372036854775807
  b1 : -9223372036854775808 ≤ o.id
  b2 : o.id ≤ 9223372036854775807
  c1 : -9223372036854775808 ≤ o.n
  c2 : o.n ≤ 9223372036854775807
  d1 : -9223372036854775808 ≤ o.b
  d2 : o.b ≤ 9223372036854775807
theorem open_qop {H : Type} {enc : TypeId × Value → H} {w : World} {base : Nat} {spare : Nat → Bool} {held : Bool} {fuel : Nat} {cs : List Value} {y : DataW H × List MemPlace}
    (h : DataW.trod enc Try.prog w base spare held fuel 32 cs = some y) :
    ∃ o : Qop, cs = [.int .i64 o.k, .int .i64 o.id, .int .i64 o.n, .int .i64 o.b] ∧ QopOk o := by
  obtain ⟨xs, n, _, rfl, hlen, hxl, hf⟩ := DataW.trod_struct Try.underlying32 h
  rw [cellsQop] at hlen
  obtain ⟨c0, c1, c2, c3, rfl⟩ : ∃ c0 c1 c2 c3, cs = [c0, c1, c2, c3] := by
    match cs, hlen with
    | [c0, c1, c2, c3], _ => exact ⟨c0, c1, c2, c3, rfl⟩
  match xs, hxl with
  | [y0, y1, y2, y3], _ =>
    have h0 := hf 0 _ rfl
    have h1 := hf 1 _ rfl
    have h2 := hf 2 _ rfl
    have h3 := hf 3 _ rfl
    simp [cellsI64, cellsInt] at h0 h1 h2 h3
    obtain ⟨a0, e0, _, w0⟩ := DataW.trod_int Try.underlying3 h0
    obtain ⟨a1, e1, _, w1⟩ := DataW.trod_int Try.underlying2 h1
    obtain ⟨a2, e2, _, w2⟩ := DataW.trod_int Try.underlying3 h2
    obtain ⟨a3, e3, _, w3⟩ := DataW.trod_int Try.underlying3 h3
    simp at e0 e1 e2 e3
    subst e0 e1 e2 e3
    exact ⟨⟨a0, a1, a2, a3⟩, rfl, (i64_bounds w0).1, (i64_bounds w0).2, (i64_bounds w1).1, (i64_bounds w1).2, (i64_bounds w2).1, (i64_bounds w2).2, (i64_bounds w3).1, (i64_bounds w3).2⟩
theorem open_qops {H : Type} {enc : TypeId × Value → H} {w : World} {base : Nat} {spare : Nat → Bool} {held : Bool} {fuel : Nat} {v : Value} {x : DataW H × List MemPlace}
    (h : DataW.trod enc Try.prog w base spare held fuel 22 [v] = some x) :
    ∃ (os : List Qop) (ao : Option Addr) (cap : Nat), v = .slice ao os.length cap ∧ os.length ≤ 9223372036854775807 ∧ AtQops w ao os ∧ (∀ o ∈ os, QopOk o) := by
  rcases open_slice Try.underlying22 h with ⟨hcs, hx⟩ | ⟨a, len, cap, m, n, D, Pl, hcs, hb, hl, hm, hmm, hx, hel⟩
  · simp at hcs
    subst hcs hx
    exact ⟨[], none, 0, rfl, by simp, fun i hi => by simp at hi, fun o ho => by simp at ho⟩
  · simp at hcs
    subst hcs hx
    have hlm : len ≤ m := by split at hmm <;> omega
    have each : ∀ i, ∃ o : Qop, i < m → QopOk o ∧ ∃ b off, a = ⟨b, off, none⟩ ∧ QpAt w b (off + i * 4) o := by
      intro i
      by_cases hi : i < m
      · obtain ⟨cs', h1, h2⟩ := hel i hi
        obtain ⟨o, rfl, hok⟩ := open_qop h2
        rw [cellsQop] at h1
        obtain ⟨b, off, sp⟩ := a
        have hsp : sp = none := by
          obtain ⟨cs0, g1, g2⟩ := hel 0 (by omega)
          obtain ⟨_, rfl, _⟩ := open_qop g2
          rw [cellsQop] at g1
          have g3 := (World.cells?_some g1).2.2 0 (by omega)
          simp [Addr.add] at g3
          exact World.cell?_spot g3
        subst hsp
        have hcell := (World.cells?_some h1).2.2
        rw [addr_add] at hcell
        have k0 := hcell 0 (by omega)
        have k1 := hcell 1 (by omega)
        have k2 := hcell 2 (by omega)
        have k3 := hcell 3 (by omega)
        rw [addr_add] at k0 k1 k2 k3
        exact ⟨o, fun _ => ⟨hok, b, off, rfl, by simpa using k0, by simpa using k1, by simpa using k2, by simpa using k3⟩⟩
      · exact ⟨⟨0, 0, 0, 0⟩, fun h => absurd h hi⟩
    obtain ⟨O, hO⟩ : ∃ O : Nat → Qop, ∀ i, i < m → QopOk (O i) ∧ ∃ b off, a = ⟨b, off, none⟩ ∧ QpAt w b (off + i * 4) (O i) := ⟨fun i => Classical.choose (each i), fun i => Classical.choose_spec (each i)⟩
    refine ⟨(List.range len).map O, some a, cap, by simp, by simp; unfold maxLen at hm; omega, ?_, ?_⟩
    · intro i hi
      simp at hi
      obtain ⟨_, b, off, rfl, q⟩ := hO i (by omega)
      exact ⟨b, off, rfl, by simpa using q⟩
    · intro o ho
      simp only [List.mem_map, List.mem_range] at ho
      obtain ⟨i, hi, rfl⟩ := ho
      exact (hO i (by omega)).1
end Go.Proofs.Ytfpbllkkilkjfaa.Qu

/-
  QueueFair. (gen_QuW.py)
-/
namespace Go.Proofs.Ytfpbllkkilkjfaa.Qu
open Go.RowKit
open Ix (wp_region_T wpAnyT wpAnyT_take wpAnyT_one wpAnyT_done vac)
set_option linter.unusedVariables false
set_option maxRecDepth 100000
theorem QpAt.below {w u : World} {b off : Nat} {o : Qop} (h : QpAt w b off o) (hb : Below w.heap.size w u) : QpAt u b off o := by
  obtain ⟨h1, h2, h3, h4⟩ := h
  exact ⟨(World.cell?_of_block (hb.block b (lt_of_cell h1))).trans h1, (World.cell?_of_block (hb.block b (lt_of_cell h2))).trans h2, (World.cell?_of_block (hb.block b (lt_of_cell h3))).trans h3, (World.cell?_of_block (hb.block b (lt_of_cell h4))).trans h4⟩
theorem wr_add {a b : Nat} (ha : a ≤ 1024) (hb : b ≤ 1024) : wrap64 ((a : Int) + (b : Int)) = (a : Int) + (b : Int) ∧ IntKind.i64.wrap ((a : Int) + (b : Int)) = (a : Int) + (b : Int) := ⟨by unfold wrap64; omega, wrap_i64 (by omega) (by omega)⟩
theorem wr_sub {p o a b : Nat} (h : a + b = p - o) (hle : o ≤ p) (hp : p ≤ 1024) : wrap64 ((p : Int) - (o : Int)) = (a : Int) + (b : Int) ∧ IntKind.i64.wrap ((p : Int) - (o : Int)) = (a : Int) + (b : Int) := ⟨by unfold wrap64; omega, by rw [IntKind.wrap_i64]; omega⟩
theorem wr_two {a b : Int} (h0 : 0 ≤ a) (h1 : a ≤ 16777216) (h2 : 0 ≤ b) (h3 : b ≤ 16777216) : wrap64 (a + b) = a + b ∧ IntKind.i64.wrap (a + b) = a + b := ⟨by unfold wrap64; omega, wrap_i64 (by omega) (by omega)⟩
theorem tk_sum {q : Q} (ok : Ok q) (n b : Int) : ∀ k, 0 ≤ sumS ((takeQ q n b).1.take k) ∧ sumS ((takeQ q n b).1.take k) ≤ 16777216 := by
  intro k
  have e : (takeQ q n b).1.take k = q.H.take (min k (outN q n b)) := by show (q.H.take _).take k = _; rw [List.take_take]
  rw [e]
  have h1 := sum_split q.H (min k (outN q n b))
  have h2 : 0 ≤ sumS (q.H.take (min k (outN q n b))) := sumS_nonneg fun x hx => (ok.sz x (List.mem_of_mem_take hx)).1
  have h3 : 0 ≤ sumS (q.H.drop (min k (outN q n b))) := sumS_nonneg fun x hx => (ok.sz x (List.mem_of_mem_drop hx)).1
  have := ok.us
  have := ok.b2
  omega
theorem wrs {a b : Int} (h : 0 ≤ a ∧ a ≤ 16777216) (k : 0 ≤ a + b ∧ a + b ≤ 16777216) : wrap64 (a + b) = a + b := by unfold wrap64; omega
theorem meas {i : Nat} (h : i < 400) : 400 - (intOf (Value.int .i64 ((i : Int) + 1))).toNat < 400 - (intOf (Value.int .i64 (i : Int))).toNat := by simp only [intOf]; omega
theorem wr_one {i : Nat} (h : i ≤ 1024) : wrap64 ((i : Int) + 1) = (i : Int) + 1 := by unfold wrap64; omega
set_option maxHeartbeats 4000000 in
theorem fair_walk (w : World) (cap bytes : Int) (ao2 : Option Addr) (N cp2 : Nat) (ls : List Int) (hls : Row w (.slice ao2 N cp2) (ls.map (Value.int .i64))) (ao3 : Option Addr) (os : List Qop) (cp3 : Nat) (hos : AtQops w ao3 os) (hol : os.length ≤ 9223372036854775807) :
    Calls Try.prog 4 #[.int .i64 cap, .int .i64 bytes, .slice ao2 N cp2, .slice ao3 os.length cp3] w fun e w' => e = .returned (.bool true) ∧ Below w.heap.size w w' := by
  by_cases hm : mayB cap bytes
  · have hNl : ls.length = N := by obtain ⟨a, c, e, h1, h2, h3, h4⟩ := hls; simp at e; simpa using e.2.1.symm
    have HR : Hid (∀ u, Below w.heap.size w u → ∀ i, i < N → ∃ rb ro, ao2 = some ⟨rb, ro, none⟩ ∧ ∃ s, u.cell? ⟨rb, ro + i, none⟩ = some (.int .i64 s)) := by
      intro u hu i hi
      obtain ⟨a, c, e, h1, h2, h3, h4⟩ := Below.row hu hls
      simp only [Value.slice.injEq] at e
      obtain ⟨rfl, e2, rfl⟩ := e
      obtain ⟨rb, ro, e3, e4⟩ := h4 i (by simpa [hNl] using hi)
      exact ⟨rb, ro, e3, _, by simpa using e4⟩
    obtain ⟨T, hTl⟩ : ∃ T, Hid (os.length = T) := ⟨_, rfl⟩
    have HT : Hid (∀ u, Below w.heap.size w u → ∀ i (hi : i < T), ∃ tb toff, ao3 = some ⟨tb, toff, none⟩ ∧ QpAt u tb (toff + i * 4) (os[i]'(by have := hTl.out; omega))) := by
      intro u hu i hi
      obtain ⟨tb, toff, e, h⟩ := hos i (by rw [hTl.out]; exact hi)
      exact ⟨tb, toff, e, h.below hu⟩
    rw [hTl.out] at hol ⊢
    clear hls hos hNl
    go_enter Try.func4, Try.ntmps4
    go_upto_region 3 with (go_at_call 6; refine (begun_any _).mono ?_; rintro e u1 ⟨rfl, b1⟩; replace b1 := hide b1)
    have NW := hide (mine_new w u1 b1.out cap bytes hm)
    obtain ⟨qb, hqb⟩ : ∃ qb, Hid (u1.heap.size = qb) := ⟨_, rfl⟩
    rw [hqb.out] at NW
    go_upto_region 6 with (go_at_call 7; refine NW.out.mono ?_; rintro e u2 ⟨rfl, m2⟩; replace m2 := hide m2)
    go_wp2_with fail
    go_loopw [11, 12, 13] (fun s11 s12 s13 wr => ∃ (p o i : Nat) (q : Q), s11 = .int .i64 (p : Int) ∧ s12 = .int .i64 (o : Int) ∧ s13 = .int .i64 (i : Int) ∧ p ≤ i ∧ i ≤ 400 ∧ Hid (Mine w wr qb q ∧ Fr q p o ∧ q.cap = cap ∧ q.bytes = bytes)) (fun s11 s12 s13 wr => 400 - (intOf s13).toNat)
    case atStart => exact ⟨0, 0, 0, q0 cap bytes, rfl, rfl, rfl, Nat.le_refl _, by omega, m2.out, Fr.new _ _, rfl, rfl⟩
    case round =>
      obtain ⟨p, o, i, q, rfl, rfl, rfl, hpi, hi4, hst⟩ := hrel
      by_cases hiN : i < N ∧ i < 400
      · have hiN1 : (i : Int) < (N : Int) := by omega
        have hiN2 : (i : Int) < 400 := by omega
        obtain ⟨rb, ro, rfl, s, hc⟩ := HR.out wr hst.out.1.bel i hiN.1
        have PU := hide (hst.out.1.put (p : Int) s)
        have FP := hst.out.2.1.put s
        obtain ⟨P1, P2, q2, hP⟩ : ∃ P1 P2 q2, Hid (putQ q (p : Int) s = (P1, P2, q2)) := ⟨_, _, _, rfl⟩
        have hc2 : Hid (q2.cap = cap ∧ q2.bytes = bytes) := by
          have h1 : (putQ q (p : Int) s).2.2.cap = q.cap ∧ (putQ q (p : Int) s).2.2.bytes = q.bytes := by unfold putQ; split; exact ⟨rfl, rfl⟩; split <;> exact ⟨rfl, rfl⟩
          rw [hP.out] at h1
          exact ⟨h1.1.trans hst.out.2.2.1, h1.2.trans hst.out.2.2.2⟩
        have ewp : wrap64 ((p : Int) + 1) = (p : Int) + 1 := by unfold wrap64; omega
        have ewp2 : Hid ((p : Int) + 1 = ((p + 1 : Nat) : Int)) := by show _ = _; omega
        rw [hP.out] at PU FP
        simp only at PU FP
        have MM : Hid (∀ U0, Mine w U0 qb q2 → (P2 = 0 ∧ Mine w U0 qb q2 ∧ Fr q2 (p + 1) o ∧ q2.cap = cap ∧ q2.bytes = bytes) ∨ (P2 ≠ 0 ∧ Mine w U0 qb q2 ∧ Fr q2 p o ∧ q2.cap = cap ∧ q2.bytes = bytes)) := by
          intro U0 h
          rcases FP with ⟨e, f2⟩ | ⟨h2, f2⟩
          · exact .inl ⟨e, h, f2, hc2.out⟩
          · exact .inr ⟨h2, h, by rw [f2]; exact hst.out.2.1, hc2.out⟩
        clear hst FP
        go_upto_region 11 with (go_at_call 9; refine PU.out.mono ?_; rintro e U0 ⟨rfl, m0⟩; replace m0 := hide m0)
        have M0 := hide (MM.out U0 m0.out)
        clear MM m0 PU hc hP hc2
        go_cut [55] from 54 to 54 (fun v wx => ∃ t : Bool, v = .bool t ∧ Hid (t = (P2 == 0)) ∧ Hid (wx = U0))
        case first =>
          go_wp2_with fail
          go_meet
          case rel => exact ⟨_, rfl, rfl, rfl⟩
        case rest =>
          obtain ⟨t, rfl, ht, hwx⟩ := hcut
          have hwx' := hwx.out
          clear hwx
          subst hwx'
          refine (‹∀ (a : Act) (w : World), Code.wp Try.prog _ _ a w → _›) _ _ ?_
          go_cut [11] from 56 to 57 (fun v wx => ∃ p1 : Nat, v = .int .i64 (p1 : Int) ∧ p1 ≤ i + 1 ∧ Hid (Mine w wx qb q2 ∧ Fr q2 p1 o ∧ q2.cap = cap ∧ q2.bytes = bytes))
          case first =>
            rcases M0.out with ⟨h2, h3⟩ | ⟨h2, h3⟩
            · have t1 : t = true := by rw [ht.out, h2]; rfl
              subst t1
              replace h3 := hide h3
              clear M0
              go_wp2_with fail
              go_meet
              case rel => exact ⟨p + 1, ewp2.out ▸ rfl, Nat.succ_le_succ hpi, h3.out⟩
            · have t1 : t = false := by rw [ht.out]; simpa using h2
              subst t1
              replace h3 := hide h3
              clear M0
              go_wp2_with fail
              go_meet
              case rel => exact ⟨p, rfl, Nat.le_succ_of_le hpi, h3.out⟩
          case rest =>
            clear M0 ht hpi ewp ewp2
            obtain ⟨p1, rfl, hpi1, MA⟩ := hcut
            refine (‹∀ (a : Act) (w : World), Code.wp Try.prog _ _ a w → _›) _ _ ?_
            go_upto_region 13 with fail
            go_cut [61] from 58 to 60 (fun v wx => ∃ t : Bool, v = .bool t ∧ Hid (t = decide (i < T)) ∧ Hid (wx = wc))
            case first =>
              by_cases hT : i < T
              · have hT' : (i : Int) < (T : Int) := Int.ofNat_lt.2 hT
                go_wp2_with fail
                go_meet
                case rel => exact ⟨true, by first | rfl | simp [hT], (decide_eq_true hT).symm, rfl⟩
              · have hT' : ¬ (i : Int) < (T : Int) := fun c => hT (Int.ofNat_lt.1 c)
                go_wp2_with fail
                go_meet
                case rel => exact ⟨false, by first | rfl | simp [hT] | (simp; omega), (decide_eq_false hT).symm, rfl⟩
            case rest =>
              obtain ⟨t, rfl, ht, hwx⟩ := hcut
              have hwx' := hwx.out
              clear hwx
              subst hwx'
              refine (‹∀ (a : Act) (w : World), Code.wp Try.prog _ _ a w → _›) _ _ ?_
              go_cut [12, 16, 17, 18, 19] from 62 to 121 (fun v v16 v17 v18 v19 wx => ∃ (o1 : Nat) (q4 : Q), v = .int .i64 (o1 : Int) ∧ Hid (Mine w wx qb q4 ∧ Fr q4 p1 o1 ∧ q4.cap = cap ∧ q4.bytes = bytes))
              case first =>
                by_cases hT : i < T
                · have t1 : t = true := by rw [ht.out]; exact decide_eq_true hT
                  subst t1
                  clear ht
                  obtain ⟨tb, toff, hta, -, -, tc2, tc3⟩ := HT.out wc MA.out.1.bel i hT
                  subst hta
                  go_upto_region 14 with fail
                  refine wp_region_T (fun x => x.cell? ⟨tb, toff + i * 4 + 2, none⟩ = some (.int .i64 (os[i]'(by have := hTl.out; omega)).n) ∧ x.cell? ⟨tb, toff + i * 4 + 3, none⟩ = some (.int .i64 (os[i]'(by have := hTl.out; omega)).b)) 16 (by kernel_rfl) ?_
                  have KM : Hid (Mine w wc.drew qb q2) := MA.out.1.below (Below.refl _ _).drew
                  generalize hon : (os[i]'(by have := hTl.out; omega)).n = tn at *
                  generalize hob : (os[i]'(by have := hTl.out; omega)).b = tby at *
                  have KP : Hid (wc.drew.cell? ⟨tb, toff + i * 4 + 2, none⟩ = some (.int .i64 tn) ∧ wc.drew.cell? ⟨tb, toff + i * 4 + 3, none⟩ = some (.int .i64 tby)) := ⟨tc2, tc3⟩
                  generalize wc.drew = x1 at *
                  refine wpAnyT_take (i := 0) (oi := { dst := some 63, op := Op.move (Operand.tmp 9), type := 24, pos := "law.go:130", after := #[], guard := none }) (v := .pointer (some ⟨qb, 0, none⟩)) [16] rfl (by kernel_rfl) (by kernel_rfl) (by kernel_rfl) (by kernel_rfl) (fun _ _ _ h => h) (Or.inl ⟨by rfl, ?_⟩) KP.out ?_
                  · intro wq hSw
                    obtain ⟨y1, y2⟩ := hSw
                    go_simp
                  (try simp only [Act.put, List.setIfInBounds_toArray, List.set_cons_zero, List.set_cons_succ])
                  refine wpAnyT_take (i := 1) (oi := { dst := some 64, op := Op.move (Operand.tmp 3), type := 22, pos := "law.go:130", after := #[], guard := none }) (v := .slice (some ⟨tb, toff, none⟩) T cp3) [16] rfl (by kernel_rfl) (by kernel_rfl) (by kernel_rfl) (by kernel_rfl) (fun _ _ _ h => h) (Or.inl ⟨by rfl, ?_⟩) KP.out ?_
                  · intro wq hSw
                    obtain ⟨y1, y2⟩ := hSw
                    go_simp
                  (try simp only [Act.put, List.setIfInBounds_toArray, List.set_cons_zero, List.set_cons_succ])
                  refine wpAnyT_take (i := 2) (oi := { dst := some 65, op := Op.move (Operand.tmp 13), type := 3, pos := "law.go:130", after := #[], guard := none }) (v := .int .i64 (i : Int)) [16] rfl (by kernel_rfl) (by kernel_rfl) (by kernel_rfl) (by kernel_rfl) (fun _ _ _ h => h) (Or.inl ⟨by rfl, ?_⟩) KP.out ?_
                  · intro wq hSw
                    obtain ⟨y1, y2⟩ := hSw
                    go_simp
                  (try simp only [Act.put, List.setIfInBounds_toArray, List.set_cons_zero, List.set_cons_succ])
                  refine wpAnyT_take (i := 3) (oi := { dst := some 66, op := Op.indexAddr 22 (Operand.tmp 64) (Operand.tmp 65), type := 0, pos := "law.go:130", after := #[{ on := 1, ground := Ground.data }, { on := 2, ground := Ground.data }], guard := none }) (v := .pointer (some ⟨tb, toff + i * 4, none⟩)) [16] rfl (by kernel_rfl) (by kernel_rfl) (by kernel_rfl) (by kernel_rfl) (fun _ _ _ h => h) (Or.inl ⟨by rfl, ?_⟩) KP.out ?_
                  · intro wq hSw
                    obtain ⟨y1, y2⟩ := hSw
                    go_simp
                  (try simp only [Act.put, List.setIfInBounds_toArray, List.set_cons_zero, List.set_cons_succ])
                  refine wpAnyT_take (i := 4) (oi := { dst := some 67, op := Op.fieldAddr 32 (Operand.tmp 66) 2, type := 0, pos := "law.go:130", after := #[{ on := 3, ground := Ground.data }], guard := none }) (v := .pointer (some ⟨tb, toff + i * 4 + 2, none⟩)) [16] rfl (by kernel_rfl) (by kernel_rfl) (by kernel_rfl) (by kernel_rfl) (fun _ _ _ h => h) (Or.inl ⟨by rfl, ?_⟩) KP.out ?_
                  · intro wq hSw
                    obtain ⟨y1, y2⟩ := hSw
                    go_simp
                  (try simp only [Act.put, List.setIfInBounds_toArray, List.set_cons_zero, List.set_cons_succ])
                  refine wpAnyT_take (i := 5) (oi := { dst := some 68, op := Op.load 3 (Operand.tmp 67), type := 3, pos := "law.go:130", after := #[{ on := 4, ground := Ground.data }], guard := none }) (v := .int .i64 tn) [16] rfl (by kernel_rfl) (by kernel_rfl) (by kernel_rfl) (by kernel_rfl) (fun _ _ _ h => h) (Or.inl ⟨by rfl, ?_⟩) KP.out ?_
                  · intro wq hSw
                    obtain ⟨y1, y2⟩ := hSw
                    go_simp
                  (try simp only [Act.put, List.setIfInBounds_toArray, List.set_cons_zero, List.set_cons_succ])
                  refine wpAnyT_take (i := 6) (oi := { dst := some 69, op := Op.move (Operand.tmp 3), type := 22, pos := "law.go:130", after := #[], guard := none }) (v := .slice (some ⟨tb, toff, none⟩) T cp3) [16] rfl (by kernel_rfl) (by kernel_rfl) (by kernel_rfl) (by kernel_rfl) (fun _ _ _ h => h) (Or.inl ⟨by rfl, ?_⟩) KP.out ?_
                  · intro wq hSw
                    obtain ⟨y1, y2⟩ := hSw
                    go_simp
                  (try simp only [Act.put, List.setIfInBounds_toArray, List.set_cons_zero, List.set_cons_succ])
                  refine wpAnyT_take (i := 7) (oi := { dst := some 70, op := Op.move (Operand.tmp 13), type := 3, pos := "law.go:130", after := #[], guard := none }) (v := .int .i64 (i : Int)) [16] rfl (by kernel_rfl) (by kernel_rfl) (by kernel_rfl) (by kernel_rfl) (fun _ _ _ h => h) (Or.inl ⟨by rfl, ?_⟩) KP.out ?_
                  · intro wq hSw
                    obtain ⟨y1, y2⟩ := hSw
                    go_simp
                  (try simp only [Act.put, List.setIfInBounds_toArray, List.set_cons_zero, List.set_cons_succ])
                  refine wpAnyT_take (i := 8) (oi := { dst := some 71, op := Op.indexAddr 22 (Operand.tmp 69) (Operand.tmp 70), type := 0, pos := "law.go:130", after := #[{ on := 6, ground := Ground.data }, { on := 7, ground := Ground.data }], guard := none }) (v := .pointer (some ⟨tb, toff + i * 4, none⟩)) [16] rfl (by kernel_rfl) (by kernel_rfl) (by kernel_rfl) (by kernel_rfl) (fun _ _ _ h => h) (Or.inl ⟨by rfl, ?_⟩) KP.out ?_
                  · intro wq hSw
                    obtain ⟨y1, y2⟩ := hSw
                    go_simp
                  (try simp only [Act.put, List.setIfInBounds_toArray, List.set_cons_zero, List.set_cons_succ])
                  refine wpAnyT_take (i := 9) (oi := { dst := some 72, op := Op.fieldAddr 32 (Operand.tmp 71) 3, type := 0, pos := "law.go:130", after := #[{ on := 8, ground := Ground.data }], guard := none }) (v := .pointer (some ⟨tb, toff + i * 4 + 3, none⟩)) [16] rfl (by kernel_rfl) (by kernel_rfl) (by kernel_rfl) (by kernel_rfl) (fun _ _ _ h => h) (Or.inl ⟨by rfl, ?_⟩) KP.out ?_
                  · intro wq hSw
                    obtain ⟨y1, y2⟩ := hSw
                    go_simp
                  (try simp only [Act.put, List.setIfInBounds_toArray, List.set_cons_zero, List.set_cons_succ])
                  refine wpAnyT_take (i := 10) (oi := { dst := some 73, op := Op.load 3 (Operand.tmp 72), type := 3, pos := "law.go:130", after := #[{ on := 9, ground := Ground.data }], guard := none }) (v := .int .i64 tby) [16] rfl (by kernel_rfl) (by kernel_rfl) (by kernel_rfl) (by kernel_rfl) (fun _ _ _ h => h) (Or.inl ⟨by rfl, ?_⟩) KP.out ?_
                  · intro wq hSw
                    obtain ⟨y1, y2⟩ := hSw
                    go_simp
                  (try simp only [Act.put, List.setIfInBounds_toArray, List.set_cons_zero, List.set_cons_succ])
                  have K4 : Hid (∀ U4, Mine w U4 qb (takeQ q2 tn tby).2.2 → U4.cell? ⟨tb, toff + i * 4 + 2, none⟩ = some (.int .i64 tn) ∧ U4.cell? ⟨tb, toff + i * 4 + 3, none⟩ = some (.int .i64 tby)) := by
                    intro U4 m4
                    obtain ⟨tb', toff', e, -, -, d2, d3⟩ := HT.out U4 m4.bel i hT
                    simp only [Option.some.injEq, Addr.mk.injEq, and_true] at e
                    obtain ⟨rfl, rfl⟩ := e
                    rw [hon] at d2
                    rw [hob] at d3
                    exact ⟨d2, d3⟩
                  refine wpAnyT_one (i := 11) (o := { dst := some 74, op := Op.call { callee := Callee.value (Operand.func 11), args := #[Operand.tmp 63, Operand.tmp 68, Operand.tmp 73], argTypes := #[24, 3, 3] }, type := 37, pos := "law.go:130", after := #[{ on := 0, ground := Ground.data }, { on := 5, ground := Ground.data }, { on := 10, ground := Ground.data }], guard := none }) (by kernel_rfl) rfl (fun K hK => ?_)
                  go_simp
                  go_at_call 11
                  refine (KM.out.take tn tby).mono ?_
                  rintro e U4 ⟨ov, idv, rfl, g1, g2, g3⟩
                  (try go_simp)
                  refine hK.out _ _ (fun _ => K4.out U4 g1) ?_
                  clear hK K
                  (try simp only [Act.put, List.setIfInBounds_toArray, List.set_cons_zero, List.set_cons_succ])
                  have K5 := hide (K4.out U4 g1)
                  clear KP K4
                  refine wpAnyT_one (i := 12) (o := { dst := some 62, op := Op.move (Operand.tmp 74), type := 37, pos := "law.go:130", after := #[{ on := 11, ground := Ground.data }], guard := none }) (by kernel_rfl) rfl (fun K hK => ?_)
                  go_simp
                  refine hK.out _ _ (fun _ => K5.out) ?_
                  clear hK K
                  (try simp only [Act.put, List.setIfInBounds_toArray, List.set_cons_zero, List.set_cons_succ])
                  refine wpAnyT_take (i := 13) (oi := { dst := some 75, op := Op.extract (Operand.tmp 62) 0, type := 35, pos := "law.go:130", after := #[{ on := 12, ground := Ground.data }], guard := none }) (v := ov) [16] rfl (by kernel_rfl) (by kernel_rfl) (by kernel_rfl) (by kernel_rfl) (fun _ _ _ h => h) (Or.inl ⟨by rfl, ?_⟩) K5.out ?_
                  · intro wq hSw
                    obtain ⟨y1, y2⟩ := hSw
                    go_simp
                  (try simp only [Act.put, List.setIfInBounds_toArray, List.set_cons_zero, List.set_cons_succ])
                  refine wpAnyT_take (i := 14) (oi := { dst := some 76, op := Op.extract (Operand.tmp 62) 1, type := 36, pos := "law.go:130", after := #[{ on := 12, ground := Ground.data }, { on := 15, ground := Ground.gcOnly Departure.lateStores }], guard := none }) (v := idv) [16] rfl (by kernel_rfl) (by kernel_rfl) (by kernel_rfl) (by kernel_rfl) (fun _ _ _ h => h) (Or.inl ⟨by rfl, ?_⟩) K5.out ?_
                  · intro wq hSw
                    obtain ⟨y1, y2⟩ := hSw
                    go_simp
                  (try simp only [Act.put, List.setIfInBounds_toArray, List.set_cons_zero, List.set_cons_succ])
                  refine wpAnyT_take (i := 15) (oi := { dst := some 16, op := Op.assign (Operand.tmp 75), type := 35, pos := "law.go:130", after := #[{ on := 13, ground := Ground.data }, { on := 11, ground := Ground.chain }, { on := 0, ground := Ground.phase }, { on := 1, ground := Ground.phase }, { on := 2, ground := Ground.phase }, { on := 3, ground := Ground.phase }, { on := 4, ground := Ground.phase }, { on := 5, ground := Ground.phase }, { on := 6, ground := Ground.phase }, { on := 7, ground := Ground.phase }, { on := 8, ground := Ground.phase }, { on := 9, ground := Ground.phase }, { on := 10, ground := Ground.phase }, { on := 11, ground := Ground.phase }, { on := 12, ground := Ground.phase }, { on := 13, ground := Ground.phase }, { on := 14, ground := Ground.textOnly Departure.lateStores }], guard := none }) (v := ov) [16] rfl (by kernel_rfl) (by kernel_rfl) (by kernel_rfl) (by kernel_rfl) (fun _ _ _ h => h) (Or.inl ⟨by rfl, ?_⟩) K5.out ?_
                  · intro wq hSw
                    obtain ⟨y1, y2⟩ := hSw
                    go_simp
                  (try simp only [Act.put, List.setIfInBounds_toArray, List.set_cons_zero, List.set_cons_succ])
                  refine wpAnyT_one (i := 16) (o := { dst := some 17, op := Op.assign (Operand.tmp 76), type := 36, pos := "law.go:130", after := #[{ on := 14, ground := Ground.data }, { on := 15, ground := Ground.chain }, { on := 0, ground := Ground.phase }, { on := 1, ground := Ground.phase }, { on := 2, ground := Ground.phase }, { on := 3, ground := Ground.phase }, { on := 4, ground := Ground.phase }, { on := 5, ground := Ground.phase }, { on := 6, ground := Ground.phase }, { on := 7, ground := Ground.phase }, { on := 8, ground := Ground.phase }, { on := 9, ground := Ground.phase }, { on := 10, ground := Ground.phase }, { on := 11, ground := Ground.phase }, { on := 12, ground := Ground.phase }, { on := 13, ground := Ground.phase }, { on := 14, ground := Ground.phase }, { on := 15, ground := Ground.phase }], guard := none }) (by kernel_rfl) rfl (fun K hK => ?_)
                  go_simp
                  refine hK.out _ _ (vac (by kernel_rfl)) ?_
                  clear hK K
                  (try simp only [Act.put, List.setIfInBounds_toArray, List.set_cons_zero, List.set_cons_succ])
                  refine wpAnyT_done (by kernel_rfl) ?_ _
                  obtain ⟨ft1, ft2, ft3, ft4, ft5⟩ := MA.out.2.1.take tn tby
                  have hcap4 : Hid ((takeQ q2 tn tby).2.2.cap = cap ∧ (takeQ q2 tn tby).2.2.bytes = bytes) := ⟨MA.out.2.2.1, MA.out.2.2.2⟩
                  have hsm := hide (tk_sum MA.out.1.ok tn tby)
                  obtain ⟨q4, hq4⟩ : ∃ q4, Hid ((takeQ q2 tn tby).2.2 = q4) := ⟨_, rfl⟩
                  obtain ⟨TL, hTL⟩ : ∃ TL, Hid ((takeQ q2 tn tby).1 = TL) := ⟨_, rfl⟩
                  rw [hq4.out] at g1 ft1 hcap4
                  rw [hTL.out] at g2 ft1 ft2 ft3 ft4 ft5 hsm
                  obtain ⟨n4, hn4⟩ : ∃ n4, Hid (TL.length = n4) := ⟨_, rfl⟩
                  rw [hn4.out] at ft1 ft2 ft3 ft4 ft5
                  have hop := MA.out.2.1.le
                  have MC : Hid (Mine w U4 qb q4 ∧ Fr q4 p1 (o + n4) ∧ q4.cap = cap ∧ q4.bytes = bytes) := ⟨g1, ft1, hcap4.out⟩
                  have hid4 : Hid (∀ k, k < n4 → (g TL k).1 = ((o + k : Nat) : Int)) := by
                    intro k hk
                    have e1 : (TL.map (·.1))[k]? = (rng o n4)[k]? := by rw [ft2]
                    have hkl : k < TL.length := by rw [hn4.out]; exact hk
                    rw [List.getElem?_map, List.getElem?_eq_getElem hkl, g_get hkl] at e1
                    simp [rng, hk] at e1
                    simpa using e1
                  obtain ⟨oa, oc, hov, z1, z2⟩ := g2.its.form
                  rw [hn4.out] at hov
                  have n4s : n4 ≤ 1024 := Nat.le_trans ft3 (Nat.le_trans (Nat.sub_le _ _) (Nat.le_trans hpi1 (Nat.le_trans (Nat.succ_le_of_lt hiN.2) (by decide))))
                  have os1 : o + n4 ≤ 1024 := Nat.le_trans (by clear z1 z2; omega) (Nat.le_trans hpi1 (Nat.le_trans (Nat.succ_le_of_lt hiN.2) (by decide)))
                  have I4 := hide g2
                  subst hov
                  clear z1 z2 g1 g2 g3 ft1 ft2 ft3 KM hcap4 hq4 hTL
                  go_upto_region 16 with fail
                  go_wp2_with fail
                  go_loopw [12, 18, 19] (fun s12 s18 s19 wx => ∃ k : Nat, s12 = .int .i64 ((o + k : Nat) : Int) ∧ s18 = .int .i64 (sumS (TL.take k)) ∧ s19 = .int .i64 (k : Int) ∧ k ≤ n4 ∧ Hid (wx = U4)) (fun s12 s18 s19 wx => n4 - (intOf s19).toNat)
                  case atStart => exact ⟨0, rfl, rfl, rfl, Nat.zero_le _, rfl⟩
                  case round =>
                    obtain ⟨k, rfl, rfl, rfl, hkn, hwx⟩ := hrel
                    have hwx' := hwx.out
                    subst hwx'
                    by_cases hk : k < n4
                    · have hk1 : (k : Int) < (n4 : Int) := Int.ofNat_lt.2 hk
                      have hkl : k < TL.length := by rw [hn4.out]; exact hk
                      obtain ⟨ob, oc', cs, e, z1, z2, z3, z4, z5, z6⟩ := I4.out.its.at (fun c => by rw [c] at hkl; simp at hkl)
                      simp only [Value.slice.injEq] at e
                      obtain ⟨rfl, e2, rfl⟩ := e
                      clear e2 z1 z2 z3 z4 z5 z6
                      obtain ⟨r0, r1⟩ := I4.out.its.read k hkl
                      have hidk := hid4.out k hk
                      obtain ⟨xi, xs, hx⟩ : ∃ xi xs, Hid (g TL k = (xi, xs)) := ⟨_, _, rfl⟩
                      obtain ⟨ok1, hok1⟩ : ∃ ok1 : Nat, Hid (o + k = ok1) := ⟨_, rfl⟩
                      have hs1 := hsm.out k
                      have hs2 := hsm.out (k + 1)
                      rw [← list_take hkl, sumS_snoc, hx.out] at hs2
                      rw [hx.out, hok1.out] at hidk
                      rw [hx.out] at r0 r1
                      simp only at hidk r0 r1 hs2
                      subst hidk
                      have hne : (((ok1 : Nat) : Int) != ((ok1 : Nat) : Int)) = false := by simp
                      obtain ⟨sk, hsk⟩ : ∃ sk, Hid (sumS (TL.take k) = sk) := ⟨_, rfl⟩
                      rw [hsk.out] at hs1 hs2
                      have ewS := (wrs hs1 hs2)
                      have ewO := wr_one (i := ok1) (by rw [← hok1.out]; clear ewS hs1 hs2; omega)
                      have ewK := wr_one (i := k) (by clear ewS hs1 hs2 ewO; omega)
                      rw [hsk.out, hok1.out]
                      clear hs1 hs2
                      go_wp2_with fail
                      refine ⟨⟨k + 1, ?_, ?_, ?_, Nat.succ_le_of_lt hk, trivial⟩, ?_⟩
                      · rw [ewO, ← hok1.out]; rfl
                      · rw [ewS, ← list_take hkl, sumS_snoc, hx.out, hsk.out]
                      · rw [ewK]; rfl
                      · rw [ewK]; simp only [intOf]; clear ewO ewS ewK; omega
                    · obtain rfl : k = n4 := Nat.le_antisymm hkn (Nat.not_lt.1 hk)
                      have hk1 : ¬ (k : Int) < (k : Int) := Int.lt_irrefl _
                      have hTLk : TL.take k = TL := List.take_of_length_le (by rw [hn4.out]; exact Nat.le_refl _)
                      obtain ⟨sk, hsk⟩ : ∃ sk, Hid (sumS (TL.take k) = sk) := ⟨_, rfl⟩
                      rw [hsk.out]
                      have ft6 : 1 < k → sk ≤ tby := fun h => by rw [← hsk.out, hTLk]; exact ft5 h
                      obtain ⟨y2, y3⟩ := K5.out
                      clear ft5 hsm hid4 I4 hTLk hwx n4s os1 hop
                      rcases Int.lt_trichotomy tn 0 with h | h | h
                      · have f1 : ¬ (k : Int) > 0 := by rw [Int.max_eq_right (Int.le_of_lt h)] at ft4; exact Int.not_lt.2 ft4
                        have f2 : ¬ (k : Int) > 1 := fun c => f1 (Int.lt_trans (by decide) c)
                        have f3 : ¬ tn > 0 := Int.not_lt.2 (Int.le_of_lt h)
                        have f4 : tn ≤ 0 := Int.le_of_lt h
                        have f5 : ¬ 0 ≤ tn := Int.not_le.2 h
                        have hk0 : Hid (k = 0) := Nat.eq_zero_of_not_pos fun c => f1 (Int.ofNat_lt.2 c)
                        clear ft4 ft6
                        go_wp2_with fail
                        go_meet
                        case rel => exact ⟨o + k, q4, by first | rfl | (rw [hk0.out]; rfl), MC.out⟩
                      · subst h
                        have f1 : ¬ (k : Int) > 0 := by rw [Int.max_self] at ft4; exact Int.not_lt.2 ft4
                        have f2 : ¬ (k : Int) > 1 := fun c => f1 (Int.lt_trans (by decide) c)
                        have hk0 : Hid (k = 0) := Nat.eq_zero_of_not_pos fun c => f1 (Int.ofNat_lt.2 c)
                        clear ft4 ft6
                        go_wp2_with fail
                        go_meet
                        case rel => exact ⟨o + k, q4, by first | rfl | (rw [hk0.out]; rfl), MC.out⟩
                      · have f1 : ¬ (k : Int) > tn := by rw [Int.max_eq_left (Int.le_of_lt h)] at ft4; exact Int.not_lt.2 ft4
                        have f3 : ¬ tn < 0 := Int.not_lt.2 (Int.le_of_lt h)
                        have f4 : ¬ tn ≤ 0 := Int.not_le.2 h
                        have f5 : 0 ≤ tn := Int.le_of_lt h
                        by_cases h1 : 1 < k
                        · have f2 : (k : Int) > 1 := Int.ofNat_lt.2 h1
                          have f6 : ¬ sk > tby := Int.not_lt.2 (ft6 h1)
                          clear ft4 ft6
                          go_wp2_with fail
                          go_meet
                          case rel => exact ⟨o + k, q4, rfl, MC.out⟩
                        · have f2 : ¬ (k : Int) > 1 := fun c => h1 (Int.ofNat_lt.1 c)
                          clear ft4 ft6
                          go_wp2_with fail
                          go_meet
                          case rel => exact ⟨o + k, q4, rfl, MC.out⟩
                · have t1 : t = false := by rw [ht.out]; exact decide_eq_false hT
                  subst t1
                  clear ht
                  go_wp2_with fail
                  go_meet
                  case rel => exact ⟨o, q2, rfl, MA.out⟩
              case rest =>
                clear MA ht
                obtain ⟨o1, q4, rfl, MB⟩ := hcut
                refine (‹∀ (a : Act) (w : World), Code.wp Try.prog _ _ a w → _›) _ _ ?_
                go_upto_region 25 with fail
                obtain ⟨mq, fq, eqc, eqb⟩ := MB.out
                have okq := mq.ok
                have LK := hide mq.look
                have hlen := fq.len
                have hple := fq.le
                have hhl := okq.hl
                have hus := okq.us
                have hu0 := okq.u0
                have hln := okq.ln
                have hc2 := okq.c2
                have hb2 := okq.b2
                rw [eqc] at hhl hc2
                rw [eqb] at hus hb2
                unfold lookV at LK
                have LN : Hid (∀ U2, Below wc.heap.size wc U2 → Calls Try.prog 21 #[.pointer (some ⟨qb, 0, none⟩)] U2 fun e U3 => ∃ vf, e = .returned vf ∧ Itb U2.heap.size U3 vf q4.L ∧ Mine w U3 qb q4 ∧ Below U2.heap.size U2 U3) := by
                  intro U2 b2
                  obtain ⟨v5, vl5, h51, h52, h53, h54⟩ := mq.below b2
                  refine (line_any U2 qb q4 v5 vl5 h51 h52).mono ?_
                  rintro e U3 ⟨vf, rfl, g1, g2⟩
                  exact ⟨vf, rfl, g1, ⟨v5, vl5, h51.below g2, h52, h53.trans (g2.mono h53.size), h54⟩, g2⟩
                obtain ⟨hl, hhl1⟩ : ∃ hl : Nat, Hid (q4.H.length = hl) := ⟨_, rfl⟩
                obtain ⟨ll, hll1⟩ : ∃ ll : Nat, Hid (q4.L.length = ll) := ⟨_, rfl⟩
                obtain ⟨us, hus1⟩ : ∃ us : Int, Hid (sumS q4.H = us) := ⟨_, rfl⟩
                have HELD : Hid (q4.L ≠ [] → hl ≠ 0 ∧ ((hl : Int) < cap → ¬ us + (g q4.L 0).2 ≤ bytes) ∧ 0 ≤ (g q4.L 0).2 ∧ (g q4.L 0).2 ≤ 16777216) := by
                  intro hL
                  obtain ⟨j1, j2⟩ := fq.held okq hL
                  rw [eqc, hhl1.out, hus1.out, eqb] at j2
                  have hlt : 0 < q4.L.length := List.length_pos_iff.2 hL
                  have j3 := okq.szL _ (show g q4.L 0 ∈ q4.L by rw [← g_get hlt]; exact List.getElem_mem hlt)
                  rw [eqb] at j3
                  exact ⟨fun e => j1 (List.length_eq_zero_iff.1 (hhl1.out.trans e)), j2, j3.1, by omega⟩
                rw [hhl1.out, hus1.out, hll1.out] at LK
                rw [hhl1.out] at hhl hlen
                rw [hus1.out] at hus hu0
                rw [hll1.out] at hln hlen
                have hhn : hl ≤ 1024 := by clear LK LN HELD; omega
                obtain ⟨ewA, ewA2⟩ := wr_add hhn hln
                obtain ⟨ewB, ewB2⟩ := wr_sub hlen hple (Nat.le_trans hpi1 (Nat.le_trans (Nat.succ_le_of_lt hiN.2) (by decide)))
                have t1 : decide ((hl : Int) > cap) = false := decide_eq_false (Int.not_lt.2 hhl)
                have t2 : decide (us > bytes) = false := decide_eq_false (Int.not_lt.2 hus)
                have tn1 : ((hl : Int) + (ll : Int) != (hl : Int) + (ll : Int)) = false := by simp
                have ewi := wr_one (Nat.le_trans (Nat.le_of_lt hiN.2) (by decide : 400 ≤ 1024))
                have hus2 : us ≤ 16777216 := Int.le_trans hus hb2
                obtain ⟨hI, hhI⟩ : ∃ hI : Int, Hid ((hl : Int) = hI) := ⟨_, rfl⟩
                obtain ⟨lI, hlI⟩ : ∃ lI : Int, Hid ((ll : Int) = lI) := ⟨_, rfl⟩
                rw [hhI.out, hlI.out] at LK ewA ewA2 ewB ewB2 tn1
                rw [hhI.out] at t1
                clear okq eqc eqb
                have hLn : Hid (q4.L.length = ll) := hll1
                go_upto_region 26 with (go_at_call 20; refine LK.out.mono ?_; rintro e U1 ⟨rfl, bU1⟩)
                have BL := box_below U1 (.cells #[.int .i64 hI, .int .i64 us, .int .i64 lI] 50)
                have XL := Lx.new U1 hI us lI
                have bU2 := keepF bU1 BL
                have LNc := hide (LN.out _ bU2)
                have XLl := hide XL
                clear XL BL bU1 LK LN mq
                generalize U1.alloc (.cells #[.int .i64 hI, .int .i64 us, .int .i64 lI] 50) = U2 at *
                generalize U1.heap.size = lb at *
                go_upto_region 27 with (go_at_call 21; refine LNc.out.mono ?_; rintro e U3 ⟨vf, rfl, gI, gM, gB⟩)
                obtain ⟨l0, l1, l2⟩ := (show Lx U3 lb hI us lI from (gB.block lb (heap_lt XLl.out)).trans XLl.out).cells
                obtain ⟨va, vc, hvf, z1, z2⟩ := gI.its.form
                clear z1 z2
                rw [hLn.out] at hvf
                have GM := hide gM
                have FQ := hide fq
                subst hvf
                have hpi2 : p1 ≤ i + 1 := hpi1
                have hii : i + 1 ≤ 400 := Nat.succ_le_of_lt hiN.2
                by_cases hL : q4.L = []
                · have ll0 : ll = 0 := by rw [← hLn.out, hL]; rfl
                  subst ll0
                  have t3 : decide ((0 : Int) > 0) = false := by decide
                  clear gI gB XLl LNc HELD hL hLn hll1 hhl1 hus1 hlen hple hhl hus hu0 hln hc2 hb2 fq gM bU2 hhn hus2
                  go_quiet (fail)
                  go_wp2_with fail
                  go_roundw
                  case measure => exact meas hiN.2
                  case rel => exact ⟨p1, o1, i + 1, q4, rfl, rfl, rfl, hpi2, hii, (GM.out.below (Qt.below ⟨_, rfl⟩ _)), FQ.out, MB.out.2.2.1, MB.out.2.2.2⟩
                · obtain ⟨k1, k2, k3, k4⟩ := HELD.out hL
                  have ll0 : 0 < ll := by rw [← hLn.out]; exact List.length_pos_iff.2 hL
                  have t3 : decide ((ll : Int) > 0) = true := decide_eq_true (Int.natCast_pos.2 ll0)
                  have t3' : decide (0 < ll) = true := decide_eq_true ll0
                  have t4 : (hI == 0) = false := by rw [← hhI.out]; simpa using k1
                  obtain ⟨vb, vc', cs, e, z1, z2, z3, z4, z5, z6⟩ := gI.its.at hL
                  simp only [Value.slice.injEq] at e
                  obtain ⟨rfl, e2, rfl⟩ := e
                  clear e2 z1 z2 z3 z4 z5 z6
                  obtain ⟨-, y1⟩ := gI.its.read 0 (List.length_pos_iff.2 hL)
                  simp only [Nat.zero_mul, Nat.zero_add] at y1
                  obtain ⟨xs, hxs⟩ : ∃ xs, Hid ((g q4.L 0).2 = xs) := ⟨_, rfl⟩
                  rw [hxs.out] at k2 k3 k4 y1
                  obtain ⟨ewC, ewC2⟩ := wr_two hu0 hus2 k3 k4
                  by_cases hlc : (hl : Int) < cap
                  · have k5 : decide (us + xs ≤ bytes) = false := decide_eq_false (Int.not_le.2 (by have := k2 hlc; clear ewA ewB ewA2 ewB2 ewC ewC2 ewi; omega))
                    have t6 : decide (hI < cap) = true := by rw [← hhI.out]; exact decide_eq_true hlc
                    clear hlc
                    clear gI gB XLl LNc HELD hL hLn hll1 hhl1 hus1 hlen hple hhl hus hu0 hln hc2 hb2 fq gM bU2 hhn hus2 k2 k3 k4
                    go_quiet (fail)
                    go_wp2_with fail
                    go_roundw
                    case measure => exact meas hiN.2
                    case rel => exact ⟨p1, o1, i + 1, q4, rfl, rfl, rfl, hpi2, hii, (GM.out.below (Qt.below ⟨_, rfl⟩ _)), FQ.out, MB.out.2.2.1, MB.out.2.2.2⟩
                  · have t6 : decide (hI < cap) = false := by rw [← hhI.out]; exact decide_eq_false hlc
                    clear hlc
                    clear gI gB XLl LNc HELD hL hLn hll1 hhl1 hus1 hlen hple hhl hus hu0 hln hc2 hb2 fq gM bU2 hhn hus2 k2 k3 k4
                    go_quiet (fail)
                    go_wp2_with fail
                    go_roundw
                    case measure => exact meas hiN.2
                    case rel => exact ⟨p1, o1, i + 1, q4, rfl, rfl, rfl, hpi2, hii, (GM.out.below (Qt.below ⟨_, rfl⟩ _)), FQ.out, MB.out.2.2.1, MB.out.2.2.2⟩
      · have B0 := hide hst.out.1.bel
        by_cases hi1 : i < N
        · have hiN1 : (i : Int) < (N : Int) := by omega
          have hiN2 : ¬ (i : Int) < 400 := by omega
          go_wp2_with fail
          go_ret
          exact ⟨rfl, B0.out⟩
        · have hiN1 : ¬ (i : Int) < (N : Int) := by omega
          go_wp2_with fail
          go_ret
          exact ⟨rfl, B0.out⟩
  · go_enter Try.func4, Try.ntmps4
    go_upto_region 3 with (go_at_call 6; refine (begun_any _).mono ?_; rintro e u1 ⟨rfl, b1⟩; replace b1 := hide b1)
    go_wp2_with (go_at_call 7; refine (new_no _ cap bytes hm).mono ?_; rintro e u2 ⟨rfl, hw⟩; rw [hw]; clear hw u2)
    go_ret
    exact ⟨rfl, b1.out⟩
end Go.Proofs.Ytfpbllkkilkjfaa.Qu

