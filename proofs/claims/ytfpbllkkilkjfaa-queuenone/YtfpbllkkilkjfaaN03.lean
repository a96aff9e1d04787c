/-
  goOut: the first ones go. (gen_QuQ.py)
-/
import Derived.Test.YtfpbllkkilkjfaaN02
namespace Go.Proofs.Ytfpbllkkilkjfaa.Qu
open Go.RowKit
set_option linter.unusedVariables false
set_option maxRecDepth 100000
/-- How many go out. -/
def outC (most bytes : Int) : Nat → Int → List Itm → Nat
  | _, _, [] => 0
  | c, t, x :: r => if (c : Int) < most ∧ (c = 0 ∨ t + x.2 ≤ bytes) then outC most bytes (c + 1) (t + x.2) r + 1 else 0
def lenV : Value → Nat
  | .slice _ n _ => n
  | _ => 0
theorem out_le (most bytes : Int) (H : List Itm) : ∀ c t, outC most bytes c t H ≤ H.length := by
  induction H with
  | nil => intro c t; exact Nat.le_refl _
  | cons x r ih =>
    intro c t
    unfold outC
    split
    · have := ih (c + 1) (t + x.2); simp; omega
    · simp
theorem out_low (most bytes : Int) (H : List Itm) : ∀ c t j, j < outC most bytes c t H → ((c + j : Nat) : Int) < most ∧ (c + j = 0 ∨ t + sumS (H.take j) + (g H j).2 ≤ bytes) := by
  induction H with
  | nil => intro c t j hj; simp [outC] at hj
  | cons x r ih =>
    intro c t j hj
    unfold outC at hj
    split at hj
    · rename_i hr
      match j with
      | 0 => rw [g_zero]; simpa [sumS] using hr
      | j + 1 =>
        rw [g_cons, List.take_succ_cons, sumS_cons]
        have := ih (c + 1) (t + x.2) j (by omega)
        refine ⟨by have := this.1; omega, .inr ?_⟩
        rcases this.2 with e | e
        · omega
        · omega
    · omega
theorem out_at (most bytes : Int) (H : List Itm) : ∀ c t, outC most bytes c t H < H.length → ¬ (((c + outC most bytes c t H : Nat) : Int) < most ∧ (c + outC most bytes c t H = 0 ∨ t + sumS (H.take (outC most bytes c t H)) + (g H (outC most bytes c t H)).2 ≤ bytes)) := by
  induction H with
  | nil => intro c t hj; simp at hj
  | cons x r ih =>
    intro c t hj
    unfold outC at hj ⊢
    split at hj
    · rename_i hr
      rw [if_pos hr, g_cons, List.take_succ_cons, sumS_cons]
      have := ih (c + 1) (t + x.2) (by simpa using hj)
      intro ⟨h1, h2⟩
      refine this ⟨by omega, ?_⟩
      rcases h2 with e | e
      · omega
      · exact .inr (by omega)
    · rename_i hr
      rw [if_neg hr, g_zero]
      simpa [sumS] using hr
def outN (q : Q) (most bytes : Int) : Nat := outC most bytes 0 0 q.H
def outQ (q : Q) (most bytes : Int) : List Itm × Q := (q.H.take (outN q most bytes), ⟨q.cap, q.bytes, q.H.drop (outN q most bytes), q.L⟩)
theorem sum_split (l : List Itm) (i : Nat) : sumS l = sumS (l.take i) + sumS (l.drop i) := by rw [← sumS_app, List.take_append_drop]
theorem out_ok {q : Q} (h : Ok q) (most bytes : Int) : Ok (outQ q most bytes).2 := by
  have hs := sum_split q.H (outN q most bytes)
  have h1 : 0 ≤ sumS (q.H.take (outN q most bytes)) := sumS_nonneg fun x hx => (h.sz x (List.mem_of_mem_take hx)).1
  have := h.us
  have := h.hl
  exact ⟨h.c1, h.c2, h.b1, h.b2, by show ((q.H.drop _).length : Int) ≤ q.cap; rw [List.length_drop]; omega, by show sumS (q.H.drop _) ≤ q.bytes; omega, h.ln, fun x hx => h.sz x (List.mem_of_mem_drop hx), h.szL⟩
theorem wpList_append_runI {w : World} {ops : Array Oper} {rest : List Oper} {o : Oper} {a : Act} {Q : Exit → Act → World → Prop} (hgd : o.guard = none) (s x : Operand) {vs vx v' : Value} {w' : World}
    (ho : o.op = .call { callee := .builtin .append, args := #[s, x], argTypes := #[35, 35] }) (hs : a.eval s = vs) (hx : a.eval x = vx)
    (hr : (Builtin.append_ #[35, 35] o.type #[vs, vx]).run Try.prog w = .ok v' w') (h : wpList Try.prog ops Q rest (a.put o.dst v') w') : wpList Try.prog ops Q (o :: rest) a w := by
  refine wpList_plain hgd fun K hK => ?_
  exact Lib.wp_append_run _ s x 35 35 ho vs vx hs hx v' w' hr (hK _ _ h)
/-- Behind i that went. -/
def Go_ (w wr : World) (b : Nat) (q : Q) (v vl ov : Value) (i : Nat) : Prop :=
  ∃ R f, At wr b ⟨q.cap, q.bytes, sumS q.H, R, f, q.H.drop i, q.L⟩ v vl ∧ Stp b v vl v vl w wr ∧ Itb w.heap.size wr ov (q.H.take i)
theorem Go_.below {w wr w1 : World} {b : Nat} {q : Q} {v vl ov : Value} {i : Nat} (h : Go_ w wr b q v vl ov i) (hb : Below wr.heap.size wr w1) : Go_ w w1 b q v vl ov i := by
  obtain ⟨R, f, h1, h2, h3⟩ := h
  exact ⟨R, f, h1.below hb, h2.trans (Stp.below hb), h3.below hb⟩
theorem Go_.next {w w4 w6 : World} {b : Nat} {q : Q} {v vl ov v6 : Value} {i : Nat} {R : List Itm} {f : Nat} {o : Obj} (hi : i < q.H.length) (hlt : ∀ k, Own b v vl k → k < w.heap.size) (hA : At w4 b ⟨q.cap, q.bytes, sumS q.H, R, f, q.H.drop (i + 1), q.L⟩ v vl) (hS : Stp b v vl v vl w w4) (hI : Itb w.heap.size w4 ov (q.H.take i))
    (h6 : Itb w.heap.size w6 v6 (q.H.take i ++ [g q.H i])) (hg : (w4.alloc o).grownBy w6 ov.ownBlock) : Go_ w w6 b q v vl v6 (i + 1) := by
  have b5 := box_below w4 o
  have gb : But (fun k => ov.ownBlock = some k) (w4.alloc o) w6 := But.of_grownBy hg fun k e => e
  refine ⟨R, f, ?_, ?_, ?_⟩
  · exact (hA.below b5).but gb fun k hk e => by
      have h1 := hlt k hk
      have h2 := (hI.lt k e).1
      omega
  · refine ⟨⟨gb.os.trans ((But.of_below b5 (fun _ => False)).os.trans hS.1.os), gb.tape.trans ((But.of_below b5 (fun _ => False)).tape.trans hS.1.tape), gb.output.trans ((But.of_below b5 (fun _ => False)).output.trans hS.1.output), Nat.le_trans hS.1.size (Nat.le_trans b5.size gb.size), fun k hk hx => ?_⟩, hS.2⟩
    rw [gb.block k (Nat.lt_of_lt_of_le hk (Nat.le_trans hS.1.size b5.size)) (fun e => by have := (hI.lt k e).1; omega), b5.block k (Nat.lt_of_lt_of_le hk hS.1.size)]
    exact hS.1.block k hk hx
  · rw [← list_take hi]
    exact h6
set_option maxHeartbeats 4000000 in
theorem goOut_any (w : World) (b : Nat) (q : Q) (v vl : Value) (most bytes : Int) (hq : QA w b q v vl) (ok : Ok q) :
    Calls Try.prog 30 #[.pointer (some ⟨b, 0, none⟩), .int .i64 most, .int .i64 bytes] w fun e w' => ∃ ov, e = .returned ov ∧ QA w' b (outQ q most bytes).2 v vl ∧ Stp b v vl v vl w w' ∧ Itb w.heap.size w' ov (outQ q most bytes).1 := by
  have hlt := hide hq.lt
  have hbl : Hid (b < w.heap.size) := hq.lt b (.inl rfl)
  have H0 : Hid (Go_ w w b q v vl (.slice none 0 0) 0) := by
    obtain ⟨R, f, h⟩ := hq
    exact ⟨R, f, by simpa using h, Stp.refl _ _ _ _, World.ownsRow_nil _ _ _ _⟩
  have HLo := hide (out_low most bytes q.H 0 0)
  have HAt := hide (out_at most bytes q.H 0 0)
  have hKN := hide (out_le most bytes q.H 0 0)
  have hsum : Hid (∀ i, sumS (q.H.take i) ≤ 16777216 ∧ 0 ≤ sumS (q.H.take i) ∧ sumS q.H - sumS (q.H.take i) = sumS (q.H.drop i)) := by
    intro i
    have h1 := sum_split q.H i
    have h2 : 0 ≤ sumS (q.H.take i) := sumS_nonneg fun x hx => (ok.sz x (List.mem_of_mem_take hx)).1
    have h3 : 0 ≤ sumS (q.H.drop i) := sumS_nonneg fun x hx => (ok.sz x (List.mem_of_mem_drop hx)).1
    have := ok.us
    have := ok.b2
    omega
  have hsw : Hid (∀ i, wrap64 (sumS (q.H.drop i)) = sumS (q.H.drop i)) := by
    intro i
    have h1 := sum_split q.H i
    have h2 : 0 ≤ sumS (q.H.take i) := sumS_nonneg fun x hx => (ok.sz x (List.mem_of_mem_take hx)).1
    have h3 : 0 ≤ sumS (q.H.drop i) := sumS_nonneg fun x hx => (ok.sz x (List.mem_of_mem_drop hx)).1
    have := ok.us
    have := ok.b2
    unfold wrap64
    omega
  have hHl : Hid (q.H.length ≤ 1024) := by have := ok.hl; have := ok.c2; show _ ≤ _; omega
  have hsz := hide ok.sz
  have hb2 := hide ok.b2
  unfold outQ
  simp only
  obtain ⟨K, hK⟩ : ∃ K, Hid (outN q most bytes = K) := ⟨_, rfl⟩
  have eK : outC most bytes 0 0 q.H = K := hK.out
  rw [eK] at HLo HAt hKN
  rw [hK.out]
  clear eK hq ok
  go_enter Try.func30, Try.ntmps30
  go_wp2_with fail
  go_loopw [7, 8] (fun s7 s8 wr => ∃ i : Nat, s8 = .int .i64 (sumS (q.H.take i)) ∧ i ≤ K ∧ Hid (Go_ w wr b q v vl s7 i)) (fun s7 s8 wr => q.H.length - lenV s7)
  case atStart => exact ⟨0, rfl, Nat.zero_le _, H0.out⟩
  case round =>
    obtain ⟨i, rfl, hiK, hst⟩ := hrel
    obtain ⟨R1, f1, A1, S1, I1⟩ := hst.out
    obtain ⟨ai, ci, hidv, p1, p2⟩ := I1.its.form
    clear p1 p2
    have lki : (q.H.take i).length = i := by rw [List.length_take]; exact Nat.min_eq_left (Nat.le_trans hiK hKN.out)
    rw [lki] at hidv
    subst hidv
    obtain ⟨-, -, -, -, c4, -⟩ := A1.cells
    simp only [List.length_drop] at c4
    by_cases hin : i < q.H.length
    · have hc0 : ((q.H.length - i : Nat) : Int) > 0 := by omega
      by_cases hm : (i : Int) < most
      · have hd : q.H.drop i = g q.H i :: q.H.drop (i + 1) := by rw [← g_get hin]; exact List.drop_eq_getElem_cons hin
        have hrg := A1.rg
        simp only [hd] at hrg
        obtain ⟨hf, hx⟩ := hrg.first
        have CF := hide (first_any wr b _ v vl A1 hf)
        simp only [hx] at CF
        unfold iv at CF
        have hxs := hsz.out (g q.H i) (by rw [← g_get hin]; exact List.getElem_mem hin)
        have hk2 := hsum.out i
        have hb2' := hb2.out
        have ew : wrap64 (sumS (q.H.take i) + (g q.H i).2) = sumS (q.H.take i) + (g q.H i).2 := by unfold wrap64; omega
        have fld : ∀ (a c : Int) (u : World), (Instr.field 48 (.agg #[.int .i64 a, .int .i64 c]) 1).run Try.prog u = .ok (.int .i64 c) u := fun a c u => by kernel_rfl
        clear hxs hk2 hb2'
        by_cases hg : i = 0 ∨ sumS (q.H.take i) + (g q.H i).2 ≤ bytes
        · have hlK : i < K := by
            rcases Nat.lt_or_ge i K with h | h
            · exact h
            · exfalso
              obtain rfl : i = K := Nat.le_antisymm hiK h
              exact HAt.out hin ⟨by simpa using hm, by simpa using hg⟩
          have PO : Hid (∀ w2, Below wr.heap.size wr w2 → Calls Try.prog 43 #[.pointer (some ⟨b, 2, none⟩)] w2 fun e w4 => e = .returned (.agg #[.int .i64 (g q.H i).1, .int .i64 (g q.H i).2]) ∧ ∃ R2 f2, Hid (At w4 b ⟨q.cap, q.bytes, sumS q.H, R2, f2, q.H.drop (i + 1), q.L⟩ v vl ∧ Stp b v vl v vl w w4 ∧ Itb w.heap.size w4 (.slice ai i ci) (q.H.take i))) := by
            intro w2 b2
            have A2 := A1.below b2
            refine (pop_any w2 b _ v vl (g q.H i) (q.H.drop (i + 1)) A2 hd).mono ?_
            rintro e w4 ⟨rfl, k1, k2⟩
            refine ⟨rfl, _, _, k1, ⟨(S1.trans (Stp.below b2)).1.trans (k2.mono fun k _ e => .inl e), fun k hk => .inl hk⟩, (I1.below b2).but k2 fun k hk e => ?_⟩
            have h1 := (I1.lt k hk).1
            have h2 := hbl.out
            omega
          have AP : Hid (∀ w4 R2 f2, (At w4 b ⟨q.cap, q.bytes, sumS q.H, R2, f2, q.H.drop (i + 1), q.L⟩ v vl ∧ Stp b v vl v vl w w4 ∧ Itb w.heap.size w4 (.slice ai i ci) (q.H.take i)) → ∃ v6 ai6 n6 ci6 w6, v6 = Value.slice ai6 n6 ci6 ∧ Hid ((Builtin.append_ #[35, 35] 35 #[.slice ai i ci, .slice (some ⟨w4.heap.size, 0, none⟩) 1 1]).run Try.prog (w4.alloc (.cells #[.int .i64 (g q.H i).1, .int .i64 (g q.H i).2] 48)) = .ok v6 w6) ∧ Hid (Go_ w w6 b q v vl v6 (i + 1) ∧ n6 = i + 1)) := by
            rintro w4 R2 f2 ⟨A4, S4, I4⟩
            have B5 := box_below w4 (.cells #[.int .i64 (g q.H i).1, .int .i64 (g q.H i).2] 48)
            obtain ⟨v6, w6, r6, I6, G6, H6⟩ := run_appI (g q.H i) w4.heap.size (I4.below B5) (Ib.new w4 (g q.H i)) (by rw [lki]; exact Nat.le_trans (Nat.le_of_lt hin) (Nat.le_trans hHl.out (by decide))) (Nat.le_trans S4.1.size B5.size) 35
            obtain ⟨ai6, ci6, e6, _, _⟩ := I6.its.form
            have l6 : (q.H.take i ++ [g q.H i]).length = i + 1 := by rw [List.length_append, lki]; rfl
            exact ⟨v6, ai6, _, ci6, w6, e6, r6, Go_.next hin hlt.out A4 S4 I4 I6 G6, l6⟩
          clear A1 S1 I1 hst hrg hx hf HLo HAt hd
          by_cases hi0 : i = 0
          · have hgi' : ¬ (i : Int) > 0 := by omega
            clear hg hi0
            go_upto_region 6 with (go_at_call 42; refine CF.out.mono ?_; rintro e w2 ⟨rfl, b2⟩)
            go_wp2_with (first | (go_at_call 43; refine (PO.out w2 b2).mono ?_; rintro e w4 ⟨rfl, R2, f2, hh⟩; obtain ⟨v6, ai6, n6, ci6, w6, hv6, r6, CN⟩ := AP.out w4 R2 f2 hh.out; subst hv6) | (at_builtin; refine wpList_append_runI rfl (.tmp 37) (.tmp 42) rfl rfl rfl r6.out ?_))
            go_roundw
            case measure => (have h1 := CN.out.2; simp only [lenV]; omega)
            case rel => exact ⟨i + 1, by rw [← list_take hin, sumS_snoc, ew], Nat.succ_le_of_lt hlK, CN.out.1⟩
          · have hgi' : (i : Int) > 0 := by omega
            have hgb : ¬ sumS (q.H.take i) + (g q.H i).2 > bytes := by
              have := hg.resolve_left hi0
              omega
            clear hg hi0
            go_upto_region 6 with (go_at_call 42; refine CF.out.mono ?_; rintro e w2 ⟨rfl, b2⟩)
            go_wp2_with (first | (go_at_call 43; refine (PO.out w2 b2).mono ?_; rintro e w4 ⟨rfl, R2, f2, hh⟩; obtain ⟨v6, ai6, n6, ci6, w6, hv6, r6, CN⟩ := AP.out w4 R2 f2 hh.out; subst hv6) | (at_builtin; refine wpList_append_runI rfl (.tmp 37) (.tmp 42) rfl rfl rfl r6.out ?_))
            go_roundw
            case measure => (have h1 := CN.out.2; simp only [lenV]; omega)
            case rel => exact ⟨i + 1, by rw [← list_take hin, sumS_snoc, ew], Nat.succ_le_of_lt hlK, CN.out.1⟩
        · have hgi : 0 < i := Nat.pos_of_ne_zero fun e => hg (.inl e)
          have hgi' : (i : Int) > 0 := by omega
          have hgb : sumS (q.H.take i) + (g q.H i).2 > bytes := by
            have := fun e => hg (.inr e)
            omega
          obtain rfl : i = K := by
            rcases Nat.lt_or_ge i K with h | h
            · exfalso
              have := (HLo.out i h).2
              exact hg (by simpa using this)
            · exact Nat.le_antisymm hiK h
          have STB : Hid (∀ w2, Below wr.heap.size wr w2 → Go_ w w2 b q v vl (.slice ai i ci) i) := fun w2 b2 => hst.out.below b2
          clear A1 S1 I1 hst hg hrg hx hf HLo HAt hd
          go_upto_region 8 with (go_at_call 42; refine CF.out.mono ?_; rintro e w2 ⟨rfl, b2⟩)
          have ST2 := hide (STB.out w2 b2)
          clear STB CF b2 c4
          obtain ⟨R', f', A5, S5, I5⟩ := ST2.out
          obtain ⟨-, -, -, -, -, c5, -⟩ := A5.cells
          have g5 := A5.frozen 5
          simp only at c5
          have hK2 : sumS (q.H.take i) ≤ 16777216 ∧ 0 ≤ sumS (q.H.take i) ∧ sumS q.H - sumS (q.H.take i) = sumS (q.H.drop i) := hsum.out i
          have ews := hsw.out i
          obtain ⟨-, -, hK3⟩ := hK2
          have FIN : Hid (QA (w2.setCell ⟨b, 5, none⟩ (.int .i64 (sumS (q.H.drop i)))) b ⟨q.cap, q.bytes, q.H.drop i, q.L⟩ v vl ∧ Stp b v vl v vl w (w2.setCell ⟨b, 5, none⟩ (.int .i64 (sumS (q.H.drop i)))) ∧ Itb w.heap.size (w2.setCell ⟨b, 5, none⟩ (.int .i64 (sumS (q.H.drop i)))) (.slice ai i ci) (q.H.take i)) := by
            have bb := But.set (w := w2) b 5 (.int .i64 (sumS (q.H.drop i)))
            refine ⟨⟨R', f', A5.re bb ?_ rfl rfl A5.rg⟩, ⟨S5.1.trans (bb.mono fun k _ e => .inl e), S5.2⟩, I5.but bb fun k hk e => ?_⟩
            · rw [heap_setCell_same w2 b 5 _ _ _ A5.box]; rfl
            · have h1 := (I5.lt k hk).1
              have h2 := hbl.out
              omega
          clear A5 S5 I5
          go_wp2_with fail
          go_ret
          exact ⟨_, rfl, FIN.out⟩
      · obtain rfl : i = K := by
          rcases Nat.lt_or_ge i K with h | h
          · exfalso
            have := (HLo.out i h).1
            exact hm (by simpa using this)
          · exact Nat.le_antisymm hiK h
        clear A1 S1 I1 HLo HAt
        go_upto_region 8 with fail
        clear c4
        obtain ⟨R', f', A5, S5, I5⟩ := hst.out
        obtain ⟨-, -, -, -, -, c5, -⟩ := A5.cells
        have g5 := A5.frozen 5
        simp only at c5
        have hK2 : sumS (q.H.take i) ≤ 16777216 ∧ 0 ≤ sumS (q.H.take i) ∧ sumS q.H - sumS (q.H.take i) = sumS (q.H.drop i) := hsum.out i
        have ews := hsw.out i
        obtain ⟨-, -, hK3⟩ := hK2
        have FIN : Hid (QA (wr.setCell ⟨b, 5, none⟩ (.int .i64 (sumS (q.H.drop i)))) b ⟨q.cap, q.bytes, q.H.drop i, q.L⟩ v vl ∧ Stp b v vl v vl w (wr.setCell ⟨b, 5, none⟩ (.int .i64 (sumS (q.H.drop i)))) ∧ Itb w.heap.size (wr.setCell ⟨b, 5, none⟩ (.int .i64 (sumS (q.H.drop i)))) (.slice ai i ci) (q.H.take i)) := by
          have bb := But.set (w := wr) b 5 (.int .i64 (sumS (q.H.drop i)))
          refine ⟨⟨R', f', A5.re bb ?_ rfl rfl A5.rg⟩, ⟨S5.1.trans (bb.mono fun k _ e => .inl e), S5.2⟩, I5.but bb fun k hk e => ?_⟩
          · rw [heap_setCell_same wr b 5 _ _ _ A5.box]; rfl
          · have h1 := (I5.lt k hk).1
            have h2 := hbl.out
            omega
        clear A5 S5 I5
        go_wp2_with fail
        go_ret
        exact ⟨_, rfl, FIN.out⟩
    · obtain rfl : i = K := Nat.le_antisymm hiK (Nat.le_trans hKN.out (Nat.not_lt.1 hin))
      have hc0 : q.H.length - i = 0 := by omega
      rw [hc0] at c4
      clear A1 S1 I1 HLo HAt hc0
      go_upto_region 8 with fail
      clear c4
      obtain ⟨R', f', A5, S5, I5⟩ := hst.out
      obtain ⟨-, -, -, -, -, c5, -⟩ := A5.cells
      have g5 := A5.frozen 5
      simp only at c5
      have hK2 : sumS (q.H.take i) ≤ 16777216 ∧ 0 ≤ sumS (q.H.take i) ∧ sumS q.H - sumS (q.H.take i) = sumS (q.H.drop i) := hsum.out i
      have ews := hsw.out i
      obtain ⟨-, -, hK3⟩ := hK2
      have FIN : Hid (QA (wr.setCell ⟨b, 5, none⟩ (.int .i64 (sumS (q.H.drop i)))) b ⟨q.cap, q.bytes, q.H.drop i, q.L⟩ v vl ∧ Stp b v vl v vl w (wr.setCell ⟨b, 5, none⟩ (.int .i64 (sumS (q.H.drop i)))) ∧ Itb w.heap.size (wr.setCell ⟨b, 5, none⟩ (.int .i64 (sumS (q.H.drop i)))) (.slice ai i ci) (q.H.take i)) := by
        have bb := But.set (w := wr) b 5 (.int .i64 (sumS (q.H.drop i)))
        refine ⟨⟨R', f', A5.re bb ?_ rfl rfl A5.rg⟩, ⟨S5.1.trans (bb.mono fun k _ e => .inl e), S5.2⟩, I5.but bb fun k hk e => ?_⟩
        · rw [heap_setCell_same wr b 5 _ _ _ A5.box]; rfl
        · have h1 := (I5.lt k hk).1
          have h2 := hbl.out
          omega
      clear A5 S5 I5
      go_wp2_with fail
      go_ret
      exact ⟨_, rfl, FIN.out⟩
end Go.Proofs.Ytfpbllkkilkjfaa.Qu

/-
  Take, Leave, Look, Line.
-/
namespace Go.Proofs.Ytfpbllkkilkjfaa.Qu
open Go.RowKit
open Ix (wp_region_T wpAnyT wpAnyT_take wpAnyT_one wpAnyT_done vac)
set_option linter.unusedVariables false
set_option maxRecDepth 100000
def takeQ (q : Q) (most bytes : Int) : List Itm × List Int × Q := ((outQ q most bytes).1, (comeQ (outQ q most bytes).2).1, (comeQ (outQ q most bytes).2).2)
theorem take_ok {q : Q} (h : Ok q) (most bytes : Int) : Ok (takeQ q most bytes).2.2 := come_ok2 (out_ok h most bytes)
theorem take_nil (w : World) (most bytes : Int) : Calls Try.prog 11 #[.pointer none, .int .i64 most, .int .i64 bytes] w fun e w' => e = .returned (.tuple #[.slice none 0 0, .slice none 0 0]) ∧ w' = w := by
  go_enter Try.func11, Try.ntmps11
  go_wp2_with (go_at_call 29; refine (made_nil _).mono ?_; rintro e w' ⟨rfl, hw⟩; rw [hw]; clear hw w')
  go_ret2
  exact ⟨rfl, rfl⟩
theorem take_any (w : World) (b : Nat) (q : Q) (v vl : Value) (most bytes : Int) (hq : QA w b q v vl) (ok : Ok q) :
    Calls Try.prog 11 #[.pointer (some ⟨b, 0, none⟩), .int .i64 most, .int .i64 bytes] w fun e w' => ∃ ov idv v' vl', e = .returned (.tuple #[ov, idv]) ∧ QA w' b (takeQ q most bytes).2.2 v' vl' ∧ Stp b v vl v' vl' w w' ∧ Itb w.heap.size w' ov (takeQ q most bytes).1 ∧ Ids w.heap.size w' idv (takeQ q most bytes).2.1 := by
  have hlt := hq.lt
  have GO := hide (goOut_any w b q v vl most bytes hq ok)
  have HM : Hid (Calls Try.prog 29 #[.pointer (some ⟨b, 0, none⟩)] w fun e w' => e = .returned (.bool true) ∧ w' = w) := by
    obtain ⟨R, f, h⟩ := hq
    exact made_any w b _ v vl h ok.c1
  have CI : Hid (∀ w2 ov, QA w2 b (outQ q most bytes).2 v vl → Stp b v vl v vl w w2 → Itb w.heap.size w2 ov (outQ q most bytes).1 → Calls Try.prog 31 #[.pointer (some ⟨b, 0, none⟩)] w2 fun e w' => ∃ idv, e = .returned idv ∧ Hid (∃ v' vl', QA w' b (takeQ q most bytes).2.2 v' vl' ∧ Stp b v vl v' vl' w w' ∧ Itb w.heap.size w' ov (takeQ q most bytes).1 ∧ Ids w.heap.size w' idv (takeQ q most bytes).2.1)) := by
    intro w2 ov h1 h2 h3
    refine (comeIn_any w2 b _ v vl h1 (out_ok ok most bytes)).mono ?_
    rintro e w' ⟨idv, v', vl', rfl, k1, k2, k3⟩
    refine ⟨idv, rfl, v', vl', k1, h2.trans k2, h3.but k2.1 fun k hk e => ?_, ?_⟩
    · have := (h3.lt k hk).1
      have := hlt k e
      omega
    · refine ⟨k3.1, ?_⟩
      rcases k3.2 with h | ⟨g, cap, cur, rfl, hg, r⟩
      · exact .inl h
      · exact .inr ⟨g, cap, cur, rfl, Nat.le_trans h2.1.size hg, r⟩
  clear hq ok hlt
  go_enter Try.func11, Try.ntmps11
  go_wp2_with (first | (go_at_call 29; refine HM.out.mono ?_; rintro e w' ⟨rfl, hw⟩; rw [hw]; clear hw w') | (go_at_call 30; refine GO.out.mono ?_; rintro e w2 ⟨ov, rfl, g1, g2, g3⟩; have CC := hide (CI.out w2 ov g1 g2 g3); clear g1 g2 g3) | (go_at_call 31; refine CC.out.mono ?_; rintro e w3 ⟨idv, rfl, hh⟩))
  go_ret2
  obtain ⟨v', vl', k1, k2, k3, k4⟩ := hh.out
  exact ⟨ov, idv, v', vl', rfl, k1, k2, k3, k4⟩
end Go.Proofs.Ytfpbllkkilkjfaa.Qu

/-
  Leave, Look, Line.
-/
namespace Go.Proofs.Ytfpbllkkilkjfaa.Qu
open Go.RowKit
set_option linter.unusedVariables false
set_option maxRecDepth 100000
theorem leave_nil (w : World) (id : Int) : Calls Try.prog 15 #[.pointer none, .int .i64 id] w fun e w' => e = .returned (.tuple #[.slice none 0 0, .int .i64 1]) ∧ w' = w := by
  go_enter Try.func15, Try.ntmps15
  go_wp2_with (go_at_call 29; refine (made_nil _).mono ?_; rintro e w' ⟨rfl, hw⟩; rw [hw]; clear hw w')
  go_ret2
  exact ⟨rfl, rfl⟩
end Go.Proofs.Ytfpbllkkilkjfaa.Qu

/-
  Look, Line.
-/
namespace Go.Proofs.Ytfpbllkkilkjfaa.Qu
open Go.RowKit
set_option linter.unusedVariables false
set_option maxRecDepth 100000
def lookV (a b c : Int) : Value := .agg #[.int .i64 a, .int .i64 b, .int .i64 c]
/-- A look in memory. -/
def Lx (w : World) (k : Nat) (a b c : Int) : Prop := w.heap[k]? = some (.cells #[.int .i64 a, .int .i64 b, .int .i64 c] 50 (0, 0))
theorem Lx.new (w : World) (a b c : Int) : Lx (w.alloc (.cells #[.int .i64 a, .int .i64 b, .int .i64 c] 50)) w.heap.size a b c := heap_alloc_new _ _
theorem Lx.cells {w : World} {k : Nat} {a b c : Int} (h : Lx w k a b c) : w.cell? ⟨k, 0, none⟩ = some (.int .i64 a) ∧ w.cell? ⟨k, 1, none⟩ = some (.int .i64 b) ∧ w.cell? ⟨k, 2, none⟩ = some (.int .i64 c) := ⟨by rw [cell_of h]; rfl, by rw [cell_of h]; rfl, by rw [cell_of h]; rfl⟩
theorem Lx.frozen {w : World} {k : Nat} {a b c : Int} (h : Lx w k a b c) (j : Nat) : w.frozen? ⟨k, j, none⟩ = false := by
  unfold Lx at h
  simp [World.frozen?, h]
theorem Lx.all {w : World} {k : Nat} {a b c : Int} (h : Lx w k a b c) (x y z : Int) : Lx (((w.setCell ⟨k, 0, none⟩ (.int .i64 x)).setCell ⟨k, 1, none⟩ (.int .i64 y)).setCell ⟨k, 2, none⟩ (.int .i64 z)) k x y z := by
  unfold Lx at *
  have h1 : (w.setCell ⟨k, 0, none⟩ (.int .i64 x)).heap[k]? = some (.cells #[.int .i64 x, .int .i64 b, .int .i64 c] 50 (0, 0)) := by rw [heap_setCell_same w k 0 _ _ _ h]; rfl
  have h2 : ((w.setCell ⟨k, 0, none⟩ (.int .i64 x)).setCell ⟨k, 1, none⟩ (.int .i64 y)).heap[k]? = some (.cells #[.int .i64 x, .int .i64 y, .int .i64 c] 50 (0, 0)) := by rw [heap_setCell_same _ k 1 _ _ _ h1]; rfl
  rw [heap_setCell_same _ k 2 _ _ _ h2]; rfl
theorem lookSize : (Try.prog.info? 50).map (·.size) = some 3 := by kernel_rfl
theorem below_three {w w1 : World} (h : Below w.heap.size w w1) (k : Nat) (hk : w.heap.size ≤ k) (x y z : Value) : Below w.heap.size w (((w1.setCell ⟨k, 0, none⟩ x).setCell ⟨k, 1, none⟩ y).setCell ⟨k, 2, none⟩ z) := below_block h (World.grownBy.trans (grown_two _ _ _ _ _ _) (grown_setCell _ _ _ _)) hk
theorem look_any (w : World) (b : Nat) (q : Q) (v vl : Value) (hq : QA w b q v vl) (ok : Ok q) : Calls Try.prog 20 #[.pointer (some ⟨b, 0, none⟩)] w fun e w' => e = .returned (lookV q.H.length (sumS q.H) q.L.length) ∧ Below w.heap.size w w' := by
  obtain ⟨R, f, h⟩ := hq
  have B1 := box_below w (.cells #[.int .i64 0, .int .i64 0, .int .i64 0] 50)
  have X1 : Lx (w.alloc (.cells #[.int .i64 0, .int .i64 0, .int .i64 0] 50)) w.heap.size 0 0 0 := Lx.new w 0 0 0
  have h1 := h.below B1
  have HM := hide (made_any _ b _ v vl h1 ok.c1)
  obtain ⟨-, -, -, -, c4, c5, c6⟩ := h1.cells
  obtain ⟨s0, s1, s2⟩ := X1.cells
  have y0 := X1.frozen 0
  have y1 := X1.frozen 1
  have y2 := X1.frozen 2
  have FIN := hide (X1.all q.H.length (sumS q.H) q.L.length)
  have FB := hide (fun x y z => below_three B1 w.heap.size (Nat.le_refl _) x y z)
  obtain ⟨va, vc, hvl, _, _⟩ := h.line.form
  obtain ⟨w1, hw1⟩ : ∃ w1, Hid (w.alloc (.cells #[.int .i64 0, .int .i64 0, .int .i64 0] 50) = w1) := ⟨_, rfl⟩
  simp only at c4 c5 c6 hvl
  subst hvl
  rw [hw1.out] at HM c4 c5 c6 s0 s1 s2 y0 y1 y2 FIN FB
  clear h h1 ok B1 X1
  unfold lookV
  obtain ⟨cap, bytes, H, L⟩ := q
  simp only at *
  obtain ⟨hl, hhl⟩ : ∃ hl, Hid ((H.length : Int) = hl) := ⟨_, rfl⟩
  obtain ⟨us, hus⟩ : ∃ us, Hid (sumS H = us) := ⟨_, rfl⟩
  obtain ⟨n, hn⟩ : ∃ n, Hid (L.length = n) := ⟨_, rfl⟩
  rw [hhl.out] at c4 FIN ⊢
  rw [hus.out] at c5 FIN ⊢
  rw [hn.out] at c6 FIN ⊢
  go_enter Try.func20, Try.ntmps20
  go_upto_region 1 with fail
  rw [hw1.out]
  go_upto_region 3 with (go_at_call 29; refine HM.out.mono ?_; rintro e w' ⟨rfl, hw⟩; rw [hw]; clear hw w')
  go_region
  go_wp2_with fail
  try simp only [Exit.inBlock, Exit.then]
  refine bodyPost_ret (v := .agg _) (results_cell_row rfl _ _ w.heap.size 50 _ (0, 0) _ rfl FIN.out Try.underlying50 rfl lookSize) rfl ?_
  exact ⟨rfl, (FB.out _ _ _).drew⟩
theorem look_nil (w : World) : Calls Try.prog 20 #[.pointer none] w fun e w' => e = .returned (lookV 0 0 0) ∧ Below w.heap.size w w' := by
  have B1 := box_below w (.cells #[.int .i64 0, .int .i64 0, .int .i64 0] 50)
  have X1 : Lx (w.alloc (.cells #[.int .i64 0, .int .i64 0, .int .i64 0] 50)) w.heap.size 0 0 0 := Lx.new w 0 0 0
  obtain ⟨s0, s1, s2⟩ := X1.cells
  have y0 := X1.frozen 0
  have y1 := X1.frozen 1
  have y2 := X1.frozen 2
  have FIN := hide (X1.all 0 0 0)
  have FB := hide (fun x y z => below_three B1 w.heap.size (Nat.le_refl _) x y z)
  obtain ⟨w1, hw1⟩ : ∃ w1, Hid (w.alloc (.cells #[.int .i64 0, .int .i64 0, .int .i64 0] 50) = w1) := ⟨_, rfl⟩
  rw [hw1.out] at s0 s1 s2 y0 y1 y2 FIN FB
  clear B1 X1
  unfold lookV
  go_enter Try.func20, Try.ntmps20
  go_upto_region 1 with fail
  rw [hw1.out]
  go_wp2_with (go_at_call 29; refine (made_nil _).mono ?_; rintro e w' ⟨rfl, hw⟩; rw [hw]; clear hw w')
  try simp only [Exit.inBlock, Exit.then]
  refine bodyPost_ret (v := .agg _) (results_cell_row rfl _ _ w.heap.size 50 _ (0, 0) _ rfl FIN.out Try.underlying50 rfl lookSize) rfl ?_
  exact ⟨rfl, FB.out _ _ _⟩
theorem line_nil (w : World) : Calls Try.prog 21 #[.pointer none] w fun e w' => e = .returned (.slice none 0 0) ∧ w' = w := by
  go_enter Try.func21, Try.ntmps21
  go_wp2_with (go_at_call 29; refine (made_nil _).mono ?_; rintro e w' ⟨rfl, hw⟩; rw [hw]; clear hw w')
  go_ret
  exact ⟨rfl, rfl⟩
theorem clear_nil (w : World) : Calls Try.prog 17 #[.pointer none] w fun e w' => e = .returned (.slice none 0 0) ∧ w' = w := by
  go_enter Try.func17, Try.ntmps17
  go_wp2_with (go_at_call 29; refine (made_nil _).mono ?_; rintro e w' ⟨rfl, hw⟩; rw [hw]; clear hw w')
  go_ret
  exact ⟨rfl, rfl⟩
end Go.Proofs.Ytfpbllkkilkjfaa.Qu

/-
  A queue of the call's own; begun; the nil queue.
-/
namespace Go.Proofs.Ytfpbllkkilkjfaa.Qu
open Go.RowKit
set_option linter.unusedVariables false
set_option maxRecDepth 100000
/-- At block b lies the queue q, made since w. -/
def Mine (w u : World) (b : Nat) (q : Q) : Prop := ∃ v vl, QA u b q v vl ∧ Ok q ∧ Below w.heap.size w u ∧ ∀ k, Own b v vl k → w.heap.size ≤ k
theorem Mine.below {w u u' : World} {b : Nat} {q : Q} (h : Mine w u b q) (hb : Below u.heap.size u u') : Mine w u' b q := by
  obtain ⟨v, vl, h1, h2, h3, h4⟩ := h
  exact ⟨v, vl, h1.below hb, h2, h3.trans (hb.mono h3.size), h4⟩
theorem Mine.bel {w u : World} {b : Nat} {q : Q} (h : Mine w u b q) : Below w.heap.size w u := by obtain ⟨v, vl, h1, h2, h3, h4⟩ := h; exact h3
theorem Mine.ok {w u : World} {b : Nat} {q : Q} (h : Mine w u b q) : Ok q := by obtain ⟨v, vl, h1, h2, h3, h4⟩ := h; exact h2
theorem Mine.step {w u u' : World} {b : Nat} {q' : Q} {v vl v' vl' : Value} (h3 : Below w.heap.size w u) (h4 : ∀ k, Own b v vl k → w.heap.size ≤ k) (hq : QA u' b q' v' vl') (ok : Ok q') (hs : Stp b v vl v' vl' u u') : Mine w u' b q' :=
  ⟨v', vl', hq, ok, h3.trans (hs.1.below h3.size h4), fun k hk => (hs.2 k hk).elim (h4 k) fun e => Nat.le_trans h3.size e⟩
def q0 (cap bytes : Int) : Q := ⟨cap, bytes, [], []⟩
theorem q0_ok {cap bytes : Int} (h : mayB cap bytes) : Ok (q0 cap bytes) := by
  obtain ⟨h1, h2, h3, h4⟩ := h
  exact ⟨h1, h2, h3, h4, by show ((0 : Nat) : Int) ≤ cap; omega, by show (0 : Int) ≤ bytes; omega, by simp [q0], by simp [q0], by simp [q0]⟩
theorem mine_new (w u : World) (hw : Below w.heap.size w u) (cap bytes : Int) (h : mayB cap bytes) : Calls Try.prog 7 #[.int .i64 cap, .int .i64 bytes] u fun e u' => e = .returned (.tuple #[.pointer (some ⟨u.heap.size, 0, none⟩), .int .i64 0]) ∧ Mine w u' u.heap.size (q0 cap bytes) := by
  refine (new_any u cap bytes h).mono ?_
  rintro e u' ⟨rfl, h1, h2⟩
  refine ⟨rfl, _, _, ⟨[], 0, h1⟩, q0_ok h, hw.trans (h2.mono hw.size), ?_⟩
  rintro k (rfl | e | e)
  · exact hw.size
  · simp [Value.ownBlock] at e
  · simp [Value.ownBlock] at e
theorem Mine.put {w u : World} {b : Nat} {q : Q} (h : Mine w u b q) (id s : Int) : Calls Try.prog 9 #[.pointer (some ⟨b, 0, none⟩), .int .i64 id, .int .i64 s] u fun e u' => e = .returned (.tuple #[.bool (putQ q id s).1, .int .i64 (putQ q id s).2.1]) ∧ Mine w u' b (putQ q id s).2.2 := by
  obtain ⟨v, vl, h1, h2, h3, h4⟩ := h
  refine (put_any u b q v vl id s h1 h2).mono ?_
  rintro e u' ⟨rfl, v', vl', k1, k2⟩
  exact ⟨rfl, Mine.step h3 h4 k1 (put_ok h2 id s) k2⟩
theorem Mine.take {w u : World} {b : Nat} {q : Q} (h : Mine w u b q) (most bytes : Int) : Calls Try.prog 11 #[.pointer (some ⟨b, 0, none⟩), .int .i64 most, .int .i64 bytes] u fun e u' => ∃ ov idv, e = .returned (.tuple #[ov, idv]) ∧ Mine w u' b (takeQ q most bytes).2.2 ∧ Itb u.heap.size u' ov (takeQ q most bytes).1 ∧ Ids u.heap.size u' idv (takeQ q most bytes).2.1 := by
  obtain ⟨v, vl, h1, h2, h3, h4⟩ := h
  refine (take_any u b q v vl most bytes h1 h2).mono ?_
  rintro e u' ⟨ov, idv, v', vl', rfl, k1, k2, k3, k4⟩
  exact ⟨ov, idv, rfl, Mine.step h3 h4 k1 (take_ok h2 most bytes) k2, k3, k4⟩
theorem Mine.look {w u : World} {b : Nat} {q : Q} (h : Mine w u b q) : Calls Try.prog 20 #[.pointer (some ⟨b, 0, none⟩)] u fun e u' => e = .returned (lookV q.H.length (sumS q.H) q.L.length) ∧ Below u.heap.size u u' := by
  obtain ⟨v, vl, h1, h2, h3, h4⟩ := h
  exact look_any u b q v vl h1 h2
theorem Ids.cell {B : Nat} {w : World} {v : Value} {l : List Int} (h : Ids B w v l) {x : Int} {r : List Int} (hl : l = x :: r) : ∃ gb ca, v = .slice (some ⟨gb, 0, none⟩) l.length ca ∧ w.cell? ⟨gb, 0, none⟩ = some (.int .i64 x) := by
  rcases h.2 with ⟨_, e⟩ | ⟨gb, cap, cur, rfl, hg, hh, q1, q2, q3, q4⟩
  · rw [hl] at e; simp at e
  · refine ⟨gb, cap, rfl, ?_⟩
    rw [cell_of hh]
    have h0 : (cur.toList.take (l.length * 1))[0]? = cur.toList[0]? := List.getElem?_take_of_lt (by rw [hl]; simp)
    rw [← Array.getElem?_toList, ← h0, q4, hl]
    rfl
set_option maxHeartbeats 2000000 in
theorem begun_any (w : World) : Calls Try.prog 6 #[] w fun e w' => e = .returned (.bool true) ∧ Below w.heap.size w w' := by
  have NW := hide (mine_new w w (Below.refl _ _) 2 100 (by decide))
  have p1 : Hid (putQ (q0 2 100) 1 60 = (true, 0, ⟨2, 100, [(1, 60)], []⟩)) := rfl
  have p2 : Hid (putQ ⟨2, 100, [(1, 60)], []⟩ 2 50 = (false, 0, ⟨2, 100, [(1, 60)], [(2, 50)]⟩)) := rfl
  have p3 : Hid (putQ ⟨2, 100, [(1, 60)], [(2, 50)]⟩ 2 1 = (false, 7, ⟨2, 100, [(1, 60)], [(2, 50)]⟩)) := rfl
  have p4 : Hid (takeQ ⟨2, 100, [(1, 60)], [(2, 50)]⟩ 5 10 = ([(1, 60)], [2], ⟨2, 100, [(2, 50)], []⟩)) := rfl
  have P1 : Hid (∀ u, Mine w u w.heap.size (q0 2 100) → Calls Try.prog 9 #[.pointer (some ⟨w.heap.size, 0, none⟩), .int .i64 1, .int .i64 60] u fun e u' => e = .returned (.tuple #[.bool true, .int .i64 0]) ∧ Mine w u' w.heap.size ⟨2, 100, [(1, 60)], []⟩) := fun u h => by have := h.put 1 60; rwa [p1.out] at this
  have P2 : Hid (∀ u, Mine w u w.heap.size ⟨2, 100, [(1, 60)], []⟩ → Calls Try.prog 9 #[.pointer (some ⟨w.heap.size, 0, none⟩), .int .i64 2, .int .i64 50] u fun e u' => e = .returned (.tuple #[.bool false, .int .i64 0]) ∧ Mine w u' w.heap.size ⟨2, 100, [(1, 60)], [(2, 50)]⟩) := fun u h => by have := h.put 2 50; rwa [p2.out] at this
  have P3 : Hid (∀ u, Mine w u w.heap.size ⟨2, 100, [(1, 60)], [(2, 50)]⟩ → Calls Try.prog 9 #[.pointer (some ⟨w.heap.size, 0, none⟩), .int .i64 2, .int .i64 1] u fun e u' => e = .returned (.tuple #[.bool false, .int .i64 7]) ∧ Mine w u' w.heap.size ⟨2, 100, [(1, 60)], [(2, 50)]⟩) := fun u h => by have := h.put 2 1; rwa [p3.out] at this
  have P4 : Hid (∀ u, Mine w u w.heap.size ⟨2, 100, [(1, 60)], [(2, 50)]⟩ → Calls Try.prog 11 #[.pointer (some ⟨w.heap.size, 0, none⟩), .int .i64 5, .int .i64 10] u fun e u' => ∃ ob oc ib ic, e = .returned (.tuple #[.slice (some ⟨ob, 0, none⟩) 1 oc, .slice (some ⟨ib, 0, none⟩) 1 ic]) ∧ Mine w u' w.heap.size ⟨2, 100, [(2, 50)], []⟩ ∧ u'.cell? ⟨ob, 0, none⟩ = some (.int .i64 1) ∧ u'.cell? ⟨ib, 0, none⟩ = some (.int .i64 2)) := fun u h => by
    have := h.take 5 10
    rw [p4.out] at this
    refine this.mono ?_
    rintro e u' ⟨ov, idv, rfl, m1, m2, m3⟩
    obtain ⟨ob, oc, cs, rfl, _⟩ := m2.its.at (by simp)
    obtain ⟨r0, -⟩ := m2.its.read 0 (by simp)
    obtain ⟨ib, ic, rfl, r1⟩ := m3.cell rfl
    exact ⟨ob, oc, ib, ic, rfl, m1, r0, r1⟩
  have P5 : Hid (∀ u, Mine w u w.heap.size ⟨2, 100, [(2, 50)], []⟩ → Calls Try.prog 20 #[.pointer (some ⟨w.heap.size, 0, none⟩)] u fun e u' => e = .returned (.agg #[.int .i64 1, .int .i64 50, .int .i64 0]) ∧ Below w.heap.size w u') := fun u h => by
    refine h.look.mono ?_
    rintro e u' ⟨rfl, hb⟩
    exact ⟨rfl, h.bel.trans (hb.mono h.bel.size)⟩
  have hq : ∀ u : World, (binOp .eql 50 (.agg #[.int .i64 1, .int .i64 50, .int .i64 0]) (.agg #[.int .i64 1, .int .i64 50, .int .i64 0])).run Try.prog u = .ok (.bool true) u := fun u => by kernel_rfl
  clear p1 p2 p3 p4
  go_enter Try.func6, Try.ntmps6
  go_upto_region 4 with (go_at_call 7; refine NW.out.mono ?_; rintro e u1 ⟨rfl, m1⟩; replace m1 := hide m1)
  go_upto_region 5 with (go_at_call 9; refine (P1.out u1 m1.out).mono ?_; rintro e u2 ⟨rfl, m2⟩; replace m2 := hide m2)
  go_upto_region 6 with (go_at_call 9; refine (P2.out u2 m2.out).mono ?_; rintro e u3 ⟨rfl, m3⟩; replace m3 := hide m3)
  go_upto_region 7 with (go_at_call 9; refine (P3.out u3 m3.out).mono ?_; rintro e u4 ⟨rfl, m4⟩; replace m4 := hide m4)
  go_upto_region 8 with (go_at_call 11; refine (P4.out u4 m4.out).mono ?_; rintro e u5 ⟨ob, oc, ib, ic, rfl, m5, r0, r1⟩; replace m5 := hide m5)
  go_wp2_with (go_at_call 20; refine (P5.out u5 m5.out).mono ?_; rintro e u6 ⟨rfl, m6⟩; replace m6 := hide m6)
  go_ret
  exact ⟨rfl, m6.out⟩
set_option maxHeartbeats 2000000 in
theorem none_walk (w : World) (id n m : Int) : Calls Try.prog 5 #[.int .i64 id, .int .i64 n, .int .i64 m] w fun e w' => e = .returned (.bool true) ∧ Below w.heap.size w w' := by
  have hq : ∀ u : World, (binOp .eql 50 (.agg #[.int .i64 0, .int .i64 0, .int .i64 0]) (.agg #[.int .i64 0, .int .i64 0, .int .i64 0])).run Try.prog u = .ok (.bool true) u := fun u => by kernel_rfl
  go_enter Try.func5, Try.ntmps5
  go_upto_region 4 with (go_at_call 6; refine (begun_any _).mono ?_; rintro e u1 ⟨rfl, b1⟩; replace b1 := hide b1)
  have LK := hide (look_nil u1)
  unfold lookV at LK
  go_wp2_with (first | (go_at_call 9; refine (put_nil _ _ _).mono ?_; rintro e w' ⟨rfl, hw⟩; rw [hw]; clear hw w') | (go_at_call 11; refine (take_nil _ _ _).mono ?_; rintro e w' ⟨rfl, hw⟩; rw [hw]; clear hw w') | (go_at_call 15; refine (leave_nil _ _).mono ?_; rintro e w' ⟨rfl, hw⟩; rw [hw]; clear hw w') | (go_at_call 17; refine (clear_nil _).mono ?_; rintro e w' ⟨rfl, hw⟩; rw [hw]; clear hw w') | (go_at_call 20; refine LK.out.mono ?_; rintro e u2 ⟨rfl, b2⟩; replace b2 := hide b2) | (go_at_call 22; refine (held_nil _).mono ?_; rintro e w' ⟨rfl, hw⟩; rw [hw]; clear hw w') | (go_at_call 21; refine (line_nil _).mono ?_; rintro e w' ⟨rfl, hw⟩; rw [hw]; clear hw w'))
  go_ret
  exact ⟨rfl, keepF b1.out b2.out⟩
end Go.Proofs.Ytfpbllkkilkjfaa.Qu

