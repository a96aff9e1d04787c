/-
  goOut: the first ones go. (gen_QuQ.py)
-/
import Derived.Test.YtfoleeamhhodaaaA02
namespace Go.Proofs.Ytfoleeamhhodaaa.Qu
open Go.RowKit
set_option linter.unusedVariables false
set_option maxRecDepth 100000
/-- How many go out. -/
def outC (most bytes : Int) : Nat → Int → List Itm → Nat
  | _, _, [] => 0
  | c, t, x :: r => if (c : Int) < most ∧ (c = 0 ∨ t + x.2 ≤ bytes) then outC most bytes (c + 1) (t + x.2) r + 1 else 0
def lenV : Value → Nat
  | .slice _ n _ => n
  | _ => 0
theorem out_le (most bytes : Int) (H : List Itm) : ∀ c t, outC most bytes c t H ≤ H.length := by
  induction H with
  | nil => intro c t; exact Nat.le_refl _
  | cons x r ih =>
    intro c t
    unfold outC
    split
    · have := ih (c + 1) (t + x.2); simp; omega
    · simp
theorem out_low (most bytes : Int) (H : List Itm) : ∀ c t j, j < outC most bytes c t H → ((c + j : Nat) : Int) < most ∧ (c + j = 0 ∨ t + sumS (H.take j) + (g H j).2 ≤ bytes) := by
  induction H with
  | nil => intro c t j hj; simp [outC] at hj
  | cons x r ih =>
    intro c t j hj
    unfold outC at hj
    split at hj
    · rename_i hr
      match j with
      | 0 => rw [g_zero]; simpa [sumS] using hr
      | j + 1 =>
        rw [g_cons, List.take_succ_cons, sumS_cons]
        have := ih (c + 1) (t + x.2) j (by omega)
        refine ⟨by have := this.1; omega, .inr ?_⟩
        rcases this.2 with e | e
        · omega
        · omega
    · omega
theorem out_at (most bytes : Int) (H : List Itm) : ∀ c t, outC most bytes c t H < H.length → ¬ (((c + outC most bytes c t H : Nat) : Int) < most ∧ (c + outC most bytes c t H = 0 ∨ t + sumS (H.take (outC most bytes c t H)) + (g H (outC most bytes c t H)).2 ≤ bytes)) := by
  induction H with
  | nil => intro c t hj; simp at hj
  | cons x r ih =>
    intro c t hj
    unfold outC at hj ⊢
    split at hj
    · rename_i hr
      rw [if_pos hr, g_cons, List.take_succ_cons, sumS_cons]
      have := ih (c + 1) (t + x.2) (by simpa using hj)
      intro ⟨h1, h2⟩
      refine this ⟨by omega, ?_⟩
      rcases h2 with e | e
      · omega
      · exact .inr (by omega)
    · rename_i hr
      rw [if_neg hr, g_zero]
      simpa [sumS] using hr
def outN (q : Q) (most bytes : Int) : Nat := outC most bytes 0 0 q.H
def outQ (q : Q) (most bytes : Int) : List Itm × Q := (q.H.take (outN q most bytes), ⟨q.cap, q.bytes, q.H.drop (outN q most bytes), q.L⟩)
theorem sum_split (l : List Itm) (i : Nat) : sumS l = sumS (l.take i) + sumS (l.drop i) := by rw [← sumS_app, List.take_append_drop]
theorem out_ok {q : Q} (h : Ok q) (most bytes : Int) : Ok (outQ q most bytes).2 := by
  have hs := sum_split q.H (outN q most bytes)
  have h1 : 0 ≤ sumS (q.H.take (outN q most bytes)) := sumS_nonneg fun x hx => (h.sz x (List.mem_of_mem_take hx)).1
  have := h.us
  have := h.hl
  exact ⟨h.c1, h.c2, h.b1, h.b2, by show ((q.H.drop _).length : Int) ≤ q.cap; rw [List.length_drop]; omega, by show sumS (q.H.drop _) ≤ q.bytes; omega, h.ln, fun x hx => h.sz x (List.mem_of_mem_drop hx), h.szL⟩
theorem wpList_append_runI {w : World} {ops : Array Oper} {rest : List Oper} {o : Oper} {a : Act} {Q : Exit → Act → World → Prop} (hgd : o.guard = none) (s x : Operand) {vs vx v' : Value} {w' : World}
    (ho : o.op = .call { callee := .builtin .append, args := #[s, x], argTypes := #[35, 35] }) (hs : a.eval s = vs) (hx : a.eval x = vx)
    (hr : (Builtin.append_ #[35, 35] o.type #[vs, vx]).run Try.prog w = .ok v' w') (h : wpList Try.prog ops Q rest (a.put o.dst v') w') : wpList Try.prog ops Q (o :: rest) a w := by
  refine wpList_plain hgd fun K hK => ?_
  exact Lib.wp_append_run _ s x 35 35 ho vs vx hs hx v' w' hr (hK _ _ h)
/-- Behind i that went. -/
def Go_ (w wr : World) (b : Nat) (q : Q) (v vl ov : Value) (i : Nat) : Prop :=
  ∃ R f, At wr b ⟨q.cap, q.bytes, sumS q.H, R, f, q.H.drop i, q.L⟩ v vl ∧ Stp b v vl v vl w wr ∧ Itb w.heap.size wr ov (q.H.take i)
theorem Go_.below {w wr w1 : World} {b : Nat} {q : Q} {v vl ov : Value} {i : Nat} (h : Go_ w wr b q v vl ov i) (hb : Below wr.heap.size wr w1) : Go_ w w1 b q v vl ov i := by
  obtain ⟨R, f, h1, h2, h3⟩ := h
  exact ⟨R, f, h1.below hb, h2.trans (Stp.below hb), h3.below hb⟩
theorem Go_.next {w w4 w6 : World} {b : Nat} {q : Q} {v vl ov v6 : Value} {i : Nat} {R : List Itm} {f : Nat} {o : Obj} (hi : i < q.H.length) (hlt : ∀ k, Own b v vl k → k < w.heap.size) (hA : At w4 b ⟨q.cap, q.bytes, sumS q.H, R, f, q.H.drop (i + 1), q.L⟩ v vl) (hS : Stp b v vl v vl w w4) (hI : Itb w.heap.size w4 ov (q.H.take i))
    (h6 : Itb w.heap.size w6 v6 (q.H.take i ++ [g q.H i])) (hg : (w4.alloc o).grownBy w6 ov.ownBlock) : Go_ w w6 b q v vl v6 (i + 1) := by
  have b5 := box_below w4 o
  have gb : But (fun k => ov.ownBlock = some k) (w4.alloc o) w6 := But.of_grownBy hg fun k e => e
  refine ⟨R, f, ?_, ?_, ?_⟩
  · exact (hA.below b5).but gb fun k hk e => by
      have h1 := hlt k hk
      have h2 := (hI.lt k e).1
      omega
  · refine ⟨⟨gb.os.trans ((But.of_below b5 (fun _ => False)).os.trans hS.1.os), gb.tape.trans ((But.of_below b5 (fun _ => False)).tape.trans hS.1.tape), gb.output.trans ((But.of_below b5 (fun _ => False)).output.trans hS.1.output), Nat.le_trans hS.1.size (Nat.le_trans b5.size gb.size), fun k hk hx => ?_⟩, hS.2⟩
    rw [gb.block k (Nat.lt_of_lt_of_le hk (Nat.le_trans hS.1.size b5.size)) (fun e => by have := (hI.lt k e).1; omega), b5.block k (Nat.lt_of_lt_of_le hk hS.1.size)]
    exact hS.1.block k hk hx
  · rw [← list_take hi]
    exact h6
set_option maxHeartbeats 4000000 in
theorem goOut_any (w : World) (b : Nat) (q : Q) (v vl : Value) (most bytes : Int) (hq : QA w b q v vl) (ok : Ok q) :
    Calls Try.prog 30 #[.pointer (some ⟨b, 0, none⟩), .int .i64 most, .int .i64 bytes] w fun e w' => ∃ ov, e = .returned ov ∧ QA w' b (outQ q most bytes).2 v vl ∧ Stp b v vl v vl w w' ∧ Itb w.heap.size w' ov (outQ q most bytes).1 := by
  have hlt := hide hq.lt
  have hbl : Hid (b < w.heap.size) := hq.lt b (.inl rfl)
  have H0 : Hid (Go_ w w b q v vl (.slice none 0 0) 0) := by
    obtain ⟨R, f, h⟩ := hq
    exact ⟨R, f, by simpa using h, Stp.refl _ _ _ _, World.ownsRow_nil _ _ _ _⟩
  have HLo := hide (out_low most bytes q.H 0 0)
  have HAt := hide (out_at most bytes q.H 0 0)
  have hKN := hide (out_le most bytes q.H 0 0)
  have hsum : Hid (∀ i, sumS (q.H.take i) ≤ 16777216 ∧ 0 ≤ sumS (q.H.take i) ∧ sumS q.H - sumS (q.H.take i) = sumS (q.H.drop i)) := by
    intro i
    have h1 := sum_split q.H i
    have h2 : 0 ≤ sumS (q.H.take i) := sumS_nonneg fun x hx => (ok.sz x (List.mem_of_mem_take hx)).1
    have h3 : 0 ≤ sumS (q.H.drop i) := sumS_nonneg fun x hx => (ok.sz x (List.mem_of_mem_drop hx)).1
    have := ok.us
    have := ok.b2
    omega
  have hsw : Hid (∀ i, wrap64 (sumS (q.H.drop i)) = sumS (q.H.drop i)) := by
    intro i
    have h1 := sum_split q.H i
    have h2 : 0 ≤ sumS (q.H.take i) := sumS_nonneg fun x hx => (ok.sz x (List.mem_of_mem_take hx)).1
    have h3 : 0 ≤ sumS (q.H.drop i) := sumS_nonneg fun x hx => (ok.sz x (List.mem_of_mem_drop hx)).1
    have := ok.us
    have := ok.b2
    unfold wrap64
    omega
  have hHl : Hid (q.H.length ≤ 1024) := by have := ok.hl; have := ok.c2; show _ ≤ _; omega
  have hsz := hide ok.sz
  have hb2 := hide ok.b2
  unfold outQ
  simp only
  obtain ⟨K, hK⟩ : ∃ K, Hid (outN q most bytes = K) := ⟨_, rfl⟩
  have eK : outC most bytes 0 0 q.H = K := hK.out
  rw [eK] at HLo HAt hKN
  rw [hK.out]
  clear eK hq ok
  go_enter Try.func30, Try.ntmps30
  go_wp2_with fail
  go_loopw [7, 8] (fun s7 s8 wr => ∃ i : Nat, s8 = .int .i64 (sumS (q.H.take i)) ∧ i ≤ K ∧ Hid (Go_ w wr b q v vl s7 i)) (fun s7 s8 wr => q.H.length - lenV s7)
  case atStart => exact ⟨0, rfl, Nat.zero_le _, H0.out⟩
  case round =>
    obtain ⟨i, rfl, hiK, hst⟩ := hrel
    obtain ⟨R1, f1, A1, S1, I1⟩ := hst.out
    obtain ⟨ai, ci, hidv, p1, p2⟩ := I1.its.form
    clear p1 p2
    have lki : (q.H.take i).length = i := by rw [List.length_take]; exact Nat.min_eq_left (Nat.le_trans hiK hKN.out)
    rw [lki] at hidv
    subst hidv
    obtain ⟨-, -, -, -, c4, -⟩ := A1.cells
    simp only [List.length_drop] at c4
    by_cases hin : i < q.H.length
    · have hc0 : ((q.H.length - i : Nat) : Int) > 0 := by omega
      by_cases hm : (i : Int) < most
      · have hd : q.H.drop i = g q.H i :: q.H.drop (i + 1) := by rw [← g_get hin]; exact List.drop_eq_getElem_cons hin
        have hrg := A1.rg
        simp only [hd] at hrg
        obtain ⟨hf, hx⟩ := hrg.first
        have CF := hide (first_any wr b _ v vl A1 hf)
        simp only [hx] at CF
        unfold iv at CF
        have hxs := hsz.out (g q.H i) (by rw [← g_get hin]; exact List.getElem_mem hin)
        have hk2 := hsum.out i
        have hb2' := hb2.out
        have ew : wrap64 (sumS (q.H.take i) + (g q.H i).2) = sumS (q.H.take i) + (g q.H i).2 := by unfold wrap64; omega
        have fld : ∀ (a c : Int) (u : World), (Instr.field 48 (.agg #[.int .i64 a, .int .i64 c]) 1).run Try.prog u = .ok (.int .i64 c) u := fun a c u => by kernel_rfl
        clear hxs hk2 hb2'
        by_cases hg : i = 0 ∨ sumS (q.H.take i) + (g q.H i).2 ≤ bytes
        · have hlK : i < K := by
            rcases Nat.lt_or_ge i K with h | h
            · exact h
            · exfalso
              obtain rfl : i = K := Nat.le_antisymm hiK h
              exact HAt.out hin ⟨by simpa using hm, by simpa using hg⟩
          have PO : Hid (∀ w2, Below wr.heap.size wr w2 → Calls Try.prog 43 #[.pointer (some ⟨b, 2, none⟩)] w2 fun e w4 => e = .returned (.agg #[.int .i64 (g q.H i).1, .int .i64 (g q.H i).2]) ∧ ∃ R2 f2, Hid (At w4 b ⟨q.cap, q.bytes, sumS q.H, R2, f2, q.H.drop (i + 1), q.L⟩ v vl ∧ Stp b v vl v vl w w4 ∧ Itb w.heap.size w4 (.slice ai i ci) (q.H.take i))) := by
            intro w2 b2
            have A2 := A1.below b2
            refine (pop_any w2 b _ v vl (g q.H i) (q.H.drop (i + 1)) A2 hd).mono ?_
            rintro e w4 ⟨rfl, k1, k2⟩
            refine ⟨rfl, _, _, k1, ⟨(S1.trans (Stp.below b2)).1.trans (k2.mono fun k _ e => .inl e), fun k hk => .inl hk⟩, (I1.below b2).but k2 fun k hk e => ?_⟩
            have h1 := (I1.lt k hk).1
            have h2 := hbl.out
            omega
          have AP : Hid (∀ w4 R2 f2, (At w4 b ⟨q.cap, q.bytes, sumS q.H, R2, f2, q.H.drop (i + 1), q.L⟩ v vl ∧ Stp b v vl v vl w w4 ∧ Itb w.heap.size w4 (.slice ai i ci) (q.H.take i)) → ∃ v6 ai6 n6 ci6 w6, v6 = Value.slice ai6 n6 ci6 ∧ Hid ((Builtin.append_ #[35, 35] 35 #[.slice ai i ci, .slice (some ⟨w4.heap.size, 0, none⟩) 1 1]).run Try.prog (w4.alloc (.cells #[.int .i64 (g q.H i).1, .int .i64 (g q.H i).2] 48)) = .ok v6 w6) ∧ Hid (Go_ w w6 b q v vl v6 (i + 1) ∧ n6 = i + 1)) := by
            rintro w4 R2 f2 ⟨A4, S4, I4⟩
            have B5 := box_below w4 (.cells #[.int .i64 (g q.H i).1, .int .i64 (g q.H i).2] 48)
            obtain ⟨v6, w6, r6, I6, G6, H6⟩ := run_appI (g q.H i) w4.heap.size (I4.below B5) (Ib.new w4 (g q.H i)) (by rw [lki]; exact Nat.le_trans (Nat.le_of_lt hin) (Nat.le_trans hHl.out (by decide))) (Nat.le_trans S4.1.size B5.size) 35
            obtain ⟨ai6, ci6, e6, _, _⟩ := I6.its.form
            have l6 : (q.H.take i ++ [g q.H i]).length = i + 1 := by rw [List.length_append, lki]; rfl
            exact ⟨v6, ai6, _, ci6, w6, e6, r6, Go_.next hin hlt.out A4 S4 I4 I6 G6, l6⟩
          clear A1 S1 I1 hst hrg hx hf HLo HAt hd
          by_cases hi0 : i = 0
          · have hgi' : ¬ (i : Int) > 0 := by omega
            clear hg hi0
            go_upto_region 6 with (go_at_call 42; refine CF.out.mono ?_; rintro e w2 ⟨rfl, b2⟩)
            go_wp2_with (first | (go_at_call 43; refine (PO.out w2 b2).mono ?_; rintro e w4 ⟨rfl, R2, f2, hh⟩; obtain ⟨v6, ai6, n6, ci6, w6, hv6, r6, CN⟩ := AP.out w4 R2 f2 hh.out; subst hv6) | (at_builtin; refine wpList_append_runI rfl (.tmp 37) (.tmp 42) rfl rfl rfl r6.out ?_))
            go_roundw
            case measure => (have h1 := CN.out.2; simp only [lenV]; omega)
            case rel => exact ⟨i + 1, by rw [← list_take hin, sumS_snoc, ew], Nat.succ_le_of_lt hlK, CN.out.1⟩
          · have hgi' : (i : Int) > 0 := by omega
            have hgb : ¬ sumS (q.H.take i) + (g q.H i).2 > bytes := by
              have := hg.resolve_left hi0
              omega
            clear hg hi0
            go_upto_region 6 with (go_at_call 42; refine CF.out.mono ?_; rintro e w2 ⟨rfl, b2⟩)
            go_wp2_with (first | (go_at_call 43; refine (PO.out w2 b2).mono ?_; rintro e w4 ⟨rfl, R2, f2, hh⟩; obtain ⟨v6, ai6, n6, ci6, w6, hv6, r6, CN⟩ := AP.out w4 R2 f2 hh.out; subst hv6) | (at_builtin; refine wpList_append_runI rfl (.tmp 37) (.tmp 42) rfl rfl rfl r6.out ?_))
            go_roundw
            case measure => (have h1 := CN.out.2; simp only [lenV]; omega)
            case rel => exact ⟨i + 1, by rw [← list_take hin, sumS_snoc, ew], Nat.succ_le_of_lt hlK, CN.out.1⟩
        · have hgi : 0 < i := Nat.pos_of_ne_zero fun e => hg (.inl e)
          have hgi' : (i : Int) > 0 := by omega
          have hgb : sumS (q.H.take i) + (g q.H i).2 > bytes := by
            have := fun e => hg (.inr e)
            omega
          obtain rfl : i = K := by
            rcases Nat.lt_or_ge i K with h | h
            · exfalso
              have := (HLo.out i h).2
              exact hg (by simpa using this)
            · exact Nat.le_antisymm hiK h
          have STB : Hid (∀ w2, Below wr.heap.size wr w2 → Go_ w w2 b q v vl (.slice ai i ci) i) := fun w2 b2 => hst.out.below b2
          clear A1 S1 I1 hst hg hrg hx hf HLo HAt hd
          go_upto_region 8 with (go_at_call 42; refine CF.out.mono ?_; rintro e w2 ⟨rfl, b2⟩)
          have ST2 := hide (STB.out w2 b2)
          clear STB CF b2 c4
          obtain ⟨R', f', A5, S5, I5⟩ := ST2.out
          obtain ⟨-, -, -, -, -, c5, -⟩ := A5.cells
          have g5 := A5.frozen 5
          simp only at c5
          have hK2 : sumS (q.H.take i) ≤ 16777216 ∧ 0 ≤ sumS (q.H.take i) ∧ sumS q.H - sumS (q.H.take i) = sumS (q.H.drop i) := hsum.out i
          have ews := hsw.out i
          obtain ⟨-, -, hK3⟩ := hK2
          have FIN : Hid (QA (w2.setCell ⟨b, 5, none⟩ (.int .i64 (sumS (q.H.drop i)))) b ⟨q.cap, q.bytes, q.H.drop i, q.L⟩ v vl ∧ Stp b v vl v vl w (w2.setCell ⟨b, 5, none⟩ (.int .i64 (sumS (q.H.drop i)))) ∧ Itb w.heap.size (w2.setCell ⟨b, 5, none⟩ (.int .i64 (sumS (q.H.drop i)))) (.slice ai i ci) (q.H.take i)) := by
            have bb := But.set (w := w2) b 5 (.int .i64 (sumS (q.H.drop i)))
            refine ⟨⟨R', f', A5.re bb ?_ rfl rfl A5.rg⟩, ⟨S5.1.trans (bb.mono fun k _ e => .inl e), S5.2⟩, I5.but bb fun k hk e => ?_⟩
            · rw [heap_setCell_same w2 b 5 _ _ _ A5.box]; rfl
            · have h1 := (I5.lt k hk).1
              have h2 := hbl.out
              omega
          clear A5 S5 I5
          go_wp2_with fail
          go_ret
          exact ⟨_, rfl, FIN.out⟩
      · obtain rfl : i = K := by
          rcases Nat.lt_or_ge i K with h | h
          · exfalso
            have := (HLo.out i h).1
            exact hm (by simpa using this)
          · exact Nat.le_antisymm hiK h
        clear A1 S1 I1 HLo HAt
        go_upto_region 8 with fail
        clear c4
        obtain ⟨R', f', A5, S5, I5⟩ := hst.out
        obtain ⟨-, -, -, -, -, c5, -⟩ := A5.cells
        have g5 := A5.frozen 5
        simp only at c5
        have hK2 : sumS (q.H.take i) ≤ 16777216 ∧ 0 ≤ sumS (q.H.take i) ∧ sumS q.H - sumS (q.H.take i) = sumS (q.H.drop i) := hsum.out i
        have ews := hsw.out i
        obtain ⟨-, -, hK3⟩ := hK2
        have FIN : Hid (QA (wr.setCell ⟨b, 5, none⟩ (.int .i64 (sumS (q.H.drop i)))) b ⟨q.cap, q.bytes, q.H.drop i, q.L⟩ v vl ∧ Stp b v vl v vl w (wr.setCell ⟨b, 5, none⟩ (.int .i64 (sumS (q.H.drop i)))) ∧ Itb w.heap.size (wr.setCell ⟨b, 5, none⟩ (.int .i64 (sumS (q.H.drop i)))) (.slice ai i ci) (q.H.take i)) := by
          have bb := But.set (w := wr) b 5 (.int .i64 (sumS (q.H.drop i)))
          refine ⟨⟨R', f', A5.re bb ?_ rfl rfl A5.rg⟩, ⟨S5.1.trans (bb.mono fun k _ e => .inl e), S5.2⟩, I5.but bb fun k hk e => ?_⟩
          · rw [heap_setCell_same wr b 5 _ _ _ A5.box]; rfl
          · have h1 := (I5.lt k hk).1
            have h2 := hbl.out
            omega
        clear A5 S5 I5
        go_wp2_with fail
        go_ret
        exact ⟨_, rfl, FIN.out⟩
    · obtain rfl : i = K := Nat.le_antisymm hiK (Nat.le_trans hKN.out (Nat.not_lt.1 hin))
      have hc0 : q.H.length - i = 0 := by omega
      rw [hc0] at c4
      clear A1 S1 I1 HLo HAt hc0
      go_upto_region 8 with fail
      clear c4
      obtain ⟨R', f', A5, S5, I5⟩ := hst.out
      obtain ⟨-, -, -, -, -, c5, -⟩ := A5.cells
      have g5 := A5.frozen 5
      simp only at c5
      have hK2 : sumS (q.H.take i) ≤ 16777216 ∧ 0 ≤ sumS (q.H.take i) ∧ sumS q.H - sumS (q.H.take i) = sumS (q.H.drop i) := hsum.out i
      have ews := hsw.out i
      obtain ⟨-, -, hK3⟩ := hK2
      have FIN : Hid (QA (wr.setCell ⟨b, 5, none⟩ (.int .i64 (sumS (q.H.drop i)))) b ⟨q.cap, q.bytes, q.H.drop i, q.L⟩ v vl ∧ Stp b v vl v vl w (wr.setCell ⟨b, 5, none⟩ (.int .i64 (sumS (q.H.drop i)))) ∧ Itb w.heap.size (wr.setCell ⟨b, 5, none⟩ (.int .i64 (sumS (q.H.drop i)))) (.slice ai i ci) (q.H.take i)) := by
        have bb := But.set (w := wr) b 5 (.int .i64 (sumS (q.H.drop i)))
        refine ⟨⟨R', f', A5.re bb ?_ rfl rfl A5.rg⟩, ⟨S5.1.trans (bb.mono fun k _ e => .inl e), S5.2⟩, I5.but bb fun k hk e => ?_⟩
        · rw [heap_setCell_same wr b 5 _ _ _ A5.box]; rfl
        · have h1 := (I5.lt k hk).1
          have h2 := hbl.out
          omega
      clear A5 S5 I5
      go_wp2_with fail
      go_ret
      exact ⟨_, rfl, FIN.out⟩
end Go.Proofs.Ytfoleeamhhodaaa.Qu

/-
  Take, Leave, Look, Line.
-/
namespace Go.Proofs.Ytfoleeamhhodaaa.Qu
open Go.RowKit
open Ix (wp_region_T wpAnyT wpAnyT_take wpAnyT_one wpAnyT_done vac)
set_option linter.unusedVariables false
set_option maxRecDepth 100000
def takeQ (q : Q) (most bytes : Int) : List Itm × List Int × Q := ((outQ q most bytes).1, (comeQ (outQ q most bytes).2).1, (comeQ (outQ q most bytes).2).2)
theorem take_ok {q : Q} (h : Ok q) (most bytes : Int) : Ok (takeQ q most bytes).2.2 := come_ok2 (out_ok h most bytes)
theorem take_any (w : World) (b : Nat) (q : Q) (v vl : Value) (most bytes : Int) (hq : QA w b q v vl) (ok : Ok q) :
    Calls Try.prog 11 #[.pointer (some ⟨b, 0, none⟩), .int .i64 most, .int .i64 bytes] w fun e w' => ∃ ov idv v' vl', e = .returned (.tuple #[ov, idv]) ∧ QA w' b (takeQ q most bytes).2.2 v' vl' ∧ Stp b v vl v' vl' w w' ∧ Itb w.heap.size w' ov (takeQ q most bytes).1 ∧ Ids w.heap.size w' idv (takeQ q most bytes).2.1 := by
  have hlt := hq.lt
  have GO := hide (goOut_any w b q v vl most bytes hq ok)
  have HM : Hid (Calls Try.prog 29 #[.pointer (some ⟨b, 0, none⟩)] w fun e w' => e = .returned (.bool true) ∧ w' = w) := by
    obtain ⟨R, f, h⟩ := hq
    exact made_any w b _ v vl h ok.c1
  have CI : Hid (∀ w2 ov, QA w2 b (outQ q most bytes).2 v vl → Stp b v vl v vl w w2 → Itb w.heap.size w2 ov (outQ q most bytes).1 → Calls Try.prog 31 #[.pointer (some ⟨b, 0, none⟩)] w2 fun e w' => ∃ idv, e = .returned idv ∧ Hid (∃ v' vl', QA w' b (takeQ q most bytes).2.2 v' vl' ∧ Stp b v vl v' vl' w w' ∧ Itb w.heap.size w' ov (takeQ q most bytes).1 ∧ Ids w.heap.size w' idv (takeQ q most bytes).2.1)) := by
    intro w2 ov h1 h2 h3
    refine (comeIn_any w2 b _ v vl h1 (out_ok ok most bytes)).mono ?_
    rintro e w' ⟨idv, v', vl', rfl, k1, k2, k3⟩
    refine ⟨idv, rfl, v', vl', k1, h2.trans k2, h3.but k2.1 fun k hk e => ?_, ?_⟩
    · have := (h3.lt k hk).1
      have := hlt k e
      omega
    · refine ⟨k3.1, ?_⟩
      rcases k3.2 with h | ⟨g, cap, cur, rfl, hg, r⟩
      · exact .inl h
      · exact .inr ⟨g, cap, cur, rfl, Nat.le_trans h2.1.size hg, r⟩
  clear hq ok hlt
  go_enter Try.func11, Try.ntmps11
  go_wp2_with (first | (go_at_call 29; refine HM.out.mono ?_; rintro e w' ⟨rfl, hw⟩; rw [hw]; clear hw w') | (go_at_call 30; refine GO.out.mono ?_; rintro e w2 ⟨ov, rfl, g1, g2, g3⟩; have CC := hide (CI.out w2 ov g1 g2 g3); clear g1 g2 g3) | (go_at_call 31; refine CC.out.mono ?_; rintro e w3 ⟨idv, rfl, hh⟩))
  go_ret2
  obtain ⟨v', vl', k1, k2, k3, k4⟩ := hh.out
  exact ⟨ov, idv, v', vl', rfl, k1, k2, k3, k4⟩
end Go.Proofs.Ytfoleeamhhodaaa.Qu

/-
  Leave, Look, Line.
-/
namespace Go.Proofs.Ytfoleeamhhodaaa.Qu
open Go.RowKit
set_option linter.unusedVariables false
set_option maxRecDepth 100000
theorem At.cutL {W U : World} {b : Nat} {cap bytes s : Int} {R H L L' : List Itm} {f : Nat} {v vl u : Value} (h : At W b ⟨cap, bytes, s, R, f, H, L⟩ v vl) (hu : Its U u L') (hb : But (fun k => vl.ownBlock = some k) W U) (hub : u.ownBlock = vl.ownBlock) :
    Bx U b ⟨cap, bytes, s, R, f, H, L⟩ v vl ∧ At (U.setCell ⟨b, 6, none⟩ u) b ⟨cap, bytes, s, R, f, H, L'⟩ v u ∧ Stp b v vl v u W (U.setCell ⟨b, 6, none⟩ u) := by
  have hbx : Bx U b ⟨cap, bytes, s, R, f, H, L⟩ v vl := hb.at h.box (fun e => h.no2 e)
  have bb := But.set (w := U) b 6 u
  refine ⟨hbx, ⟨?_, ?_, h.rg, ?_, ?_, h.rl, h.nv, h.r4⟩, (hb.mono fun k _ e => .inr (.inr e)).trans (bb.mono fun k _ e => .inl e), ?_⟩
  · rw [heap_setCell_same U b 6 _ _ _ hbx]; rfl
  · exact (h.row.but hb fun k hk e => h.ap k hk e).but bb fun k hk e => h.no1 (by rw [← e]; exact hk)
  · exact hu.but bb fun k hk e => h.no2 (by rw [← hub, ← e]; exact hk)
  · intro k hk e
    exact h.ap k hk (by rw [← hub]; exact e)
  · rintro k (e | e | e)
    · exact .inl (.inl e)
    · exact .inl (.inr (.inl e))
    · exact .inl (.inr (.inr (by rw [← hub]; exact e)))
/-- The line without the one of that place. -/
def cutQ (q : Q) (i : Nat) : Q := ⟨q.cap, q.bytes, q.H, q.L.take i ++ q.L.drop (i + 1)⟩
def leaveQ (q : Q) (id : Int) : List Int × Int × Q := if ixI q.L id < q.L.length then ((comeQ (cutQ q (ixI q.L id))).1, 0, (comeQ (cutQ q (ixI q.L id))).2) else ([], 6, q)
theorem cut_ok {q : Q} (h : Ok q) (i : Nat) : Ok (cutQ q i) := by
  refine ⟨h.c1, h.c2, h.b1, h.b2, h.hl, h.us, ?_, h.sz, ?_⟩
  · show (q.L.take i ++ q.L.drop (i + 1)).length ≤ 1024
    have := h.ln
    simp
    omega
  · intro x hx
    rcases List.mem_append.1 hx with hx | hx
    · exact h.szL x (List.mem_of_mem_take hx)
    · exact h.szL x (List.mem_of_mem_drop hx)
theorem leave_ok {q : Q} (h : Ok q) (id : Int) : Ok (leaveQ q id).2.2 := by
  unfold leaveQ
  split
  · exact come_ok2 (cut_ok h _)
  · exact h
theorem Ids.raise {B B' : Nat} {w : World} {v : Value} {l : List Int} (h : Ids B w v l) (hB : B' ≤ B) : Ids B' w v l := by
  refine ⟨h.1, ?_⟩
  rcases h.2 with h | ⟨g, cap, cur, rfl, hg, r⟩
  · exact .inl h
  · exact .inr ⟨g, cap, cur, rfl, Nat.le_trans hB hg, r⟩
set_option maxHeartbeats 1000000 in
theorem leave_any (w : World) (b : Nat) (q : Q) (v vl : Value) (id : Int) (hq : QA w b q v vl) (ok : Ok q) :
    Calls Try.prog 15 #[.pointer (some ⟨b, 0, none⟩), .int .i64 id] w fun e w' => ∃ idv v' vl', e = .returned (.tuple #[idv, .int .i64 (leaveQ q id).2.1]) ∧ QA w' b (leaveQ q id).2.2 v' vl' ∧ Stp b v vl v' vl' w w' ∧ Ids w.heap.size w' idv (leaveQ q id).1 := by
  obtain ⟨R, f, h⟩ := hq
  have hln := ok.ln
  have HM := hide (made_any w b _ v vl h ok.c1)
  have IL := hide (inLine_any w b _ v vl id h (by show q.L.length ≤ _; omega))
  unfold leaveQ
  simp only at IL
  by_cases hi : ixI q.L id < q.L.length
  · rw [if_pos hi]
    have e1 : inlF q.L id = (ixI q.L id : Int) := by unfold inlF; rw [if_pos hi]
    rw [e1] at IL
    obtain ⟨i, hI⟩ : ∃ i, Hid (ixI q.L id = i) := ⟨_, rfl⟩
    rw [hI.out] at IL hi ⊢
    have g1 : ¬ (i : Int) < 0 := by omega
    have ew : wrap64 ((i : Int) + 1) = (i : Int) + 1 := by unfold wrap64; omega
    have DL : Hid (∀ w2, Below w.heap.size w w2 → Calls Try.prog 35 #[vl, .int .i64 (i : Int), .int .i64 ((i : Int) + 1)] w2 fun e U => ∃ ua un uc, e = .returned (.slice ua un uc) ∧ Hid (Bx U b ⟨q.cap, q.bytes, sumS q.H, R, f, q.H, q.L⟩ v vl ∧ QA (U.setCell ⟨b, 6, none⟩ (.slice ua un uc)) b (cutQ q i) v (.slice ua un uc) ∧ Stp b v vl v (.slice ua un uc) w (U.setCell ⟨b, 6, none⟩ (.slice ua un uc)))) := by
      intro w2 b2
      have A2 := h.below b2
      have DD := del_any w2 vl q.L i (i + 1) A2.line (Nat.le_succ _) hi (by omega)
      rw [show ((i + 1 : Nat) : Int) = (i : Int) + 1 by omega] at DD
      refine DD.mono ?_
      rintro e U ⟨u, rfl, u1, u2, u3⟩
      obtain ⟨E1, E2, E3⟩ := A2.cutL u1 u2 u3
      obtain ⟨ua, un, uc, rfl⟩ := slice_of u1
      exact ⟨ua, un, uc, rfl, E1, ⟨R, f, E2⟩, (Stp.below b2).trans E3⟩
    have FC : Hid (∀ w2, Below w.heap.size w w2 → w2.cell? ⟨b, 6, none⟩ = some vl) := fun w2 b2 => by obtain ⟨-, -, -, -, -, -, c6⟩ := (h.below b2).cells; exact c6
    have CI : Hid (∀ W u, QA W b (cutQ q i) v u → Stp b v vl v u w W → Calls Try.prog 31 #[.pointer (some ⟨b, 0, none⟩)] W fun e w' => ∃ idv, e = .returned idv ∧ Hid (∃ v' vl', QA w' b (comeQ (cutQ q i)).2 v' vl' ∧ Stp b v vl v' vl' w w' ∧ Ids w.heap.size w' idv (comeQ (cutQ q i)).1)) := by
      intro W u h1 h2
      refine (comeIn_any W b _ v u h1 (cut_ok ok i)).mono ?_
      rintro e w' ⟨idv, v', vl', rfl, k1, k2, k3⟩
      exact ⟨idv, rfl, v', vl', k1, h2.trans k2, k3.raise h2.1.size⟩
    obtain ⟨va, vc, hvl, _, _⟩ := h.line.form
    simp only at hvl
    clear h ok e1
    subst hvl
    simp only
    go_enter Try.func15, Try.ntmps15
    go_wp2_with (first | (go_at_call 29; refine HM.out.mono ?_; rintro e w' ⟨rfl, hw⟩; rw [hw]; clear hw w') | (go_at_call 34; refine IL.out.mono ?_; rintro e w2 ⟨rfl, b2⟩; have c6 := FC.out w2 b2) | (go_at_call 35; refine (DL.out w2 b2).mono ?_; rintro e U ⟨ua, un, uc, rfl, hh⟩; have d6 := hh.out.1.c6; have g6 := hh.out.1.f6; have CC := hide (CI.out _ _ hh.out.2.1 hh.out.2.2)) | (go_at_call 31; refine CC.out.mono ?_; rintro e w3 ⟨idv, rfl, hh2⟩))
    go_ret2
    obtain ⟨v', vl', k1, k2, k3⟩ := hh2.out
    exact ⟨idv, v', vl', rfl, k1, k2, k3⟩
  · rw [if_neg hi]
    have e1 : inlF q.L id = -1 := by unfold inlF; rw [if_neg hi]
    rw [e1] at IL
    have H0 := hide h
    clear h ok hi e1
    go_enter Try.func15, Try.ntmps15
    go_wp2_with (first | (go_at_call 29; refine HM.out.mono ?_; rintro e w' ⟨rfl, hw⟩; rw [hw]; clear hw w') | (go_at_call 34; refine IL.out.mono ?_; rintro e w2 ⟨rfl, b2⟩))
    go_ret2
    exact ⟨_, v, vl, rfl, ⟨R, f, H0.out.below b2⟩, Stp.below b2, Ids.nil _ _⟩
end Go.Proofs.Ytfoleeamhhodaaa.Qu

/-
  Look, Line.
-/
namespace Go.Proofs.Ytfoleeamhhodaaa.Qu
open Go.RowKit
set_option linter.unusedVariables false
set_option maxRecDepth 100000
def lookV (a b c : Int) : Value := .agg #[.int .i64 a, .int .i64 b, .int .i64 c]
/-- A look in memory. -/
def Lx (w : World) (k : Nat) (a b c : Int) : Prop := w.heap[k]? = some (.cells #[.int .i64 a, .int .i64 b, .int .i64 c] 50 (0, 0))
theorem Lx.new (w : World) (a b c : Int) : Lx (w.alloc (.cells #[.int .i64 a, .int .i64 b, .int .i64 c] 50)) w.heap.size a b c := heap_alloc_new _ _
theorem Lx.cells {w : World} {k : Nat} {a b c : Int} (h : Lx w k a b c) : w.cell? ⟨k, 0, none⟩ = some (.int .i64 a) ∧ w.cell? ⟨k, 1, none⟩ = some (.int .i64 b) ∧ w.cell? ⟨k, 2, none⟩ = some (.int .i64 c) := ⟨by rw [cell_of h]; rfl, by rw [cell_of h]; rfl, by rw [cell_of h]; rfl⟩
theorem Lx.frozen {w : World} {k : Nat} {a b c : Int} (h : Lx w k a b c) (j : Nat) : w.frozen? ⟨k, j, none⟩ = false := by
  unfold Lx at h
  simp [World.frozen?, h]
theorem Lx.all {w : World} {k : Nat} {a b c : Int} (h : Lx w k a b c) (x y z : Int) : Lx (((w.setCell ⟨k, 0, none⟩ (.int .i64 x)).setCell ⟨k, 1, none⟩ (.int .i64 y)).setCell ⟨k, 2, none⟩ (.int .i64 z)) k x y z := by
  unfold Lx at *
  have h1 : (w.setCell ⟨k, 0, none⟩ (.int .i64 x)).heap[k]? = some (.cells #[.int .i64 x, .int .i64 b, .int .i64 c] 50 (0, 0)) := by rw [heap_setCell_same w k 0 _ _ _ h]; rfl
  have h2 : ((w.setCell ⟨k, 0, none⟩ (.int .i64 x)).setCell ⟨k, 1, none⟩ (.int .i64 y)).heap[k]? = some (.cells #[.int .i64 x, .int .i64 y, .int .i64 c] 50 (0, 0)) := by rw [heap_setCell_same _ k 1 _ _ _ h1]; rfl
  rw [heap_setCell_same _ k 2 _ _ _ h2]; rfl
theorem lookSize : (Try.prog.info? 50).map (·.size) = some 3 := by kernel_rfl
theorem below_three {w w1 : World} (h : Below w.heap.size w w1) (k : Nat) (hk : w.heap.size ≤ k) (x y z : Value) : Below w.heap.size w (((w1.setCell ⟨k, 0, none⟩ x).setCell ⟨k, 1, none⟩ y).setCell ⟨k, 2, none⟩ z) := below_block h (World.grownBy.trans (grown_two _ _ _ _ _ _) (grown_setCell _ _ _ _)) hk
theorem look_any (w : World) (b : Nat) (q : Q) (v vl : Value) (hq : QA w b q v vl) (ok : Ok q) : Calls Try.prog 20 #[.pointer (some ⟨b, 0, none⟩)] w fun e w' => e = .returned (lookV q.H.length (sumS q.H) q.L.length) ∧ Below w.heap.size w w' := by
  obtain ⟨R, f, h⟩ := hq
  have B1 := box_below w (.cells #[.int .i64 0, .int .i64 0, .int .i64 0] 50)
  have X1 : Lx (w.alloc (.cells #[.int .i64 0, .int .i64 0, .int .i64 0] 50)) w.heap.size 0 0 0 := Lx.new w 0 0 0
  have h1 := h.below B1
  have HM := hide (made_any _ b _ v vl h1 ok.c1)
  obtain ⟨-, -, -, -, c4, c5, c6⟩ := h1.cells
  obtain ⟨s0, s1, s2⟩ := X1.cells
  have y0 := X1.frozen 0
  have y1 := X1.frozen 1
  have y2 := X1.frozen 2
  have FIN := hide (X1.all q.H.length (sumS q.H) q.L.length)
  have FB := hide (fun x y z => below_three B1 w.heap.size (Nat.le_refl _) x y z)
  obtain ⟨va, vc, hvl, _, _⟩ := h.line.form
  obtain ⟨w1, hw1⟩ : ∃ w1, Hid (w.alloc (.cells #[.int .i64 0, .int .i64 0, .int .i64 0] 50) = w1) := ⟨_, rfl⟩
  simp only at c4 c5 c6 hvl
  subst hvl
  rw [hw1.out] at HM c4 c5 c6 s0 s1 s2 y0 y1 y2 FIN FB
  clear h h1 ok B1 X1
  unfold lookV
  obtain ⟨cap, bytes, H, L⟩ := q
  simp only at *
  obtain ⟨hl, hhl⟩ : ∃ hl, Hid ((H.length : Int) = hl) := ⟨_, rfl⟩
  obtain ⟨us, hus⟩ : ∃ us, Hid (sumS H = us) := ⟨_, rfl⟩
  obtain ⟨n, hn⟩ : ∃ n, Hid (L.length = n) := ⟨_, rfl⟩
  rw [hhl.out] at c4 FIN ⊢
  rw [hus.out] at c5 FIN ⊢
  rw [hn.out] at c6 FIN ⊢
  go_enter Try.func20, Try.ntmps20
  go_upto_region 1 with fail
  rw [hw1.out]
  go_upto_region 3 with (go_at_call 29; refine HM.out.mono ?_; rintro e w' ⟨rfl, hw⟩; rw [hw]; clear hw w')
  go_region
  go_wp2_with fail
  try simp only [Exit.inBlock, Exit.then]
  refine bodyPost_ret (v := .agg _) (results_cell_row rfl _ _ w.heap.size 50 _ (0, 0) _ rfl FIN.out Try.underlying50 rfl lookSize) rfl ?_
  exact ⟨rfl, (FB.out _ _ _).drew⟩
theorem clone_any (w : World) (v : Value) (l : List Itm) (h : Its w v l) (hl : l.length ≤ 1000000) : Calls Try.prog 38 #[v] w fun e w' => ∃ vf, e = .returned vf ∧ Itb w.heap.size w' vf l ∧ Below w.heap.size w w' := by
  have he := fun (u : World) (ao : Option Addr) (n c n' c' : Nat) => Lib.run_eql_slice_nil (P := Try.prog) u 35 48 ao n c n' c' Try.underlying35
  rcases h.2 with ⟨rfl, e0⟩ | ⟨gb, cap, cur, rfl, hg, hh, q1, q2, q3, q4⟩
  · have e1 : l = [] := List.length_eq_zero_iff.1 e0
    subst e1
    go_enter Try.func38, Try.ntmps38
    go_wp2_with fail
    go_ret
    exact ⟨_, rfl, World.ownsRow_nil _ _ _ _, Below.refl _ _⟩
  · have HN : Hid (∀ o, ∀ j u, (icells l)[j]? = some u → (w.alloc o).cell? ((⟨gb, 0, none⟩ : Addr).add j) = some u) := fun o j u hu => by rw [addr_add]; exact (h.below (box_below w o)).lie j u hu
    obtain ⟨i0, hi, hz0, hz1, hz2⟩ := info_parts infoIt
    have OWN := hide (World.ownsRow_made (base := w.heap.size) (e := 48) (size := 2) w #[] 0 (Nat.le_refl _) (Nat.zero_le _) rfl)
    have hcl : Hid ((icells l).length = l.length * 2) := icells_len l
    obtain ⟨N, hN⟩ : ∃ N, Hid (l.length = N) := ⟨_, rfl⟩
    rw [hN.out] at hcl hl ⊢
    clear h hg hh q1 q2 q3 q4
    go_enter Try.func38, Try.ntmps38
    go_wp2_with (at_builtin; refine wpList_append_own_at _ rfl (.tmp 5) (.tmp 6) 35 rfl w.heap.size 48 i0 (.agg #[.int .i64 0, .int .i64 0]) 2 16 Try.underlying35 hi hz0 hz1 hz2 rfl (by decide) _ 0 [] rfl OWN.out ⟨gb, 0, none⟩ N cap (icells l) rfl hcl.out (HN.out _) (ione l) (by unfold maxLen; omega) (by omega) (by simp) ?_; intro v' w1 hown' hgrow hnil hat; rw [List.nil_append, Nat.zero_add] at hown'; replace hown' := hide hown'; have hgr := hide hgrow; clear hgrow hnil hat)
    go_ret
    refine ⟨_, rfl, ?_, ?_⟩
    · unfold Itb; rw [hN.out]; exact hown'.out
    · exact Below.grown (box_below w _) hgr.out (by simp) (fun k hk => by cases hk; exact Nat.le_refl _)
theorem line_any (w : World) (b : Nat) (q : Q) (v vl : Value) (hq : QA w b q v vl) (ok : Ok q) : Calls Try.prog 21 #[.pointer (some ⟨b, 0, none⟩)] w fun e w' => ∃ vf, e = .returned vf ∧ Itb w.heap.size w' vf q.L ∧ Below w.heap.size w w' := by
  obtain ⟨R, f, h⟩ := hq
  have HM := hide (made_any _ b _ v vl h ok.c1)
  have CL := hide (clone_any w vl q.L h.line (by have := ok.ln; omega))
  obtain ⟨-, -, -, -, -, -, c6⟩ := h.cells
  clear h ok
  go_enter Try.func21, Try.ntmps21
  go_wp2_with (first | (go_at_call 29; refine HM.out.mono ?_; rintro e w' ⟨rfl, hw⟩; rw [hw]; clear hw w') | (go_at_call 38; refine CL.out.mono ?_; rintro e w2 ⟨vf, rfl, i1, b1⟩; replace i1 := hide i1; replace b1 := hide b1))
  go_ret
  exact ⟨vf, rfl, i1.out, b1.out⟩
end Go.Proofs.Ytfoleeamhhodaaa.Qu

/-
  A queue of the call's own; begun; the nil queue.
-/
namespace Go.Proofs.Ytfoleeamhhodaaa.Qu
open Go.RowKit
set_option linter.unusedVariables false
set_option maxRecDepth 100000
/-- At block b lies the queue q, made since w. -/
def Mine (w u : World) (b : Nat) (q : Q) : Prop := ∃ v vl, QA u b q v vl ∧ Ok q ∧ Below w.heap.size w u ∧ ∀ k, Own b v vl k → w.heap.size ≤ k
theorem Mine.below {w u u' : World} {b : Nat} {q : Q} (h : Mine w u b q) (hb : Below u.heap.size u u') : Mine w u' b q := by
  obtain ⟨v, vl, h1, h2, h3, h4⟩ := h
  exact ⟨v, vl, h1.below hb, h2, h3.trans (hb.mono h3.size), h4⟩
theorem Mine.bel {w u : World} {b : Nat} {q : Q} (h : Mine w u b q) : Below w.heap.size w u := by obtain ⟨v, vl, h1, h2, h3, h4⟩ := h; exact h3
theorem Mine.ok {w u : World} {b : Nat} {q : Q} (h : Mine w u b q) : Ok q := by obtain ⟨v, vl, h1, h2, h3, h4⟩ := h; exact h2
theorem Mine.step {w u u' : World} {b : Nat} {q' : Q} {v vl v' vl' : Value} (h3 : Below w.heap.size w u) (h4 : ∀ k, Own b v vl k → w.heap.size ≤ k) (hq : QA u' b q' v' vl') (ok : Ok q') (hs : Stp b v vl v' vl' u u') : Mine w u' b q' :=
  ⟨v', vl', hq, ok, h3.trans (hs.1.below h3.size h4), fun k hk => (hs.2 k hk).elim (h4 k) fun e => Nat.le_trans h3.size e⟩
def q0 (cap bytes : Int) : Q := ⟨cap, bytes, [], []⟩
theorem q0_ok {cap bytes : Int} (h : mayB cap bytes) : Ok (q0 cap bytes) := by
  obtain ⟨h1, h2, h3, h4⟩ := h
  exact ⟨h1, h2, h3, h4, by show ((0 : Nat) : Int) ≤ cap; omega, by show (0 : Int) ≤ bytes; omega, by simp [q0], by simp [q0], by simp [q0]⟩
theorem mine_new (w u : World) (hw : Below w.heap.size w u) (cap bytes : Int) (h : mayB cap bytes) : Calls Try.prog 7 #[.int .i64 cap, .int .i64 bytes] u fun e u' => e = .returned (.tuple #[.pointer (some ⟨u.heap.size, 0, none⟩), .int .i64 0]) ∧ Mine w u' u.heap.size (q0 cap bytes) := by
  refine (new_any u cap bytes h).mono ?_
  rintro e u' ⟨rfl, h1, h2⟩
  refine ⟨rfl, _, _, ⟨[], 0, h1⟩, q0_ok h, hw.trans (h2.mono hw.size), ?_⟩
  rintro k (rfl | e | e)
  · exact hw.size
  · simp [Value.ownBlock] at e
  · simp [Value.ownBlock] at e
theorem Mine.put {w u : World} {b : Nat} {q : Q} (h : Mine w u b q) (id s : Int) : Calls Try.prog 9 #[.pointer (some ⟨b, 0, none⟩), .int .i64 id, .int .i64 s] u fun e u' => e = .returned (.tuple #[.bool (putQ q id s).1, .int .i64 (putQ q id s).2.1]) ∧ Mine w u' b (putQ q id s).2.2 := by
  obtain ⟨v, vl, h1, h2, h3, h4⟩ := h
  refine (put_any u b q v vl id s h1 h2).mono ?_
  rintro e u' ⟨rfl, v', vl', k1, k2⟩
  exact ⟨rfl, Mine.step h3 h4 k1 (put_ok h2 id s) k2⟩
theorem Mine.take {w u : World} {b : Nat} {q : Q} (h : Mine w u b q) (most bytes : Int) : Calls Try.prog 11 #[.pointer (some ⟨b, 0, none⟩), .int .i64 most, .int .i64 bytes] u fun e u' => ∃ ov idv, e = .returned (.tuple #[ov, idv]) ∧ Mine w u' b (takeQ q most bytes).2.2 ∧ Itb u.heap.size u' ov (takeQ q most bytes).1 ∧ Ids u.heap.size u' idv (takeQ q most bytes).2.1 := by
  obtain ⟨v, vl, h1, h2, h3, h4⟩ := h
  refine (take_any u b q v vl most bytes h1 h2).mono ?_
  rintro e u' ⟨ov, idv, v', vl', rfl, k1, k2, k3, k4⟩
  exact ⟨ov, idv, rfl, Mine.step h3 h4 k1 (take_ok h2 most bytes) k2, k3, k4⟩
theorem Mine.look {w u : World} {b : Nat} {q : Q} (h : Mine w u b q) : Calls Try.prog 20 #[.pointer (some ⟨b, 0, none⟩)] u fun e u' => e = .returned (lookV q.H.length (sumS q.H) q.L.length) ∧ Below u.heap.size u u' := by
  obtain ⟨v, vl, h1, h2, h3, h4⟩ := h
  exact look_any u b q v vl h1 h2
theorem Ids.cell {B : Nat} {w : World} {v : Value} {l : List Int} (h : Ids B w v l) {x : Int} {r : List Int} (hl : l = x :: r) : ∃ gb ca, v = .slice (some ⟨gb, 0, none⟩) l.length ca ∧ w.cell? ⟨gb, 0, none⟩ = some (.int .i64 x) := by
  rcases h.2 with ⟨_, e⟩ | ⟨gb, cap, cur, rfl, hg, hh, q1, q2, q3, q4⟩
  · rw [hl] at e; simp at e
  · refine ⟨gb, cap, rfl, ?_⟩
    rw [cell_of hh]
    have h0 : (cur.toList.take (l.length * 1))[0]? = cur.toList[0]? := List.getElem?_take_of_lt (by rw [hl]; simp)
    rw [← Array.getElem?_toList, ← h0, q4, hl]
    rfl
set_option maxHeartbeats 2000000 in
theorem begun_any (w : World) : Calls Try.prog 6 #[] w fun e w' => e = .returned (.bool true) ∧ Below w.heap.size w w' := by
  have NW := hide (mine_new w w (Below.refl _ _) 2 100 (by decide))
  have p1 : Hid (putQ (q0 2 100) 1 60 = (true, 0, ⟨2, 100, [(1, 60)], []⟩)) := rfl
  have p2 : Hid (putQ ⟨2, 100, [(1, 60)], []⟩ 2 50 = (false, 0, ⟨2, 100, [(1, 60)], [(2, 50)]⟩)) := rfl
  have p3 : Hid (putQ ⟨2, 100, [(1, 60)], [(2, 50)]⟩ 2 1 = (false, 7, ⟨2, 100, [(1, 60)], [(2, 50)]⟩)) := rfl
  have p4 : Hid (takeQ ⟨2, 100, [(1, 60)], [(2, 50)]⟩ 5 10 = ([(1, 60)], [2], ⟨2, 100, [(2, 50)], []⟩)) := rfl
  have P1 : Hid (∀ u, Mine w u w.heap.size (q0 2 100) → Calls Try.prog 9 #[.pointer (some ⟨w.heap.size, 0, none⟩), .int .i64 1, .int .i64 60] u fun e u' => e = .returned (.tuple #[.bool true, .int .i64 0]) ∧ Mine w u' w.heap.size ⟨2, 100, [(1, 60)], []⟩) := fun u h => by have := h.put 1 60; rwa [p1.out] at this
  have P2 : Hid (∀ u, Mine w u w.heap.size ⟨2, 100, [(1, 60)], []⟩ → Calls Try.prog 9 #[.pointer (some ⟨w.heap.size, 0, none⟩), .int .i64 2, .int .i64 50] u fun e u' => e = .returned (.tuple #[.bool false, .int .i64 0]) ∧ Mine w u' w.heap.size ⟨2, 100, [(1, 60)], [(2, 50)]⟩) := fun u h => by have := h.put 2 50; rwa [p2.out] at this
  have P3 : Hid (∀ u, Mine w u w.heap.size ⟨2, 100, [(1, 60)], [(2, 50)]⟩ → Calls Try.prog 9 #[.pointer (some ⟨w.heap.size, 0, none⟩), .int .i64 2, .int .i64 1] u fun e u' => e = .returned (.tuple #[.bool false, .int .i64 7]) ∧ Mine w u' w.heap.size ⟨2, 100, [(1, 60)], [(2, 50)]⟩) := fun u h => by have := h.put 2 1; rwa [p3.out] at this
  have P4 : Hid (∀ u, Mine w u w.heap.size ⟨2, 100, [(1, 60)], [(2, 50)]⟩ → Calls Try.prog 11 #[.pointer (some ⟨w.heap.size, 0, none⟩), .int .i64 5, .int .i64 10] u fun e u' => ∃ ob oc ib ic, e = .returned (.tuple #[.slice (some ⟨ob, 0, none⟩) 1 oc, .slice (some ⟨ib, 0, none⟩) 1 ic]) ∧ Mine w u' w.heap.size ⟨2, 100, [(2, 50)], []⟩ ∧ u'.cell? ⟨ob, 0, none⟩ = some (.int .i64 1) ∧ u'.cell? ⟨ib, 0, none⟩ = some (.int .i64 2)) := fun u h => by
    have := h.take 5 10
    rw [p4.out] at this
    refine this.mono ?_
    rintro e u' ⟨ov, idv, rfl, m1, m2, m3⟩
    obtain ⟨ob, oc, cs, rfl, _⟩ := m2.its.at (by simp)
    obtain ⟨r0, -⟩ := m2.its.read 0 (by simp)
    obtain ⟨ib, ic, rfl, r1⟩ := m3.cell rfl
    exact ⟨ob, oc, ib, ic, rfl, m1, r0, r1⟩
  have P5 : Hid (∀ u, Mine w u w.heap.size ⟨2, 100, [(2, 50)], []⟩ → Calls Try.prog 20 #[.pointer (some ⟨w.heap.size, 0, none⟩)] u fun e u' => e = .returned (.agg #[.int .i64 1, .int .i64 50, .int .i64 0]) ∧ Below w.heap.size w u') := fun u h => by
    refine h.look.mono ?_
    rintro e u' ⟨rfl, hb⟩
    exact ⟨rfl, h.bel.trans (hb.mono h.bel.size)⟩
  have hq : ∀ u : World, (binOp .eql 50 (.agg #[.int .i64 1, .int .i64 50, .int .i64 0]) (.agg #[.int .i64 1, .int .i64 50, .int .i64 0])).run Try.prog u = .ok (.bool true) u := fun u => by kernel_rfl
  clear p1 p2 p3 p4
  go_enter Try.func6, Try.ntmps6
  go_upto_region 4 with (go_at_call 7; refine NW.out.mono ?_; rintro e u1 ⟨rfl, m1⟩; replace m1 := hide m1)
  go_upto_region 5 with (go_at_call 9; refine (P1.out u1 m1.out).mono ?_; rintro e u2 ⟨rfl, m2⟩; replace m2 := hide m2)
  go_upto_region 6 with (go_at_call 9; refine (P2.out u2 m2.out).mono ?_; rintro e u3 ⟨rfl, m3⟩; replace m3 := hide m3)
  go_upto_region 7 with (go_at_call 9; refine (P3.out u3 m3.out).mono ?_; rintro e u4 ⟨rfl, m4⟩; replace m4 := hide m4)
  go_upto_region 8 with (go_at_call 11; refine (P4.out u4 m4.out).mono ?_; rintro e u5 ⟨ob, oc, ib, ic, rfl, m5, r0, r1⟩; replace m5 := hide m5)
  go_wp2_with (go_at_call 20; refine (P5.out u5 m5.out).mono ?_; rintro e u6 ⟨rfl, m6⟩; replace m6 := hide m6)
  go_ret
  exact ⟨rfl, m6.out⟩
end Go.Proofs.Ytfoleeamhhodaaa.Qu

/-
  The document's queue in memory; its New, May, Sum, has, room, Look.
-/
namespace Go.Proofs.Ytfoleeamhhodaaa.Qu
open Go.RowKit
set_option linter.unusedVariables false
set_option maxRecDepth 100000
/-- Items as the front of a row, without room behind them. -/
def Tf (w : World) (v : Value) (S : List Itm) : Prop := ∃ (g : Nat) (cur : Array Value), v = .slice (some ⟨g, 0, none⟩) S.length S.length ∧ w.heap[g]? = some (.cells cur 48 (0, 0)) ∧ cur.toList.take (S.length * 2) = icells S ∧ S.length ≤ 1000000
def Tr (w : World) (v : Value) (S : List Itm) : Prop := Its w v S ∨ Tf w v S
theorem Tf.but {X : Nat → Prop} {A B : World} {v : Value} {l : List Itm} (h : Tf A v l) (hb : But X A B) (hx : ∀ k, v.ownBlock = some k → ¬ X k) : Tf B v l := by
  obtain ⟨g, cur, rfl, hh, r⟩ := h
  exact ⟨g, cur, rfl, hb.at hh (hx g rfl), r⟩
theorem Tr.but {X : Nat → Prop} {A B : World} {v : Value} {l : List Itm} (h : Tr A v l) (hb : But X A B) (hx : ∀ k, v.ownBlock = some k → ¬ X k) : Tr B v l := h.imp (fun h => h.but hb hx) (fun h => h.but hb hx)
theorem Tr.below {A B : World} {v : Value} {l : List Itm} (h : Tr A v l) (hb : Below A.heap.size A B) : Tr B v l := h.but (But.of_below hb fun _ => False) fun _ _ c => c
theorem Tr.no {w : World} {v : Value} {l : List Itm} {b : Nat} {cs : Array Value} {T : TypeId} {fz : Nat × Nat} (h : Tr w v l) (hb : w.heap[b]? = some (.cells cs T fz)) (hT : T ≠ 48) : v.ownBlock ≠ some b := by
  rcases h with h | ⟨g, cur, rfl, hh, _⟩
  · exact h.no hb hT
  · intro e
    simp [Value.ownBlock] at e
    subst e
    rw [hb] at hh
    simp at hh
    exact hT hh.2.1
theorem Tr.lt {w : World} {v : Value} {l : List Itm} (h : Tr w v l) : ∀ k, v.ownBlock = some k → k < w.heap.size := by
  rcases h with h | ⟨g, cur, rfl, hh, _⟩
  · exact h.lt
  · intro k hk
    simp [Value.ownBlock] at hk
    rw [← hk]
    exact heap_lt hh
theorem Tr.form {w : World} {v : Value} {l : List Itm} (h : Tr w v l) : ∃ ao ca, v = .slice ao l.length ca ∧ ca ≤ 9223372036854775807 ∧ l.length ≤ ca := by
  rcases h with h | ⟨g, cur, rfl, _, _, q⟩
  · exact h.form
  · exact ⟨_, _, rfl, by omega, Nat.le_refl _⟩
/-- A row of items, as it is read. -/
theorem Tr.read {w : World} {v : Value} {l : List Itm} (h : Tr w v l) (hl : l ≠ []) : ∃ tb ca, v = .slice (some ⟨tb, 0, none⟩) l.length ca ∧ l.length ≤ ca ∧ ca ≤ 9223372036854775807 ∧ ∀ i, i < l.length → w.cell? ⟨tb, i * 2, none⟩ = some (.int .i64 (g l i).1) ∧ w.cell? ⟨tb, i * 2 + 1, none⟩ = some (.int .i64 (g l i).2) := by
  rcases h with h | ⟨gb, cur, rfl, hh, hc, hq⟩
  · obtain ⟨tb, ca, cs, rfl, _, _, _, q1, q2, _⟩ := h.at hl
    exact ⟨tb, ca, rfl, q1, q2, fun i hi => h.read i hi⟩
  · refine ⟨gb, _, rfl, Nat.le_refl _, by omega, fun i hi => ?_⟩
    have hj : ∀ j, j < l.length * 2 → w.cell? ⟨gb, j, none⟩ = (icells l)[j]? := by
      intro j hj
      rw [cell_of hh, ← hc, List.getElem?_take_of_lt hj]
      simp
    obtain ⟨e1, e2⟩ := icells_get l i hi
    exact ⟨by rw [hj _ (by omega), e1], by rw [hj _ (by omega), e2]⟩
theorem Tr.lie {w : World} {tb n ca : Nat} {l : List Itm} (h : Tr w (.slice (some ⟨tb, 0, none⟩) n ca) l) : Lie w tb 0 l := by
  intro j u hu
  have hj : j < l.length * 2 := by have := (List.getElem?_eq_some_iff.1 hu).1; rwa [icells_len] at this
  have hne : l ≠ [] := fun e => by rw [e] at hj; simp at hj
  obtain ⟨tb', ca', e, _, _, hr⟩ := h.read hne
  simp at e
  obtain ⟨rfl, _, rfl⟩ := e
  obtain ⟨e1, e2⟩ := icells_get l (j / 2) (by omega)
  obtain ⟨d1, d2⟩ := hr (j / 2) (by omega)
  rw [Nat.zero_add]
  rcases Nat.mod_two_eq_zero_or_one j with q | q
  · rw [show j / 2 * 2 = j by omega] at e1 d1
    rw [e1] at hu
    rw [d1]; exact hu
  · rw [show j / 2 * 2 + 1 = j by omega] at e2 d2
    rw [e2] at hu
    rw [d2]; exact hu
/-- append([]Item(nil), m...): a list of one's own. -/
theorem run_dupT {w : World} {tb o ca : Nat} {m : List Itm} (h : Lie w tb o m) (hl : m.length ≤ 1000000) (ty : TypeId) :
    ∃ v' w', (Builtin.append_ #[35, 35] ty #[.slice none 0 0, .slice (some ⟨tb, o, none⟩) m.length ca]).run Try.prog w = .ok v' w' ∧ Its w' v' m ∧ Below w.heap.size w w' ∧ (∀ k, v'.ownBlock = some k → w.heap.size ≤ k) := by
  obtain ⟨i0, hi, hz0, hz1, hz2⟩ := info_parts infoIt
  obtain ⟨v', w', hr, ho, hg, _, hat⟩ := run_append_own_at (P := Try.prog) w 0 35 ty 48 i0 (.agg #[.int .i64 0, .int .i64 0]) 2 16 Try.underlying35 hi hz0 hz1 hz2 rfl (by decide) (.slice none 0 0) 0 [] (World.ownsRow_nil _ _ _ _) ⟨tb, o, none⟩ m.length ca (icells m) (by rw [icells_len]) (fun j u hu => by rw [addr_add]; exact h j u hu) (ione m) (by unfold maxLen; omega) (by omega) (Nat.zero_le _)
  refine ⟨v', w', hr, ?_, ?_, ?_⟩
  · unfold Its
    simpa using ho
  · exact (Below.refl _ _).grown hg (Nat.le_refl _) (fun k hk => by simp [Value.ownBlock] at hk)
  · intro k hk
    rcases hat with e | e
    · rw [e] at hk; simp [Value.ownBlock] at hk
    · rw [e] at hk; cases hk; exact Nat.le_refl _
theorem cap_fits16 {need old : Nat} (h : old < need) (hb : need ≤ 1000000) : Builtin.nextslicecap need old * 16 ≤ 281474976710656 := by
  have := nextslicecap_le_wide h
  omega
/-- append(l[:i:i], m...): a list of one's own, or the front where nothing comes behind. -/
theorem run_cutT {w : World} {tb gb o ca : Nat} {l m : List Itm} (h : Lie w tb 0 l) (h2 : Lie w gb o m) (hm : m ≠ []) (hl : l.length + m.length ≤ 1000000) (ty : TypeId) :
    ∃ v' w', (Builtin.append_ #[35, 35] ty #[.slice (some ⟨tb, 0, none⟩) l.length l.length, .slice (some ⟨gb, o, none⟩) m.length ca]).run Try.prog w = .ok v' w' ∧ Its w' v' (l ++ m) ∧ Below w.heap.size w w' ∧ (∀ k, v'.ownBlock = some k → w.heap.size ≤ k) := by
  obtain ⟨i, hi, hz0, hs1, hy⟩ := info_parts infoIt
  have hm0 : 0 < m.length := List.length_pos_iff.2 hm
  have hr := run_append_grow (P := Try.prog) w 35 ty 48 i (.agg #[.int .i64 0, .int .i64 0]) Try.underlying35 hi hz0 ⟨tb, 0, none⟩ l.length l.length (icells l) (by rw [hs1, icells_len]) (fun j v hv => by rw [addr_add]; exact h j v hv) ⟨gb, o, none⟩ m.length ca (icells m) (by rw [hs1, icells_len]) (fun j v hv => by rw [addr_add]; exact h2 j v hv) (by omega) (by omega) (by rw [hy]; exact cap_fits16 (by omega) (by omega))
  have hge := grownCap_ge w (l.length + m.length) l.length 48
  have hle := grownCap_le_maxLen w (l.length + m.length) l.length 48 (by unfold maxLen; omega)
  refine ⟨_, _, hr, ?_, (Below.refl _ w).drew.alloc (Nat.le_refl _) _, fun k hk => by simp [Value.ownBlock] at hk; omega⟩
  unfold Its
  rw [List.length_append]
  refine ⟨by rw [icells_len, List.length_append], Or.inr ⟨w.heap.size, _, _, rfl, Nat.zero_le _, heap_alloc_new w.drew _, hge, hle, ?_, ?_⟩⟩
  · simp only [Array.size_append, List.size_toArray, size_zeroCells, icells_len]
    simp [Value.cells]
    omega
  · rw [icells_append]
    simp only [Array.toList_append]
    exact List.take_left' (by simp [icells_len]; omega)
/-- At block b lies the document's queue. -/
structure RA (w : World) (b : Nat) (q : Q) (v vl : Value) : Prop where
  box : w.heap[b]? = some (.cells #[.int .i64 q.cap, .int .i64 q.bytes, v, vl] 61 (0, 0))
  row : Its w v q.H
  line : Tr w vl q.L
  ap : ∀ k, v.ownBlock = some k → vl.ownBlock ≠ some k
theorem RA.cells {w : World} {b : Nat} {q : Q} {v vl : Value} (h : RA w b q v vl) : w.cell? ⟨b, 0, none⟩ = some (.int .i64 q.cap) ∧ w.cell? ⟨b, 1, none⟩ = some (.int .i64 q.bytes) ∧ w.cell? ⟨b, 2, none⟩ = some v ∧ w.cell? ⟨b, 3, none⟩ = some vl := by
  have := h.box
  simp [World.cell?, this]
theorem RA.frozen {w : World} {b : Nat} {q : Q} {v vl : Value} (h : RA w b q v vl) (j : Nat) : w.frozen? ⟨b, j, none⟩ = false := by
  have := h.box
  simp [World.frozen?, this]
theorem RA.but {Y : Nat → Prop} {A B : World} {b : Nat} {q : Q} {v vl : Value} (h : RA A b q v vl) (hb : But Y A B) (hx : ∀ k, Own b v vl k → ¬ Y k) : RA B b q v vl :=
  ⟨hb.at h.box (hx b (.inl rfl)), h.row.but hb fun k hk => hx k (.inr (.inl hk)), h.line.but hb fun k hk => hx k (.inr (.inr hk)), h.ap⟩
theorem RA.below {A B : World} {b : Nat} {q : Q} {v vl : Value} (h : RA A b q v vl) (hb : Below A.heap.size A B) : RA B b q v vl := h.but (But.of_below hb fun _ => False) fun _ _ c => c
theorem RA.lt {w : World} {b : Nat} {q : Q} {v vl : Value} (h : RA w b q v vl) : ∀ k, Own b v vl k → k < w.heap.size := by
  rintro k (rfl | hk | hk)
  · exact heap_lt h.box
  · exact h.row.lt k hk
  · exact h.line.lt k hk
theorem RA.no1 {w : World} {b : Nat} {q : Q} {v vl : Value} (h : RA w b q v vl) : v.ownBlock ≠ some b := h.row.no h.box (by decide)
theorem RA.no2 {w : World} {b : Nat} {q : Q} {v vl : Value} (h : RA w b q v vl) : vl.ownBlock ≠ some b := h.line.no h.box (by decide)
theorem rmay_any (w : World) (cap bytes : Int) : Calls Try.prog 23 #[.int .i64 cap, .int .i64 bytes] w fun e w' => e = .returned (.bool (decide (mayB cap bytes))) ∧ w' = w := by
  by_cases h1 : cap ≥ 1
  · by_cases h2 : cap ≤ 1024
    · by_cases h3 : bytes ≥ 1
      · by_cases h4 : bytes ≤ 16777216
        · rw [decide_eq_true (show mayB cap bytes from ⟨h1, h2, h3, h4⟩)]
          go_enter Try.func23, Try.ntmps23
          go_wp2_with fail
          go_ret
          exact ⟨rfl, rfl⟩
        · rw [decide_eq_false (show ¬ mayB cap bytes from fun h => h4 h.2.2.2)]
          go_enter Try.func23, Try.ntmps23
          go_wp2_with fail
          go_ret
          exact ⟨rfl, rfl⟩
      · rw [decide_eq_false (show ¬ mayB cap bytes from fun h => h3 h.2.2.1)]
        go_enter Try.func23, Try.ntmps23
        go_wp2_with fail
        go_ret
        exact ⟨rfl, rfl⟩
    · rw [decide_eq_false (show ¬ mayB cap bytes from fun h => h2 h.2.1)]
      go_enter Try.func23, Try.ntmps23
      go_wp2_with fail
      go_ret
      exact ⟨rfl, rfl⟩
  · rw [decide_eq_false (show ¬ mayB cap bytes from fun h => h1 h.1)]
    go_enter Try.func23, Try.ntmps23
    go_wp2_with fail
    go_ret
    exact ⟨rfl, rfl⟩
theorem rnew_any (w : World) (cap bytes : Int) (h : mayB cap bytes) : Calls Try.prog 8 #[.int .i64 cap, .int .i64 bytes] w fun e w' => e = .returned (.tuple #[.pointer (some ⟨w.heap.size, 0, none⟩), .int .i64 0]) ∧ RA w' w.heap.size (q0 cap bytes) (.slice none 0 0) (.slice none 0 0) ∧ Below w.heap.size w w' := by
  have MY := hide (rmay_any w cap bytes)
  rw [decide_eq_true h] at MY
  have FIN : Hid (RA (w.alloc (.cells #[.int .i64 cap, .int .i64 bytes, .slice none 0 0, .slice none 0 0] 61)) w.heap.size (q0 cap bytes) (.slice none 0 0) (.slice none 0 0)) := ⟨heap_alloc_new _ _, Its.nil _, .inl (Its.nil _), by simp [Value.ownBlock]⟩
  clear h
  go_enter Try.func8, Try.ntmps8
  go_wp2_with (go_at_call 23; refine MY.out.mono ?_; rintro e w' ⟨rfl, hw⟩; rw [hw]; clear hw w')
  go_ret2
  exact ⟨rfl, FIN.out, box_below _ _⟩
theorem rnew_no (w : World) (cap bytes : Int) (h : ¬ mayB cap bytes) : Calls Try.prog 8 #[.int .i64 cap, .int .i64 bytes] w fun e w' => e = .returned (.tuple #[.pointer none, .int .i64 1]) ∧ w' = w := by
  have MY := hide (rmay_any w cap bytes)
  rw [decide_eq_false h] at MY
  clear h
  go_enter Try.func8, Try.ntmps8
  go_wp2_with (go_at_call 23; refine MY.out.mono ?_; rintro e w' ⟨rfl, hw⟩; rw [hw]; clear hw w')
  go_ret2
  exact ⟨rfl, rfl⟩
/-- A list of items as it is read. -/
def Rd2 (w : World) (v : Value) (l : List Itm) : Prop := ∃ ao ca, v = .slice ao l.length ca ∧ (l ≠ [] → ∃ tb, ao = some ⟨tb, 0, none⟩ ∧ ∀ i, i < l.length → w.cell? ⟨tb, i * 2, none⟩ = some (.int .i64 (g l i).1) ∧ w.cell? ⟨tb, i * 2 + 1, none⟩ = some (.int .i64 (g l i).2))
theorem Tr.rd {w : World} {v : Value} {l : List Itm} (h : Tr w v l) : Rd2 w v l := by
  obtain ⟨ao, ca, rfl, _, _⟩ := h.form
  refine ⟨ao, ca, rfl, fun hl => ?_⟩
  obtain ⟨tb, ca', e, _, _, hr⟩ := h.read hl
  simp only [Value.slice.injEq] at e
  exact ⟨tb, e.1, hr⟩
theorem Its.rd {w : World} {v : Value} {l : List Itm} (h : Its w v l) : Rd2 w v l := Tr.rd (.inl h)
theorem rsum_any (w : World) (v : Value) (l : List Itm) (h : Rd2 w v l) (hl : l.length ≤ 1000000) (hs : ∀ i, 0 ≤ sumS (l.take i) ∧ sumS (l.take i) ≤ 1000000000000) : Calls Try.prog 32 #[v] w fun e w' => e = .returned (.int .i64 (sumS l)) ∧ w' = w := by
  obtain ⟨ao, ca, rfl, hr⟩ := h
  obtain ⟨N, hN⟩ : ∃ N, Hid (l.length = N) := ⟨_, rfl⟩
  rw [hN.out] at hl ⊢
  replace hr := hide hr
  replace hs := hide hs
  go_enter Try.func32, Try.ntmps32
  go_wp2_with fail
  go_loopw [3, 4] (fun s3 s4 wr => ∃ i : Nat, s4 = .int .i64 (i : Int) ∧ s3 = .int .i64 (sumS (l.take i)) ∧ i ≤ N ∧ Hid (wr = w)) (fun s3 s4 wr => N - (intOf s4).toNat)
  case atStart => exact ⟨0, rfl, rfl, Nat.zero_le _, rfl⟩
  case round =>
    obtain ⟨i, rfl, rfl, hi, hw⟩ := hrel
    have hw' := hw.out
    clear hw
    subst hw'
    by_cases hiN : i < N
    · have h1 : (i : Int) < (N : Int) := Int.ofNat_lt.2 hiN
      have hil : i < l.length := by rw [hN.out]; exact hiN
      obtain ⟨tb, rfl, hc⟩ := hr.out (fun c => by rw [c] at hil; simp at hil)
      obtain ⟨-, r1⟩ := hc i hil
      have s1 := hs.out i
      have s2 := hs.out (i + 1)
      rw [← list_take hil, sumS_snoc] at s2
      obtain ⟨xs, hxs⟩ : ∃ xs, Hid ((g l i).2 = xs) := ⟨_, rfl⟩
      obtain ⟨sk, hsk⟩ : ∃ sk, Hid (sumS (l.take i) = sk) := ⟨_, rfl⟩
      rw [hxs.out] at r1 s2
      rw [hsk.out] at s1 s2 ⊢
      have ew : wrap64 (sk + xs) = sk + xs := by unfold wrap64; omega
      have ew1 : wrap64 ((i : Int) + 1) = (i : Int) + 1 := by unfold wrap64; omega
      clear hc s1 s2
      go_wp2_with fail
      go_roundw
      case measure => simp only [intOf]; omega
      case rel => exact ⟨i + 1, rfl, by rw [← list_take hil, sumS_snoc, hxs.out, hsk.out, ew], hiN, trivial⟩
    · have h1 : ¬ (i : Int) < (N : Int) := fun c => hiN (Int.ofNat_lt.1 c)
      obtain rfl : i = N := Nat.le_antisymm hi (Nat.not_lt.1 hiN)
      have ht : l.take i = l := List.take_of_length_le (by rw [hN.out]; exact Nat.le_refl _)
      rw [ht]
      go_wp2_with fail
      go_ret
      exact ⟨rfl, rfl⟩
theorem rhas_any (w : World) (v : Value) (l : List Itm) (id : Int) (h : Rd2 w v l) (hl : l.length ≤ 1000000) : Calls Try.prog 27 #[v, .int .i64 id] w fun e w' => e = .returned (.bool (hasI l id)) ∧ w' = w := by
  obtain ⟨ao, ca, rfl, hr⟩ := h
  have HLo := hide (ix_low l id)
  have HAt := hide (ix_at l id)
  have hcl := ix_le l id
  have hM := hide (ix_mem l id)
  unfold hasI
  obtain ⟨z, hz⟩ : ∃ z, Hid (decide (id ∈ l.map (·.1)) = z) := ⟨_, rfl⟩
  rw [hz.out]
  obtain ⟨C, hC⟩ : ∃ C, Hid (ixI l id = C) := ⟨_, rfl⟩
  obtain ⟨N, hN⟩ : ∃ N, Hid (l.length = N) := ⟨_, rfl⟩
  rw [hC.out] at HLo HAt hcl hM
  rw [hN.out] at hl hcl HAt hM ⊢
  replace hr := hide hr
  go_enter Try.func27, Try.ntmps27
  go_wp2_with fail
  go_loopw [5] (fun s5 wr => ∃ i : Nat, s5 = .int .i64 (i : Int) ∧ i ≤ C ∧ Hid (wr = w)) (fun s5 wr => N - (intOf s5).toNat)
  case atStart => exact ⟨0, rfl, Nat.zero_le _, rfl⟩
  case round =>
    obtain ⟨i, rfl, hi, hw⟩ := hrel
    have hw' := hw.out
    clear hw
    subst hw'
    by_cases hiN : i < N
    · have h1 : (i : Int) < (N : Int) := Int.ofNat_lt.2 hiN
      have hil : i < l.length := by rw [hN.out]; exact hiN
      obtain ⟨tb, rfl, hc⟩ := hr.out (fun c => by rw [c] at hil; simp at hil)
      obtain ⟨r0, -⟩ := hc i hil
      obtain ⟨xi, hxi⟩ : ∃ xi, Hid ((g l i).1 = xi) := ⟨_, rfl⟩
      rw [hxi.out] at r0
      have ew1 : wrap64 ((i : Int) + 1) = (i : Int) + 1 := by unfold wrap64; omega
      clear hc
      by_cases he : xi = id
      · have he' : (xi == id) = true := by simpa using he
        obtain rfl : i = C := by
          refine Nat.le_antisymm hi (Nat.not_lt.1 fun c => HLo.out i c ?_)
          rw [hxi.out]; exact he
        obtain rfl : z = true := by rw [← hz.out]; exact decide_eq_true (hM.out.1 hiN)
        clear he
        go_wp2_with fail
        go_ret
        exact ⟨rfl, rfl⟩
      · have he' : (xi == id) = false := by simpa using he
        have hlt : i < C := by
          rcases Nat.lt_or_ge i C with c | c
          · exact c
          · exfalso
            obtain rfl : i = C := Nat.le_antisymm hi c
            have := HAt.out hiN
            rw [hxi.out] at this
            exact he this
        clear he
        go_wp2_with fail
        go_roundw
        case measure => simp only [intOf]; omega
        case rel => exact ⟨i + 1, rfl, hlt, trivial⟩
    · have h1 : ¬ (i : Int) < (N : Int) := fun c => hiN (Int.ofNat_lt.1 c)
      obtain rfl : z = false := by
        rw [← hz.out]
        refine decide_eq_false fun c => ?_
        have := hM.out.2 c
        omega
      go_wp2_with fail
      go_ret
      exact ⟨rfl, rfl⟩
end Go.Proofs.Ytfoleeamhhodaaa.Qu

/-
  The document's room, Look; its lists turned: RStp.
-/
namespace Go.Proofs.Ytfoleeamhhodaaa.Qu
open Go.RowKit
set_option linter.unusedVariables false
set_option maxRecDepth 100000
theorem Ok.sums {q : Q} (h : Ok q) : ∀ i, 0 ≤ sumS (q.H.take i) ∧ sumS (q.H.take i) ≤ 1000000000000 := by
  intro i
  have h1 := sum_split q.H i
  have h2 : 0 ≤ sumS (q.H.take i) := sumS_nonneg fun x hx => (h.sz x (List.mem_of_mem_take hx)).1
  have h3 : 0 ≤ sumS (q.H.drop i) := sumS_nonneg fun x hx => (h.sz x (List.mem_of_mem_drop hx)).1
  have := h.us
  have := h.b2
  omega
theorem RA.qt {w u : World} {b : Nat} {q : Q} {v vl : Value} (h : RA w b q v vl) (hq : Qt w u) : RA u b q v vl := h.below (hq.below _)
theorem Ok.hn {q : Q} (h : Ok q) : q.H.length ≤ 1024 := by have := h.hl; have := h.c2; omega
theorem rroom_any (w : World) (b : Nat) (q : Q) (v vl : Value) (s : Int) (h : RA w b q v vl) (ok : Ok q) (h0 : 0 ≤ s) (h1 : s ≤ 16777216) : Calls Try.prog 28 #[.pointer (some ⟨b, 0, none⟩), .int .i64 s] w fun e w' => e = .returned (.bool (room q s)) ∧ Qt w w' := by
  have hn := ok.hn
  have hu0 := ok.u0
  have hus := ok.us
  have hb2 := ok.b2
  have SM : Hid (∀ u, Qt w u → Calls Try.prog 32 #[v] u fun e w' => e = .returned (.int .i64 (sumS q.H)) ∧ w' = u) := fun u hu => rsum_any u v q.H (h.qt hu).row.rd (by omega) ok.sums
  obtain ⟨c0, c1, c2, c3⟩ := h.cells
  obtain ⟨va, vc, hv, _, _⟩ := h.row.form
  subst hv
  have er : room q s = decide ((q.H.length : Int) < q.cap ∧ sumS q.H + s ≤ q.bytes) := by
    unfold room
    rw [decide_eq_decide]
    constructor
    · rintro ⟨a, c⟩; exact ⟨a, by omega⟩
    · rintro ⟨a, c⟩; exact ⟨a, by omega⟩
  rw [er]
  obtain ⟨us, hus1⟩ : ∃ us, Hid (sumS q.H = us) := ⟨_, rfl⟩
  obtain ⟨n, hn1⟩ : ∃ n, Hid (q.H.length = n) := ⟨_, rfl⟩
  rw [hus1.out] at SM hu0 hus ⊢
  rw [hn1.out] at c2 SM hn ⊢
  have ew : IntKind.i64.wrap (us + s) = us + s := wrap_i64 (by omega) (by omega)
  obtain ⟨nI, hnI⟩ : ∃ nI : Int, (n : Int) = nI := ⟨_, rfl⟩
  clear h er hn hu0 hus hb2 h0 h1
  by_cases hc : (n : Int) < q.cap
  · have t1 : decide ((n : Int) < q.cap) = true := decide_eq_true hc
    have e2 : decide ((n : Int) < q.cap ∧ us + s ≤ q.bytes) = decide (us + s ≤ q.bytes) := by rw [decide_eq_decide]; exact ⟨fun h => h.2, fun h => ⟨hc, h⟩⟩
    rw [e2]
    obtain ⟨z, hz⟩ : ∃ z, Hid (decide (us + s ≤ q.bytes) = z) := ⟨_, rfl⟩
    rw [hz.out]
    clear e2 hnI
    go_enter Try.func28, Try.ntmps28
    go_upto_region 1 with fail
    go_quiet ((go_at_call 32; exact Calls.quiet_of_same (SM.out _ ⟨_, rfl⟩)))
    go_wp2_with fail
    go_ret
    exact ⟨by first | rfl | (rw [← hz.out]; rfl), _, rfl⟩
  · have t1 : decide ((n : Int) < q.cap) = false := decide_eq_false hc
    rw [decide_eq_false (show ¬ ((n : Int) < q.cap ∧ us + s ≤ q.bytes) from fun h => hc h.1)]
    clear hnI
    go_enter Try.func28, Try.ntmps28
    go_upto_region 1 with fail
    go_quiet ((go_at_call 32; exact Calls.quiet_of_same (SM.out _ ⟨_, rfl⟩)))
    go_wp2_with fail
    go_ret
    exact ⟨rfl, _, rfl⟩
end Go.Proofs.Ytfoleeamhhodaaa.Qu

/-
  The document's lists turned; its Put.
-/
namespace Go.Proofs.Ytfoleeamhhodaaa.Qu
open Go.RowKit
set_option linter.unusedVariables false
set_option maxRecDepth 100000
def Rx (w : World) (b : Nat) (q : Q) (v vl : Value) : Prop := w.heap[b]? = some (.cells #[.int .i64 q.cap, .int .i64 q.bytes, v, vl] 61 (0, 0))
theorem Rx.cells {w : World} {b : Nat} {q : Q} {v vl : Value} (h : Rx w b q v vl) : w.cell? ⟨b, 2, none⟩ = some v ∧ w.cell? ⟨b, 3, none⟩ = some vl := ⟨by rw [cell_of h]; rfl, by rw [cell_of h]; rfl⟩
theorem Rx.frozen {w : World} {b : Nat} {q : Q} {v vl : Value} (h : Rx w b q v vl) (j : Nat) : w.frozen? ⟨b, j, none⟩ = false := by
  unfold Rx at h
  simp [World.frozen?, h]
theorem RA.setI {w w4 : World} {b : Nat} {q : Q} {v vl v' : Value} {H' : List Itm} (h : RA w b q v vl) (hb : But (fun k => v.ownBlock = some k) w w4) (hv : Its w4 v' H') (hat : ∀ k, v'.ownBlock = some k → v.ownBlock = some k ∨ w.heap.size ≤ k) :
    Rx w4 b q v vl ∧ RA (w4.setCell ⟨b, 2, none⟩ v') b ⟨q.cap, q.bytes, H', q.L⟩ v' vl ∧ Stp b v vl v' vl w (w4.setCell ⟨b, 2, none⟩ v') := by
  have hx : Rx w4 b q v vl := hb.at h.box fun e => h.no1 e
  have g1 : But (fun k => k = b) w4 (w4.setCell ⟨b, 2, none⟩ v') := But.set b 2 v'
  refine ⟨hx, ⟨?_, ?_, ?_, ?_⟩, (hb.mono fun k _ e => .inr (.inl e)).trans (g1.mono fun k _ e => .inl e), ?_⟩
  · rw [heap_setCell_same w4 b 2 _ _ _ hx]; rfl
  · exact hv.but g1 fun k hk e => hv.no hx (by decide) (by rw [← e]; exact hk)
  · exact (h.line.but hb fun k hk e => h.ap k e hk).but g1 fun k hk e => h.no2 (by rw [← e]; exact hk)
  · intro k hk e
    rcases hat k hk with c | c
    · exact h.ap k c e
    · have := h.line.lt k e
      omega
  · rintro k (e | e | e)
    · exact .inl (.inl e)
    · exact (hat k e).imp (fun c => .inr (.inl c)) (fun c => c)
    · exact .inl (.inr (.inr e))
theorem RA.setL {w w4 : World} {b : Nat} {q : Q} {v vl vl' : Value} {L' : List Itm} (h : RA w b q v vl) (hb : But (fun k => vl.ownBlock = some k) w w4) (hv : Tr w4 vl' L') (hat : ∀ k, vl'.ownBlock = some k → vl.ownBlock = some k ∨ w.heap.size ≤ k) :
    Rx w4 b q v vl ∧ RA (w4.setCell ⟨b, 3, none⟩ vl') b ⟨q.cap, q.bytes, q.H, L'⟩ v vl' ∧ Stp b v vl v vl' w (w4.setCell ⟨b, 3, none⟩ vl') := by
  have hx : Rx w4 b q v vl := hb.at h.box fun e => h.no2 e
  have g1 : But (fun k => k = b) w4 (w4.setCell ⟨b, 3, none⟩ vl') := But.set b 3 vl'
  refine ⟨hx, ⟨?_, ?_, ?_, ?_⟩, (hb.mono fun k _ e => .inr (.inr e)).trans (g1.mono fun k _ e => .inl e), ?_⟩
  · rw [heap_setCell_same w4 b 3 _ _ _ hx]; rfl
  · exact (h.row.but hb fun k hk e => h.ap k hk e).but g1 fun k hk e => h.no1 (by rw [← e]; exact hk)
  · exact hv.but g1 fun k hk e => hv.no hx (by decide) (by rw [← e]; exact hk)
  · intro k hk e
    rcases hat k e with c | c
    · exact h.ap k hk c
    · have := h.row.lt k hk
      omega
  · rintro k (e | e | e)
    · exact .inl (.inl e)
    · exact .inl (.inr (.inl e))
    · exact (hat k e).imp (fun c => .inr (.inr c)) (fun c => c)
/-- One more onto a list that may be a front without room. -/
theorem run_appL {w : World} {v : Value} {l : List Itm} (t : Itm) (gg : Nat) (h : Tr w v l) (h0 : Ib w gg t) (hl : l.length ≤ 100000) (ty : TypeId) :
    ∃ v' w', (Builtin.append_ #[35, 35] ty #[v, .slice (some ⟨gg, 0, none⟩) 1 1]).run Try.prog w = .ok v' w' ∧ Its w' v' (l ++ [t]) ∧ But (fun k => v.ownBlock = some k) w w' ∧ (∀ k, v'.ownBlock = some k → v.ownBlock = some k ∨ w.heap.size ≤ k) := by
  rcases h with h | ⟨gb, cur, rfl, hh, hc, hq⟩
  · obtain ⟨v', w', r1, r2, r3, r4⟩ := run_appI (B := 0) t gg (show Itb 0 w v l from h) h0 (by omega) (Nat.zero_le _) ty
    refine ⟨v', w', r1, r2, But.of_grownBy r3 fun k e => e, fun k hk => ?_⟩
    rcases r4 with e | e
    · exact .inl (by rw [← e]; exact hk)
    · rw [e] at hk
      cases hk
      exact .inr (Nat.le_refl _)
  · have hlie : Lie w gb 0 l := by
      intro j u hu
      have hj : j < l.length * 2 := by have := (List.getElem?_eq_some_iff.1 hu).1; rwa [icells_len] at this
      rw [Nat.zero_add, cell_of hh, ← hu, ← hc, List.getElem?_take_of_lt hj]
      simp
    have hlie2 : Lie w gg 0 [t] := by
      intro j u hu
      obtain ⟨e1, e2⟩ := h0.cells
      rw [Nat.zero_add]
      match j with
      | 0 => simp [icells, icell] at hu; subst hu; exact e1
      | 1 => simp [icells, icell] at hu; subst hu; exact e2
      | j + 2 => simp [icells, icell] at hu
    obtain ⟨v', w', r1, r2, r3, r4⟩ := run_cutT (ca := 1) hlie hlie2 (by simp) (by simp; omega) ty
    exact ⟨v', w', r1, r2, But.of_below r3 _, fun k hk => .inr (r4 k hk)⟩
theorem Tr.of {w : World} {v : Value} {l : List Itm} (h : Its w v l) : Tr w v l := .inl h
set_option maxHeartbeats 2000000 in
theorem rput_any (w : World) (b : Nat) (q : Q) (v vl : Value) (id s : Int) (h : RA w b q v vl) (ok : Ok q) :
    Calls Try.prog 10 #[.pointer (some ⟨b, 0, none⟩), .int .i64 id, .int .i64 s] w fun e w' => e = .returned (.tuple #[.bool (putQ q id s).1, .int .i64 (putQ q id s).2.1]) ∧ ∃ v' vl', RA w' b (putQ q id s).2.2 v' vl' ∧ Stp b v vl v' vl' w w' := by
  have hn := ok.hn
  have hln := ok.ln
  have hb2 := ok.b2
  obtain ⟨P1, P2, P3, hP⟩ : ∃ P1 P2 P3, Hid (putQ q id s = (P1, P2, P3)) := ⟨_, _, _, rfl⟩
  rw [hP.out]
  obtain ⟨c0, c1, c2, c3⟩ := h.cells
  have H0 := hide h
  have REF : Hid (refQ q id s ≠ 0 → P1 = false ∧ P2 = refQ q id s ∧ P3 = q) := by
    intro h0
    have e1 : putQ q id s = (false, refQ q id s, q) := by unfold putQ; rw [if_pos h0]
    rw [hP.out] at e1
    simp only [Prod.mk.injEq] at e1
    exact e1
  by_cases h1 : s < 0
  · have e : refQ q id s = 1 := by unfold refQ; rw [if_pos h1]
    obtain ⟨rfl, rfl, rfl⟩ := REF.out (by rw [e]; decide)
    rw [e]
    clear h hP REF e
    go_enter Try.func10, Try.ntmps10
    go_wp2_with fail
    go_ret2
    exact ⟨rfl, v, vl, H0.out, Stp.refl _ _ _ _⟩
  by_cases h2 : s > q.bytes
  · have e : refQ q id s = 3 := by unfold refQ; rw [if_neg h1, if_pos h2]
    obtain ⟨rfl, rfl, rfl⟩ := REF.out (by rw [e]; decide)
    rw [e]
    clear h hP REF e
    go_enter Try.func10, Try.ntmps10
    go_wp2_with fail
    go_ret2
    exact ⟨rfl, v, vl, H0.out, Stp.refl _ _ _ _⟩
  have HA1 := hide (rhas_any w v q.H id h.row.rd (by omega))
  have HA2 := hide (rhas_any w vl q.L id h.line.rd (by omega))
  obtain ⟨z1, hz1⟩ : ∃ z1, Hid (hasI q.H id = z1) := ⟨_, rfl⟩
  obtain ⟨z2, hz2⟩ : ∃ z2, Hid (hasI q.L id = z2) := ⟨_, rfl⟩
  rw [hz1.out] at HA1
  rw [hz2.out] at HA2
  by_cases h3 : (hasI q.H id || hasI q.L id) = true
  · have e : refQ q id s = 7 := by unfold refQ; rw [if_neg h1, if_neg h2, if_pos h3]
    obtain ⟨rfl, rfl, rfl⟩ := REF.out (by rw [e]; decide)
    rw [e]
    rw [hz1.out, hz2.out] at h3
    clear h hP REF e
    cases z1 with
    | true =>
      clear h3
      go_enter Try.func10, Try.ntmps10
      go_wp2_with (go_at_call 27; refine HA1.out.mono ?_; rintro e w' ⟨rfl, hw⟩; rw [hw]; clear hw w')
      go_ret2
      exact ⟨rfl, v, vl, H0.out, Stp.refl _ _ _ _⟩
    | false =>
      obtain rfl : z2 = true := by simpa using h3
      clear h3
      go_enter Try.func10, Try.ntmps10
      go_wp2_with (first | (have d2 := d1; go_at_call 27; refine HA2.out.mono ?_; rintro e w' ⟨rfl, hw⟩; rw [hw]; clear hw w') | (go_at_call 27; refine HA1.out.mono ?_; rintro e w' ⟨rfl, hw⟩; rw [hw]; clear hw w'; have d1 : True := trivial))
      go_ret2
      exact ⟨rfl, v, vl, H0.out, Stp.refl _ _ _ _⟩
  have h3' : (hasI q.H id || hasI q.L id) = false := by simpa using h3
  rw [hz1.out, hz2.out, Bool.or_eq_false_iff] at h3'
  obtain ⟨rfl, rfl⟩ := h3'
  obtain ⟨la, lc, hvl, zz1, zz2⟩ := h.line.form
  clear zz1 zz2
  by_cases h4 : 1024 ≤ q.L.length
  · have e : refQ q id s = 9 := by unfold refQ; rw [if_neg h1, if_neg h2, if_neg h3, if_pos h4]
    obtain ⟨rfl, rfl, rfl⟩ := REF.out (by rw [e]; decide)
    rw [e]
    have hl4 : P3.L.length = 1024 := Nat.le_antisymm hln h4
    rw [hl4] at hvl
    subst hvl
    clear h hP REF e h3 h4 hl4
    go_enter Try.func10, Try.ntmps10
    go_wp2_with (first | (have d2 := d1; go_at_call 27; refine HA2.out.mono ?_; rintro e w' ⟨rfl, hw⟩; rw [hw]; clear hw w') | (go_at_call 27; refine HA1.out.mono ?_; rintro e w' ⟨rfl, hw⟩; rw [hw]; clear hw w'; have d1 : True := trivial))
    go_ret2
    exact ⟨rfl, v, _, H0.out, Stp.refl _ _ _ _⟩
  have h0 : refQ q id s = 0 := by unfold refQ; rw [if_neg h1, if_neg h2, if_neg h3, if_neg h4]
  have e1 : putQ q id s = if q.L = [] ∧ room q s = true then (true, 0, ⟨q.cap, q.bytes, q.H ++ [(id, s)], q.L⟩) else (false, 0, ⟨q.cap, q.bytes, q.H, q.L ++ [(id, s)]⟩) := by unfold putQ; rw [if_neg (by simp [h0])]
  rw [hP.out] at e1
  have hs0 : 0 ≤ s := Int.not_lt.1 h1
  have hs1 : s ≤ 16777216 := Int.le_trans (Int.not_lt.1 h2) hb2
  have RO := hide (rroom_any w b q v vl s h ok hs0 hs1)
  have APL : Hid (∀ u, Qt w u → ∃ va' n' ca' w6, Hid ((Builtin.append_ #[35, 35] 35 #[vl, .slice (some ⟨u.heap.size, 0, none⟩) 1 1]).run Try.prog (u.alloc (.cells #[.int .i64 id, .int .i64 s] 48)) = .ok (.slice va' n' ca') w6) ∧ Hid (Rx w6 b q v vl ∧ RA (w6.setCell ⟨b, 3, none⟩ (.slice va' n' ca')) b ⟨q.cap, q.bytes, q.H, q.L ++ [(id, s)]⟩ v (.slice va' n' ca') ∧ Stp b v vl v (.slice va' n' ca') w (w6.setCell ⟨b, 3, none⟩ (.slice va' n' ca')))) := by
    intro u hu
    have B5 := keepF (hu.below w.heap.size) (box_below u (.cells #[.int .i64 id, .int .i64 s] 48))
    have A5 := h.below B5
    obtain ⟨v', w6, r1, r2, r3, r4⟩ := run_appL (id, s) u.heap.size A5.line (Ib.new u (id, s)) (Nat.le_trans hln (by decide)) 35
    obtain ⟨x1, x2, x3⟩ := A5.setL r3 (.inl r2) r4
    obtain ⟨a', n', c', rfl⟩ := slice_of r2
    exact ⟨a', n', c', w6, r1, x1, x2, (Stp.below B5).trans x3⟩
  have API : Hid (∀ u, Qt w u → ∃ va' n' ca' w6, Hid ((Builtin.append_ #[35, 35] 35 #[v, .slice (some ⟨u.heap.size, 0, none⟩) 1 1]).run Try.prog (u.alloc (.cells #[.int .i64 id, .int .i64 s] 48)) = .ok (.slice va' n' ca') w6) ∧ Hid (Rx w6 b q v vl ∧ RA (w6.setCell ⟨b, 2, none⟩ (.slice va' n' ca')) b ⟨q.cap, q.bytes, q.H ++ [(id, s)], q.L⟩ (.slice va' n' ca') vl ∧ Stp b v vl (.slice va' n' ca') vl w (w6.setCell ⟨b, 2, none⟩ (.slice va' n' ca')))) := by
    intro u hu
    have B5 := keepF (hu.below w.heap.size) (box_below u (.cells #[.int .i64 id, .int .i64 s] 48))
    have A5 := h.below B5
    obtain ⟨v', w6, r1, r2, r3, r4⟩ := run_appL (id, s) u.heap.size (.inl A5.row) (Ib.new u (id, s)) (Nat.le_trans hn (by decide)) 35
    obtain ⟨x1, x2, x3⟩ := A5.setI r3 r2 r4
    obtain ⟨a', n', c', rfl⟩ := slice_of r2
    exact ⟨a', n', c', w6, r1, x1, x2, (Stp.below B5).trans x3⟩
  obtain ⟨ia, ic, hv, zz1, zz2⟩ := h.row.form
  clear zz1 zz2
  have FC : Hid (∀ u, Qt w u → u.cell? ⟨b, 2, none⟩ = some v ∧ u.cell? ⟨b, 3, none⟩ = some vl) := fun u hu => by obtain ⟨-, -, a, c⟩ := (h.qt hu).cells; exact ⟨a, c⟩
  have h4' : ((q.L.length : Int) == 1024) = false := by simp; omega
  by_cases hL : q.L = []
  · have hvl0 : vl = .slice la 0 lc := by rw [hvl, hL]; rfl
    by_cases hr : room q s = true
    · rw [if_pos ⟨hL, hr⟩] at e1
      simp only [Prod.mk.injEq] at e1
      obtain ⟨rfl, rfl, rfl⟩ := e1
      rw [hr] at RO
      clear h hP REF h0 h3 h4 hL hr hvl h4' APL hn hln hb2
      subst hv hvl0
      go_enter Try.func10, Try.ntmps10
      go_upto_region 9 with (first | (have d2 := d1; go_at_call 27; refine HA2.out.mono ?_; rintro e w' ⟨rfl, hw⟩; rw [hw]; clear hw w') | (go_at_call 27; refine HA1.out.mono ?_; rintro e w' ⟨rfl, hw⟩; rw [hw]; clear hw w'; have d1 : True := trivial))
      go_wp2_with (first | (go_at_call 28; refine RO.out.mono ?_; rintro e u ⟨rfl, qu⟩; obtain ⟨f2, f3⟩ := FC.out u qu; obtain ⟨va', n', ca', w6, r6, hh⟩ := API.out u qu; obtain ⟨j2, j3⟩ := hh.out.1.cells; have j4 := hh.out.1.frozen 2; clear qu) | (at_builtin; refine wpList_append_runI rfl (.tmp 55) (.tmp 59) rfl rfl rfl r6.out ?_))
      go_ret2
      exact ⟨rfl, _, _, hh.out.2.1, hh.out.2.2⟩
    · rw [if_neg (fun h => hr h.2)] at e1
      simp only [Prod.mk.injEq] at e1
      obtain ⟨rfl, rfl, rfl⟩ := e1
      rw [show room q s = false by simpa using hr] at RO
      clear h hP REF h0 h3 h4 hL hr hvl h4' API hn hln hb2
      subst hv hvl0
      go_enter Try.func10, Try.ntmps10
      go_upto_region 9 with (first | (have d2 := d1; go_at_call 27; refine HA2.out.mono ?_; rintro e w' ⟨rfl, hw⟩; rw [hw]; clear hw w') | (go_at_call 27; refine HA1.out.mono ?_; rintro e w' ⟨rfl, hw⟩; rw [hw]; clear hw w'; have d1 : True := trivial))
      go_wp2_with (first | (go_at_call 28; refine RO.out.mono ?_; rintro e u ⟨rfl, qu⟩; obtain ⟨f2, f3⟩ := FC.out u qu; obtain ⟨va', n', ca', w6, r6, hh⟩ := APL.out u qu; obtain ⟨j2, j3⟩ := hh.out.1.cells; have j4 := hh.out.1.frozen 3; clear qu) | (at_builtin; refine wpList_append_runI rfl (.tmp 67) (.tmp 71) rfl rfl rfl r6.out ?_))
      go_ret2
      exact ⟨rfl, _, _, hh.out.2.1, hh.out.2.2⟩
  · rw [if_neg (fun h => hL h.1)] at e1
    simp only [Prod.mk.injEq] at e1
    obtain ⟨rfl, rfl, rfl⟩ := e1
    have hL0 : ((q.L.length : Int) == 0) = false := by simpa using hL
    obtain ⟨va', n', ca', w6, r6, hh⟩ := APL.out w (Qt.refl _)
    obtain ⟨j2, j3⟩ := hh.out.1.cells
    have j4 := hh.out.1.frozen 3
    clear h hP REF h0 h3 h4 hL API APL RO hn hln hb2
    subst hv hvl
    go_enter Try.func10, Try.ntmps10
    go_upto_region 9 with (first | (have d2 := d1; go_at_call 27; refine HA2.out.mono ?_; rintro e w' ⟨rfl, hw⟩; rw [hw]; clear hw w') | (go_at_call 27; refine HA1.out.mono ?_; rintro e w' ⟨rfl, hw⟩; rw [hw]; clear hw w'; have d1 : True := trivial))
    go_wp2_with (at_builtin; refine wpList_append_runI rfl (.tmp 67) (.tmp 71) rfl rfl rfl r6.out ?_)
    go_ret2
    exact ⟨rfl, _, _, hh.out.2.1, hh.out.2.2⟩
end Go.Proofs.Ytfoleeamhhodaaa.Qu

/-
  The document's come. (gen_RqD.py)
-/
namespace Go.Proofs.Ytfoleeamhhodaaa.Qu
open Go.RowKit
open Ix (wp_region_T wpAnyT wpAnyT_take wpAnyT_one wpAnyT_done vac)
set_option linter.unusedVariables false
set_option maxRecDepth 100000
theorem Ok.drop {q : Q} (h : Ok q) (i : Nat) : Ok ⟨q.cap, q.bytes, q.H, q.L.drop i⟩ :=
  ⟨h.c1, h.c2, h.b1, h.b2, h.hl, h.us, by show (q.L.drop i).length ≤ 1024; rw [List.length_drop]; have := h.ln; omega, h.sz, fun x hx => h.szL x (List.mem_of_mem_drop hx)⟩
/-- The queue behind i of the line. -/
def qAt (q : Q) (i : Nat) : Q := ⟨q.cap, q.bytes, q.H ++ q.L.take i, q.L.drop i⟩
theorem qAt_ok {q : Q} (h : Ok q) {i : Nat} (hi : i ≤ comeN q) : Ok (qAt q i) := (come_ok h i hi).drop i
def Rc (w wr : World) (b : Nat) (q : Q) (v vl idv : Value) (i : Nat) : Prop :=
  ∃ v' vl', RA wr b (qAt q i) v' vl' ∧ Stp b v vl v' vl' w wr ∧ Ids w.heap.size wr idv ((q.L.take i).map (·.1))
theorem RA.type {w : World} {b : Nat} {q : Q} {v vl : Value} (h : RA w b q v vl) : ∀ k, Own b v vl k → ∀ cs fz, w.heap[k]? ≠ some (.cells cs 2 fz) := by
  intro k hk cs fz e
  rcases hk with rfl | hk | hk
  · rw [h.box] at e
    simp at e
  · exact h.row.no e (by decide) hk
  · exact h.line.no e (by decide) hk
theorem Ids.apartR {B : Nat} {w : World} {b : Nat} {q : Q} {v vl i : Value} {l : List Int} (hi : Ids B w i l) (h : RA w b q v vl) : ∀ k, i.ownBlock = some k → ¬ Own b v vl k := by
  intro k hk ho
  obtain ⟨cs, fz, e⟩ := hi.type k hk
  exact h.type k ho cs fz e
theorem RA.lineL {w w4 : World} {b : Nat} {q : Q} {v vl : Value} (h : RA w b q v vl) (hb : But (fun k => v.ownBlock = some k) w w4) : Tr w4 vl q.L := h.line.but hb fun k hk e => h.ap k e hk
/-- The rest of a list, laid anew. -/
theorem dup_tail {w : World} {tb n ca : Nat} {x : Itm} {r : List Itm} (h : Tr w (.slice (some ⟨tb, 0, none⟩) n ca) (x :: r)) (hn : n = r.length + 1) (hc : n ≤ ca) (hl : r.length ≤ 100000) :
    ∃ a' n' c' w', Hid ((Builtin.append_ #[35, 35] 35 #[.slice none 0 0, .slice (if ca = 1 then some ⟨tb, 0, none⟩ else some ⟨tb, 2, none⟩) (n - 1) (ca - 1)]).run Try.prog w = .ok (.slice a' n' c') w') ∧ Hid (Its w' (.slice a' n' c') r ∧ Below w.heap.size w w' ∧ (∀ k, (Value.slice a' n' c').ownBlock = some k → w.heap.size ≤ k)) := by
  have hlie : Lie w tb (if ca = 1 then 0 else 2) r := by
    by_cases q : ca = 1
    · obtain rfl : r = [] := List.length_eq_zero_iff.1 (by omega)
      intro j u hu
      simp [icells] at hu
    · rw [if_neg q]
      have := h.lie.drop 1
      simpa using this
  obtain ⟨v', w', r1, r2, r3, r4⟩ := run_dupT (ca := ca - 1) hlie (by omega) 35
  rw [show r.length = n - 1 by omega, show (some ⟨tb, if ca = 1 then 0 else 2, none⟩ : Option Addr) = (if ca = 1 then some ⟨tb, 0, none⟩ else some ⟨tb, 2, none⟩) by split <;> rfl] at r1
  obtain ⟨a', n', c', rfl⟩ := slice_of r2
  exact ⟨a', n', c', w', r1, r2, r3, r4⟩
set_option maxHeartbeats 4000000 in
theorem rcome_any (w : World) (b : Nat) (q : Q) (v vl : Value) (h : RA w b q v vl) (ok : Ok q) :
    Calls Try.prog 33 #[.pointer (some ⟨b, 0, none⟩)] w fun e w' => ∃ idv v' vl', e = .returned idv ∧ RA w' b (comeQ q).2 v' vl' ∧ Stp b v vl v' vl' w w' ∧ Ids w.heap.size w' idv (comeQ q).1 := by
  have H0 : Hid (Rc w w b q v vl (.slice none 0 0) 0) := ⟨v, vl, by unfold qAt; simpa using h, Stp.refl _ _ _ _, Ids.nil _ _⟩
  have HK := hide (cnt_low q.cap q.bytes q.L q.H)
  have HKA := hide (cnt_at q.cap q.bytes q.L q.H)
  have HOK := hide (fun i (hi : i ≤ comeN q) => qAt_ok ok hi)
  have hln := ok.ln
  have hszL := hide ok.szL
  have hb2 := hide ok.b2
  obtain ⟨K, hK⟩ : ∃ K, Hid (comeN q = K) := ⟨_, rfl⟩
  have hKN := hide (cnt_le q.cap q.bytes q.L q.H)
  have eK : cnt q.cap q.bytes q.H q.L = K := hK.out
  rw [eK] at HK HKA hKN
  rw [hK.out] at HOK
  have FIN : Hid (∀ W idv v' vl', RA W b (qAt q K) v' vl' → Stp b v vl v' vl' w W → Ids w.heap.size W idv ((q.L.take K).map (·.1)) → ∃ idv' v' vl', Ending.returned idv = .returned idv' ∧ RA W b (comeQ q).2 v' vl' ∧ Stp b v vl v' vl' w W ∧ Ids w.heap.size W idv' (comeQ q).1) := by
    intro W idv v' vl' h1 h2 h3
    unfold comeQ
    rw [hK.out]
    exact ⟨idv, v', vl', rfl, h1, h2, h3⟩
  clear h eK ok
  go_enter Try.func33, Try.ntmps33
  go_wp2_with fail
  go_loopw [3] (fun s3 wr => ∃ i : Nat, i ≤ K ∧ Hid (Rc w wr b q v vl s3 i)) (fun s3 wr => q.L.length - lenV s3)
  case atStart => exact ⟨0, Nat.zero_le _, H0.out⟩
  case round =>
    obtain ⟨i, hiK, v', vl', A1, S1, I1⟩ := hrel
    have lik : ((q.L.take i).map (·.1)).length = i := by rw [List.length_map, List.length_take]; exact Nat.min_eq_left (Nat.le_trans hiK hKN.out)
    obtain ⟨ai, ci, hidv⟩ := I1.form
    rw [lik] at hidv
    subst hidv
    obtain ⟨-, -, c2, c3⟩ := A1.cells
    by_cases hiN : i < q.L.length
    · have hd : (qAt q i).L = g q.L i :: q.L.drop (i + 1) := by show q.L.drop i = _; rw [← g_get hiN]; exact List.drop_eq_getElem_cons hiN
      have A1L := A1.line
      rw [hd] at A1L
      obtain ⟨lb, lc, hvl, zz1, zz2, hrd⟩ := A1L.read (by simp)
      obtain ⟨r0, r1⟩ := hrd 0 (by simp)
      obtain ⟨n, hn⟩ : ∃ n, Hid ((g q.L i :: q.L.drop (i + 1)).length = n) := ⟨_, rfl⟩
      rw [hn.out] at hvl zz1
      subst hvl
      clear hrd
      have hn1 : Hid (n = (q.L.drop (i + 1)).length + 1) := by rw [← hn.out]; rfl
      rw [g_zero] at r0 r1
      simp only [Nat.zero_mul, Nat.zero_add] at r0 r1
      obtain ⟨xi, xs, hx⟩ : ∃ xi xs, Hid (g q.L i = (xi, xs)) := ⟨_, _, rfl⟩
      have hxb := hszL.out (g q.L i) (by rw [← g_get hiN]; exact List.getElem_mem hiN)
      have ROM := rroom_any wr b (qAt q i) v' _ (g q.L i).2 A1 (HOK.out i hiK) hxb.1 (Int.le_trans hxb.2 hb2.out)
      have er : room (qAt q i) (g q.L i).2 = roomH q.cap q.bytes (q.H ++ q.L.take i) (g q.L i).2 := rfl
      rw [er] at ROM
      rw [hx.out] at r0 r1
      simp only at r0 r1
      have t1 : (n : Int) > 0 := by have := hn1.out; omega
      have zc : Hid (n ≤ lc) := zz1
      clear er hxb zz1 zz2
      by_cases hK1 : i < K
      · rw [HK.out i hK1, hx.out] at ROM
        replace ROM := hide ROM
        obtain ⟨ia, ic, hvi, zz1, zz2⟩ := A1.row.form
        obtain ⟨hn', hhn⟩ : ∃ hn' : Nat, Hid ((qAt q i).H.length = hn') := ⟨_, rfl⟩
        rw [hhn.out] at hvi
        subst hvi
        obtain ⟨qi, hqi⟩ : ∃ qi, Hid (qAt q i = qi) := ⟨_, rfl⟩
        obtain ⟨rr, hrr⟩ : ∃ rr, Hid (q.L.drop (i + 1) = rr) := ⟨_, rfl⟩
        simp only at ROM
        rw [hqi.out] at A1 hhn hd
        rw [hrr.out, hx.out] at hd A1L
        rw [hrr.out] at hn1
        have okq := HOK.out i hiK
        rw [hqi.out] at okq
        have hHl : Hid (qi.H.length ≤ 100000) := Nat.le_trans okq.hn (by decide)
        have hrl : rr.length ≤ 1024 := by have h5 := okq.ln; rw [hd] at h5; exact Nat.le_trans (Nat.le_succ _) h5
        -- a line's first cells, wherever the queue lies so
        have LC : Hid (∀ x, Tr x (.slice (some ⟨lb, 0, none⟩) n lc) qi.L → x.cell? ⟨lb, 0, none⟩ = some (.int .i64 xi) ∧ x.cell? ⟨lb, 1, none⟩ = some (.int .i64 xs)) := by
          intro x hx1
          rw [hd] at hx1
          obtain ⟨lb', lc', e, _, _, hrd⟩ := hx1.read (by simp)
          simp only [Value.slice.injEq, Option.some.injEq, Addr.mk.injEq] at e
          obtain ⟨⟨rfl, -⟩, -, rfl⟩ := e
          have := hrd 0 (by simp)
          rw [g_zero] at this
          simpa using this
        have AP3 : Hid (∀ u, Qt wr u → ∃ a6 n6 c6 w6, Hid ((Builtin.append_ #[36, 36] 36 #[.slice ai i ci, .slice (some ⟨u.heap.size, 0, none⟩) 1 1]).run Try.prog (u.alloc (.cells #[.int .i64 xi] 2)) = .ok (.slice a6 n6 c6) w6) ∧ Hid (RA w6 b qi (.slice ia hn' ic) (.slice (some ⟨lb, 0, none⟩) n lc) ∧ Stp b v vl (.slice ia hn' ic) (.slice (some ⟨lb, 0, none⟩) n lc) w w6 ∧ Ids w.heap.size w6 (.slice a6 n6 c6) ((q.L.take i).map (·.1) ++ [xi]) ∧ n6 = i + 1)) := by
          intro u hu
          have B5 := keepF (hu.below wr.heap.size) (box_below u (.cells #[.int .i64 xi] 2))
          have A5 := A1.below B5
          have I5 := I1.below B5
          have N5 := heap_alloc_new u (.cells #[.int .i64 xi] 2)
          have N6 : (u.alloc (.cells #[.int .i64 xi] 2)).cell? ⟨u.heap.size, 0, none⟩ = some (.int .i64 xi) := by rw [cell_of N5]; simp
          have hlen6 : ((q.L.take i).map (·.1)).length ≤ 1000000 := by rw [lik]; exact Nat.le_trans (Nat.le_of_lt hiN) (Nat.le_trans hln (by decide))
          obtain ⟨v6, w6, g1, g2, g3, g4⟩ := run_appN xi u.heap.size I5 N6 hlen6 (Nat.le_trans S1.1.size B5.size) 36
          have IA := I5.apartR A5
          have gb : But (fun k => (Value.slice ai i ci).ownBlock = some k) (u.alloc (.cells #[.int .i64 xi] 2)) w6 := But.of_grownBy g3 fun k e => e
          obtain ⟨a6, c6, e6⟩ := g2.form
          have l6 : ((q.L.take i).map (·.1) ++ [xi]).length = i + 1 := by rw [List.length_append, lik]; rfl
          rw [l6] at e6
          subst e6
          refine ⟨a6, i + 1, c6, w6, g1, A5.but gb fun k hk e => IA k e hk, ?_, g2, rfl⟩
          have S5 := S1.trans (Stp.below B5)
          refine ⟨⟨gb.os.trans S5.1.os, gb.tape.trans S5.1.tape, gb.output.trans S5.1.output, Nat.le_trans S5.1.size gb.size, fun k hk hx => ?_⟩, S5.2⟩
          rw [gb.block k (Nat.lt_of_lt_of_le hk S5.1.size) (fun e => by have := (I1.lt k e).1; omega)]
          exact S5.1.block k hk hx
        clear A1 S1 I1 A1L FIN HK HKA zz1 zz2 okq
        have FC3 : Hid (∀ u, Qt wr u → u.cell? ⟨b, 3, none⟩ = some (.slice (some ⟨lb, 0, none⟩) n lc) ∧ u.cell? ⟨lb, 0, none⟩ = some (.int .i64 xi)) := fun u hu => ⟨by rw [hu.cell]; exact c3, by rw [hu.cell]; exact r0⟩
        go_upto_region 4 with (first | (go_at_call 28; refine ROM.out.mono ?_; rintro e u ⟨rfl, qu⟩; obtain ⟨f3, f0⟩ := FC3.out u qu; obtain ⟨a6, n6, c6, w6, r6, hh⟩ := AP3.out u qu; clear qu) | (at_builtin; refine wpList_append_runN rfl (.tmp 21) (.tmp 29) rfl rfl rfl r6.out ?_))
        have K4 : Hid (∀ x, Below w6.heap.size w6 x → Rx x b qi (.slice ia hn' ic) (.slice (some ⟨lb, 0, none⟩) n lc) ∧ x.cell? ⟨lb, 0, none⟩ = some (.int .i64 xi) ∧ x.cell? ⟨lb, 1, none⟩ = some (.int .i64 xs)) := fun x bx => ⟨(hh.out.1.below bx).box, LC.out x (hh.out.1.below bx).line⟩
        have APX : Hid (∀ x, Below w6.heap.size w6 x → ∃ a7 n7 c7 w7, Hid ((Builtin.append_ #[35, 35] 35 #[.slice ia hn' ic, .slice (some ⟨x.heap.size, 0, none⟩) 1 1]).run Try.prog (x.alloc (.cells #[.int .i64 xi, .int .i64 xs] 48)) = .ok (.slice a7 n7 c7) w7) ∧
            Hid (Rx (x.alloc (.cells #[.int .i64 xi, .int .i64 xs] 48)) b qi (.slice ia hn' ic) (.slice (some ⟨lb, 0, none⟩) n lc) ∧ (x.alloc (.cells #[.int .i64 xi, .int .i64 xs] 48)).cell? ⟨lb, 0, none⟩ = some (.int .i64 xi) ∧ (x.alloc (.cells #[.int .i64 xi, .int .i64 xs] 48)).cell? ⟨lb, 1, none⟩ = some (.int .i64 xs)) ∧
            Hid (Rx w7 b qi (.slice ia hn' ic) (.slice (some ⟨lb, 0, none⟩) n lc) ∧ w7.cell? ⟨lb, 0, none⟩ = some (.int .i64 xi) ∧ w7.cell? ⟨lb, 1, none⟩ = some (.int .i64 xs)) ∧
            Hid (RA (w7.setCell ⟨b, 2, none⟩ (.slice a7 n7 c7)) b ⟨qi.cap, qi.bytes, qi.H ++ [(xi, xs)], qi.L⟩ (.slice a7 n7 c7) (.slice (some ⟨lb, 0, none⟩) n lc) ∧ Stp b v vl (.slice a7 n7 c7) (.slice (some ⟨lb, 0, none⟩) n lc) w (w7.setCell ⟨b, 2, none⟩ (.slice a7 n7 c7)) ∧ Ids w.heap.size (w7.setCell ⟨b, 2, none⟩ (.slice a7 n7 c7)) (.slice a6 n6 c6) ((q.L.take i).map (·.1) ++ [xi]))) := by
          intro x bx
          have B5 := keepF bx (box_below x (.cells #[.int .i64 xi, .int .i64 xs] 48))
          have A5 := hh.out.1.below B5
          have I5 := hh.out.2.2.1.below B5
          obtain ⟨v', w7, e1, e2, e3, e4⟩ := run_appL (xi, xs) x.heap.size (.inl A5.row) (Ib.new x (xi, xs)) (Nat.le_trans hHl.out (by decide)) 35
          obtain ⟨x1, x2, x3⟩ := A5.setI e3 e2 e4
          have l7 := A5.lineL e3
          obtain ⟨a', n', c', rfl⟩ := slice_of e2
          exact ⟨a', n', c', w7, e1, ⟨A5.box, LC.out _ A5.line⟩, ⟨x1, LC.out _ l7⟩, x2, (hh.out.2.1.trans (Stp.below B5)).trans x3, I5.but x3.1 (I5.apartR A5)⟩
        obtain rfl : n6 = i + 1 := hh.out.2.2.2
        clear hh
        refine wp_region_T (fun x => Rx x b qi (.slice ia hn' ic) (.slice (some ⟨lb, 0, none⟩) n lc) ∧ x.cell? ⟨lb, 0, none⟩ = some (.int .i64 xi) ∧ x.cell? ⟨lb, 1, none⟩ = some (.int .i64 xs)) 15 (by kernel_rfl) ?_
        have KP := hide (K4.out w6.drew (Below.refl _ _).drew)
        have AP := hide (APX.out w6.drew (Below.refl _ _).drew)
        clear K4 APX
        generalize w6.drew = x1 at *
        refine wpAnyT_take (i := 0) (oi := { dst := some 31, op := Op.move (Operand.tmp 0), type := 28, pos := "ref.go:73", after := #[], guard := none }) (v := .pointer (some ⟨b, 0, none⟩)) [13, 14, 15] rfl (by kernel_rfl) (by kernel_rfl) (by kernel_rfl) (by kernel_rfl) (fun _ _ _ h => h) (Or.inl ⟨by rfl, ?_⟩) KP.out ?_
        · intro wq hSw
          obtain ⟨y2, y3⟩ := hSw.1.cells
          obtain ⟨y0, y1⟩ := hSw.2
          go_simp
        (try simp only [Act.put, List.setIfInBounds_toArray, List.set_cons_zero, List.set_cons_succ])
        refine wpAnyT_take (i := 1) (oi := { dst := some 32, op := Op.move (Operand.tmp 0), type := 28, pos := "ref.go:73", after := #[], guard := none }) (v := .pointer (some ⟨b, 0, none⟩)) [2, 3, 4, 12, 15] rfl (by kernel_rfl) (by kernel_rfl) (by kernel_rfl) (by kernel_rfl) (fun _ _ _ h => h) (Or.inl ⟨by rfl, ?_⟩) KP.out ?_
        · intro wq hSw
          obtain ⟨y2, y3⟩ := hSw.1.cells
          obtain ⟨y0, y1⟩ := hSw.2
          go_simp
        (try simp only [Act.put, List.setIfInBounds_toArray, List.set_cons_zero, List.set_cons_succ])
        refine wpAnyT_take (i := 2) (oi := { dst := some 33, op := Op.nilCheck (Operand.tmp 32), type := 0, pos := "ref.go:73", after := #[{ on := 1, ground := Ground.data }], guard := none }) (v := .pointer (some ⟨b, 0, none⟩)) [3, 4, 12, 15] rfl (by kernel_rfl) (by kernel_rfl) (by kernel_rfl) (by kernel_rfl) (fun _ _ _ h => h) (Or.inl ⟨by rfl, ?_⟩) KP.out ?_
        · intro wq hSw
          obtain ⟨y2, y3⟩ := hSw.1.cells
          obtain ⟨y0, y1⟩ := hSw.2
          go_simp
        (try simp only [Act.put, List.setIfInBounds_toArray, List.set_cons_zero, List.set_cons_succ])
        refine wpAnyT_take (i := 3) (oi := { dst := some 34, op := Op.fieldAddr 61 (Operand.tmp 33) 2, type := 0, pos := "ref.go:73", after := #[{ on := 2, ground := Ground.data }], guard := none }) (v := .pointer (some ⟨b, 2, none⟩)) [4, 12, 15] rfl (by kernel_rfl) (by kernel_rfl) (by kernel_rfl) (by kernel_rfl) (fun _ _ _ h => h) (Or.inl ⟨by rfl, ?_⟩) KP.out ?_
        · intro wq hSw
          obtain ⟨y2, y3⟩ := hSw.1.cells
          obtain ⟨y0, y1⟩ := hSw.2
          go_simp
        (try simp only [Act.put, List.setIfInBounds_toArray, List.set_cons_zero, List.set_cons_succ])
        refine wpAnyT_take (i := 4) (oi := { dst := some 35, op := Op.load 35 (Operand.tmp 34), type := 35, pos := "ref.go:73", after := #[{ on := 3, ground := Ground.data }], guard := none }) (v := .slice ia hn' ic) [12, 15] rfl (by kernel_rfl) (by kernel_rfl) (by kernel_rfl) (by kernel_rfl) (fun _ _ _ h => h) (Or.inl ⟨by rfl, ?_⟩) KP.out ?_
        · intro wq hSw
          obtain ⟨y2, y3⟩ := hSw.1.cells
          obtain ⟨y0, y1⟩ := hSw.2
          go_simp
        (try simp only [Act.put, List.setIfInBounds_toArray, List.set_cons_zero, List.set_cons_succ])
        refine wpAnyT_take (i := 5) (oi := { dst := some 36, op := Op.move (Operand.tmp 0), type := 28, pos := "ref.go:73", after := #[], guard := none }) (v := .pointer (some ⟨b, 0, none⟩)) [6, 7, 8, 9, 10, 11, 12, 15] rfl (by kernel_rfl) (by kernel_rfl) (by kernel_rfl) (by kernel_rfl) (fun _ _ _ h => h) (Or.inl ⟨by rfl, ?_⟩) KP.out ?_
        · intro wq hSw
          obtain ⟨y2, y3⟩ := hSw.1.cells
          obtain ⟨y0, y1⟩ := hSw.2
          go_simp
        (try simp only [Act.put, List.setIfInBounds_toArray, List.set_cons_zero, List.set_cons_succ])
        refine wpAnyT_take (i := 6) (oi := { dst := some 37, op := Op.nilCheck (Operand.tmp 36), type := 0, pos := "ref.go:73", after := #[{ on := 5, ground := Ground.data }], guard := none }) (v := .pointer (some ⟨b, 0, none⟩)) [7, 8, 9, 10, 11, 12, 15] rfl (by kernel_rfl) (by kernel_rfl) (by kernel_rfl) (by kernel_rfl) (fun _ _ _ h => h) (Or.inl ⟨by rfl, ?_⟩) KP.out ?_
        · intro wq hSw
          obtain ⟨y2, y3⟩ := hSw.1.cells
          obtain ⟨y0, y1⟩ := hSw.2
          go_simp
        (try simp only [Act.put, List.setIfInBounds_toArray, List.set_cons_zero, List.set_cons_succ])
        refine wpAnyT_take (i := 7) (oi := { dst := some 38, op := Op.fieldAddr 61 (Operand.tmp 37) 3, type := 0, pos := "ref.go:73", after := #[{ on := 6, ground := Ground.data }], guard := none }) (v := .pointer (some ⟨b, 3, none⟩)) [8, 9, 10, 11, 12, 15] rfl (by kernel_rfl) (by kernel_rfl) (by kernel_rfl) (by kernel_rfl) (fun _ _ _ h => h) (Or.inl ⟨by rfl, ?_⟩) KP.out ?_
        · intro wq hSw
          obtain ⟨y2, y3⟩ := hSw.1.cells
          obtain ⟨y0, y1⟩ := hSw.2
          go_simp
        (try simp only [Act.put, List.setIfInBounds_toArray, List.set_cons_zero, List.set_cons_succ])
        refine wpAnyT_take (i := 8) (oi := { dst := some 39, op := Op.load 35 (Operand.tmp 38), type := 35, pos := "ref.go:73", after := #[{ on := 7, ground := Ground.data }], guard := none }) (v := .slice (some ⟨lb, 0, none⟩) n lc) [9, 10, 11, 12, 15] rfl (by kernel_rfl) (by kernel_rfl) (by kernel_rfl) (by kernel_rfl) (fun _ _ _ h => h) (Or.inl ⟨by rfl, ?_⟩) KP.out ?_
        · intro wq hSw
          obtain ⟨y2, y3⟩ := hSw.1.cells
          obtain ⟨y0, y1⟩ := hSw.2
          go_simp
        (try simp only [Act.put, List.setIfInBounds_toArray, List.set_cons_zero, List.set_cons_succ])
        refine wpAnyT_take (i := 9) (oi := { dst := some 40, op := Op.indexAddr 35 (Operand.tmp 39) (Operand.const (Value.int IntKind.i64 0)), type := 0, pos := "ref.go:73", after := #[{ on := 8, ground := Ground.data }], guard := none }) (v := .pointer (some ⟨lb, 0, none⟩)) [10, 11, 12, 15] rfl (by kernel_rfl) (by kernel_rfl) (by kernel_rfl) (by kernel_rfl) (fun _ _ _ h => h) (Or.inl ⟨by rfl, ?_⟩) KP.out ?_
        · intro wq hSw
          obtain ⟨y2, y3⟩ := hSw.1.cells
          obtain ⟨y0, y1⟩ := hSw.2
          go_simp
        (try simp only [Act.put, List.setIfInBounds_toArray, List.set_cons_zero, List.set_cons_succ])
        refine wpAnyT_take (i := 10) (oi := { dst := some 41, op := Op.load 48 (Operand.tmp 40), type := 48, pos := "ref.go:73", after := #[{ on := 9, ground := Ground.data }], guard := none }) (v := .agg #[.int .i64 xi, .int .i64 xs]) [11, 12, 15] rfl (by kernel_rfl) (by kernel_rfl) (by kernel_rfl) (by kernel_rfl) (fun _ _ _ h => h) (Or.inl ⟨by rfl, ?_⟩) KP.out ?_
        · intro wq hSw
          obtain ⟨y2, y3⟩ := hSw.1.cells
          obtain ⟨y0, y1⟩ := hSw.2
          go_simp
        (try simp only [Act.put, List.setIfInBounds_toArray, List.set_cons_zero, List.set_cons_succ])
        obtain ⟨a7, n7, c7, w7, r7, K5, K6, hh⟩ := AP.out
        clear AP
        refine wpAnyT_one (i := 11) (o := { dst := some 42, op := Op.buildSlice 35 1 #[(0, Operand.tmp 41)], type := 35, pos := "ref.go:73", after := #[{ on := 10, ground := Ground.data }], guard := none }) (by kernel_rfl) rfl (fun K hK => ?_)
        go_simp
        refine hK.out _ _ (fun _ => K5.out) ?_
        clear hK K
        (try simp only [Act.put, List.setIfInBounds_toArray, List.set_cons_zero, List.set_cons_succ])
        refine wpAnyT_one (i := 12) (o := { dst := some 43, op := Op.call { callee := Callee.builtin Builtin.append, args := #[Operand.tmp 35, Operand.tmp 42], argTypes := #[35, 35] }, type := 35, pos := "ref.go:73", after := #[{ on := 4, ground := Ground.data }, { on := 11, ground := Ground.data }], guard := none }) (by kernel_rfl) rfl (fun K hK => ?_)
        rw [if_pos (by simp [Region.wanted])]
        refine Lib.wp_append_run _ (.tmp 35) (.tmp 42) 35 35 rfl (.slice ia hn' ic) (.slice (some ⟨x1.heap.size, 0, none⟩) 1 1) (by simp [Act.eval]) (by simp [Act.eval]) _ w7 r7.out ?_
        refine hK.out _ _ (fun _ => K6.out) ?_
        clear hK K
        (try simp only [Act.put, List.setIfInBounds_toArray, List.set_cons_zero, List.set_cons_succ])
        refine wpAnyT_one (i := 13) (o := { dst := some 44, op := Op.nilCheck (Operand.tmp 31), type := 0, pos := "ref.go:73", after := #[{ on := 0, ground := Ground.data }, { on := 0, ground := Ground.phase }, { on := 1, ground := Ground.phase }, { on := 2, ground := Ground.phase }, { on := 3, ground := Ground.phase }, { on := 4, ground := Ground.phase }, { on := 5, ground := Ground.phase }, { on := 6, ground := Ground.phase }, { on := 7, ground := Ground.phase }, { on := 8, ground := Ground.phase }, { on := 9, ground := Ground.phase }, { on := 10, ground := Ground.phase }, { on := 11, ground := Ground.phase }, { on := 12, ground := Ground.phase }], guard := none }) (by kernel_rfl) rfl (fun K hK => ?_)
        go_simp
        refine hK.out _ _ (fun _ => K6.out) ?_
        clear hK K
        (try simp only [Act.put, List.setIfInBounds_toArray, List.set_cons_zero, List.set_cons_succ])
        refine wpAnyT_one (i := 14) (o := { dst := some 45, op := Op.fieldAddr 61 (Operand.tmp 44) 2, type := 0, pos := "ref.go:73", after := #[{ on := 13, ground := Ground.data }, { on := 0, ground := Ground.phase }, { on := 1, ground := Ground.phase }, { on := 2, ground := Ground.phase }, { on := 3, ground := Ground.phase }, { on := 4, ground := Ground.phase }, { on := 5, ground := Ground.phase }, { on := 6, ground := Ground.phase }, { on := 7, ground := Ground.phase }, { on := 8, ground := Ground.phase }, { on := 9, ground := Ground.phase }, { on := 10, ground := Ground.phase }, { on := 11, ground := Ground.phase }, { on := 12, ground := Ground.phase }], guard := none }) (by kernel_rfl) rfl (fun K hK => ?_)
        go_simp
        refine hK.out _ _ (fun _ => K6.out) ?_
        clear hK K
        (try simp only [Act.put, List.setIfInBounds_toArray, List.set_cons_zero, List.set_cons_succ])
        obtain ⟨j2, -⟩ := K6.out.1.cells
        have j4 := K6.out.1.frozen 2
        refine wpAnyT_one (i := 15) (o := { dst := none, op := Op.store 35 (Operand.tmp 45) (Operand.tmp 43), type := 0, pos := "ref.go:73", after := #[{ on := 14, ground := Ground.data }, { on := 12, ground := Ground.data }, { on := 12, ground := Ground.chain }, { on := 0, ground := Ground.phase }, { on := 1, ground := Ground.phase }, { on := 2, ground := Ground.phase }, { on := 3, ground := Ground.phase }, { on := 4, ground := Ground.phase }, { on := 5, ground := Ground.phase }, { on := 6, ground := Ground.phase }, { on := 7, ground := Ground.phase }, { on := 8, ground := Ground.phase }, { on := 9, ground := Ground.phase }, { on := 10, ground := Ground.phase }, { on := 11, ground := Ground.phase }, { on := 12, ground := Ground.phase }], guard := none }) (by kernel_rfl) rfl (fun K hK => ?_)
        go_simp
        refine hK.out _ _ (vac (by kernel_rfl)) ?_
        clear hK K
        (try simp only [Act.put, List.setIfInBounds_toArray, List.set_cons_zero, List.set_cons_succ])
        refine wpAnyT_done (by kernel_rfl) ?_ _
        clear KP K5 K6 r7 r6 j2 j4
        generalize w7.setCell ⟨b, 2, none⟩ (.slice a7 n7 c7) = w8 at *
        obtain ⟨-, -, -, k3⟩ := hh.out.1.cells
        have DT : ∃ a9 n9 c9 w9, Hid ((Builtin.append_ #[35, 35] 35 #[.slice none 0 0, .slice (if lc = 1 then some ⟨lb, 0, none⟩ else some ⟨lb, 2, none⟩) (n - 1) (lc - 1)]).run Try.prog w8 = .ok (.slice a9 n9 c9) w9) ∧ Hid (Rx w9 b ⟨qi.cap, qi.bytes, qi.H ++ [(xi, xs)], qi.L⟩ (.slice a7 n7 c7) (.slice (some ⟨lb, 0, none⟩) n lc)) ∧ Hid (Rc w (w9.setCell ⟨b, 3, none⟩ (.slice a9 n9 c9)) b q v vl (.slice a6 (i + 1) c6) (i + 1)) := by
          have l8 := hh.out.1.line
          rw [show (⟨qi.cap, qi.bytes, qi.H ++ [(xi, xs)], qi.L⟩ : Q).L = (xi, xs) :: rr from hd] at l8
          obtain ⟨a9, n9, c9, w9, e1, e2⟩ := dup_tail l8 hn1.out zc.out (Nat.le_trans hrl (by decide))
          obtain ⟨x1, x2, x3⟩ := hh.out.1.setL (But.of_below e2.out.2.1 _) (.inl e2.out.1) fun k hk => .inr (e2.out.2.2 k hk)
          refine ⟨a9, n9, c9, w9, e1, x1, .slice a7 n7 c7, .slice a9 n9 c9, ?_, hh.out.2.1.trans x3, ?_⟩
          · have eq : qAt q (i + 1) = ⟨qi.cap, qi.bytes, qi.H ++ [(xi, xs)], rr⟩ := by
              rw [← hqi.out, ← hrr.out, ← hx.out, ← g_get hiN]
              unfold qAt
              simp [List.take_append_getElem hiN]
            rw [eq]
            exact x2
          · have ei : (q.L.take (i + 1)).map (·.1) = (q.L.take i).map (·.1) ++ [xi] := by
              rw [← List.take_append_getElem hiN, List.map_append, g_get hiN, hx.out]
              rfl
            rw [ei]
            exact hh.out.2.2.but x3.1 (hh.out.2.2.apartR hh.out.1)
        obtain ⟨a9, n9, c9, w9, r9, K9, K10⟩ := DT
        obtain ⟨-, m3⟩ := K9.out.cells
        have m4 := K9.out.frozen 3
        clear hh K9
        have M1 : (1 : Int) ≤ (n : Int) := by have := hn1.out; omega
        have M3 : (n : Int) ≤ (lc : Int) := by have := zc.out; omega
        clear c2 c3 r0 r1 f3 f0 hd LC AP3 FC3 ROM hln H0 HOK hKN
        go_wp2_with (at_builtin; refine wpList_append_runI rfl (.const (.slice none 0 0)) (.tmp 51) rfl rfl rfl r9.out ?_)
        go_roundw
        case rel => exact ⟨i + 1, hK1, K10.out⟩
        case measure => show q.L.length - lenV (.slice a6 (i + 1) c6) < q.L.length - lenV (.slice ai i ci); simp only [lenV]; omega
      · obtain rfl : i = K := Nat.le_antisymm hiK (Nat.not_lt.1 hK1)
        rw [HKA.out hiN, hx.out] at ROM
        replace ROM := hide ROM
        have FF : Hid (∀ u, Qt wr u → ∃ idv' v' vl', Ending.returned (.slice ai i ci) = .returned idv' ∧ RA u b (comeQ q).2 v' vl' ∧ Stp b v vl v' vl' w u ∧ Ids w.heap.size u idv' (comeQ q).1) := fun u hu => FIN.out u _ _ _ (A1.qt hu) (S1.trans (Stp.below (hu.below _))) (I1.below (hu.below _))
        clear A1 S1 I1 A1L FIN HK HKA
        go_wp2_with (go_at_call 28; refine ROM.out.mono ?_; rintro e u ⟨rfl, qu⟩; have GG := hide (FF.out u qu); clear qu)
        go_ret
        exact GG.out
    · obtain rfl : i = K := Nat.le_antisymm hiK (Nat.le_trans hKN.out (Nat.not_lt.1 hiN))
      have hd : (qAt q i).L = [] := List.drop_of_length_le (Nat.not_lt.1 hiN)
      obtain ⟨la, lc, hvl, zz1, zz2⟩ := A1.line.form
      rw [hd] at hvl
      simp only [List.length_nil] at hvl
      subst hvl
      have FF := hide (FIN.out wr _ _ _ A1 S1 I1)
      clear A1 S1 I1 FIN HK HKA zz1 zz2
      go_wp2_with fail
      go_ret
      exact FF.out
end Go.Proofs.Ytfoleeamhhodaaa.Qu

/-
  The document's Take. (gen_RqE.py)
-/
namespace Go.Proofs.Ytfoleeamhhodaaa.Qu
open Go.RowKit
set_option linter.unusedVariables false
set_option maxRecDepth 100000
def qOut (q : Q) (i : Nat) : Q := ⟨q.cap, q.bytes, q.H.drop i, q.L⟩
theorem qOut_ok {q : Q} (h : Ok q) (i : Nat) : Ok (qOut q i) := by
  have hs := sum_split q.H i
  have h1 : 0 ≤ sumS (q.H.take i) := sumS_nonneg fun x hx => (h.sz x (List.mem_of_mem_take hx)).1
  have := h.us
  have := h.hl
  exact ⟨h.c1, h.c2, h.b1, h.b2, by show ((q.H.drop _).length : Int) ≤ q.cap; rw [List.length_drop]; omega, by show sumS (q.H.drop _) ≤ q.bytes; omega, h.ln, fun x hx => h.sz x (List.mem_of_mem_drop hx), h.szL⟩
def Rt (w wr : World) (b : Nat) (q : Q) (v vl ov : Value) (i : Nat) : Prop :=
  ∃ v', RA wr b (qOut q i) v' vl ∧ Stp b v vl v' vl w wr ∧ Itb w.heap.size wr ov (q.H.take i) ∧ ∀ k, ov.ownBlock = some k → ¬ Own b v' vl k
set_option maxHeartbeats 4000000 in
theorem rtake_any (w : World) (b : Nat) (q : Q) (v vl : Value) (most bytes : Int) (h : RA w b q v vl) (ok : Ok q) :
    Calls Try.prog 12 #[.pointer (some ⟨b, 0, none⟩), .int .i64 most, .int .i64 bytes] w fun e w' => ∃ ov idv v' vl', e = .returned (.tuple #[ov, idv]) ∧ RA w' b (takeQ q most bytes).2.2 v' vl' ∧ Stp b v vl v' vl' w w' ∧ Itb w.heap.size w' ov (takeQ q most bytes).1 ∧ Ids w.heap.size w' idv (takeQ q most bytes).2.1 := by
  have hlt := hide h.lt
  have H0 : Hid (Rt w w b q v vl (.slice none 0 0) 0) := ⟨v, by unfold qOut; simpa using h, Stp.refl _ _ _ _, World.ownsRow_nil _ _ _ _, fun k hk => by simp [Value.ownBlock] at hk⟩
  have HLo := hide (out_low most bytes q.H 0 0)
  have HAt := hide (out_at most bytes q.H 0 0)
  have hKN := hide (out_le most bytes q.H 0 0)
  have hsums := hide ok.sums
  have hHl := hide ok.hn
  have hsz := hide ok.sz
  have hb2 := hide ok.b2
  have hok := hide (qOut_ok ok)
  obtain ⟨K, hK⟩ : ∃ K, Hid (outN q most bytes = K) := ⟨_, rfl⟩
  have eK : outC most bytes 0 0 q.H = K := hK.out
  rw [eK] at HLo HAt hKN
  have FIN : Hid (∀ W ov, Rt w W b q v vl ov K → Calls Try.prog 33 #[.pointer (some ⟨b, 0, none⟩)] W fun e w' => ∃ idv v' vl', e = .returned idv ∧ RA w' b (takeQ q most bytes).2.2 v' vl' ∧ Stp b v vl v' vl' w w' ∧ Itb w.heap.size w' ov (takeQ q most bytes).1 ∧ Ids w.heap.size w' idv (takeQ q most bytes).2.1) := by
    rintro W ov ⟨v1, A1, S1, I1, ap⟩
    refine (rcome_any W b _ v1 vl A1 (hok.out K)).mono ?_
    rintro e w' ⟨idv, v2, vl2, rfl, A2, S2, I2⟩
    have et : takeQ q most bytes = (q.H.take K, (comeQ (qOut q K)).1, (comeQ (qOut q K)).2) := by unfold takeQ outQ qOut; rw [hK.out]
    rw [et]
    exact ⟨idv, v2, vl2, rfl, A2, S1.trans S2, I1.but S2.1 ap, I2.raise S1.1.size⟩
  clear h eK ok
  go_enter Try.func12, Try.ntmps12
  go_wp2_with fail
  go_loopw [8] (fun s8 wr => ∃ i : Nat, i ≤ K ∧ Hid (Rt w wr b q v vl s8 i)) (fun s8 wr => q.H.length - lenV s8)
  case atStart => exact ⟨0, Nat.zero_le _, H0.out⟩
  case round =>
    obtain ⟨i, hiK, v', A1, S1, I1, ap⟩ := hrel
    have lik : (q.H.take i).length = i := by rw [List.length_take]; exact Nat.min_eq_left (Nat.le_trans hiK hKN.out)
    obtain ⟨ai, ci, hov, _, _⟩ := I1.its.form
    rw [lik] at hov
    subst hov
    obtain ⟨-, -, c2, c3⟩ := A1.cells
    have FF : Hid (i = K → ∀ u, Qt wr u → Calls Try.prog 33 #[.pointer (some ⟨b, 0, none⟩)] u fun e w' => ∃ idv v' vl', e = .returned idv ∧ RA w' b (takeQ q most bytes).2.2 v' vl' ∧ Stp b v vl v' vl' w w' ∧ Itb w.heap.size w' (.slice ai i ci) (takeQ q most bytes).1 ∧ Ids w.heap.size w' idv (takeQ q most bytes).2.1) := by
      rintro rfl u hu
      exact FIN.out u _ ⟨v', A1.qt hu, S1.trans (Stp.below (hu.below _)), I1.below (hu.below _), ap⟩
    have SM : Hid (∀ u, Qt wr u → Calls Try.prog 32 #[.slice ai i ci] u fun e w' => e = .returned (.int .i64 (sumS (q.H.take i))) ∧ w' = u) := by
      intro u hu
      refine rsum_any u _ (q.H.take i) (I1.below (hu.below _)).its.rd ?_ ?_
      · rw [lik]; exact Nat.le_trans hiK (Nat.le_trans hKN.out (Nat.le_trans hHl.out (by decide)))
      · intro j
        rw [List.take_take]
        exact hsums.out _
    by_cases hin : i < q.H.length
    · have hd : (qOut q i).H = g q.H i :: q.H.drop (i + 1) := by show q.H.drop i = _; rw [← g_get hin]; exact List.drop_eq_getElem_cons hin
      have A1R : Tr wr v' (g q.H i :: q.H.drop (i + 1)) := by rw [← hd]; exact .inl A1.row
      obtain ⟨lb, lc, hvl, zz1, zz2, hrd⟩ := A1R.read (by simp)
      obtain ⟨r0, r1⟩ := hrd 0 (by simp)
      obtain ⟨n, hn⟩ : ∃ n, Hid ((g q.H i :: q.H.drop (i + 1)).length = n) := ⟨_, rfl⟩
      rw [hn.out] at hvl zz1
      subst hvl
      clear hrd
      have hn1 : Hid (n = (q.H.drop (i + 1)).length + 1) := by rw [← hn.out]; rfl
      rw [g_zero] at r0 r1
      simp only [Nat.zero_mul, Nat.zero_add] at r0 r1
      have hxb := hsz.out (g q.H i) (by rw [← g_get hin]; exact List.getElem_mem hin)
      obtain ⟨xi, xs, hx⟩ : ∃ xi xs, Hid (g q.H i = (xi, xs)) := ⟨_, _, rfl⟩
      have zc : Hid (n ≤ lc) := zz1
      have M1 : (1 : Int) ≤ (n : Int) := by have := hn1.out; omega
      have M3 : (n : Int) ≤ (lc : Int) := by have := zc.out; omega
      have t1 : decide (0 < n) = true := decide_eq_true (by omega)
      have M0 : (0 : Int) < (n : Int) := by omega
      have ST : Hid (i < K → ∀ u, Qt wr u → u.cell? ⟨b, 2, none⟩ = some (.slice (some ⟨lb, 0, none⟩) n lc) ∧ u.cell? ⟨lb, 0, none⟩ = some (.int .i64 xi) ∧ u.cell? ⟨lb, 1, none⟩ = some (.int .i64 xs) ∧ ∃ a7 n7 c7 w7, Hid ((Builtin.append_ #[35, 35] 35 #[.slice ai i ci, .slice (some ⟨u.heap.size, 0, none⟩) 1 1]).run Try.prog (u.alloc (.cells #[.int .i64 xi, .int .i64 xs] 48)) = .ok (.slice a7 n7 c7) w7) ∧ w7.cell? ⟨b, 2, none⟩ = some (.slice (some ⟨lb, 0, none⟩) n lc) ∧
          ∃ a9 w9 n9 c9, Hid ((Builtin.append_ #[35, 35] 35 #[.slice none 0 0, .slice (if lc = 1 then some ⟨lb, 0, none⟩ else some ⟨lb, 2, none⟩) (n - 1) (lc - 1)]).run Try.prog w7 = .ok (.slice a9 n9 c9) w9) ∧ Hid (Rx w9 b (qOut q i) (.slice (some ⟨lb, 0, none⟩) n lc) vl) ∧ Hid (Rt w (w9.setCell ⟨b, 2, none⟩ (.slice a9 n9 c9)) b q v vl (.slice a7 n7 c7) (i + 1) ∧ n7 = i + 1)) := by
        intro hiK u hu
        have Au := A1.qt hu
        obtain ⟨-, -, d2, -⟩ := Au.cells
        have B5 := keepF (hu.below wr.heap.size) (box_below u (.cells #[.int .i64 xi, .int .i64 xs] 48))
        have A5 := A1.below B5
        have I5 := I1.below B5
        have hib := Ib.new u (xi, xs)
        obtain ⟨v7, w7, e1, e2, e3, e4⟩ := run_appI (xi, xs) u.heap.size I5 hib (by rw [lik]; exact Nat.le_trans (Nat.le_of_lt hin) (Nat.le_trans hHl.out (by decide))) (Nat.le_trans S1.1.size B5.size) 35
        have gb : But (fun k => (Value.slice ai i ci).ownBlock = some k) (u.alloc (.cells #[.int .i64 xi, .int .i64 xs] 48)) w7 := But.of_grownBy e3 fun k e => e
        have A7 := A5.but gb fun k hk e => ap k e hk
        obtain ⟨a7, c7, hv7, _, _⟩ := e2.its.form
        have l7 : (q.H.take i ++ [(xi, xs)]).length = i + 1 := by rw [List.length_append, lik]; rfl
        rw [l7] at hv7
        subst hv7
        have R7 : Tr w7 (.slice (some ⟨lb, 0, none⟩) n lc) (g q.H i :: q.H.drop (i + 1)) := by rw [← hd]; exact .inl A7.row
        obtain ⟨a9, n9, c9, w9, f1, f2⟩ := dup_tail R7 hn1.out zc.out (by rw [List.length_drop]; have := hHl.out; omega)
        obtain ⟨x1, x2, x3⟩ := A7.setI (But.of_below f2.out.2.1 _) f2.out.1 fun k hk => .inr (f2.out.2.2 k hk)
        have S5 := S1.trans (Stp.below B5)
        have S7 : Stp b v vl (.slice (some ⟨lb, 0, none⟩) n lc) vl w w7 := by
          refine ⟨⟨gb.os.trans S5.1.os, gb.tape.trans S5.1.tape, gb.output.trans S5.1.output, Nat.le_trans S5.1.size gb.size, fun k hk hx => ?_⟩, S5.2⟩
          rw [gb.block k (Nat.lt_of_lt_of_le hk S5.1.size) (fun e => by have := (I1.lt k e).1; omega)]
          exact S5.1.block k hk hx
        have ap7 : ∀ k, (Value.slice a7 (i + 1) c7).ownBlock = some k → ¬ Own b (.slice (some ⟨lb, 0, none⟩) n lc) vl k := by
          intro k hk ho
          rcases e4 with e | e
          · exact ap k (by rw [← e]; exact hk) ho
          · rw [e] at hk
            cases hk
            have := A5.lt _ ho
            omega
        obtain ⟨-, -, d7, -⟩ := A7.cells
        rw [hx.out] at r0 r1
        refine ⟨d2, by rw [hu.cell]; exact r0, by rw [hu.cell]; exact r1, a7, i + 1, c7, w7, e1, d7, a9, w9, n9, c9, f1, x1, ⟨.slice a9 n9 c9, x2, S7.trans x3, ?_, ?_⟩, rfl⟩
        · rw [← list_take hin, hx.out]
          exact e2.but x3.1 ap7
        · intro k hk ho
          rcases ho with rfl | ho | ho
          · exact ap7 k hk (.inl rfl)
          · have h1 := f2.out.2.2 k ho
            have h2 := (e2.lt k hk).2
            omega
          · exact ap7 k hk (.inr (.inr ho))
      rw [hx.out] at r0 r1
      simp only at r0 r1
      by_cases hm : (i : Int) < most
      · have t2 : decide ((i : Int) < most) = true := decide_eq_true hm
        by_cases hi0 : i = 0
        · have hK1 : i < K := by
            rcases Nat.lt_or_ge i K with h | h
            · exact h
            · exfalso
              have e := Nat.le_antisymm hiK h
              rw [← e] at HAt
              exact HAt.out hin ⟨by simpa using hm, .inl (by omega)⟩
          have t3 : ((i : Int) == 0) = true := by simp [hi0]
          replace ST := hide (ST.out hK1)
          clear A1 S1 I1 A1R FIN HLo HAt FF hd hxb zz2 ap hi0
          go_upto_region 2 with fail
          go_quiet ((go_at_call 32; exact Calls.quiet_of_same (SM.out _ ⟨_, rfl⟩)))
          obtain ⟨k2, k20, k21, a7, n7, c7, w7, r7, k72, a9, w9, n9, c9, r9, K9, K10⟩ := ST.out (wr.drewN nq) ⟨nq, rfl⟩
          obtain ⟨m2, -⟩ := K9.out.cells
          have m4 := K9.out.frozen 2
          clear K9 ST
          generalize wr.drewN nq = u at *
          clear c2 c3 r0 r1 SM
          go_wp2_with (first | (at_builtin; refine wpList_append_runI rfl (.tmp 40) (.tmp 47) rfl rfl rfl r7.out ?_) | (at_builtin; refine wpList_append_runI rfl (.const (.slice none 0 0)) (.tmp 54) rfl rfl rfl r9.out ?_))
          go_roundw
          case rel => exact ⟨i + 1, hK1, K10.out.1⟩
          case measure => show q.H.length - lenV (.slice a7 n7 c7) < q.H.length - lenV (.slice ai i ci); rw [K10.out.2]; simp only [lenV]; omega
        · have t3 : ((i : Int) == 0) = false := by simp [hi0]
          have hsi := hsums.out i
          have ew : IntKind.i64.wrap (sumS (q.H.take i) + xs) = sumS (q.H.take i) + xs := by
            rw [hx.out] at hxb
            have h1 := hxb.1
            have h2 := hxb.2
            have h3 := hb2.out
            exact wrap_i64 (by simp only at *; omega) (by simp only at *; omega)
          by_cases hg : sumS (q.H.take i) + xs ≤ bytes
          · have hK1 : i < K := by
              rcases Nat.lt_or_ge i K with h | h
              · exact h
              · exfalso
                have e := Nat.le_antisymm hiK h
                rw [← e] at HAt
                exact HAt.out hin ⟨by simpa using hm, .inr (by rw [hx.out]; simpa using hg)⟩
            have t4 : decide (sumS (q.H.take i) + xs ≤ bytes) = true := decide_eq_true hg
            replace ST := hide (ST.out hK1)
            generalize sumS (q.H.take i) = sm at *
            clear A1 S1 I1 A1R FIN HLo HAt FF hd hxb zz2 ap hi0 hsi
            go_upto_region 2 with fail
            go_quiet ((go_at_call 32; exact Calls.quiet_of_same (SM.out _ ⟨_, rfl⟩)))
            obtain ⟨k2, k20, k21, a7, n7, c7, w7, r7, k72, a9, w9, n9, c9, r9, K9, K10⟩ := ST.out (wr.drewN nq) ⟨nq, rfl⟩
            obtain ⟨m2, -⟩ := K9.out.cells
            have m4 := K9.out.frozen 2
            clear K9 ST
            generalize wr.drewN nq = u at *
            clear c2 c3 r0 r1 SM
            go_wp2_with (first | (at_builtin; refine wpList_append_runI rfl (.tmp 40) (.tmp 47) rfl rfl rfl r7.out ?_) | (at_builtin; refine wpList_append_runI rfl (.const (.slice none 0 0)) (.tmp 54) rfl rfl rfl r9.out ?_))
            go_roundw
            case rel => exact ⟨i + 1, hK1, K10.out.1⟩
            case measure => show q.H.length - lenV (.slice a7 n7 c7) < q.H.length - lenV (.slice ai i ci); rw [K10.out.2]; simp only [lenV]; omega
          · have hKe : i = K := by
              rcases Nat.lt_or_ge i K with h | h
              · exfalso
                rcases (HLo.out i h).2 with e | e
                · omega
                · rw [hx.out] at e; exact hg (by simpa using e)
              · exact Nat.le_antisymm hiK h
            have t4 : decide (sumS (q.H.take i) + xs ≤ bytes) = false := decide_eq_false hg
            replace FF := hide (FF.out hKe)
            clear hKe
            generalize sumS (q.H.take i) = sm at *
            clear A1 S1 I1 A1R FIN HLo HAt ST hd hxb zz2 ap hi0 hsi
            go_upto_region 2 with fail
            go_quiet ((go_at_call 32; exact Calls.quiet_of_same (SM.out _ ⟨_, rfl⟩)))
            have CM := hide (FF.out (wr.drewN nq) ⟨nq, rfl⟩)
            clear FF
            generalize wr.drewN nq = u at *
            go_wp2_with (go_at_call 33; refine CM.out.mono ?_; rintro e W ⟨idv, v2, vl2, rfl, fin⟩; replace fin := hide fin)
            go_ret2
            exact ⟨_, idv, v2, vl2, rfl, fin.out⟩
      · have t2 : decide ((i : Int) < most) = false := decide_eq_false hm
        have hKe : i = K := by
          rcases Nat.lt_or_ge i K with h | h
          · exact absurd (by simpa using (HLo.out i h).1) hm
          · exact Nat.le_antisymm hiK h
        replace FF := hide (FF.out hKe)
        clear hKe
        clear A1 S1 I1 A1R FIN HLo HAt ST hd hxb zz2 ap
        go_upto_region 2 with fail
        go_quiet ((go_at_call 32; exact Calls.quiet_of_same (SM.out _ ⟨_, rfl⟩)))
        have CM := hide (FF.out (wr.drewN nq) ⟨nq, rfl⟩)
        clear FF
        generalize wr.drewN nq = u at *
        go_wp2_with (go_at_call 33; refine CM.out.mono ?_; rintro e W ⟨idv, v2, vl2, rfl, fin⟩; replace fin := hide fin)
        go_ret2
        exact ⟨_, idv, v2, vl2, rfl, fin.out⟩
    · have hKe : i = K := Nat.le_antisymm hiK (Nat.le_trans hKN.out (Nat.not_lt.1 hin))
      have hd : (qOut q i).H = [] := List.drop_of_length_le (Nat.not_lt.1 hin)
      obtain ⟨la, lc, hvl, zz1, zz2⟩ := A1.row.form
      rw [hd] at hvl
      simp only [List.length_nil] at hvl
      subst hvl
      replace FF := hide (FF.out hKe)
      clear hKe
      clear A1 S1 I1 FIN HLo HAt zz1 zz2 ap
      go_upto_region 2 with fail
      go_quiet ((go_at_call 32; exact Calls.quiet_of_same (SM.out _ ⟨_, rfl⟩)))
      have CM := hide (FF.out (wr.drewN nq) ⟨nq, rfl⟩)
      clear FF
      generalize wr.drewN nq = u at *
      go_wp2_with (go_at_call 33; refine CM.out.mono ?_; rintro e W ⟨idv, v2, vl2, rfl, fin⟩; replace fin := hide fin)
      go_ret2
      exact ⟨_, idv, v2, vl2, rfl, fin.out⟩
end Go.Proofs.Ytfoleeamhhodaaa.Qu

