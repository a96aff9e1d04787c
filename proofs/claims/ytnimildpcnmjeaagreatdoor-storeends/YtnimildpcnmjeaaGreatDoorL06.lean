/-
  Write: the program's.
-/
import Derived.Test.YtnimildpcnmjeaaGreatDoorL05
import Derived.Test.YtnimildpcnmjeaaGreatDoorL03
import Derived.Test.YtnimildpcnmjeaaGreatDoorL04
import Derived.Recover
import Derived.Sort.Row
import Derived.Test.YtnimildpcnmjeaaGreatDoorL02
import Derived.Test.YtnimildpcnmjeaaGreatDoorL01
import Derived.Deep.RegionHeld3
import Derived.Handy
import Derived.BigRegion
import Derived.Lib.SlBytesRow
import Derived.BigQuiet
import Derived.Deep.CutRange
set_option maxRecDepth 100000
set_option maxHeartbeats 40000000
set_option linter.unusedVariables false
namespace Go.Proofs.YtnimildpcnmjeaaGreatDoor.Ct
open Go.RowKit
def Bs (B : Nat) (w : World) (v : Value) (l : List UInt8) : Prop := w.ownsRow B 5 1 v l.length (bvals l)
theorem Bs.no {B : Nat} {w : World} {v : Value} {l : List UInt8} (h : Bs B w v l) {b : Nat} {cs : Array Value} {T : TypeId} {fz : Nat × Nat} (hb : w.heap[b]? = some (.cells cs T fz)) (hT : T ≠ 5) : v.ownBlock ≠ some b := fun e1 => by
 rcases h.2 with ⟨rfl, _⟩ | ⟨g, cap, cur, rfl, hg, hh, r⟩
 ·simp [Value.ownBlock] at e1
 ·simp [Value.ownBlock] at e1
  subst e1
  rw [hb] at hh
  simp at hh
  exact hT hh.2.1
theorem Bs.low {B B' : Nat} {w : World} {v : Value} {l : List UInt8} (h : Bs B w v l) (hb : B' ≤ B) : Bs B' w v l := owns_lower h hb
theorem Bs.below {B : Nat} {w w' : World} {v : Value} {l : List UInt8} (h : Bs B w v l) (hb : Below w.heap.size w w') : Bs B w' v l := ownsRow_below h hb
theorem Bs.form {B : Nat} {w : World} {v : Value} {l : List UInt8} (h : Bs B w v l) : ∃ ao ca, v = .slice ao l.length ca := by
 rcases h.2 with ⟨rfl, e⟩ | ⟨g, cap, cur, rfl, _⟩
 ·exact ⟨_, _, by rw [e]⟩
 ·exact ⟨_, _, rfl⟩
theorem Bs.sl {B : Nat} {w : World} {v : Value} {l : List UInt8} (h : Bs B w v l) : Sl w v l := Sl.of_owns h
theorem Bs.lt {B : Nat} {w : World} {v : Value} {l : List UInt8} (h : Bs B w v l) : ∀ k, v.ownBlock = some k → B ≤ k ∧ k < w.heap.size := fun k hk => World.ownsRow.lt h k hk
theorem wpList_append_bytesA {P : Program} {w : World} {ops : Array Oper} {rest : List Oper} {o : Oper} {a : Act} {Q : Exit → Act → World → Prop} (hgd : o.guard = none) (s x : Operand) (t : TypeId)
    (ho : o.op = .call { callee := .builtin .append, args := #[s, x], argTypes := #[t, t] })
    (B : Nat) (hinf : (P.info? 5).map (fun i => (i.zero, i.size, i.bytes)) = some (some (.int .u8 0), 1, 1)) (ht : P.underlying t = some (.slice 5))
    (v vx : Value) (l m : List UInt8) (hs : a.eval s = v) (hown : Bs B w v l) (hx : a.eval x = vx) (hsl : Sl w vx m)
    (hbytes : l.length + m.length ≤ 140737488355328) (hbase : B ≤ w.heap.size)
    (h : ∀ v' w', Bs B w' v' (l ++ m) → w.grownBy w' v.ownBlock → (v'.ownBlock = v.ownBlock ∨ v'.ownBlock = some w.heap.size) → wpList P ops Q rest (a.put o.dst v') w') : wpList P ops Q (o :: rest) a w := by
 obtain ⟨i0, hi, hz0, hz1, hz2⟩ := info_parts hinf
 obtain ⟨ao, cap, rfl, h2, h3, h4, h5⟩ := hsl
 cases ao with
 | none =>
  obtain ⟨rfl, rfl⟩ := h2 rfl
  refine wpList_append_own_none hgd s x t ho B 5 i0 1 ht hi v l.length (bvals l) hs hown hx ?_
  exact h v w (by simpa using hown) ⟨rfl, rfl, rfl, Nat.le_refl _, fun _ _ _ => rfl⟩ (.inl rfl)
 | some ad =>
  have hcells : ∀ j u, (bvals m)[j]? = some u → w.cell? (ad.add j) = some u := by
   intro j u hu
   have hj : j < m.length := by
    have := (List.getElem?_eq_some_iff.1 hu).1
    simpa [bvals] using this
   obtain ⟨b, off, e1, hc⟩ := h5 j hj
   simp only [Option.some.injEq] at e1
   subst e1
   rw [bvals_get hj] at hu
   simp only [Option.some.injEq] at hu
   subst hu
   rw [addr_add]; exact hc
  refine wpList_append_own_at w hgd s x t ho B 5 i0 (.int .u8 0) 1 1 ht hi hz0 hz1 hz2 rfl (by decide) v l.length (bvals l) hs hown ad m.length cap (bvals m) hx (by simp [bvals]) hcells ?_ (by unfold maxLen; omega) (by omega) hbase ?_
  ·intro u hu
   simp only [bvals, List.mem_map] at hu
   obtain ⟨c, _, rfl⟩ := hu
   rfl
  ·intro v' w' ho' hg _ hat
   refine h v' w' ?_ hg hat
   unfold Bs
   rw [List.length_append, bvals_append]
   exact ho'
def Bf (B : Nat) (w : World) (v : Value) (l : List UInt8) : Prop := Bs B w v l ∨ ∃ b fz, v = .slice (some ⟨b, 0, none⟩) l.length l.length ∧ w.heap[b]? = some (.cells (bvals l).toArray 5 fz) ∧ B ≤ b ∧ l.length ≤ 100
theorem Bf.below {B : Nat} {w w' : World} {v : Value} {l : List UInt8} (h : Bf B w v l) (hb : Below w.heap.size w w') : Bf B w' v l := by
 rcases h with h | ⟨b, fz, h1, h2, h3⟩
 ·exact .inl (h.below hb)
 ·exact .inr ⟨b, fz, h1, by rw [hb.block b (heap_lt h2)]; exact h2, h3⟩
theorem Bf.form {B : Nat} {w : World} {v : Value} {l : List UInt8} (h : Bf B w v l) : ∃ ao ca, v = .slice ao l.length ca := by
 rcases h with h | ⟨b, fz, h1, h2, h3⟩
 ·exact h.form
 ·exact ⟨_, _, h1⟩
theorem Bf.sl {B : Nat} {w : World} {v : Value} {l : List UInt8} (h : Bf B w v l) : Sl w v l := by
 rcases h with h | ⟨b, fz, rfl, h2, _, h4⟩
 ·exact h.sl
 ·refine ⟨_, _, rfl, fun e => by simp at e, Nat.le_refl _, by unfold maxLen; omega, fun i hi => ⟨b, 0, rfl, ?_⟩⟩
  have := bvals_get hi
  simp only [World.cell?, h2]
  simpa using this
theorem Bf.lt {B : Nat} {w : World} {v : Value} {l : List UInt8} (h : Bf B w v l) : ∀ k, v.ownBlock = some k → B ≤ k ∧ k < w.heap.size := by
 rcases h with h | ⟨b, fz, rfl, h2, h3, h4⟩
 ·exact h.lt
 ·intro k hk
  simp [Value.ownBlock] at hk
  subst hk
  exact ⟨h3, heap_lt h2⟩
theorem Bf.no {B : Nat} {w : World} {v : Value} {l : List UInt8} (h : Bf B w v l) {b : Nat} {cs : Array Value} {T : TypeId} {fz : Nat × Nat} (hb : w.heap[b]? = some (.cells cs T fz)) (hT : T ≠ 5) : v.ownBlock ≠ some b := by
 rcases h with h | ⟨b', fz', rfl, h2, h3, h4⟩
 ·exact h.no hb hT
 ·intro hk
  simp [Value.ownBlock] at hk
  subst hk
  rw [hb] at h2
  simp at h2
  exact hT h2.2.1
theorem wpList_append_bytesF {P : Program} {w : World} {ops : Array Oper} {rest : List Oper} {o : Oper} {a : Act} {Q : Exit → Act → World → Prop} (hgd : o.guard = none) (s x : Operand) (t : TypeId)
    (ho : o.op = .call { callee := .builtin .append, args := #[s, x], argTypes := #[t, t] })
    (B : Nat) (hinf : (P.info? 5).map (fun i => (i.zero, i.size, i.bytes)) = some (some (.int .u8 0), 1, 1)) (ht : P.underlying t = some (.slice 5))
    (v vx : Value) (l m : List UInt8) (hs : a.eval s = v) (hown : Bf B w v l) (hx : a.eval x = vx) (hsl : Sl w vx m) (hm : 0 < m.length) (hm2 : m.length ≤ 100)
    (hbytes : l.length ≤ 1000000) (hbase : B ≤ w.heap.size)
    (h : ∀ v' w', Bs B w' v' (l ++ m) → w.grownBy w' v.ownBlock → (∀ k, v'.ownBlock = some k → v.ownBlock = some k ∨ w.heap.size ≤ k) → wpList P ops Q rest (a.put o.dst v') w') : wpList P ops Q (o :: rest) a w := by
 rcases hown with hown | ⟨b, fz, rfl, h2, h3, h4⟩
 ·refine wpList_append_bytesA hgd s x t ho B hinf ht v vx l m hs hown hx hsl (by omega) hbase fun v' w' a1 a2 a3 => h v' w' a1 a2 fun k hk => ?_
  rcases a3 with e | e
  ·rw [e] at hk; exact .inl hk
  ·rw [e] at hk; cases hk; exact .inr (Nat.le_refl _)
 ·refine wpList_append_full hgd s x t ho 5 hinf ht ⟨b, 0, none⟩ l.length vx l m rfl hs (Bf.sl (B := B) (.inr ⟨b, fz, rfl, h2, h3, h4⟩)) hx hsl hm (by omega) fun v' w' a1 a2 => h v' w' (Bs.low a1 hbase) (Below.grownAny a2 _) fun k hk => .inr (World.ownsRow.lt a1 k hk).1
structure Wrt (B : Nat) (w : World) (v : Value) (w' : World) (v' : Value) (out : List UInt8) : Prop where
 bs : Bf B w' v' out
 but : But (fun k => v.ownBlock = some k) w w'
 own : ∀ k, v'.ownBlock = some k → v.ownBlock = some k ∨ w.heap.size ≤ k
theorem Wrt.refl {B : Nat} {w : World} {v : Value} {out : List UInt8} (h : Bf B w v out) : Wrt B w v w v out := ⟨h, But.refl _ _, fun _ hk => .inl hk⟩
theorem Wrt.below {B : Nat} {w w' w'' : World} {v v' : Value} {out : List UInt8} (h : Wrt B w v w' v' out) (hb : Below w'.heap.size w' w'') : Wrt B w v w'' v' out :=
 ⟨h.bs.below hb, h.but.trans (But.of_below hb _), h.own⟩
theorem Wrt.grown {B : Nat} {w w' w'' : World} {v v' v'' : Value} {out out' : List UInt8} (h : Wrt B w v w' v' out) (hb : Bs B w'' v'' out') (hg : w'.grownBy w'' v'.ownBlock) (hat : ∀ k, v''.ownBlock = some k → v'.ownBlock = some k ∨ w'.heap.size ≤ k) : Wrt B w v w'' v'' out' := by
 refine ⟨.inl hb, ?_, fun k hk => ?_⟩
 ·refine ⟨hg.os.trans h.but.os, hg.tape.trans h.but.tape, hg.output.trans h.but.output, Nat.le_trans h.but.size hg.size, fun k hk hx => ?_⟩
  rw [hg.block k (Nat.lt_of_lt_of_le hk h.but.size) (fun e => by
   rcases h.own k e.symm with e | e
   ·exact hx e
   ·omega)]
  exact h.but.block k hk hx
 ·rcases hat k hk with e | e
  ·exact h.own k e
  ·exact .inr (Nat.le_trans h.but.size e)
theorem Wrt.low {B : Nat} {w w' : World} {v v' : Value} {out o0 : List UInt8} (h : Wrt B w v w' v' out) (hv : Bf B w v o0) (hB : B ≤ w.heap.size) : Below B w w' := h.but.below hB fun k hk => (hv.lt k hk).1
def encs (ns : List Int) : List UInt8 := ns.flatMap fun n => enc n.toNat
theorem encs_snoc (ns : List Int) (n : Int) : encs (ns ++ [n]) = encs ns ++ enc n.toNat := by simp [encs]
theorem encs_len (ns : List Int) : (encs ns).length ≤ 10 * ns.length := by
 induction ns with
 | nil => simp [encs]
 | cons n r ih =>
  have a := enc_len n.toNat
  have : encs (n :: r) = enc n.toNat ++ encs r := by simp [encs]
  rw [this]; simp; omega
theorem numbers_any (w : World) (B : Nat) (v : Value) (out : List UInt8) (g : Nat) (ns : List Int) (T : TypeId) (hv : Bf B w v out) (hB : B ≤ w.heap.size) (hg : w.heap[g]? = some (.cells (ivals ns).toArray T (0, 0))) (hns : ∀ n ∈ ns, 0 ≤ n ∧ n ≤ 9223372036854775807) (hT : T ≠ 5) (hl : ns.length ≤ 3) (hroom : out.length ≤ 900000) :
    Calls Tryz.prog 125 #[v, .slice (some ⟨g, 0, none⟩) ns.length ns.length] w fun e w' => ∃ v', e = .returned v' ∧ Wrt B w v w' v' (out ++ encs ns) := by
 obtain ⟨N, hN⟩ : ∃ N, Hid (ns.length = N) := ⟨_, rfl⟩
 have HV := hide hv
 have HG := hide hg
 rw [hN.out] at hl ⊢
 obtain ⟨ao, ca, rfl⟩ := hv.form
 clear hv hg
 go_enter Tryz.func125, Tryz.ntmps125
 go_wp2_with fail
 go_loopw [0, 9] (fun vb vi wr => ∃ i : Nat, i ≤ N ∧ vi = .int .i64 (i : Int) ∧ Hid (Wrt B w (.slice ao out.length ca) wr vb (out ++ encs (ns.take i)))) (fun _ vi _ => N - (intOf vi).toNat)
 case atStart => exact ⟨0, Nat.zero_le _, rfl, by show Wrt _ _ _ _ _ _; rw [List.take_zero, show encs [] = [] from rfl, List.append_nil]; exact Wrt.refl HV.out⟩
 case round =>
  obtain ⟨i, hi, rfl, hW⟩ := hrel
  obtain ⟨aov, cav, rfl⟩ := hW.out.bs.form
  by_cases hlt : i < N
  ·have hix : i < ns.length := by rw [hN.out]; exact hlt
   have hgw : wr.heap[g]? = some (.cells (ivals ns).toArray T (0, 0)) := hW.out.but.at HG.out (HV.out.no HG.out hT)
   have k0 : wr.cell? ⟨g, i, none⟩ = some (.int .i64 ns[i]) := by
    simp only [World.cell?, hgw]
    simp [ivals, hix]
   obtain ⟨n0, n1⟩ := hns _ (List.getElem_mem hix)
   have hsn : Hid (out ++ encs (ns.take (i + 1)) = (out ++ encs (ns.take i)) ++ enc ns[i].toNat) := by
    show _ = _
    rw [List.take_succ_eq_append_getElem hix, encs_snoc, List.append_assoc]
   have hlo : (out ++ encs (ns.take i)).length ≤ 900030 := by
    have := encs_len (ns.take i)
    simp at this ⊢; omega
   generalize ns[i] = n at *
   generalize out ++ encs (ns.take i) = O at *
   have hlt' : (i : Int) < (N : Int) := by omega
   have hw3 : IntKind.u64.wrap n = n := wrap_u64_in _ (by omega) (by omega)
   clear hgw
   go_wp2_with fail
   refine (varint_any _ n (by omega) (by omega)).mono ?_
   rintro e w5 ⟨v5, rfl, o5, b5⟩
   have s5 := hide (Sl.of_owns o5)
   have W5 := hide (hW.out.below b5)
   have hz5 := hide (Nat.le_trans (Nat.le_trans hB hW.out.but.size) b5.size)
   have hn1 := enc_len n.toNat
   clear o5 b5 k0
   go_wp2_with (at_builtin; refine wpList_append_bytesF rfl (.tmp 13) (.tmp 16) 54 rfl B Tryz.infoU8 Tryz.underlying54 (.slice aov O.length cav) v5 O (enc n.toNat) rfl W5.out.bs rfl s5.out (enc_pos _) (by omega) (by omega) hz5.out ?_; intro v6 w6 o6 g6 hat6)
   have W6 : Hid (Wrt B w (.slice ao out.length ca) w6 v6 (out ++ encs (ns.take (i + 1)))) := by show Wrt _ _ _ _ _ _; rw [hsn.out]; exact W5.out.grown o6 g6 hat6
   clear o6 g6 hat6
   go_wp2_with fail
   go_roundw
   case rel => exact ⟨i + 1, by omega, by go_num, W6⟩
   case measure => simp [intOf]; omega
  ·obtain rfl : i = N := by omega
   have hE : Hid (ns.take i = ns) := by show _ = _; rw [← hN.out, List.take_length]
   rw [hE.out] at hW ⊢
   go_wp2_with fail
   go_ret
   exact ⟨_, rfl, hW.out⟩
end Go.Proofs.YtnimildpcnmjeaaGreatDoor.Ct
namespace Go.Proofs.YtnimildpcnmjeaaGreatDoor.Ct
open Go.RowKit
open Classical in
noncomputable def writeF (g f : Int) (l : List Sg) : Int × List UInt8 := if May g f l then (0, bytesC g f l) else (4, [])
def DoesWrite (f : Nat) : Prop := ∀ (w : World) (g fi : Int) (v : Value) (l : List Sg), Sgs w v l → g ≤ 9223372036854775807 → fi ≤ 9223372036854775807 →
 Calls Tryz.prog f #[.agg #[.int .i64 g, .int .i64 fi, v]] w fun e w' => ∃ v', e = .returned (.tuple #[v', .int .i64 (writeF g fi l).1]) ∧ Bs w.heap.size w' v' (writeF g fi l).2 ∧ Below w.heap.size w w'
theorem May.range {g fi : Int} {l : List Sg} (h : May g fi l) {i : Nat} (hi : i < l.length) : 0 ≤ (sg l i).nm ∧ 0 ≤ (sg l i).ba ∧ 0 ≤ (sg l i).en ∧ 0 ≤ (sg l i).sz := by
 obtain ⟨a, b⟩ := h.nmba hi
 by_cases e : i + 1 < l.length
 ·obtain ⟨⟨_, _, c, d, _⟩, _⟩ := h.lk i e
  exact ⟨by omega, by omega, by omega, by omega⟩
 ·have h3 : ¬ sldF (sg l i) := fun c => e ((h.sld hi).1 c)
  have h4 : (sg l i).en = 0 := Classical.byContradiction fun c => h3 (.inl c)
  have h5 : (sg l i).sz = 0 := Classical.byContradiction fun c => h3 (.inr c)
  exact ⟨by omega, by omega, by omega, by omega⟩
theorem write_any : DoesWrite 80 := by
 intro w g fi v l hv hg hfi
 obtain ⟨N, hN⟩ : ∃ N, Hid (l.length = N) := ⟨_, rfl⟩
 obtain ⟨ao, ca, rfl, q1, q2⟩ := hv.form
 rw [hN.out] at hv q1 ⊢
 have hB := hide (box_below w (.cells #[.int .i64 g, .int .i64 fi, .slice ao N ca] 47))
 have CALL := hide (may_any _ g fi _ l (hv.below hB.out))
 have hb1 := hide (heap_alloc_new w (.cells #[.int .i64 g, .int .i64 fi, .slice ao N ca] 47))
 by_cases hm : ¬ May g fi l
 ·rw [mayB_f hm] at CALL
  have hE : Hid (writeF g fi l = (4, [])) := by show _ = _; unfold writeF; rw [if_neg hm]
  clear hv hm
  go_enter Tryz.func80, Tryz.ntmps80
  go_wp2_with fail
  refine CALL.out.mono ?_
  rintro e w2 ⟨rfl, b2⟩
  have B2 := hide (keepF hB.out b2)
  clear b2 CALL
  go_wp2_with fail
  go_ret2
  rw [hE.out]
  exact ⟨_, rfl, World.ownsRow_nil _ _ _ _, B2.out⟩
 replace hm := Classical.not_not.1 hm
 rw [mayB_t hm] at CALL
 have HM := hide hm
 have HA := hide hv.1
 have hE : Hid (writeF g fi l = (0, bytesC g fi l)) := by show _ = _; unfold writeF; rw [if_pos hm]
 obtain ⟨b, off, ca', e, _, _, hc⟩ := hv.at hm.n1
 rw [hN.out] at e hc
 simp only [Value.slice.injEq, true_and] at e
 obtain ⟨rfl, rfl⟩ := e
 have hn1 := hm.n1
 have hn2 := hm.n2
 rw [hN.out] at hn1 hn2
 have HC := hide hc
 have hg1 := hm.g1
 have hf1 := hm.f0
 have hcb : Hid (w.heap.size < (w.alloc (.cells #[.int .i64 g, .int .i64 fi, .slice (some ⟨b, off, none⟩) N ca] 47)).heap.size) := heap_lt hb1.out
 clear hv hm hc
 go_enter Tryz.func80, Tryz.ntmps80
 go_wp2_with fail
 refine CALL.out.mono ?_
 rintro e w2 ⟨rfl, b2⟩
 have B2 := hide (keepF hB.out b2)
 have r1 : Hid (w2.heap[w.heap.size]? = some (.cells #[.int .i64 g, .int .i64 fi, .slice (some ⟨b, off, none⟩) N ca] 47 (0, 0))) := by show _ = _; rw [b2.block _ (heap_lt hb1.out)]; exact hb1.out
 obtain ⟨c0, c1, c2⟩ := three_cells r1.out
 clear b2 CALL
 have ke := hide (Lib.run_convert_bytes_const (P := Tryz.prog) w2 54 5 #[.int .u8 70, .int .u8 67, .int .u8 65, .int .u8 84] 4 4 Tryz.underlying54 Tryz.underlying5)
 go_wp2_with fail
 rw [ke.out]
 have hb3 := hide (box_below w2 (.cells #[.int .u8 70, .int .u8 67, .int .u8 65, .int .u8 84] 5 (4, 5)))
 have F0 : Hid (Bf w.heap.size (w2.alloc (.cells #[.int .u8 70, .int .u8 67, .int .u8 65, .int .u8 84] 5 (4, 5))) (.slice (some ⟨w2.heap.size, 0, none⟩) 4 4) markC) := .inr ⟨w2.heap.size, (4, 5), rfl, heap_alloc_new _ _, B2.out.size, by decide⟩
 have B3 := hide (keepF B2.out hb3.out)
 have r3 : Hid ((w2.alloc (.cells #[.int .u8 70, .int .u8 67, .int .u8 65, .int .u8 84] 5 (4, 5))).heap[w.heap.size]? = some (.cells #[.int .i64 g, .int .i64 fi, .slice (some ⟨b, off, none⟩) N ca] 47 (0, 0))) := by show _ = _; rw [hb3.out.block _ (heap_lt r1.out)]; exact r1.out
 generalize hq : (w2.alloc (.cells #[.int .u8 70, .int .u8 67, .int .u8 65, .int .u8 84] 5 (4, 5))) = w3 at *
 generalize hq2 : w2.heap.size = mb at *
 clear ke hb3 hq hq2 c0 c1 c2 r1
 obtain ⟨c0, c1, c2⟩ := three_cells r3.out
 have X0 := hide (box_below w3 (.cells #[.int .i64 g, .int .i64 fi, .int .i64 (N : Int)] 2))
 have X1 := hide (heap_alloc_new w3 (.cells #[.int .i64 g, .int .i64 fi, .int .i64 (N : Int)] 2))
 have F1 := hide (F0.out.below X0.out)
 have r4 : Hid ((w3.alloc (.cells #[.int .i64 g, .int .i64 fi, .int .i64 (N : Int)] 2)).heap[w.heap.size]? = some (.cells #[.int .i64 g, .int .i64 fi, .slice (some ⟨b, off, none⟩) N ca] 47 (0, 0))) := by show _ = _; rw [X0.out.block _ (heap_lt r3.out)]; exact r3.out
 have B4 := hide (keepF B3.out X0.out)
 have CALL := hide (numbers_any (w3.alloc (.cells #[.int .i64 g, .int .i64 fi, .int .i64 (N : Int)] 2)) w.heap.size _ markC w3.heap.size [g, fi, (N : Int)] 2 F1.out B4.out.size X1.out (by intro n hn; simp at hn; rcases hn with rfl | rfl | rfl <;> omega) (by decide) (by simp) (by decide))
 go_wp2_with fail
 refine CALL.out.mono ?_
 rintro e w4 ⟨v4, rfl, W4⟩
 have r5 : Hid (w4.heap[w.heap.size]? = some (.cells #[.int .i64 g, .int .i64 fi, .slice (some ⟨b, off, none⟩) N ca] 47 (0, 0))) := W4.but.at r4.out (F1.out.no r4.out (by decide))
 have B5 : Hid (Below w.heap.size w w4) := B4.out.trans (W4.low F1.out B4.out.size)
 have F5 := hide W4.bs
 obtain ⟨P, hP⟩ : ∃ P, Hid (markC ++ encs [g, fi, (N : Int)] = P) := ⟨_, rfl⟩
 rw [hP.out] at F5
 have hfr : Hid (frontC g fi l = P ++ bodyC l) := by
  show _ = _
  rw [← hP.out, frontC, midC, hN.out]
  simp [encs]
 have hPl : P.length ≤ 34 := by
  have := encs_len [g, fi, (N : Int)]
  rw [← hP.out, List.length_append]
  simp [markC] at this ⊢; omega
 clear W4 CALL c0 c1 c2 F0 F1 B3 B4 X0 X1 r3 r4 B2
 obtain ⟨c0, c1, c2⟩ := three_cells r5.out
 go_wp2_with fail
 go_loopw [4, 24] (fun vb vi wr => ∃ i : Nat, i ≤ N ∧ vi = .int .i64 (i : Int) ∧ Hid (Below w.heap.size w wr) ∧ Hid (Bf w.heap.size wr vb (P ++ bodyC (l.take i)))) (fun _ vi _ => N - (intOf vi).toNat)
 case atStart => exact ⟨0, Nat.zero_le _, rfl, B5, by show Bf _ _ _ _; rw [List.take_zero, show bodyC [] = [] from rfl, List.append_nil]; exact F5.out⟩
 case round =>
  obtain ⟨i, hi, rfl, hW, hO⟩ := hrel
  have hol : (P ++ bodyC (l.take i)).length ≤ 4000 := by
   have := bodyC_len (l.take i)
   simp at this ⊢
   omega
  obtain ⟨aov, cav, rfl⟩ := hO.out.form
  by_cases hlt : i < N
  ·have hix : i < l.length := by rw [hN.out]; exact hlt
   obtain ⟨k0, k1, k2, k3, k4⟩ := (HC.out i hlt).below hW.out
   obtain ⟨m1, m2, m3, m4⟩ := HM.out.range hix
   have hin := HA.out.sg i
   have z1 := hin.a2
   have z2 := hin.b2
   have z3 := hin.c
   have z4 := hin.d2
   have z5 := hin.e2
   have hsn : Hid (P ++ bodyC (l.take (i + 1)) = (P ++ bodyC (l.take i)) ++ segB (sg l i)) := by
    show _ = _
    rw [List.take_succ_eq_append_getElem hix, bodyC_snoc, ← sg_get hix, List.append_assoc]
   clear hin
   generalize sg l i = s at *
   obtain ⟨nm, ba, se, en, sz⟩ := s
   dsimp only at k0 k1 k2 k3 k4 m1 m2 m3 m4 z1 z2 z3 z4 z5
   generalize P ++ bodyC (l.take i) = O at *
   have Y0 := hide (box_below wr (.cells #[.int .i64 nm, .int .i64 ba, .int .u32 (se : Int), .int .i64 en, .int .i64 sz] 51))
   have S0 := hide (heap_alloc_new wr (.cells #[.int .i64 nm, .int .i64 ba, .int .u32 (se : Int), .int .i64 en, .int .i64 sz] 51))
   have O0 := hide (hO.out.below Y0.out)
   have B0 := hide (keepF hW.out Y0.out)
   have hlt' : (i : Int) < (N : Int) := by omega
   go_upto_region 7 with fail
   generalize wr.alloc (.cells #[.int .i64 nm, .int .i64 ba, .int .u32 (se : Int), .int .i64 en, .int .i64 sz] 51) = w5 at *
   generalize wr.heap.size = sb at *
   clear k0 k1 k2 k3 k4 Y0
   obtain ⟨d0, d1, d2, d3, d4⟩ := five_cells S0.out
   have Y1 := hide (box_below w5 (.cells #[.int .i64 nm, .int .i64 ba] 2))
   have O1 := hide (O0.out.below Y1.out)
   have B1 := hide (keepF B0.out Y1.out)
   have S1 : Hid ((w5.alloc (.cells #[.int .i64 nm, .int .i64 ba] 2)).heap[sb]? = some (.cells #[.int .i64 nm, .int .i64 ba, .int .u32 (se : Int), .int .i64 en, .int .i64 sz] 51 (0, 0))) := by show _ = _; rw [Y1.out.block _ (heap_lt S0.out)]; exact S0.out
   have CALL := hide (numbers_any (w5.alloc (.cells #[.int .i64 nm, .int .i64 ba] 2)) w.heap.size _ O w5.heap.size [nm, ba] 2 O1.out B1.out.size (heap_alloc_new _ _) (by intro n hn; simp at hn; rcases hn with rfl | rfl <;> omega) (by decide) (by simp) (by omega))
   go_wp2_with fail
   refine CALL.out.mono ?_
   rintro e w6 ⟨v6, rfl, W6⟩
   have S6 : Hid (w6.heap[sb]? = some (.cells #[.int .i64 nm, .int .i64 ba, .int .u32 (se : Int), .int .i64 en, .int .i64 sz] 51 (0, 0))) := W6.but.at S1.out (O1.out.no S1.out (by decide))
   have B6 : Hid (Below w.heap.size w w6) := B1.out.trans (W6.low O1.out B1.out.size)
   have O6 := hide W6.bs
   obtain ⟨Oa, hOa⟩ : ∃ Oa, Hid (O ++ encs [nm, ba] = Oa) := ⟨_, rfl⟩
   rw [hOa.out] at O6
   have hla : Oa.length ≤ 4020 := by
    have := encs_len [nm, ba]
    rw [← hOa.out, List.length_append]; simp at this; omega
   clear W6 CALL d0 d1 d2 d3 d4 S0 S1 O0 O1 B0 B1 Y1
   obtain ⟨d0, d1, d2, d3, d4⟩ := five_cells S6.out
   obtain ⟨ao6, ca6, rfl⟩ := O6.out.form
   go_wp2_with fail
   refine (fixed32_any _ (se : Int) (by omega) (by omega)).mono ?_
   rintro e w7 ⟨v7, rfl, o7, b7⟩
   rw [Int.toNat_natCast] at o7
   have s7 := hide (Sl.of_owns o7)
   have O7 := hide (O6.out.below b7)
   have B7 := hide (keepF B6.out b7)
   have S7 : Hid (w7.heap[sb]? = some (.cells #[.int .i64 nm, .int .i64 ba, .int .u32 (se : Int), .int .i64 en, .int .i64 sz] 51 (0, 0))) := by show _ = _; rw [b7.block _ (heap_lt S6.out)]; exact S6.out
   have hf4 := fx_len 4 se
   clear o7 b7 d0 d1 d2 d3 d4 S6 O6 B6
   obtain ⟨Ob, hOb⟩ : ∃ Ob, Hid (Oa ++ fx 4 se = Ob) := ⟨_, rfl⟩
   have hlb : Ob.length ≤ 4030 := by rw [← hOb.out, List.length_append]; omega
   go_wp2_with (at_builtin; refine wpList_append_bytesF rfl (.tmp 35) (.tmp 38) 54 rfl w.heap.size Tryz.infoU8 Tryz.underlying54 (.slice ao6 Oa.length ca6) v7 Oa (fx 4 se) rfl O7.out rfl s7.out (by omega) (by omega) (by omega) B7.out.size ?_; intro v8 w8 o8 g8 h8; have S8 : Hid (w8.heap[sb]? = some (.cells #[.int .i64 nm, .int .i64 ba, .int .u32 (se : Int), .int .i64 en, .int .i64 sz] 51 (0, 0))) := hide (by rw [g8.block _ (heap_lt S7.out) (fun e => O7.out.no S7.out (by decide) e.symm)]; exact S7.out); obtain ⟨d0, d1, d2, d3, d4⟩ := five_cells S8.out; have B8 := hide (Below.grown B7.out g8 B7.out.size (fun k hk => (O7.out.lt k hk).1)); rw [hOb.out] at o8; have O8 : Hid (Bf w.heap.size w8 v8 Ob) := .inl o8; clear o8 g8 h8; obtain ⟨ao8, ca8, rfl⟩ := O8.out.form)
   clear S7 O7 B7 s7
   have Y1 := hide (box_below w8 (.cells #[.int .i64 en, .int .i64 sz] 2))
   have O9 := hide (O8.out.below Y1.out)
   have B9 := hide (keepF B8.out Y1.out)
   have CALL := hide (numbers_any (w8.alloc (.cells #[.int .i64 en, .int .i64 sz] 2)) w.heap.size _ Ob w8.heap.size [en, sz] 2 O9.out B9.out.size (heap_alloc_new _ _) (by intro n hn; simp at hn; rcases hn with rfl | rfl <;> omega) (by decide) (by simp) (by omega))
   (try go_wp2_with fail)
   refine CALL.out.mono ?_
   rintro e w9 ⟨v9, rfl, W9⟩
   have BF : Hid (Below w.heap.size w w9) := B9.out.trans (W9.low O9.out B9.out.size)
   have OF : Hid (Bf w.heap.size w9 v9 (P ++ bodyC (l.take (i + 1)))) := by
    show Bf _ _ _ _
    rw [hsn.out]
    have := W9.bs
    rw [← hOb.out, ← hOa.out] at this
    simpa [segB, encs] using this
   clear W9 CALL d0 d1 d2 d3 d4 S8 O8 O9 B8 B9 Y1
   go_wp2_with fail
   go_roundw
   case rel => exact ⟨i + 1, by omega, by go_num, BF, OF⟩
   case measure => simp [intOf]; omega
  ·obtain rfl : i = N := by omega
   have hTe : Hid (l.take i = l) := by show _ = _; rw [← hN.out, List.take_length]
   rw [hTe.out, ← hfr.out] at hO hol ⊢
   have hE2 : Hid (writeF g fi l = (0, frontC g fi l ++ fx 4 (Crc.more 0#32 (frontC g fi l)).toNat)) := hE.out
   generalize frontC g fi l = F at *
   have sl0 := hide hO.out.sl
   go_wp2_with fail
   refine (Crc.sum_any _ _ F sl0.out).mono ?_
   rintro e w5 ⟨rfl, b5⟩
   have hcr := (Crc.more 0#32 F).isLt
   obtain ⟨cr, hcre⟩ : ∃ cr, Hid ((Crc.more 0#32 F).toNat = cr) := ⟨_, rfl⟩
   rw [hcre.out] at hcr hE2 ⊢
   have O5 := hide (hO.out.below b5)
   have B5' := hide (keepF hW.out b5)
   clear b5 sl0
   go_wp2_with fail
   refine (fixed32_any _ (cr : Int) (by omega) (by omega)).mono ?_
   rintro e w7 ⟨v7, rfl, o7, b7⟩
   rw [Int.toNat_natCast] at o7
   have s7 := hide (Sl.of_owns o7)
   have O7 := hide (O5.out.below b7)
   have B7 := hide (keepF B5'.out b7)
   have hf4 := fx_len 4 cr
   clear o7 b7 O5 B5'
   go_wp2_with (at_builtin; refine wpList_append_bytesF rfl (.tmp 48) (.tmp 51) 54 rfl w.heap.size Tryz.infoU8 Tryz.underlying54 (.slice aov F.length cav) v7 F (fx 4 cr) rfl O7.out rfl s7.out (by omega) (by omega) (by omega) B7.out.size ?_; intro v8 w8 o8 g8 h8)
   have B8 := hide (Below.grown B7.out g8 B7.out.size (fun k hk => (O7.out.lt k hk).1))
   replace o8 := hide o8
   clear g8 h8
   go_wp2_with fail
   go_ret2
   rw [hE2.out]
   exact ⟨_, rfl, o8.out, B8.out⟩
end Go.Proofs.YtnimildpcnmjeaaGreatDoor.Ct
namespace Go.Proofs.YtnimildpcnmjeaaGreatDoor.Sg
open Go.RowKit Go.Maps Go.Sort Go.Shelf Go.Proofs.YtnimildpcnmjeaaGreatDoor.Nm Go.Proofs.YtnimildpcnmjeaaGreatDoor.Dk
theorem set_twice (w : World) (b o : Nat) (x y : Value) : (w.setCell ⟨b, o, none⟩ x).setCell ⟨b, o, none⟩ y = w.setCell ⟨b, o, none⟩ y := by
 rw [Go.Sort.setCell_eq, Go.Sort.setCell_eq, Go.Sort.mapBlock_mapBlock, Go.Sort.setCell_eq]
 congr 1
 funext cs
 simp
theorem fails_not (u : FrameMode) (w : World) {eb p2 sb : Nat} (h0 : w.cell? ⟨eb, 0, none⟩ = some (.int .i64 0)) :
    CallsD Tryz.prog 88 #[.pointer (some ⟨eb, 0, none⟩), .pointer (some ⟨p2, 0, none⟩)] u w fun e u' w' => u' = u ∧ (e = .returned (.tuple #[]) ∧ w' = w) := by
 go_enter_d Tryz.func88, Tryz.ntmps88
 go_wp2_with fail
 go_end0
 exact ⟨rfl, rfl⟩
theorem fails_so (u : FrameMode) (w : World) {eb p2 sb : Nat} {r : Int} (hr : r ≠ 0) (h0 : w.cell? ⟨eb, 0, none⟩ = some (.int .i64 r)) (h1 : w.cell? ⟨p2, 0, none⟩ = some (.pointer (some ⟨sb, 0, none⟩))) {c : Int} (h2 : w.cell? ⟨sb, 8, none⟩ = some (.int .i64 c)) (hz : w.frozen? ⟨sb, 8, none⟩ = false) :
    CallsD Tryz.prog 88 #[.pointer (some ⟨eb, 0, none⟩), .pointer (some ⟨p2, 0, none⟩)] u w fun e u' w' => u' = u ∧ (e = .returned (.tuple #[]) ∧ w' = w.setCell ⟨sb, 8, none⟩ (.int .i64 2)) := by
 have kr : (r != 0) = true := by simp [hr]
 go_enter_d Tryz.func88, Tryz.ntmps88
 go_wp2_with fail
 go_end0
 exact ⟨rfl, rfl⟩
theorem attempt_put {w : World} {sb : Nat} {s : SG} {S S' : DS} {O : Nat → Prop} {xb mb : Nat} {v : Value} {r : Int} (h : SW w sb s S O xb mb v) {p2 p7 : Nat}
    (hop : ∀ u, Below w.heap.size w u → Calls Tryz.prog 85 #[.pointer (some ⟨p2, 0, none⟩), .pointer (some ⟨p7, 0, none⟩)] u fun e w' => e = .returned (.int .i64 r) ∧ ∃ O', DskE w' s.b S' O' ∧ Sgo u w' O O') :
    Calls Tryz.prog 55 #[.pointer (some ⟨sb, 0, none⟩), .func (.func 85) #[] #[.pointer (some ⟨p2, 0, none⟩), .pointer (some ⟨p7, 0, none⟩)]] w fun e w' => e = .returned (.int .i64 r) ∧ ∃ O', SW w' sb { s with cond := if r = 0 then s.cond else 2 } S' O' xb mb v ∧ But (fun k => SOwn sb xb mb v k ∨ O k) w w' ∧ (∀ k, O' k → O k ∨ w.heap.size ≤ k) := by
 have hmf : ∀ (fn : Fn) (first cap : Array Value) (w : World), (Instr.makeFunc fn first cap).run Tryz.prog w = .ok (.func fn first cap) w := fun _ _ _ _ => rfl
 have B1 := box_below w (.cells #[.pointer (some ⟨sb, 0, none⟩)] 80)
 have N1 : Bx1 _ w.heap.size 80 (.pointer (some ⟨sb, 0, none⟩)) := heap_alloc_new w (.cells #[.pointer (some ⟨sb, 0, none⟩)] 80)
 obtain ⟨w1, hw1⟩ : ∃ w1, Hid (w.alloc (.cells #[.pointer (some ⟨sb, 0, none⟩)] 80) = w1) := ⟨_, rfl⟩
 rw [hw1.out] at B1 N1
 have hz1 : w1.heap.size = w.heap.size + 1 := by rw [← hw1.out]; simp
 have B2 := box_below w1 (.cells #[.int .i64 23] 31)
 have N2 : Bx1 _ w1.heap.size 31 (.int .i64 23) := heap_alloc_new w1 (.cells #[.int .i64 23] 31)
 obtain ⟨w2, hw2⟩ : ∃ w2, Hid (w1.alloc (.cells #[.int .i64 23] 31) = w2) := ⟨_, rfl⟩
 rw [hw2.out] at B2 N2
 rw [hz1] at N2
 have N12 := N1.below B2
 have B12 := keepF B1 B2
 have H2 := h.below B12
 have hO := h.dk.lt
 have OP := hide (hop w2 B12)
 have ST : Hid (SW w2 sb s S O xb mb v ∧ Bx1 w2 w.heap.size 80 (.pointer (some ⟨sb, 0, none⟩)) ∧ Bx1 w2 (w.heap.size + 1) 31 (.int .i64 23) ∧ Below w.heap.size w w2 ∧ (∀ k, O k → k < w.heap.size) ∧ (∀ k, SOwn sb xb mb v k → k < w.heap.size)) := hide ⟨H2, N12, N2, B12, hO, h.sg.lt⟩
 obtain ⟨R, hR⟩ : ∃ R, Hid (r = R) := ⟨_, rfl⟩
 clear hop B1 B2 N1 N2 N12 B12 H2 hO h hz1
 go_enter_defers Tryz.func55, Tryz.ntmps55
 go_upto_region 3 with fail
 rw [hw1.out, hw2.out]
 generalize hpa : w.heap.size = pA at *
 replace hpa := hide hpa
 go_wp2_with fail
 refine OP.out.mono ?_
 rintro e w3 ⟨rfl, O3, D3, G3⟩
 obtain ⟨a1, a2, a3, a4, a5, a6⟩ := ST.out
 have nA : ¬ O pA := fun c => by have := a5 _ c; omega
 have nE : ¬ O (pA + 1) := fun c => by have := a5 _ c; omega
 have T3 := a1.disk D3 G3
 have A3 := a2.but G3.but nA
 have E3 := a3.but G3.but nE
 have G4 : But O w w3 := (But.of_below (show Below w.heap.size w w2 by rw [hpa.out]; exact a4) _).trans G3.but
 have own3 : Hid (∀ k, O3 k → O k ∨ w.heap.size ≤ k) := hide fun k hk => (G3.own k hk).imp id fun c => Nat.le_trans (by have := a4.size; have := hpa.out; omega) c
 have ze := E3.frozen
 have ce := E3.cell
 -- the error laid
 have EX : But (fun k => k = pA + 1) w3 (w3.setCell ⟨pA + 1, 0, none⟩ (.int .i64 r)) := but_sb w3 _ 0 _ _ rfl
 have hne : ¬ pA + 1 = sb := fun c => by have := a6 sb (.inl rfl); omega
 have nS : ∀ k, SOwn sb xb mb v k → ¬ k = pA + 1 := fun k hk c => by have := a6 k hk; omega
 have nO : ∀ k, O3 k → ¬ k = pA + 1 := fun k hk c => by
  rcases G3.own k hk with q | q
  ·have := a5 k q; omega
  ·have := a3.lt; omega
 have T4 : SW (w3.setCell ⟨pA + 1, 0, none⟩ (.int .i64 r)) sb s S' O3 xb mb v := ⟨T3.sg.but EX nS, T3.dk.but EX nO, T3.ap⟩
 have A4 : Bx1 (w3.setCell ⟨pA + 1, 0, none⟩ (.int .i64 r)) pA _ _ := A3.but EX (by omega)
 have E4 := E3.set (.int .i64 r)
 have BT4 : Hid (But (fun k => SOwn sb xb mb v k ∨ O k) w (w3.setCell ⟨pA + 1, 0, none⟩ (.int .i64 r))) := hide (by
  refine ⟨EX.os.trans G4.os, EX.tape.trans G4.tape, EX.output.trans G4.output, Nat.le_trans G4.size EX.size, fun i hi hx => ?_⟩
  rw [EX.block i (Nat.lt_of_lt_of_le hi G4.size) (fun c => by have := hpa.out; omega)]
  exact G4.block i hi (fun c => hx (.inr c)))
 have ze4 := E4.frozen
 have ce4 := E4.cell
 have ca4 := A4.cell
 obtain ⟨y0, y1, y2, y3, y4, y5, y6, y7, y8, y9, y10⟩ := T4.sg.cells
 have zs := T4.sg.frozen 8
 have T4' := hide T4
 clear T3 A3 G4 G3 D3 T4 A4 ST OP EX nS nO hw1 hw2 a1 a2 a3 a4 a5 a6
 have hss := set_twice w3 (pA + 1) 0 (.int .i64 r) (.int .i64 r)
 by_cases hr0 : r = 0
 ·subst hr0
  go_wp2_with fail
  refine leaves_cons (f := 88) (args := #[.pointer (some ⟨pA + 1, 0, none⟩), .pointer (some ⟨pA, 0, none⟩)]) (by simp) (by simp [go_sem]) ?_
  refine (fails_not .returning _ (sb := sb) ?_).mono ?_
  ·exact ce4
  rintro e u' w4 ⟨rfl, rfl, rfl⟩
  simp [Leaves, settle, results, Tryz.results55, go_sem, ce4]
  exact ⟨O3, T4'.out, BT4.out, own3.out⟩
 ·go_wp2_with fail
  refine leaves_cons (f := 88) (args := #[.pointer (some ⟨pA + 1, 0, none⟩), .pointer (some ⟨pA, 0, none⟩)]) (by simp) (by simp [go_sem]) ?_
  refine (fails_so .returning _ (sb := sb) hr0 ce4 ca4 y8 zs).mono ?_
  rintro e u' w4 ⟨rfl, rfl, rfl⟩
  have T5 := T4'.out.sg.set8 2
  have EB : But (fun k => k = sb) (w3.setCell ⟨pA + 1, 0, none⟩ (.int .i64 r)) ((w3.setCell ⟨pA + 1, 0, none⟩ (.int .i64 r)).setCell ⟨sb, 8, none⟩ (.int .i64 2)) := but_sb _ sb 8 _ _ rfl
  have ce5 := (E4.but EB hne).cell
  have D5 := T4'.out.dk.but EB (fun k hk c => by subst c; exact T4'.out.ap k (.inl rfl) hk)
  have BT5 : But (fun k => SOwn sb xb mb v k ∨ O k) w ((w3.setCell ⟨pA + 1, 0, none⟩ (.int .i64 r)).setCell ⟨sb, 8, none⟩ (.int .i64 2)) := BT4.out.trans (EB.mono fun k _ hk => .inl (.inl hk))
  simp [Leaves, settle, results, Tryz.results55, go_sem, ce5]
  exact ⟨O3, ⟨T5, D5, T4'.out.ap⟩, BT5, own3.out⟩
theorem attempt_sync {w : World} {sb : Nat} {s : SG} {S S' : DS} {O : Nat → Prop} {xb mb : Nat} {v : Value} {r : Int} (h : SW w sb s S O xb mb v) {p2 : Nat}
    (hop : ∀ u, Below w.heap.size w u → Calls Tryz.prog 56 #[.pointer (some ⟨p2, 0, none⟩)] u fun e w' => e = .returned (.int .i64 r) ∧ ∃ O', DskE w' s.b S' O' ∧ Sgo u w' O O') :
    Calls Tryz.prog 55 #[.pointer (some ⟨sb, 0, none⟩), .func (.func 56) #[] #[.pointer (some ⟨p2, 0, none⟩)]] w fun e w' => e = .returned (.int .i64 r) ∧ ∃ O', SW w' sb { s with cond := if r = 0 then s.cond else 2 } S' O' xb mb v ∧ But (fun k => SOwn sb xb mb v k ∨ O k) w w' ∧ (∀ k, O' k → O k ∨ w.heap.size ≤ k) := by
 have hmf : ∀ (fn : Fn) (first cap : Array Value) (w : World), (Instr.makeFunc fn first cap).run Tryz.prog w = .ok (.func fn first cap) w := fun _ _ _ _ => rfl
 have B1 := box_below w (.cells #[.pointer (some ⟨sb, 0, none⟩)] 80)
 have N1 : Bx1 _ w.heap.size 80 (.pointer (some ⟨sb, 0, none⟩)) := heap_alloc_new w (.cells #[.pointer (some ⟨sb, 0, none⟩)] 80)
 obtain ⟨w1, hw1⟩ : ∃ w1, Hid (w.alloc (.cells #[.pointer (some ⟨sb, 0, none⟩)] 80) = w1) := ⟨_, rfl⟩
 rw [hw1.out] at B1 N1
 have hz1 : w1.heap.size = w.heap.size + 1 := by rw [← hw1.out]; simp
 have B2 := box_below w1 (.cells #[.int .i64 23] 31)
 have N2 : Bx1 _ w1.heap.size 31 (.int .i64 23) := heap_alloc_new w1 (.cells #[.int .i64 23] 31)
 obtain ⟨w2, hw2⟩ : ∃ w2, Hid (w1.alloc (.cells #[.int .i64 23] 31) = w2) := ⟨_, rfl⟩
 rw [hw2.out] at B2 N2
 rw [hz1] at N2
 have N12 := N1.below B2
 have B12 := keepF B1 B2
 have H2 := h.below B12
 have hO := h.dk.lt
 have OP := hide (hop w2 B12)
 have ST : Hid (SW w2 sb s S O xb mb v ∧ Bx1 w2 w.heap.size 80 (.pointer (some ⟨sb, 0, none⟩)) ∧ Bx1 w2 (w.heap.size + 1) 31 (.int .i64 23) ∧ Below w.heap.size w w2 ∧ (∀ k, O k → k < w.heap.size) ∧ (∀ k, SOwn sb xb mb v k → k < w.heap.size)) := hide ⟨H2, N12, N2, B12, hO, h.sg.lt⟩
 obtain ⟨R, hR⟩ : ∃ R, Hid (r = R) := ⟨_, rfl⟩
 clear hop B1 B2 N1 N2 N12 B12 H2 hO h hz1
 go_enter_defers Tryz.func55, Tryz.ntmps55
 go_upto_region 3 with fail
 rw [hw1.out, hw2.out]
 generalize hpa : w.heap.size = pA at *
 replace hpa := hide hpa
 go_wp2_with fail
 refine OP.out.mono ?_
 rintro e w3 ⟨rfl, O3, D3, G3⟩
 obtain ⟨a1, a2, a3, a4, a5, a6⟩ := ST.out
 have nA : ¬ O pA := fun c => by have := a5 _ c; omega
 have nE : ¬ O (pA + 1) := fun c => by have := a5 _ c; omega
 have T3 := a1.disk D3 G3
 have A3 := a2.but G3.but nA
 have E3 := a3.but G3.but nE
 have G4 : But O w w3 := (But.of_below (show Below w.heap.size w w2 by rw [hpa.out]; exact a4) _).trans G3.but
 have own3 : Hid (∀ k, O3 k → O k ∨ w.heap.size ≤ k) := hide fun k hk => (G3.own k hk).imp id fun c => Nat.le_trans (by have := a4.size; have := hpa.out; omega) c
 have ze := E3.frozen
 have ce := E3.cell
 -- the error laid
 have EX : But (fun k => k = pA + 1) w3 (w3.setCell ⟨pA + 1, 0, none⟩ (.int .i64 r)) := but_sb w3 _ 0 _ _ rfl
 have hne : ¬ pA + 1 = sb := fun c => by have := a6 sb (.inl rfl); omega
 have nS : ∀ k, SOwn sb xb mb v k → ¬ k = pA + 1 := fun k hk c => by have := a6 k hk; omega
 have nO : ∀ k, O3 k → ¬ k = pA + 1 := fun k hk c => by
  rcases G3.own k hk with q | q
  ·have := a5 k q; omega
  ·have := a3.lt; omega
 have T4 : SW (w3.setCell ⟨pA + 1, 0, none⟩ (.int .i64 r)) sb s S' O3 xb mb v := ⟨T3.sg.but EX nS, T3.dk.but EX nO, T3.ap⟩
 have A4 : Bx1 (w3.setCell ⟨pA + 1, 0, none⟩ (.int .i64 r)) pA _ _ := A3.but EX (by omega)
 have E4 := E3.set (.int .i64 r)
 have BT4 : Hid (But (fun k => SOwn sb xb mb v k ∨ O k) w (w3.setCell ⟨pA + 1, 0, none⟩ (.int .i64 r))) := hide (by
  refine ⟨EX.os.trans G4.os, EX.tape.trans G4.tape, EX.output.trans G4.output, Nat.le_trans G4.size EX.size, fun i hi hx => ?_⟩
  rw [EX.block i (Nat.lt_of_lt_of_le hi G4.size) (fun c => by have := hpa.out; omega)]
  exact G4.block i hi (fun c => hx (.inr c)))
 have ze4 := E4.frozen
 have ce4 := E4.cell
 have ca4 := A4.cell
 obtain ⟨y0, y1, y2, y3, y4, y5, y6, y7, y8, y9, y10⟩ := T4.sg.cells
 have zs := T4.sg.frozen 8
 have T4' := hide T4
 clear T3 A3 G4 G3 D3 T4 A4 ST OP EX nS nO hw1 hw2 a1 a2 a3 a4 a5 a6
 have hss := set_twice w3 (pA + 1) 0 (.int .i64 r) (.int .i64 r)
 by_cases hr0 : r = 0
 ·subst hr0
  go_wp2_with fail
  refine leaves_cons (f := 88) (args := #[.pointer (some ⟨pA + 1, 0, none⟩), .pointer (some ⟨pA, 0, none⟩)]) (by simp) (by simp [go_sem]) ?_
  refine (fails_not .returning _ (sb := sb) ?_).mono ?_
  ·exact ce4
  rintro e u' w4 ⟨rfl, rfl, rfl⟩
  simp [Leaves, settle, results, Tryz.results55, go_sem, ce4]
  exact ⟨O3, T4'.out, BT4.out, own3.out⟩
 ·go_wp2_with fail
  refine leaves_cons (f := 88) (args := #[.pointer (some ⟨pA + 1, 0, none⟩), .pointer (some ⟨pA, 0, none⟩)]) (by simp) (by simp [go_sem]) ?_
  refine (fails_so .returning _ (sb := sb) hr0 ce4 ca4 y8 zs).mono ?_
  rintro e u' w4 ⟨rfl, rfl, rfl⟩
  have T5 := T4'.out.sg.set8 2
  have EB : But (fun k => k = sb) (w3.setCell ⟨pA + 1, 0, none⟩ (.int .i64 r)) ((w3.setCell ⟨pA + 1, 0, none⟩ (.int .i64 r)).setCell ⟨sb, 8, none⟩ (.int .i64 2)) := but_sb _ sb 8 _ _ rfl
  have ce5 := (E4.but EB hne).cell
  have D5 := T4'.out.dk.but EB (fun k hk c => by subst c; exact T4'.out.ap k (.inl rfl) hk)
  have BT5 : But (fun k => SOwn sb xb mb v k ∨ O k) w ((w3.setCell ⟨pA + 1, 0, none⟩ (.int .i64 r)).setCell ⟨sb, 8, none⟩ (.int .i64 2)) := BT4.out.trans (EB.mono fun k _ hk => .inl (.inl hk))
  simp [Leaves, settle, results, Tryz.results55, go_sem, ce5]
  exact ⟨O3, ⟨T5, D5, T4'.out.ap⟩, BT5, own3.out⟩
def gk (s : SG) (fs : List (Int × Int)) : Nat → SG
 | 0 => s
 | i + 1 => (gk s fs i).grown (fs.getD i (0, 0)).1 (fs.getD i (0, 0)).2
theorem gk_b (s : SG) (fs : List (Int × Int)) : ∀ i, (gk s fs i).b = s.b ∧ (gk s fs i).file = s.file ∧ (gk s fs i).cond = s.cond ∧ (gk s fs i).base = s.base ∧ (gk s fs i).num = s.num ∧ (gk s fs i).hs = s.hs ∧ (gk s fs i).next = s.next + (i : Int)
 | 0 => ⟨rfl, rfl, rfl, rfl, rfl, rfl, by simp [gk]⟩
 | i + 1 => by
  obtain ⟨a, b, c, d, e, f, g⟩ := gk_b s fs i
  refine ⟨a, b, c, d, e, f, ?_⟩
  show (gk s fs i).next + 1 = _
  rw [g]
  omega
theorem gk_size (s : SG) (fs : List (Int × Int)) (hz : ∀ f ∈ fs, 0 ≤ f.1 ∧ f.1 ≤ 4112) : ∀ i, s.size ≤ (gk s fs i).size ∧ (gk s fs i).size ≤ s.size + (i : Int) * 4112
 | 0 => ⟨by simp [gk], by simp [gk]⟩
 | i + 1 => by
  obtain ⟨a, b⟩ := gk_size s fs hz i
  have h1 : 0 ≤ (fs.getD i (0, 0)).1 ∧ (fs.getD i (0, 0)).1 ≤ 4112 := by
   by_cases hi : i < fs.length
   ·have := hz (fs[i]) (List.getElem_mem hi)
    simpa [hi] using this
   ·have : fs.getD i (0, 0) = (0, 0) := by simp [List.getD, List.getElem?_eq_none (show fs.length ≤ i by omega)]
    rw [this]; decide
  have e : (gk s fs (i + 1)).size = (gk s fs i).size + (fs.getD i (0, 0)).1 := rfl
  rw [e]
  omega
theorem gk_ok {s : SG} (ok : SOk s) (fs : List (Int × Int)) (hz : ∀ f ∈ fs, 0 ≤ f.1 ∧ f.1 ≤ 4112) (he : ∀ f ∈ fs, 0 ≤ f.2 ∧ f.2 < 4294967296) (hn : s.next + (fs.length : Int) ≤ 9223372036854775807) (hs : s.size + (fs.length : Int) * 4112 ≤ 2147483647) (hl : s.sd.length + fs.length ≤ 1000000000) : ∀ i, i ≤ fs.length → SOk (gk s fs i) ∧ (gk s fs i).sd.length ≤ s.sd.length + i
 | 0, _ => ⟨ok, by simp [gk]⟩
 | i + 1, hi => by
  obtain ⟨o, l⟩ := gk_ok ok fs hz he hn hs hl i (by omega)
  obtain ⟨a, b, c, d, e, f, g⟩ := gk_b s fs i
  obtain ⟨g1, g2⟩ := gk_size s fs hz (i + 1)
  obtain ⟨g3, g4⟩ := gk_size s fs hz i
  have hlen : ((gk s fs (i + 1)).sd).length ≤ (gk s fs i).sd.length + 1 := by
   show (if _ then sput _ _ _ else _).length ≤ _
   split
   ·exact sput_len _ _ _
   ·omega
  have hmem : fs.getD i (0, 0) ∈ fs := by simp [List.getD, show i < fs.length by omega]
  have h2 := he _ hmem
  have hsd2 : ∀ p ∈ (gk s fs (i + 1)).sd, 0 ≤ p.2 ∧ p.2 < 4294967296 := fun p hp => by
   change p ∈ (if _ then sput _ _ _ else _) at hp
   split at hp
   ·rcases sput_mem hp with rfl | hp
    ·exact o.e
    ·exact o.d p hp
   ·exact o.d p hp
  refine ⟨⟨o.x.add _ _ (by rw [g]; omega), ?_, ?_, ?_, ?_, ?_, h2, hsd2⟩, by omega⟩
  ·show 1 ≤ (gk s fs i).next + 1
   have := o.n1; omega
  ·show (gk s fs i).next + 1 ≤ _
   rw [g]; omega
  ·have := ok.z1; omega
  ·omega
  ·omega
theorem wk_fs (seed : Crc.R) (n : Int) (ls : List (List UInt8)) : ∀ i, ∀ f ∈ (wk seed n ls i).2.1, (0 ≤ f.1 ∧ f.1 ≤ 4112) ∧ (0 ≤ f.2 ∧ f.2 < 4294967296)
 | 0 => fun f hf => by simp [wk] at hf
 | i + 1 => fun f hf => by
  rw [wk] at hf
  simp only [List.mem_append, List.mem_singleton] at hf
  rcases hf with hf | rfl
  ·exact wk_fs seed n ls i f hf
  ·have h1 := wr_len (wk seed n ls i).2.2 (n + (i : Int)) (ls.getD i [])
   have h2 := (wrF (wk seed n ls i).2.2 (n + (i : Int)) (ls.getD i [])).2.1.isLt
   refine ⟨⟨by simp only; omega, by simp only; omega⟩, by simp only; omega, by simp only; omega⟩
def putF (s : SG) (S : DS) (seed : Crc.R) (ls : List (List UInt8)) : (SG × DS) × Int × Int :=
 if refF s ls ≠ 0 then ((s, S), 0, refF s ls)
 else if (S.append s.file (wk seed s.next ls ls.length).1).2.2 ≠ 0 then (({ s with cond := 2 }, (S.append s.file (wk seed s.next ls ls.length).1).1), 0, (S.append s.file (wk seed s.next ls ls.length).1).2.2)
 else ((gk s (wk seed s.next ls ls.length).2.1 ls.length, (S.append s.file (wk seed s.next ls ls.length).1).1), s.next, 0)
theorem ref_zero {s : SG} {ls : List (List UInt8)} (h : refF s ls = 0) : s.cond = 0 ∧ s.next + (ls.length : Int) ≤ 9223372036854775807 := by
 unfold refF at h
 split at h
 ·omega
 ·split at h
  ·omega
  ·split at h
   ·omega
   ·split at h
    ·omega
    ·refine ⟨by omega, by omega⟩
structure Sst (w w' : World) (sb xb mb : Nat) (v v' : Value) (O O' : Nat → Prop) : Prop where
 but : But (fun k => SOwn sb xb mb v k ∨ O k) w w'
 v : ∀ k, v'.ownBlock = some k → v.ownBlock = some k ∨ w.heap.size ≤ k
 o : ∀ k, O' k → O k ∨ w.heap.size ≤ k
theorem Sst.below {w w' : World} {sb xb mb : Nat} {v : Value} {O : Nat → Prop} (h : Below w.heap.size w w') : Sst w w' sb xb mb v v O O := ⟨But.of_below h _, fun _ h => .inl h, fun _ h => .inl h⟩
theorem Sst.trans {w u w' : World} {sb xb mb : Nat} {v v1 v2 : Value} {O O1 O2 : Nat → Prop} (h : Sst w u sb xb mb v v1 O O1) (k : Sst u w' sb xb mb v1 v2 O1 O2) : Sst w w' sb xb mb v v2 O O2 := by
 refine ⟨⟨k.but.os.trans h.but.os, k.but.tape.trans h.but.tape, k.but.output.trans h.but.output, Nat.le_trans h.but.size k.but.size, fun i hi hx => ?_⟩, fun i hi => ?_, fun i hi => ?_⟩
 ·rw [k.but.block i (Nat.lt_of_lt_of_le hi h.but.size) (fun c => ?_)]
  ·exact h.but.block i hi hx
  ·rcases c with (c | c | c | c) | c
   ·exact hx (.inl (.inl c))
   ·exact hx (.inl (.inr (.inl c)))
   ·exact hx (.inl (.inr (.inr (.inl c))))
   ·rcases h.v i c with q | q
    ·exact hx (.inl (.inr (.inr (.inr q))))
    ·omega
   ·rcases h.o i c with q | q
    ·exact hx (.inr q)
    ·omega
 ·rcases k.v i hi with q | q
  ·exact h.v i q
  ·exact .inr (Nat.le_trans h.but.size q)
 ·rcases k.o i hi with q | q
  ·exact h.o i q
  ·exact .inr (Nat.le_trans h.but.size q)
theorem SW.grow {w : World} {sb : Nat} {s : SG} {S : DS} {O : Nat → Prop} {xb mb : Nat} {v : Value} (h : SW w sb s S O xb mb v) (ok : SOk s) (z sum : Int) (hn : s.next ≤ 9223372036854775806) (hz : 0 ≤ z) (hz2 : s.size + z ≤ 2147483647) :
    Calls Tryz.prog 87 #[.pointer (some ⟨sb, 0, none⟩), .int .i64 z, .int .u32 sum] w fun e w' => e = .returned (.tuple #[]) ∧ ∃ v', SW w' sb (s.grown z sum) S O xb mb v' ∧ Sst w w' sb xb mb v v' O O := by
 refine (grow_any h.sg ok z sum hn hz hz2).mono ?_
 rintro e w' ⟨rfl, v', g, b, o⟩
 refine ⟨rfl, v', ⟨g, h.dk.but b (fun k hk c => h.ap k c hk), fun k hk c => ?_⟩, b.mono fun k _ hk => .inl hk, o, fun k hk => .inl hk⟩
 rcases hk with hk | hk | hk | hk
 ·exact h.ap k (.inl hk) c
 ·exact h.ap k (.inr (.inl hk)) c
 ·exact h.ap k (.inr (.inr (.inl hk))) c
 ·rcases o k hk with q | q
  ·exact h.ap k (.inr (.inr (.inr q))) c
  ·have := h.dk.lt k c; omega
theorem ob_off {B : Nat} {w : World} {v : Value} {l : List UInt8} {O : Nat → Prop} (h : Ob B w v l) (hO : ∀ k, O k → k < B) : SOff O v := by
 intro b off n c e hn ho
 rcases h.2 with ⟨rfl, _⟩ | ⟨g, cap, cur, rfl, hg, hh, r⟩
 ·simp at e
 ·simp at e
  obtain ⟨⟨rfl, _⟩, _⟩ := e
  have := hO _ ho
  omega
theorem putS_any {w : World} {sb : Nat} {s : SG} {S : DS} {O : Nat → Prop} {xb mb : Nat} {v : Value} (h : SW w sb s S O xb mb v) (ok : SOk s) (seed : Crc.R) (hsd : s.seed = (seed.toNat : Int)) (vd : Value) (vs : List Value) (ls : List (List UInt8)) (hr : Row w vd vs) (hs : Sls w vs ls) (hl : ls.length ≤ 34000000000) (hz : s.size + (ls.length : Int) * 4112 ≤ 2147483647) (hl2 : s.sd.length + ls.length ≤ 1000000000) (hf : s.file.size ≤ maxLen) (hc : S.c7 < 900000000) :
    Calls Tryz.prog 53 #[.pointer (some ⟨sb, 0, none⟩), vd] w fun e w' => e = .returned (.tuple #[.int .i64 (putF s S seed ls).2.1, .int .i64 (putF s S seed ls).2.2]) ∧ ∃ v' O', SW w' sb (putF s S seed ls).1.1 (putF s S seed ls).1.2 O' xb mb v' ∧ Sst w w' sb xb mb v v' O O' := by
 have B1 := box_below w (.cells #[.pointer (some ⟨sb, 0, none⟩)] 80)
 have N1 : Bx1 _ w.heap.size 80 (.pointer (some ⟨sb, 0, none⟩)) := heap_alloc_new w (.cells #[.pointer (some ⟨sb, 0, none⟩)] 80)
 have hO := h.dk.lt
 have hOs := h.sg.lt
 have H1 := h.below B1
 have hRf := hide (refuse_any H1.sg ok vd vs ls (Below.row B1 hr) (Below.sls B1 hs))
 have hRow := hide (Below.row B1 hr)
 have hSls := hide (Below.sls B1 hs)
 obtain ⟨w1, hw1⟩ : ∃ w1, Hid (w.alloc (.cells #[.pointer (some ⟨sb, 0, none⟩)] 80) = w1) := ⟨_, rfl⟩
 rw [hw1.out] at B1 N1 H1 hRf hRow hSls
 have hz1 : w1.heap.size = w.heap.size + 1 := by rw [← hw1.out]; simp
 have c1 := N1.cell
 have ST : Hid (SW w1 sb s S O xb mb v ∧ Bx1 w1 w.heap.size 80 (.pointer (some ⟨sb, 0, none⟩)) ∧ Below w.heap.size w w1 ∧ (∀ k, O k → k < w.heap.size) ∧ (∀ k, SOwn sb xb mb v k → k < w.heap.size)) := hide ⟨H1, N1, B1, hO, hOs⟩
 obtain ⟨PF, hPF⟩ : ∃ PF, Hid (putF s S seed ls = PF) := ⟨_, rfl⟩
 rw [hPF.out]
 clear B1 N1 H1 h hr hs hO hOs
 obtain ⟨ao, ca, hvd⟩ : ∃ a c, vd = .slice a vs.length c := by
  obtain ⟨a, c, e, _⟩ := hRow.out
  exact ⟨a, c, e⟩
 subst hvd
 generalize vs.length = VL at *
 by_cases hrf : refF s ls = 0
 rotate_left
 ·have kr : (refF s ls != 0) = true := by simp [hrf]
  have hE : Hid (((s, S), 0, refF s ls) = PF) := hide (by rw [← hPF.out]; unfold putF; rw [if_pos hrf])
  rw [← hE.out]
  clear hE hPF
  replace hrf := hide hrf
  generalize refF s ls = R at *
  go_enter Tryz.func53, Tryz.ntmps53
  go_upto_region 1 with fail
  rw [hw1.out]
  go_wp2_with (first | (go_at_call 83; refine hRf.out.mono ?_; rintro e w2 ⟨rfl, e1⟩; rw [e1]; clear e1 w2) | fail)
  go_ret2
  exact ⟨rfl, v, O, ST.out.1, Sst.below ST.out.2.2.1⟩
 have hPF2 : Hid ((if (S.append s.file (wk seed s.next ls ls.length).1).2.2 ≠ 0 then (({ s with cond := 2 }, (S.append s.file (wk seed s.next ls ls.length).1).1), 0, (S.append s.file (wk seed s.next ls ls.length).1).2.2)
  else ((gk s (wk seed s.next ls ls.length).2.1 ls.length, (S.append s.file (wk seed s.next ls ls.length).1).1), s.next, 0)) = PF) := hide (by rw [← hPF.out]; unfold putF; rw [if_neg (show ¬ refF s ls ≠ 0 by omega)])
 obtain ⟨hcd, hnx⟩ := ref_zero hrf
 rw [hrf] at hRf
 have hWr := hide (writeS_any ST.out.1.sg ok seed hsd _ vs ls hRow.out hSls.out hl hnx)
 have hfl := hide (wk_len seed s.next ls ls.length)
 have hfs := hide (wk_fs seed s.next ls ls.length)
 obtain ⟨Wk, hWk⟩ : ∃ Wk, Hid (wk seed s.next ls ls.length = Wk) := ⟨_, rfl⟩
 rw [hWk.out] at hWr hfl hfs hPF2
 obtain ⟨D, fs, sum⟩ := Wk
 simp only at hWr hfl hfs hPF2
 obtain ⟨AP, hAP⟩ : ∃ AP, Hid (S.append s.file D = AP) := ⟨_, rfl⟩
 rw [hAP.out] at hPF2
 obtain ⟨S', r1, r2⟩ := AP
 simp only at hPF2
 clear hRow hSls hPF
 go_enter Tryz.func53, Tryz.ntmps53
 go_upto_region 1 with fail
 rw [hw1.out]
 go_upto_region 4 with (first | (go_at_call 83; refine hRf.out.mono ?_; rintro e w2 ⟨rfl, e1⟩; rw [e1]; clear e1 w2) | fail)
 generalize hpa : w.heap.size = pA at *
 replace hpa := hide hpa
 go_wp2_with fail
 go_at_call 84
 refine hWr.out.mono ?_
 rintro e w2 ⟨v1, v2, rfl, Ob1, Fr1, b2⟩
 obtain ⟨a1, a2, a3, a4, a5⟩ := ST.out
 obtain ⟨ba, bn, bc, hv1⟩ : ∃ a n c, v1 = .slice a n c := by
  rcases Ob1.2 with ⟨rfl, _⟩ | ⟨_, _, _, rfl, _⟩
  ·exact ⟨_, _, _, rfl⟩
  ·exact ⟨_, _, _, rfl⟩
 subst hv1
 have hsz1 : w1.heap.size = pA + 1 := hz1
 have B3 := box_below w2 (.cells #[.slice ba bn bc] 54)
 have N3 : Bx1 _ w2.heap.size 54 (.slice ba bn bc) := heap_alloc_new w2 (.cells #[.slice ba bn bc] 54)
 have T2 := a1.below b2
 have A2 := a2.below b2
 have hOff : SOff O (.slice ba bn bc) := ob_off Ob1 (fun k hk => by have := a4 k hk; omega)
 have hSb := Sl.of_owns Ob1
 have n2 : ¬ O pA := fun c => by have := a4 _ c; omega
 have hw2s : pA + 1 ≤ w2.heap.size := by have := b2.size; omega
 have n7 : ¬ O w2.heap.size := fun c => by have := a4 _ c; omega
 obtain ⟨w3, hw3⟩ : ∃ w3, Hid (w2.alloc (.cells #[.slice ba bn bc] 54) = w3) := ⟨_, rfl⟩
 obtain ⟨p7, hp7⟩ : ∃ p7, Hid (w2.heap.size = p7) := ⟨_, rfl⟩
 rw [hw3.out] at B3 N3
 rw [hp7.out] at N3 n7
 have T3 := T2.below B3
 have A3 := A2.below B3
 have hSb3 := Below.sl B3 hSb
 have Fr3 : Frs w1.heap.size w3 v2 fs := Fr1.but (But.of_below B3 fun _ => False) (fun _ _ c => c)
 have hAt := hide (attempt_put (S' := S') (r := r2) T3 (p2 := pA) (p7 := p7) (fun u hu => by
  have := put1_any (T3.below hu) (A3.below hu) (N3.below hu) (Below.sl hu hSb3) hOff n2 n7 hf hc
  rwa [hAP.out] at this))
 have B13 : Below pA w w3 := by
  have e1 : Below w1.heap.size w1 w3 := keepF b2 B3
  exact a3.trans (e1.mono (by omega))
 have ST3 : Hid (SW w3 sb s S O xb mb v ∧ Bx1 w3 pA 80 (.pointer (some ⟨sb, 0, none⟩)) ∧ Below pA w w3 ∧ Frs (pA + 1) w3 v2 fs ∧ (∀ k, O k → k < pA) ∧ (∀ k, SOwn sb xb mb v k → k < pA)) := hide ⟨T3, A3, B13, by rw [hsz1] at Fr3; exact Fr3, a4, a5⟩
 have cA := A3.cell
 have hmf : ∀ (fn : Fn) (first cap : Array Value) (w : World), (Instr.makeFunc fn first cap).run Tryz.prog w = .ok (.func fn first cap) w := fun _ _ _ _ => rfl
 obtain ⟨fa, fn, fc, hv2⟩ : ∃ a n c, v2 = .slice a n c := by
  rcases Fr1.2 with ⟨rfl, _⟩ | ⟨_, _, _, rfl, _⟩
  ·exact ⟨_, _, _, rfl⟩
  ·exact ⟨_, _, _, rfl⟩
 subst hv2
 have hfn : fn = fs.length := by
  rcases Fr1.2 with ⟨e, e2⟩ | ⟨_, _, _, e, _⟩
  ·simp at e; omega
  ·simp at e; omega
 have hN : Hid (fs.length = fn) := hide hfn.symm
 clear hfn
 clear a1 a2 a3 T2 A2 Ob1 Fr1 b2 B3 N3 T3 A3 hSb hSb3 Fr3 hOff ST hWr hRf c1 B13
 go_upto_region 5 with fail
 rw [hw3.out, hp7.out]
 go_wp2_with fail
 go_at_call 55
 refine hAt.out.mono ?_
 rintro e w4 ⟨rfl, O4, T4, b4, o4⟩
 obtain ⟨z1, z2, z3, z4, z5, z6⟩ := ST3.out
 have nA : ¬ (SOwn sb xb mb v pA ∨ O pA) := fun c => by
  rcases c with c | c
  ·have := z6 _ c; omega
  ·have := z5 _ c; omega
 have A4 := z2.but b4 nA
 have S34 : Sst w w4 sb xb mb v v O O4 := by
  have e1 : Below w.heap.size w w3 := by rw [hpa.out]; exact z3
  exact (Sst.below e1).trans ⟨b4, fun _ h => .inl h, o4⟩
 by_cases hr2 : r2 = 0
 rotate_left
 ·rw [if_pos hr2] at hPF2
  rw [if_neg hr2] at T4
  have kr : (r2 != 0) = true := by simp [hr2]
  have T4' := hide T4
  have S4' := hide S34
  replace hr2 := hide hr2
  clear T4 b4 o4 S34
  go_wp2_with fail
  go_ret2
  rw [← hPF2.out]
  exact ⟨rfl, v, O4, T4'.out, S4'.out⟩
 ·rw [if_neg (by simp [hr2])] at hPF2
  rw [if_pos hr2] at T4
  subst hr2
  have F4 : Frs (pA + 1) w4 (.slice fa fn fc) fs := z4.but b4 (fun k hk c => by
   have := (World.ownsRow.lt z4 k hk).1
   rcases c with c | c
   ·have := z6 _ c; omega
   ·have := z5 _ c; omega)
  have hls : fs.length = ls.length := hfl.out.2
  have okI := hide (gk_ok ok fs (fun f hf => (hfs.out f hf).1) (fun f hf => (hfs.out f hf).2) (by rw [hls]; exact hnx) (by rw [hls]; exact hz) (by rw [hls]; exact hl2))
  have szI := hide (gk_size s fs (fun f hf => (hfs.out f hf).1))
  rw [hN.out] at hls okI
  rw [← hls] at hPF2
  have hN63 : fn ≤ 34000000000 := by omega
  have hsz4 : pA + 1 ≤ w4.heap.size := by have := A4.lt; omega
  have LT : Hid (SW w4 sb (gk s fs 0) S' O4 xb mb v ∧ Bx1 w4 pA 80 (.pointer (some ⟨sb, 0, none⟩)) ∧ Frs (pA + 1) w4 (.slice fa fn fc) fs ∧ Sst w w4 sb xb mb v v O O4 ∧ (∀ k, SOwn sb xb mb v k → k < pA) ∧ Sst w4 w4 sb xb mb v v O4 O4) := hide ⟨T4, A4, F4, S34, z6, Sst.below (Below.refl _ _)⟩
  have OB : Hid (∀ k, O4 k → k < pA ∨ w3.heap.size ≤ k) := hide fun k hk => (o4 k hk).imp (z5 k) id
  have GB : Hid (∀ k, (Value.slice fa fn fc).ownBlock = some k → k < w3.heap.size) := hide fun k hk => (World.ownsRow.lt z4 k hk).2
  have PB : Hid (pA < w3.heap.size ∧ w3.heap.size ≤ w4.heap.size) := hide ⟨z2.lt, b4.size⟩
  have cA4 := A4.cell
  obtain ⟨y0, y1, y2, y3, y4, y5, y6, y7, y8, y9, y10⟩ := T4.sg.cells
  simp only at y5
  clear z1 z2 z3 z4 z5 T4 A4 F4 S34 b4 o4 ST3 hAt cA
  have hls' := hide hls
  clear hls
  go_wp2_with fail
  go_loopw [37] (fun v37 wr => ∃ i : Nat, ∃ vi : Value, i ≤ fn ∧ v37 = .int .i64 (i : Int) ∧ Hid (SW wr sb (gk s fs i) S' O4 xb mb vi ∧ Bx1 wr pA 80 (.pointer (some ⟨sb, 0, none⟩)) ∧ Frs (pA + 1) wr (.slice fa fn fc) fs ∧ Sst w wr sb xb mb v vi O O4 ∧ Sst w4 wr sb xb mb v vi O4 O4)) (fun v _ => fn - (intOf v).toNat)
  case atStart => exact ⟨0, v, by omega, rfl, LT.out.1, LT.out.2.1, LT.out.2.2.1, LT.out.2.2.2.1, LT.out.2.2.2.2.2⟩
  case round =>
   obtain ⟨i, vi, hi, rfl, QQ⟩ := hrel
   obtain ⟨q1, q2, q3, q4, q5⟩ := QQ.out
   by_cases hin : i = fn
   ·have e1 := hide (show ((gk s fs fn, S'), s.next, (0 : Int)) = PF from hPF2.out)
    have T9 : Hid (SW wr sb (gk s fs fn) S' O4 xb mb vi) := hide (by rw [← hin]; exact q1)
    have S9 := hide q4
    replace hin := hide hin
    clear q1 q2 q3 q4 q5 QQ cA4 y0 y1 y2 y3 y4 y5 y6 y7 y8 y9 y10
    have i1 : ¬ ((i : Int) < (fn : Int)) := by have := hin.out; omega
    go_wp2_with fail
    go_ret2
    rw [← e1.out]
    exact ⟨rfl, vi, O4, T9.out, S9.out⟩
   ·have hil : i < fn := by omega
    have i1 : (i : Int) < (fn : Int) := by omega
    have i0 : (0 : Int) ≤ (i : Int) := by omega
    obtain ⟨g, gc, eg, cells, _, _, hglt, hgB⟩ := q3.at (fun c => by rw [c] at hN; have := hN.out; simp at this; omega)
    simp only [Value.slice.injEq] at eg
    obtain ⟨rfl, hq9, rfl⟩ := eg
    clear hq9
    obtain ⟨d0, d1⟩ := cells i (by rw [hN.out]; exact hil)
    have hmem : fs.getD i (0, 0) ∈ fs := by simp [List.getD, show i < fs.length by rw [hN.out]; exact hil]
    have hfz := (hfs.out _ hmem).1
    obtain ⟨okk, _⟩ := okI.out i (by omega)
    obtain ⟨_, sz2⟩ := szI.out i
    obtain ⟨_, sz3⟩ := szI.out (i + 1)
    have hst : gk s fs (i + 1) = (gk s fs i).grown (fs.getD i (0, 0)).1 (fs.getD i (0, 0)).2 := rfl
    have hnxi : (gk s fs i).next = s.next + (i : Int) := (gk_b s fs i).2.2.2.2.2.2
    have hszi : (gk s fs (i + 1)).size = (gk s fs i).size + (fs.getD i (0, 0)).1 := rfl
    rw [hszi] at sz3
    obtain ⟨⟨fz, fm⟩, hfe⟩ : ∃ f, Hid (fs.getD i (0, 0) = f) := ⟨_, rfl⟩
    rw [hfe.out] at d0 d1 hfz hst sz3
    simp only at d0 d1 hfz hst sz3
    have hzz : s.size + (fn : Int) * 4112 ≤ 2147483647 := by have := hls'.out; rw [this]; exact hz
    have hnn : s.next + (fn : Int) ≤ 9223372036854775807 := by have := hls'.out; rw [this]; exact hnx
    have B5 := box_below wr (.cells #[.int .i64 fz, .int .u32 fm] 150)
    have T5 := q1.below B5
    have A5 := q2.below B5
    have F5 : Frs (pA + 1) _ (.slice (some ⟨g, 0, none⟩) fn fc) fs := q3.but (But.of_below B5 fun _ => False) (fun _ _ c => c)
    have hGr := hide (T5.grow okk fz fm (by rw [hnxi]; omega) hfz.1 (by omega))
    have cA5 := A5.cell
    have ST5 : Hid (Bx1 (wr.alloc (.cells #[.int .i64 fz, .int .u32 fm] 150)) pA 80 (.pointer (some ⟨sb, 0, none⟩)) ∧ Frs (pA + 1) (wr.alloc (.cells #[.int .i64 fz, .int .u32 fm] 150)) (.slice (some ⟨g, 0, none⟩) fn fc) fs ∧ Sst w (wr.alloc (.cells #[.int .i64 fz, .int .u32 fm] 150)) sb xb mb v vi O O4 ∧ Sst w4 (wr.alloc (.cells #[.int .i64 fz, .int .u32 fm] 150)) sb xb mb v vi O4 O4) := hide ⟨A5, F5, q4.trans (Sst.below B5), q5.trans (Sst.below B5)⟩
    have hg4 : Hid (g < w4.heap.size) := hide (by
     obtain ⟨_, _, e, _, _, _, l, _⟩ := LT.out.2.2.1.at (fun c => by rw [c] at hN; have := hN.out; simp at this; omega)
     simp only [Value.slice.injEq, Option.some.injEq, Addr.mk.injEq] at e
     obtain ⟨⟨rfl, _⟩, _⟩ := e
     exact l)
    rw [← hst] at hGr
    clear q1 q2 q3 q4 q5 QQ cA4 y0 y1 y2 y3 y4 y5 y6 y7 y8 y9 y10 cells T5 A5 F5 B5 hst hszi hmem sz2 sz3
    have off1 : (i : Int) * 2 = ((i * 2 : Nat) : Int) := by omega
    go_wp2_with fail
    go_at_call 87
    refine hGr.out.mono ?_
    rintro e w6 ⟨rfl, v6, T6, S6⟩
    obtain ⟨r1', r2', r3', r4'⟩ := ST5.out
    have nS : ∀ k, (SOwn sb xb mb vi k ∨ O4 k) → k < pA ∨ w4.heap.size ≤ k ∨ O4 k := fun k hk => by
     rcases hk with (c | c | c | c) | c
     ·exact .inl (LT.out.2.2.2.2.1 k (.inl c))
     ·exact .inl (LT.out.2.2.2.2.1 k (.inr (.inl c)))
     ·exact .inl (LT.out.2.2.2.2.1 k (.inr (.inr (.inl c))))
     ·rcases r4'.v k c with q | q
      ·exact .inl (LT.out.2.2.2.2.1 k (.inr (.inr (.inr q))))
      ·exact .inr (.inl q)
     ·exact .inr (.inr c)
    have FIN : Hid (SW w6 sb (gk s fs (i + 1)) S' O4 xb mb v6 ∧ Bx1 w6 pA 80 (.pointer (some ⟨sb, 0, none⟩)) ∧ Frs (pA + 1) w6 (.slice (some ⟨g, 0, none⟩) fn fc) fs ∧ Sst w w6 sb xb mb v v6 O O4 ∧ Sst w4 w6 sb xb mb v v6 O4 O4) := hide (by
     refine ⟨T6, r1'.but S6.but (fun c => ?_), r2'.but S6.but (fun k hk c => ?_), r3'.trans S6, r4'.trans S6⟩
     ·have := PB.out
      rcases nS _ c with q | q | q
      ·omega
      ·omega
      ·rcases OB.out _ q with q | q <;> omega
     ·have h1 := GB.out k hk
      have h2 := PB.out
      have h3 := (World.ownsRow.lt r2' k hk).1
      rcases nS _ c with q | q | q
      ·omega
      ·omega
      ·rcases OB.out _ q with q | q <;> omega)
    clear T6 S6 r1' r2' r3' r4' nS ST5 hGr
    go_wp2_with fail
    go_roundw
    case rel => exact ⟨i + 1, v6, by omega, by go_num, FIN.out⟩
    case measure => simp [intOf]; omega
def syncF (s : SG) (S : DS) : (SG × DS) × Int :=
 if s.cond ≠ 0 then ((s, S), 40) else (({ s with cond := if (S.sync s.file).2 = 0 then s.cond else 2 }, (S.sync s.file).1), (S.sync s.file).2)
theorem syncS_any {w : World} {sb : Nat} {s : SG} {S : DS} {O : Nat → Prop} {xb mb : Nat} {v : Value} (h : SW w sb s S O xb mb v) (hf : s.file.size ≤ maxLen) (hc : S.c7 < 900000000) :
    Calls Tryz.prog 36 #[.pointer (some ⟨sb, 0, none⟩)] w fun e w' => e = .returned (.int .i64 (syncF s S).2) ∧ ∃ O', SW w' sb (syncF s S).1.1 (syncF s S).1.2 O' xb mb v ∧ Sst w w' sb xb mb v v O O' := by
 have B1 := box_below w (.cells #[.pointer (some ⟨sb, 0, none⟩)] 80)
 have N1 : Bx1 _ w.heap.size 80 (.pointer (some ⟨sb, 0, none⟩)) := heap_alloc_new w (.cells #[.pointer (some ⟨sb, 0, none⟩)] 80)
 have H1 := h.below B1
 have hO := h.dk.lt
 obtain ⟨w1, hw1⟩ : ∃ w1, Hid (w.alloc (.cells #[.pointer (some ⟨sb, 0, none⟩)] 80) = w1) := ⟨_, rfl⟩
 rw [hw1.out] at B1 N1 H1
 have n2 : ¬ O w.heap.size := fun c => by have := hO _ c; omega
 have hAt := hide (attempt_sync (S' := (S.sync s.file).1) (r := (S.sync s.file).2) H1 (p2 := w.heap.size) (fun u hu => sync1_any (H1.below hu) (N1.below hu) n2 hf hc))
 obtain ⟨y0, y1, y2, y3, y4, y5, y6, y7, y8, y9, y10⟩ := H1.sg.cells
 have hM := hide (made_yes w1 sb s.b y0)
 have c1 := N1.cell
 have ST : Hid (SW w1 sb s S O xb mb v ∧ Below w.heap.size w w1) := hide ⟨H1, B1⟩
 have hmf : ∀ (fn : Fn) (first cap : Array Value) (w : World), (Instr.makeFunc fn first cap).run Tryz.prog w = .ok (.func fn first cap) w := fun _ _ _ _ => rfl
 clear H1 N1 B1 h hO
 obtain ⟨PF, hPF⟩ : ∃ PF, Hid (syncF s S = PF) := ⟨_, rfl⟩
 rw [hPF.out]
 by_cases hcd : s.cond = 0
 ·have hP2 : Hid ((({ s with cond := if (S.sync s.file).2 = 0 then s.cond else 2 }, (S.sync s.file).1), (S.sync s.file).2) = PF) := hide (by rw [← hPF.out]; unfold syncF; rw [if_neg (show ¬ s.cond ≠ 0 by omega)])
  generalize (S.sync s.file).2 = r at *
  generalize (S.sync s.file).1 = S' at *
  rw [hcd] at y8
  replace hcd := hide hcd
  clear hPF
  go_enter Tryz.func36, Tryz.ntmps36
  go_upto_region 1 with fail
  rw [hw1.out]
  generalize hpa : w.heap.size = pA at *
  replace hpa := hide hpa
  go_wp2_with (first | (go_at_call 51; refine hM.out.mono ?_; rintro e w2 ⟨rfl, e1⟩; rw [e1]; clear e1 w2) | fail)
  go_at_call 55
  refine hAt.out.mono ?_
  rintro e w2 ⟨rfl, O2, T2, b2, o2⟩
  have FIN : Hid (SW w2 sb { s with cond := if r = 0 then s.cond else 2 } S' O2 xb mb v ∧ Sst w w2 sb xb mb v v O O2) := hide ⟨T2, (Sst.below (show Below w.heap.size w w1 by rw [hpa.out]; exact ST.out.2)).trans ⟨b2, fun _ h => .inl h, o2⟩⟩
  clear T2 b2 o2 hAt
  go_wp2_with fail
  go_ret
  have e9 := hP2.out
  subst e9
  exact ⟨rfl, O2, FIN.out.1, FIN.out.2⟩
 ·have hP2 : Hid (((s, S), (40 : Int)) = PF) := hide (by rw [← hPF.out]; unfold syncF; rw [if_pos hcd])
  rw [← hP2.out]
  simp only
  have kc : (s.cond != 0) = true := by simp [hcd]
  replace hcd := hide hcd
  clear hP2 hPF hAt
  go_enter Tryz.func36, Tryz.ntmps36
  go_upto_region 1 with fail
  rw [hw1.out]
  go_wp2_with (first | (go_at_call 51; refine hM.out.mono ?_; rintro e w2 ⟨rfl, e1⟩; rw [e1]; clear e1 w2) | fail)
  go_ret
  exact ⟨rfl, O, ST.out.1, Sst.below ST.out.2⟩
end Go.Proofs.YtnimildpcnmjeaaGreatDoor.Sg
namespace Go.Proofs.YtnimildpcnmjeaaGreatDoor
open Go.RowKit
end Go.Proofs.YtnimildpcnmjeaaGreatDoor
namespace Go.Proofs.YtnimildpcnmjeaaGreatDoor.Crc
open Go.RowKit
end Go.Proofs.YtnimildpcnmjeaaGreatDoor.Crc
namespace Go.Proofs.YtnimildpcnmjeaaGreatDoor
open Go.RowKit
def ttl : List UInt8 := [70, 76, 85, 77, 69, 76, 79, 71]
def hfs (nm bs : Nat) (seed : Crc.R) : List UInt8 := ttl ++ (fx 8 nm ++ (fx 8 bs ++ fx 4 seed.toNat))
def hsum (nm bs : Nat) (seed : Crc.R) : Crc.R := Crc.more 0#32 (hfs nm bs seed)
def hed (nm bs : Nat) (seed : Crc.R) : List UInt8 := hfs nm bs seed ++ fmark (hsum nm bs seed)
theorem hfs_len (nm bs : Nat) (seed : Crc.R) : (hfs nm bs seed).length = 28 := by simp [hfs, ttl, fx_len]
theorem hed_len (nm bs : Nat) (seed : Crc.R) : (hed nm bs seed).length = 32 := by simp [hed, hfs_len, fmark_len]
theorem three_cells {w : World} {b : Nat} {a0 a1 a2 : Value} {T : TypeId} (h : w.heap[b]? = some (.cells #[a0, a1, a2] T (0, 0))) : w.cell? ⟨b, 0, none⟩ = some a0 ∧ w.cell? ⟨b, 1, none⟩ = some a1 ∧ w.cell? ⟨b, 2, none⟩ = some a2 ∧ w.frozen? ⟨b, 0, none⟩ = false ∧ w.frozen? ⟨b, 1, none⟩ = false ∧ w.frozen? ⟨b, 2, none⟩ = false := by
 simp [World.cell?, World.frozen?, h]
def whF (nm bs : Int) (seed : Crc.R) : List UInt8 × Crc.R × Int :=
 if nm < 1 ∨ bs < 1 then ([], 0#32, 1) else (hed nm.toNat bs.toNat seed, hsum nm.toNat bs.toNat seed, 0)
def DoesWH (f : Nat) : Prop := ∀ (w : World) (nm bs : Int) (seed : Crc.R), -9223372036854775808 ≤ nm → nm ≤ 9223372036854775807 → -9223372036854775808 ≤ bs → bs ≤ 9223372036854775807 →
 Calls Tryz.prog f #[.agg #[.int .i64 nm, .int .i64 bs, .int .u32 (seed.toNat : Int)]] w fun e w' => ∃ v', e = .returned (.tuple #[v', .int .u32 ((whF nm bs seed).2.1.toNat : Int), .int .i64 (whF nm bs seed).2.2]) ∧ w'.ownsRow w.heap.size 5 1 v' (whF nm bs seed).1.length (bvals (whF nm bs seed).1) ∧ Below w.heap.size w w'
theorem mayBe_any (w : World) (nm bs : Int) (seed : Crc.R) :
    Calls Tryz.prog 173 #[.agg #[.int .i64 nm, .int .i64 bs, .int .u32 (seed.toNat : Int)]] w fun e w' => e = .returned (.bool (inB nm 9223372036854775807 && inB bs 9223372036854775807)) ∧ Below w.heap.size w w' := by
 cases h1 : inB nm 9223372036854775807 with
 | false =>
  replace h1 := hide h1
  go_enter Tryz.func173, Tryz.ntmps173
  go_wp2_with fail
  refine (within_any _ nm 9223372036854775807).mono ?_
  rintro e w0 ⟨rfl, hw⟩
  obtain rfl := hw.symm
  rw [h1.out]
  go_wp2_with fail
  go_ret
  exact ⟨rfl, box_below _ _⟩
 | true =>
  replace h1 := hide h1
  obtain ⟨B, hB⟩ : ∃ B, Hid (inB bs 9223372036854775807 = B) := ⟨_, rfl⟩
  rw [hB.out, Bool.true_and]
  go_enter Tryz.func173, Tryz.ntmps173
  go_wp2_with fail
  refine (within_any _ nm 9223372036854775807).mono ?_
  rintro e w0 ⟨rfl, hw⟩
  obtain rfl := hw.symm
  rw [h1.out]
  go_wp2_with fail
  refine (within_any _ bs 9223372036854775807).mono ?_
  rintro e w0 ⟨rfl, hw⟩
  obtain rfl := hw.symm
  rw [hB.out]
  go_wp2_with fail
  go_ret
  exact ⟨rfl, box_below _ _⟩
def frz (q : World) (b : Nat) : World := q.freeze ⟨b, 8, none⟩ 1
def tC : Array Value := #[.int .u8 70, .int .u8 76, .int .u8 85, .int .u8 77, .int .u8 69, .int .u8 76, .int .u8 79, .int .u8 71]
theorem frz_size (q : World) (b : Nat) : (frz q b).heap.size = q.heap.size := by
 unfold frz World.freeze
 rw [if_neg (by decide)]
 simp
theorem frz_other (q : World) (b k : Nat) (h : k ≠ b) : (frz q b).heap[k]? = q.heap[k]? := by
 unfold frz World.freeze
 rw [if_neg (by decide)]
 simp [Array.getElem?_modify, h.symm]
theorem frz_cell (q : World) (b : Nat) (a : Addr) : (frz q b).cell? a = q.cell? a := by
 by_cases h : a.block = b
 ·unfold frz World.freeze
  rw [if_neg (by decide)]
  simp only [World.cell?, Array.getElem?_modify, h, if_true]
  cases q.heap[b]? with
  | none => rfl
  | some o => cases o <;> rfl
 ·simp only [World.cell?, frz_other q b a.block h]
theorem frz_below {B b : Nat} {u q : World} (h : Below B u q) (hb : B ≤ b) : Below B u (frz q b) := by
 refine ⟨?_, ?_, ?_, ?_, fun k hk => ?_⟩
 ·unfold frz World.freeze; rw [if_neg (by decide)]; exact h.os
 ·unfold frz World.freeze; rw [if_neg (by decide)]; exact h.tape
 ·unfold frz World.freeze; rw [if_neg (by decide)]; exact h.output
 ·rw [frz_size]; exact h.size
 ·rw [frz_other q b k (by omega)]; exact h.block k hk
theorem Sl.frz {q : World} {b : Nat} {v : Value} {l : List UInt8} (h : Sl q v l) : Sl (frz q b) v l := by
 obtain ⟨ao, ca, e, g2, g3, g4, g5⟩ := h
 refine ⟨ao, ca, e, g2, g3, g4, fun i hi => ?_⟩
 obtain ⟨b', off, e1, hc⟩ := g5 i hi
 exact ⟨b', off, e1, by rw [frz_cell]; exact hc⟩
theorem conv_at {q : World} {b : Nat} (h : q.heap[b]? = some (.cells tC 5 (0, 0))) : (convert 54 54 (.slice (some ⟨b, 0, none⟩) 8 8)).run Tryz.prog q = .ok (.slice (some ⟨b, 0, none⟩) 8 8) (frz q b) := by
 have hsh : q.shape? b = some (5, 8) := by
  unfold World.shape?
  rw [h]; rfl
 simp [convert, run_underlying Tryz.underlying54, run_underlying Tryz.underlying5, markStringish, hsh]
 rfl
structure SlH (w : World) (v : Value) (l : List UInt8) : Prop where
 out : Sl w v l
theorem SlH.bel {w w' : World} {v : Value} {l : List UInt8} (hb : Below w.heap.size w w') (h : SlH w v l) : SlH w' v l := ⟨Below.sl hb h.out⟩
theorem SlH.dr {w : World} {v : Value} {l : List UInt8} (h : SlH w v l) : SlH w.drew v l := ⟨h.out⟩
def Mkd (q : World) (b : Nat) (q' : World) : Prop := (∀ B u, Below B u q → B ≤ b → Below B u q') ∧ ∀ v l, SlH q v l → SlH q' v l
theorem conv_ex {q : World} {b : Nat} (h : q.heap[b]? = some (.cells tC 5 (0, 0))) : ∃ q', (convert 54 54 (.slice (some ⟨b, 0, none⟩) 8 8)).run Tryz.prog q = .ok (.slice (some ⟨b, 0, none⟩) 8 8) q' ∧ Hid (Mkd q b q') :=
 ⟨frz q b, conv_at h, fun _ _ a b => frz_below a b, fun _ _ a => ⟨a.out.frz⟩⟩
theorem conv1 {W u : World} (h : Below (W.alloc (.cells tC 5)).heap.size (W.alloc (.cells tC 5)) u) : u.heap[W.heap.size]? = some (.cells tC 5 (0, 0)) := by
 rw [h.block W.heap.size (by simp)]; exact heap_alloc_new _ _
theorem conv1d {W u : World} (h : Below (W.alloc (.cells tC 5)).drew.heap.size (W.alloc (.cells tC 5)).drew u) : u.heap[W.heap.size]? = some (.cells tC 5 (0, 0)) := by
 rw [h.block W.heap.size (by simp)]; exact heap_alloc_new _ _
theorem conv2 {u v : World} {b : Nat} (h : u.heap[b]? = some (.cells tC 5 (0, 0))) (hb : Below u.heap.size u v) : v.heap[b]? = some (.cells tC 5 (0, 0)) := by
 rw [hb.block b (heap_lt h)]; exact h
theorem sl_tC (W : World) : SlH (W.alloc (.cells tC 5)) (.slice (some ⟨W.heap.size, 0, none⟩) 8 8) ttl := ⟨sl_lit W ttl 5 (by decide) _ rfl⟩
theorem sl_tCm (W : World) (fr : Nat × Nat) : SlH (W.alloc (.cells tC 5 fr)) (.slice (some ⟨W.heap.size, 0, none⟩) 8 8) ttl := ⟨sl_lit_mark W ttl 5 fr (by decide) _ rfl⟩
theorem concat4 (lo : Nat) (X : World) (hlo : lo ≤ X.heap.size) (g : Nat) (hg : g = X.heap.size) (v1 v2 v3 v4 : Value) (l1 l2 l3 l4 : List UInt8) (h1 : SlH X v1 l1) (h2 : SlH X v2 l2) (h3 : SlH X v3 l3) (h4 : SlH X v4 l4) (hl : l1.length + l2.length + l3.length + l4.length ≤ 4096) :
    Calls Tryz.prog 175 #[.slice (some ⟨g, 0, none⟩) 4 4] (X.alloc (.cells #[v1, v2, v3, v4] 54)) fun e w' => ∃ v', e = .returned v' ∧ w'.ownsRow lo 5 1 v' (l1 ++ (l2 ++ (l3 ++ l4))).length (bvals (l1 ++ (l2 ++ (l3 ++ l4)))) ∧ Below X.heap.size X w' ∧ Below (X.alloc (.cells #[v1, v2, v3, v4] 54)).heap.size (X.alloc (.cells #[v1, v2, v3, v4] 54)) w' := by
 subst hg
 refine (concat_any (X.alloc (.cells #[v1, v2, v3, v4] 54)) _ [v1, v2, v3, v4] [l1, l2, l3, l4] (row_lit X [v1, v2, v3, v4] 54 (by show 4 ≤ maxLen; decide)) (Below.sls (box_below X _) (.cons h1.out (.cons h2.out (.cons h3.out (.cons h4.out (.nil _)))))) (by simp; omega)).mono ?_
 rintro e w' ⟨v', rfl, ho, hb⟩
 have e1 : [l1, l2, l3, l4].flatten = l1 ++ (l2 ++ (l3 ++ l4)) := by simp
 rw [e1] at ho
 exact ⟨v', rfl, owns_lower ho (by simp; omega), keepF (box_below X _) hb, hb⟩
theorem headFields_any (w : World) (nm bs : Int) (seed : Crc.R) (h0 : 1 ≤ nm) (h1 : nm ≤ 9223372036854775807) (h2 : 1 ≤ bs) (h3 : bs ≤ 9223372036854775807) :
    Calls Tryz.prog 174 #[.agg #[.int .i64 nm, .int .i64 bs, .int .u32 (seed.toNat : Int)]] w fun e w' => ∃ v', e = .returned v' ∧ w'.ownsRow w.heap.size 5 1 v' (hfs nm.toNat bs.toNat seed).length (bvals (hfs nm.toNat bs.toNat seed)) ∧ Below w.heap.size w w' := by
 have HS := hide (Crc.lt32 seed)
 obtain ⟨HH, hHH⟩ : ∃ HH, Hid (hfs nm.toNat bs.toNat seed = HH) := ⟨_, rfl⟩
 rw [hHH.out]
 obtain ⟨w1, hw1⟩ : ∃ w1, Hid (w.alloc (.cells #[.int .i64 nm, .int .i64 bs, .int .u32 (seed.toNat : Int)] 77) = w1) := ⟨_, rfl⟩
 have hb1 : Hid (Below w.heap.size w w1) := by rw [← hw1.out]; exact box_below _ _
 have hh1 : Hid (w1.heap[w.heap.size]? = some (.cells #[.int .i64 nm, .int .i64 bs, .int .u32 (seed.toNat : Int)] 77 (0, 0))) := by rw [← hw1.out]; exact heap_alloc_new _ _
 have kd := fun (w : World) (C : Array Value) (n c : Nat) => Lib.run_convert_bytes_const (P := Tryz.prog) w 54 5 C n c Tryz.underlying54 Tryz.underlying5
 have kc : ∀ (w : World) (C : Array Value) (n c : Nat), (convert 54 54 (.slice (some ⟨w.heap.size, 0, none⟩) n c)).run Tryz.prog (w.alloc (.cells C 5)).drew = .ok (.slice (some ⟨w.heap.size, 0, none⟩) n c) (w.alloc (.cells C 5 (C.size, C.size + 1))).drew := fun w C n c => Lib.run_convert_bytes_const (P := Tryz.prog) w.drew 54 5 C n c Tryz.underlying54 Tryz.underlying5
 have n1 : IntKind.u64.wrap nm = nm := by rw [IntKind.wrap_u64]; omega
 have n2 : IntKind.u64.wrap bs = bs := by rw [IntKind.wrap_u64]; omega
 go_enter Tryz.func174, Tryz.ntmps174
 go_wp2_with fail
 rw [hw1.out]
 have KS : Hid (∀ q : World, Below w1.heap.size w1 q → Below w1.heap.size w1 q ∧ q.cell? ⟨w.heap.size, 0, none⟩ = some (.int .i64 nm) ∧ q.cell? ⟨w.heap.size, 1, none⟩ = some (.int .i64 bs) ∧ q.cell? ⟨w.heap.size, 2, none⟩ = some (.int .u32 (seed.toNat : Int))) := fun q hb => by
  have hh : q.heap[w.heap.size]? = some (.cells #[.int .i64 nm, .int .i64 bs, .int .u32 (seed.toNat : Int)] 77 (0, 0)) := by rw [hb.block w.heap.size (heap_lt hh1.out)]; exact hh1.out
  obtain ⟨a, b, c, _⟩ := three_cells hh
  exact ⟨hb, a, b, c⟩
 have hS0 := KS.out w1.drew (Below.refl _ _).drew
 have F8 : Hid (∀ (q : World) (x : Int), 1 ≤ x → x ≤ 9223372036854775807 → Calls Tryz.prog 187 #[.int .u64 x] q fun e w' => ∃ ao ca, e = .returned (.slice ao 8 ca) ∧ SlH w' (.slice ao 8 ca) (fx 8 x.toNat) ∧ Below q.heap.size q w') := fun q x g0 g1 =>
  (fixed64_any q x (by omega) (by omega)).mono fun e w' ⟨v, a, b, c⟩ => by
   have s := Sl.of_owns b
   obtain ⟨ao, ca, rfl⟩ := s.form (fx_len _ _)
   exact ⟨ao, ca, a, ⟨s⟩, c⟩
 have F4 : Hid (∀ (q : World), Calls Tryz.prog 126 #[.int .u32 (seed.toNat : Int)] q fun e w' => ∃ ao ca, e = .returned (.slice ao 4 ca) ∧ SlH w' (.slice ao 4 ca) (fx 4 seed.toNat) ∧ Below q.heap.size q w') := fun q =>
  (fixed32_any q _ (by omega) (by have := HS.out; omega)).mono fun e w' ⟨v, a, b, c⟩ => by
   rw [Int.toNat_natCast] at b
   have s := Sl.of_owns b
   obtain ⟨ao, ca, rfl⟩ := s.form (fx_len _ _)
   exact ⟨ao, ca, a, ⟨s⟩, c⟩
 have BS : Hid (∀ q q' : World, (Below w1.heap.size w1 q ∧ q.cell? ⟨w.heap.size, 0, none⟩ = some (.int .i64 nm) ∧ q.cell? ⟨w.heap.size, 1, none⟩ = some (.int .i64 bs) ∧ q.cell? ⟨w.heap.size, 2, none⟩ = some (.int .u32 (seed.toNat : Int))) → Below q.heap.size q q' → Below w1.heap.size w1 q' ∧ q'.cell? ⟨w.heap.size, 0, none⟩ = some (.int .i64 nm) ∧ q'.cell? ⟨w.heap.size, 1, none⟩ = some (.int .i64 bs) ∧ q'.cell? ⟨w.heap.size, 2, none⟩ = some (.int .u32 (seed.toNat : Int))) := fun q q' h hb => KS.out q' (keepF h.1 hb)
 have BS2 : Hid (∀ q q' : World, Below q.heap.size q q' → (Below w1.heap.size w1 q ∧ q.cell? ⟨w.heap.size, 0, none⟩ = some (.int .i64 nm) ∧ q.cell? ⟨w.heap.size, 1, none⟩ = some (.int .i64 bs) ∧ q.cell? ⟨w.heap.size, 2, none⟩ = some (.int .u32 (seed.toNat : Int))) → Below w1.heap.size w1 q' ∧ q'.cell? ⟨w.heap.size, 0, none⟩ = some (.int .i64 nm) ∧ q'.cell? ⟨w.heap.size, 1, none⟩ = some (.int .i64 bs) ∧ q'.cell? ⟨w.heap.size, 2, none⟩ = some (.int .u32 (seed.toNat : Int))) := fun q q' hb h => KS.out q' (keepF h.1 hb)
 go_region_held (fun q => Below w1.heap.size w1 q ∧ q.cell? ⟨w.heap.size, 0, none⟩ = some (.int .i64 nm) ∧ q.cell? ⟨w.heap.size, 1, none⟩ = some (.int .i64 bs) ∧ q.cell? ⟨w.heap.size, 2, none⟩ = some (.int .u32 (seed.toNat : Int)))
  (first | exact hS0 | assumption | exact BS2.out _ _ (by assumption) (by assumption) | exact BS2.out _ _ (box_below _ _) (by assumption) | exact KS.out _ (box_below w1 _).drew | fail)
  (first
   | (go_at_call 187; have g := S1; clear g; refine (F8.out _ bs h2 h3).mono ?_; rintro e u2 ⟨ao2, ca2, rfl, S2, B2⟩
      have Ku2 := BS2.out _ _ B2 (by assumption)
      first | (have S12 := SlH.bel B2 S1) | (have S12 := SlH.bel B2 (Z1.out.2 _ _ S1)) | (have S12 := SlH.bel B2 (SlH.bel (box_below u1 _) S1))
      first
       | (have X2 := conv_ex (conv2 (conv1d (W := w1) B1) B2)
          obtain ⟨q2, D2, Z2⟩ := X2
          have T2 := SlH.bel B2 T1
          have K2 := KS.out q2 (Z2.out.1 _ _ Ku2.1 (Nat.le_refl _)))
       | (have X2 := conv_ex (conv1 (W := u1) B2)
          obtain ⟨q2, D2, Z2⟩ := X2
          have T2 := SlH.bel B2 (sl_tC u1)
          have K2 := KS.out q2 (Z2.out.1 _ _ Ku2.1 Ku1.1.size))
       | (have T2 := SlH.bel B2 T1)
       | (have T2 := SlH.bel B2 (Z1.out.2 _ _ T1))
       | (have T2 := SlH.bel B2 (sl_tCm u1 _))
       | skip)
   | (go_at_call 187; refine (F8.out _ nm h0 h1).mono ?_; rintro e u1 ⟨ao1, ca1, rfl, S1, B1⟩
      have Ku1 := BS2.out _ _ B1 (by assumption)
      first
       | (have X1 := conv_ex (conv1d (W := w1) B1)
          obtain ⟨q1, D1, Z1⟩ := X1
          have T1 := SlH.bel B1 (SlH.dr (sl_tC w1))
          have K1 := KS.out q1 (Z1.out.1 _ _ Ku1.1 (Nat.le_refl _)))
       | (have T1 := SlH.bel B1 (SlH.dr (sl_tCm w1 _)))
       | skip)
   | (go_at_call 126; refine (F4.out _).mono ?_; rintro e u3 ⟨ao3, ca3, rfl, S3, B3⟩
      have Ku3 := BS2.out _ _ B3 (by assumption)
      first | (have S13 := SlH.bel B3 S12) | (have S13 := SlH.bel B3 (Z2.out.2 _ _ S12)) | (have S13 := SlH.bel B3 (SlH.bel (box_below u2 _) S12))
      first | (have S23 := SlH.bel B3 S2) | (have S23 := SlH.bel B3 (Z2.out.2 _ _ S2)) | (have S23 := SlH.bel B3 (SlH.bel (box_below u2 _) S2))
      first
       | (have X3 := conv_ex (conv2 (conv2 (conv1d (W := w1) B1) B2) B3)
          obtain ⟨q3, D3, Z3⟩ := X3
          have T3 := SlH.bel B3 T2
          have K3 := KS.out q3 (Z3.out.1 _ _ Ku3.1 (Nat.le_refl _)))
       | (have X3 := conv_ex (conv2 (conv1 (W := u1) B2) B3)
          obtain ⟨q3, D3, Z3⟩ := X3
          have T3 := SlH.bel B3 T2
          have K3 := KS.out q3 (Z3.out.1 _ _ Ku3.1 Ku1.1.size))
       | (have X3 := conv_ex (conv1 (W := u2) B3)
          obtain ⟨q3, D3, Z3⟩ := X3
          have T3 := SlH.bel B3 (sl_tC u2)
          have K3 := KS.out q3 (Z3.out.1 _ _ Ku3.1 Ku2.1.size))
       | (have T3 := SlH.bel B3 T2)
       | (have T3 := SlH.bel B3 (Z2.out.2 _ _ T2))
       | (have T3 := SlH.bel B3 (sl_tCm u2 _))
       | skip)
   | (go_at_call 175
      refine (concat4 w.heap.size _ (by first | exact Nat.le_trans hb1.out.size Ku3.1.size | exact Nat.le_trans hb1.out.size K3.1.size | exact Nat.le_trans (Nat.le_trans hb1.out.size Ku3.1.size) (box_below u3 _).size | fail) _ (by first | rfl | simp) _ _ _ _ ttl (fx 8 nm.toNat) (fx 8 bs.toNat) (fx 4 seed.toNat) (by first | exact T3 | exact Z3.out.2 _ _ T3 | exact sl_tCm u3 _ | fail) (by first | exact S13 | exact Z3.out.2 _ _ S13 | exact SlH.bel (box_below u3 _) S13 | fail) (by first | exact S23 | exact Z3.out.2 _ _ S23 | exact SlH.bel (box_below u3 _) S23 | fail) (by first | exact S3 | exact Z3.out.2 _ _ S3 | exact SlH.bel (box_below u3 _) S3 | fail) (by simp [fx_len, ttl])).mono ?_
      rintro e u4 ⟨v4, rfl, ho4, B4, B5⟩)
   | fail)
 all_goals
  have hfin : Hid (Below w.heap.size w u4) := keepF hb1.out (And.left (b := u4.cell? ⟨w.heap.size, 0, none⟩ = some (.int .i64 nm) ∧ u4.cell? ⟨w.heap.size, 1, none⟩ = some (.int .i64 bs) ∧ u4.cell? ⟨w.heap.size, 2, none⟩ = some (.int .u32 (seed.toNat : Int))) (by assumption))
  have hown : Hid (u4.ownsRow w.heap.size 5 1 v4 HH.length (bvals HH)) := by rw [← hHH.out]; exact ho4
  clear ho4
  go_wp2_with fail
  go_ret
  exact ⟨_, rfl, hown.out, hfin.out⟩
def put3 (w : World) (b : Nat) (a0 a1 a2 : Value) : World := ((w.setCell ⟨b, 0, none⟩ a0).setCell ⟨b, 1, none⟩ a1).setCell ⟨b, 2, none⟩ a2
theorem put3_heap {w : World} {b : Nat} {z0 z1 z2 : Value} {T : TypeId} (h : w.heap[b]? = some (.cells #[z0, z1, z2] T (0, 0))) (a0 a1 a2 : Value) : (put3 w b a0 a1 a2).heap[b]? = some (.cells #[a0, a1, a2] T (0, 0)) := by
 unfold put3
 rw [heap_setCell_same _ _ _ _ _ _ (heap_setCell_same _ _ _ _ _ _ (heap_setCell_same _ _ _ _ _ _ h))]
 simp
theorem put3_below {B : Nat} {u w : World} (h : Below B u w) {b : Nat} (hb : B ≤ b) (a0 a1 a2 : Value) : Below B u (put3 w b a0 a1 a2) := ((h.setCell hb a0).setCell hb a1).setCell hb a2
set_option maxRecDepth 100000
theorem writeHead_any : DoesWH 121 := by
 intro w nm bs seed g0 g1 g2 g3
 cases hm : inB nm 9223372036854775807 && inB bs 9223372036854775807 with
 | false =>
  have E : Hid (whF nm bs seed = ([], 0#32, 1)) := by
   show _ = _
   rw [whF, if_pos]
   simp only [inB, Bool.and_eq_false_iff, decide_eq_false_iff_not] at hm
   omega
  rw [E.out]
  replace hm := hide hm
  go_enter Tryz.func121, Tryz.ntmps121
  go_wp2_with fail
  refine (mayBe_any _ nm bs seed).mono ?_
  rintro e w1 ⟨rfl, hb⟩
  have hb2 := hide (keepF (box_below w (.cells #[.int .i64 nm, .int .i64 bs, .int .u32 (seed.toNat : Int)] 77)) hb)
  clear hb
  rw [hm.out]
  go_wp2_with fail
  go_ret3
  exact ⟨_, rfl, World.ownsRow_nil _ _ _ _, hb2.out⟩
 | true =>
  have hgd : 1 ≤ nm ∧ 1 ≤ bs := by
   simp only [inB, Bool.and_eq_true, decide_eq_true_eq] at hm
   omega
  obtain ⟨j1, j2⟩ := hgd
  have E : Hid (whF nm bs seed = (hed nm.toNat bs.toNat seed, hsum nm.toNat bs.toNat seed, 0)) := by show _ = _; rw [whF, if_neg (by omega)]
  rw [E.out]
  obtain ⟨S, hS⟩ : ∃ S, Hid (hsum nm.toNat bs.toNat seed = S) := ⟨_, rfl⟩
  obtain ⟨L, hL⟩ : ∃ L, Hid (hfs nm.toNat bs.toNat seed = L) := ⟨_, rfl⟩
  obtain ⟨F, hF⟩ : ∃ F, Hid ([L, fmark S].flatten = F) := ⟨_, rfl⟩
  have E2 : Hid (hed nm.toNat bs.toNat seed = F) := by show _ = _; rw [← hF.out, ← hL.out, ← hS.out, hed]; simp
  have E3 : Hid (Crc.more 0#32 L = S) := by show _ = _; rw [← hL.out, ← hS.out]; rfl
  have hLl : Hid (L.length = 28) := by show _ = _; rw [← hL.out]; exact hfs_len _ _ _
  rw [E2.out, hS.out]
  replace hm := hide hm
  have J1 := hide j1
  have J2 := hide j2
  clear E E2 j1 j2
  go_enter Tryz.func121, Tryz.ntmps121
  go_wp2_with fail
  refine (mayBe_any _ nm bs seed).mono ?_
  rintro e w1 ⟨rfl, hb1⟩
  rw [hm.out]
  have hh1 : Hid (w1.heap[w.heap.size]? = some (.cells #[.int .i64 nm, .int .i64 bs, .int .u32 (seed.toNat : Int)] 77 (0, 0))) := by
   show _ = _
   rw [hb1.block w.heap.size (by simp)]; exact heap_alloc_new _ _
  have hb01 := hide (keepF (box_below w _) hb1)
  obtain ⟨c0, c1, c2, _, _, _⟩ := three_cells hh1.out
  clear hb1
  go_wp2_with fail
  refine (headFields_any _ nm bs seed J1.out g1 J2.out g3).mono ?_
  rintro e w2 ⟨v2, rfl, ho2, hb2⟩
  rw [hL.out] at ho2
  have s2 := hide (Sl.of_owns ho2)
  obtain ⟨ao1, ca1, rfl⟩ := s2.out.form hLl.out
  have hb02 := hide (keepF hb01.out hb2)
  clear ho2 hb2 c0 c1 c2
  go_wp2_with fail
  refine (Crc.sum_any _ _ _ s2.out).mono ?_
  rintro e w3 ⟨rfl, hb3⟩
  rw [E3.out]
  replace hb3 := hide hb3
  go_wp2_with fail
  refine (mark_any _ S).mono ?_
  rintro e w4 ⟨v4, rfl, ho4, hb4⟩
  have s4 := hide (Sl.of_owns ho4)
  obtain ⟨ao2, ca2, rfl⟩ := s4.out.form (fmark_len _)
  have hb24 := hide (keepF hb3.out hb4)
  have hb04 := hide (keepF hb02.out hb24.out)
  clear ho4 hb4
  go_wp2_with fail
  refine (concat_any (w4.alloc (.cells #[.slice ao1 28 ca1, .slice ao2 4 ca2] 54)) _ [.slice ao1 28 ca1, .slice ao2 4 ca2] [L, fmark S] (row_lit w4 [_, _] 54 (by show 2 ≤ maxLen; decide)) (Below.sls (box_below w4 _) (.cons (Below.sl hb24.out s2.out) (.cons s4.out (.nil _)))) (by simp [fmark_len, hLl.out])).mono ?_
  rintro e w5 ⟨v5, rfl, ho5, hb5⟩
  have hb05 := hide (keepF (keepF hb04.out (box_below w4 _)) hb5)
  have ho6 := hide (owns_lower ho5 (b' := w.heap.size) (keepF hb04.out (box_below w4 _)).size)
  clear hb5 ho5
  rw [hF.out] at ho6
  go_wp2_with fail
  go_ret3
  exact ⟨_, rfl, ho6.out, hb05.out⟩
end Go.Proofs.YtnimildpcnmjeaaGreatDoor
namespace Go.Proofs.YtnimildpcnmjeaaGreatDoor.Sg
open Go.RowKit Go.Maps Go.Sort Go.Shelf Go.Proofs.YtnimildpcnmjeaaGreatDoor.Nm Go.Proofs.YtnimildpcnmjeaaGreatDoor.Dk
theorem begC (S : DS) (j : Nat) : (S.beg j).c7 = S.c7 + 1 := (beg_rest S j).2.2.2.2.2.1
theorem strC (S : DS) (j : Int) : (S.str j).c7 = S.c7 := (str_rest S j).2.2.2.2.1
theorem createC (S : DS) (s : ByteArray) (p : Nat) : (S.create s p).1.c7 ≤ S.c7 + 1 := by
 unfold DS.create
 split
 ·simp only; omega
 ·split
  ·simp only; omega
  ·split
   ·simp only; omega
   ·split
    ·simp only [strC, begC]; omega
    ·simp only [strC, begC]; omega
theorem appendC (S : DS) (s : ByteArray) (b : List UInt8) : (S.append s b).1.c7 ≤ S.c7 + 1 := by
 unfold DS.append
 split
 ·simp only; omega
 ·simp only [strC, begC]; omega
def creF (S : DS) (file : ByteArray) (nm bs : Int) (seed : Crc.R) (p : Nat) : DS × Int :=
 if (whF nm bs seed).2.2 ≠ 0 then (S, (whF nm bs seed).2.2)
 else if (S.create file p).2 ≠ 0 then S.create file p
 else if ((S.create file p).1.append file (whF nm bs seed).1).2.2 ≠ 0 then (((S.create file p).1.append file (whF nm bs seed).1).1, ((S.create file p).1.append file (whF nm bs seed).1).2.2)
 else (((S.create file p).1.append file (whF nm bs seed).1).1).sync file
def newSG (b : Nat) (file : ByteArray) (nm bs : Int) (seed sum : Crc.R) : SG := ⟨b, file, nm, bs, (seed.toNat : Int), bs, 32, (sum.toNat : Int), 0, ⟨1024, [], (0, 0)⟩, []⟩
theorem newSG_ok (b : Nat) (file : ByteArray) (nm bs : Int) (seed sum : Crc.R) (h1 : 1 ≤ bs) (h2 : bs ≤ 9223372036854775807) : SOk (newSG b file nm bs seed sum) :=
 ⟨Ix.Ok.new (by omega) (by omega), h1, h2, by show (32 : Int) ≤ 32; omega, by show (32 : Int) ≤ _; omega, by show (0 : Nat) ≤ _; omega, by have := sum.isLt; constructor <;> (unfold newSG; simp only; omega), fun p hp => by unfold newSG at hp; simp at hp⟩
theorem ps_own {w : World} {b : Nat} {S : DS} {O : Nat → Prop} (h : DskE w b S O) {p : Nat} (hp : p ∈ S.ps) : O p := by
 obtain ⟨f, g, pd, am, VB, VL, h⟩ := h
 exact h.of p hp p (.inl rfl)
theorem ob_sl_off {B N : Nat} {w : World} {v : Value} {l : List UInt8} {O : Nat → Prop} (h : Ob B w v l) (hN : w.heap.size ≤ N) (hO : ∀ k, O k → k < B ∨ N ≤ k) : SOff O v := by
 intro b off n c e hn ho
 rcases h.2 with ⟨rfl, _⟩ | ⟨g, cap, cur, rfl, hg, hh, r⟩
 ·simp at e
 ·simp at e
  obtain ⟨⟨rfl, _⟩, _⟩ := e
  have := heap_lt hh
  rcases hO _ ho with q | q <;> omega
theorem createS_any {w : World} {b : Nat} {S : DS} {O : Nat → Prop} (h : DskE w b S O) (file : ByteArray) (nm bs : Int) (seed : Crc.R) (hf : file.size ≤ 140737488355328) (hm : file.size ≤ maxLen) (hc : S.c7 < 800000000) (n0 : -9223372036854775808 ≤ nm) (n1 : nm ≤ 9223372036854775807) (b0 : -9223372036854775808 ≤ bs) (b1 : bs ≤ 9223372036854775807) :
    Calls Tryz.prog 77 #[.pointer (some ⟨b, 0, none⟩), .string file, .agg #[.int .i64 nm, .int .i64 bs, .int .u32 (seed.toNat : Int)]] w fun e w' => ∃ p O', w.heap.size ≤ p ∧ p ∉ S.ps ∧ Sgo w w' O O' ∧
     (((creF S file nm bs seed p).2 ≠ 0 ∧ e = .returned (.tuple #[.pointer none, .int .i64 (creF S file nm bs seed p).2]) ∧ DskE w' b (creF S file nm bs seed p).1 O') ∨
      ((creF S file nm bs seed p).2 = 0 ∧ ∃ sb xb mb v, e = .returned (.tuple #[.pointer (some ⟨sb, 0, none⟩), .int .i64 0]) ∧ SW w' sb (newSG b file nm bs seed (whF nm bs seed).2.1) (creF S file nm bs seed p).1 O' xb mb v ∧ (∀ k, SOwn sb xb mb v k → w.heap.size ≤ k))) := by
 have B1 := box_below w (.cells #[.int .i64 nm, .int .i64 bs, .int .u32 (seed.toNat : Int)] 77)
 have N1 := heap_alloc_new w (.cells #[.int .i64 nm, .int .i64 bs, .int .u32 (seed.toNat : Int)] 77)
 have H1 := h.below B1
 have hO := h.lt
 obtain ⟨w1, hw1⟩ : ∃ w1, Hid (w.alloc (.cells #[.int .i64 nm, .int .i64 bs, .int .u32 (seed.toNat : Int)] 77) = w1) := ⟨_, rfl⟩
 rw [hw1.out] at B1 N1 H1
 obtain ⟨x0, x1, x2⟩ := tri N1
 have hWH := hide (writeHead_any w1 nm bs seed n0 n1 b0 b1)
 have ST : Hid (DskE w1 b S O ∧ Below w.heap.size w w1 ∧ w1.heap[w.heap.size]? = some (.cells #[.int .i64 nm, .int .i64 bs, .int .u32 (seed.toNat : Int)] 77 (0, 0)) ∧ (∀ k, O k → k < w.heap.size)) := hide ⟨H1, B1, N1, hO⟩
 have hCr : Hid (∀ p, creF S file nm bs seed p = if (whF nm bs seed).2.2 ≠ 0 then (S, (whF nm bs seed).2.2)
  else if (S.create file p).2 ≠ 0 then S.create file p
  else if ((S.create file p).1.append file (whF nm bs seed).1).2.2 ≠ 0 then (((S.create file p).1.append file (whF nm bs seed).1).1, ((S.create file p).1.append file (whF nm bs seed).1).2.2)
  else (((S.create file p).1.append file (whF nm bs seed).1).1).sync file) := hide fun p => rfl
 obtain ⟨WH, hWf⟩ : ∃ WH, Hid (whF nm bs seed = WH) := ⟨_, rfl⟩
 rw [hWf.out] at hWH hCr ⊢
 obtain ⟨hb, hsm, he⟩ := WH
 simp only at hWH hCr ⊢
 obtain ⟨CF, hCF⟩ : ∃ CF : Nat → DS × Int, Hid (∀ p, creF S file nm bs seed p = CF p) := ⟨_, hide fun p => rfl⟩
 simp only [hCF.out] at hCr ⊢
 clear h H1 B1 N1 hO
 have nps : Hid (w.heap.size ∉ S.ps) := hide fun c => by
  have := ST.out.2.2.2 _ (ps_own ST.out.1 c)
  omega
 go_enter Tryz.func77, Tryz.ntmps77
 go_upto_region 1 with fail
 rw [hw1.out]
 go_wp2_with fail
 go_at_call 121
 refine hWH.out.mono ?_
 rintro e w2 ⟨vh, rfl, oh, b2⟩
 obtain ⟨t1, t2, t3, t4⟩ := ST.out
 have hsz1 : w.heap.size < w1.heap.size := heap_lt t3
 have D2 := t1.below b2
 have B2 := keepF t2 b2
 have N2 := (But.of_below b2 fun _ => False).at t3 (fun c => c)
 obtain ⟨ha, hn, hcp, hvh⟩ : ∃ a n c, vh = .slice a n c := by
  rcases oh.2 with ⟨rfl, _⟩ | ⟨_, _, _, rfl, _⟩
  ·exact ⟨_, _, _, rfl⟩
  ·exact ⟨_, _, _, rfl⟩
 subst hvh
 have oh2 : Hid (Ob w1.heap.size w2 (.slice ha hn hcp) hb) := hide oh
 replace D2 := hide D2
 replace B2 := hide B2
 replace N2 := hide N2
 have HO := hide t4
 have hsz := hide (And.intro hsz1 b2.size)
 clear oh b2 t1 t2 t3 t4 hsz1 ST hWH x0 x1 x2
 by_cases h0 : he = 0
 rotate_left
 ·have k0 : (he != 0) = true := by simp [h0]
  have hR : Hid (∀ p, CF p = (S, he)) := hide fun p => by rw [hCr.out p, if_pos h0]
  replace h0 := hide h0
  clear hCr
  go_wp2_with fail
  go_ret2
  refine ⟨w.heap.size, O, Nat.le_refl _, nps.out, Sgo.of_below B2.out, .inl ?_⟩
  rw [hR.out]
  exact ⟨h0.out, rfl, D2.out⟩
 subst h0
 have hR : Hid (∀ p, CF p = if (S.create file p).2 ≠ 0 then S.create file p
  else if ((S.create file p).1.append file hb).2.2 ≠ 0 then (((S.create file p).1.append file hb).1, ((S.create file p).1.append file hb).2.2)
  else (((S.create file p).1.append file hb).1).sync file) := hide fun p => by rw [hCr.out p, if_neg (show ¬ (0 : Int) ≠ 0 by omega)]
 clear hCr
 go_wp2_with fail
 go_at_call 122
 refine (create_dsk D2.out file hf (by omega)).mono ?_
 rintro e w3 ⟨p, hp1, hp2, rfl, O3, D3, G3⟩
 have hc3 := createC S file p
 have hR2 : Hid (CF p = if (S.create file p).2 ≠ 0 then S.create file p
  else if ((S.create file p).1.append file hb).2.2 ≠ 0 then (((S.create file p).1.append file hb).1, ((S.create file p).1.append file hb).2.2)
  else (((S.create file p).1.append file hb).1).sync file) := hide (hR.out p)
 have GW3 : Hid (Sgo w w3 O O3) := hide ((Sgo.of_below B2.out).trans G3)
 have PP : Hid (w.heap.size ≤ p ∧ p ∉ S.ps) := hide ⟨Nat.le_trans B2.out.size hp1, hp2⟩
 obtain ⟨C, hC⟩ : ∃ C, Hid (S.create file p = C) := ⟨_, rfl⟩
 rw [hC.out] at D3 hc3 hR2 ⊢
 obtain ⟨S3, e3⟩ := C
 simp only at D3 hc3 hR2 ⊢
 have N3 := G3.but.at N2.out (fun c => by have := HO.out _ c; omega)
 have off3 : SOff O3 (.slice ha hn hcp) := ob_sl_off oh2.out (Nat.le_refl _) (fun k hk => by
  rcases G3.own k hk with q | q
  ·have := HO.out _ q; have := hsz.out; omega
  ·exact .inr q)
 have off2 : SOff O (.slice ha hn hcp) := ob_sl_off oh2.out (Nat.le_refl _) (fun k hk => by have := HO.out _ hk; have := hsz.out; omega)
 have sl3 := sl_but (Sl.of_owns oh2.out) G3.but off2
 have OX3 : Hid (∀ k, O3 k → k < w.heap.size ∨ w2.heap.size ≤ k) := hide fun k hk => (G3.own k hk).imp (HO.out k) id
 have W23 : Hid (w2.heap.size ≤ w3.heap.size) := hide G3.but.size
 replace D3 := hide D3
 replace N3 := hide N3
 replace off3 := hide off3
 replace sl3 := hide sl3
 clear G3 off2 hp1 hp2 D2 B2 N2 hR hC
 by_cases h3 : e3 = 0
 rotate_left
 ·have k0 : (e3 != 0) = true := by simp [h3]
  have hR3 : Hid (CF p = (S3, e3)) := hide (by rw [hR2.out, if_pos h3])
  replace h3 := hide h3
  clear hR2
  go_wp2_with fail
  go_ret2
  refine ⟨p, O3, PP.out.1, PP.out.2, GW3.out, .inl ?_⟩
  rw [hR3.out]
  exact ⟨h3.out, rfl, D3.out⟩
 subst h3
 have hR3 : Hid (CF p = if (S3.append file hb).2.2 ≠ 0 then ((S3.append file hb).1, (S3.append file hb).2.2) else ((S3.append file hb).1).sync file) := hide (by rw [hR2.out, if_neg (show ¬ (0 : Int) ≠ 0 by omega)])
 clear hR2
 go_wp2_with fail
 go_at_call 86
 refine (append_dsk D3.out file hm _ hb sl3.out off3.out (by omega)).mono ?_
 rintro e w4 ⟨rfl, O4, D4, G4⟩
 have hc4 := appendC S3 file hb
 have GW4 : Hid (Sgo w w4 O O4) := hide (GW3.out.trans G4)
 obtain ⟨C, hC⟩ : ∃ C, Hid (S3.append file hb = C) := ⟨_, rfl⟩
 rw [hC.out] at D4 hc4 hR3 ⊢
 obtain ⟨S4, n4, e4⟩ := C
 simp only at D4 hc4 hR3 ⊢
 have N4 : Hid (w4.heap[w.heap.size]? = _) := hide (G4.but.at N3.out (fun c => by
  have := hsz.out
  rcases OX3.out _ c with q | q <;> omega))
 have OX4 : Hid (∀ k, O4 k → k < w.heap.size ∨ w2.heap.size ≤ k) := hide fun k hk => by
  have := W23.out
  rcases G4.own k hk with q | q
  ·exact OX3.out k q
  ·exact .inr (by omega)
 replace D4 := hide D4
 clear G4 D3 N3 GW3 hC off3 sl3
 by_cases h4 : e4 = 0
 rotate_left
 ·have k0 : (e4 != 0) = true := by simp [h4]
  have hR4 : Hid (CF p = (S4, e4)) := hide (by rw [hR3.out, if_pos h4])
  replace h4 := hide h4
  clear hR3
  go_wp2_with fail
  go_ret2
  refine ⟨p, O4, PP.out.1, PP.out.2, GW4.out, .inl ?_⟩
  rw [hR4.out]
  exact ⟨h4.out, rfl, D4.out⟩
 subst h4
 have hR4 : Hid (CF p = S4.sync file) := hide (by rw [hR3.out, if_neg (show ¬ (0 : Int) ≠ 0 by omega)])
 clear hR3
 go_wp2_with fail
 go_at_call 57
 refine (sync_dskE D4.out file hm (by omega)).mono ?_
 rintro e w5 ⟨rfl, O5, D5, G5⟩
 have GW5 : Hid (Sgo w w5 O O5) := hide (GW4.out.trans G5)
 have N5 : w5.heap[w.heap.size]? = some (.cells #[.int .i64 nm, .int .i64 bs, .int .u32 (seed.toNat : Int)] 77 (0, 0)) := G5.but.at N4.out (fun c => by
  have := hsz.out
  rcases OX4.out _ c with q | q <;> omega)
 obtain ⟨C, hC⟩ : ∃ C, Hid (S4.sync file = C) := ⟨_, rfl⟩
 rw [hC.out] at D5 hR4 ⊢
 obtain ⟨S5, e5⟩ := C
 simp only at D5 ⊢
 obtain ⟨x0, x1, x2⟩ := tri N5
 replace D5 := hide D5
 clear G5 D4 N4 GW4 hC N5
 by_cases h5 : e5 = 0
 rotate_left
 ·have k0 : (e5 != 0) = true := by simp [h5]
  replace h5 := hide h5
  go_wp2_with fail
  go_ret2
  refine ⟨p, O5, PP.out.1, PP.out.2, GW5.out, .inl ?_⟩
  rw [hR4.out]
  exact ⟨h5.out, rfl, D5.out⟩
 subst h5
 go_wp2_with fail
 go_at_call 123
 refine (headed_any w5 b file nm bs (seed.toNat : Int) (hsm.toNat : Int) (by omega)).mono ?_
 rintro e w6 ⟨sb, xb, mb, v6, rfl, S6, b6, l1, l2, l3, l4⟩
 have low : ∀ k, SOwn sb xb mb v6 k → w5.heap.size ≤ k := fun k hk => by
  rcases hk with rfl | rfl | rfl | hk
  ·exact l1
  ·exact l2
  ·exact l3
  ·exact l4 k hk
 have FIN : Hid (SW w6 sb (newSG b file nm bs seed hsm) S5 O5 xb mb v6 ∧ (∀ k, SOwn sb xb mb v6 k → w.heap.size ≤ k) ∧ Sgo w w6 O O5) := hide ⟨⟨S6, D5.out.below b6, fun k hk c => by have := D5.out.lt k c; have := low k hk; omega⟩, fun k hk => Nat.le_trans GW5.out.but.size (low k hk), GW5.out.trans (Sgo.of_below b6)⟩
 clear S6 b6 l1 l2 l3 l4 low
 go_wp2_with fail
 go_ret2
 refine ⟨p, O5, PP.out.1, PP.out.2, FIN.out.2.2, .inr ?_⟩
 rw [hR4.out]
 exact ⟨rfl, sb, xb, mb, v6, rfl, FIN.out.1, FIN.out.2.1⟩
end Go.Proofs.YtnimildpcnmjeaaGreatDoor.Sg
namespace Go.Proofs.YtnimildpcnmjeaaGreatDoor.St
open Go.RowKit Go.Maps Go.Sort Go.Shelf Go.Proofs.YtnimildpcnmjeaaGreatDoor.Nm Go.Proofs.YtnimildpcnmjeaaGreatDoor.Dk Go.Proofs.YtnimildpcnmjeaaGreatDoor.Sg Go.Proofs.YtnimildpcnmjeaaGreatDoor.Ct
open Ix (wp_region_T wpAnyT wpAnyT_take wpAnyT_one wpAnyT_done vac)
def catB : ByteArray := ⟨#[99, 97, 116, 97, 108, 111, 103]⟩
def cnxB : ByteArray := ⟨#[99, 97, 116, 97, 108, 111, 103, 45, 110, 101, 120, 116]⟩
theorem cat_facts : catB.size ≤ 1000 ∧ cnxB.size ≤ 1000 ∧ may catB.data.toList = true ∧ may cnxB.data.toList = true ∧ cnxB.data.toList ≠ catB.data.toList := by decide
theorem cat_any (w : World) : Calls Tryz.prog 20 #[] w fun e w' => e = .returned (.string catB) ∧ w' = w := by
 go_enter Tryz.func20, Tryz.ntmps20
 go_wp2_with fail
 go_ret
 exact ⟨rfl, rfl⟩
theorem cnx_any (w : World) : Calls Tryz.prog 82 #[] w fun e w' => e = .returned (.string cnxB) ∧ w' = w := by
 go_enter Tryz.func82, Tryz.ntmps82
 go_wp2_with fail
 go_ret
 exact ⟨rfl, rfl⟩
theorem headOf_any (w : World) (g : Sg) :
    Calls Tryz.prog 79 #[.agg #[.int .i64 g.nm, .int .i64 g.ba, .int .u32 (g.se : Int), .int .i64 g.en, .int .i64 g.sz]] w fun e w' => e = .returned (.agg #[.int .i64 g.nm, .int .i64 g.ba, .int .u32 (g.se : Int)]) ∧ Below w.heap.size w w' := by
 have B0 := box_below w (.cells #[.int .i64 g.nm, .int .i64 g.ba, .int .u32 (g.se : Int), .int .i64 g.en, .int .i64 g.sz] 51)
 have N0 := heap_alloc_new w (.cells #[.int .i64 g.nm, .int .i64 g.ba, .int .u32 (g.se : Int), .int .i64 g.en, .int .i64 g.sz] 51)
 obtain ⟨w0, hw0⟩ : ∃ w0, Hid (w.alloc (.cells #[.int .i64 g.nm, .int .i64 g.ba, .int .u32 (g.se : Int), .int .i64 g.en, .int .i64 g.sz] 51) = w0) := ⟨_, rfl⟩
 obtain ⟨g0, hg0⟩ : ∃ g0, Hid (w.heap.size = g0) := ⟨_, rfl⟩
 rw [hw0.out] at B0 N0
 rw [hg0.out] at N0
 have hz : w0.heap.size = g0 + 1 := by rw [← hw0.out, ← hg0.out]; simp
 have B1 := box_below w0 (.cells #[.int .i64 0, .int .i64 0, .int .u32 0] 77)
 have M0 := (B1.block _ (heap_lt N0)).trans N0
 have N1 := heap_alloc_new w0 (.cells #[.int .i64 0, .int .i64 0, .int .u32 0] 77)
 obtain ⟨w1, hw1⟩ : ∃ w1, Hid (w0.alloc (.cells #[.int .i64 0, .int .i64 0, .int .u32 0] 77) = w1) := ⟨_, rfl⟩
 rw [hw1.out] at B1 M0 N1
 rw [hz] at N1
 have y0 : w1.cell? ⟨g0, 0, none⟩ = some (.int .i64 g.nm) := by rw [cell_of M0]; rfl
 have y1 : w1.cell? ⟨g0, 1, none⟩ = some (.int .i64 g.ba) := by rw [cell_of M0]; rfl
 have y2 : w1.cell? ⟨g0, 2, none⟩ = some (.int .u32 (g.se : Int)) := by rw [cell_of M0]; rfl
 have sz : (Tryz.prog.info? 77).map (·.size) = some 3 := by kernel_rfl
 have FZ : ∀ j, w1.frozen? ⟨g0 + 1, j, none⟩ = false := fun j => by simp [World.frozen?, N1]
 have c0 : ∀ j, w1.cell? ⟨g0 + 1, j, none⟩ = _ := fun j => cell_of N1
 have FIN := hide (put3_heap N1 (.int .i64 g.nm) (.int .i64 g.ba) (.int .u32 (g.se : Int)))
 have FB := hide (put3_below (keepF B0 B1) (show w.heap.size ≤ g0 + 1 by rw [hg0.out]; omega) (.int .i64 g.nm) (.int .i64 g.ba) (.int .u32 (g.se : Int)))
 unfold put3 at FIN FB
 replace N1 := hide N1
 clear hz M0 B1 B0
 go_enter Tryz.func79, Tryz.ntmps79
 go_upto_region 1 with fail
 rw [hw0.out, hg0.out, hw1.out]
 go_wp2_with fail
 try simp only [Exit.inBlock, Exit.then]
 refine bodyPost_ret (v := .agg _) (results_cell_row rfl _ _ (g0 + 1) 77 _ (0, 0) _ rfl FIN.out Tryz.underlying77 rfl sz) rfl ?_
 exact ⟨rfl, FB.out⟩
structure Sto (w w' : World) (stb : Nat) (O O' : Nat → Prop) : Prop where
 but : But (fun k => k = stb ∨ O k) w w'
 own : ∀ k, O' k → O k ∨ w.heap.size ≤ k
theorem put3_frozen {w : World} {b j : Nat} {cs : Array Value} {T : TypeId} (h : w.heap[b]? = some (.cells cs T (0, 0))) : w.frozen? ⟨b, j, none⟩ = false := by simp [World.frozen?, h]
theorem soff_bs {w w' : World} {O : Nat → Prop} {v : Value} {l : List UInt8} (h : Bs w.heap.size w' v l) (hO : ∀ k, O k → k < w.heap.size) : SOff O v := by
 rintro b off n c e hn k
 subst e
 have h1 := hO b k
 rcases h.2 with ⟨e, _⟩ | ⟨g, cap, cur, e, hg, _⟩
 ·simp at e
 ·simp only [Value.slice.injEq, Option.some.injEq, Addr.mk.injEq] at e
  obtain ⟨⟨rfl, _, _⟩, _, _⟩ := e
  omega
theorem write_may {g f : Int} {l : List Sg} (h : May g f l) : writeF g f l = (0, bytesC g f l) := by unfold writeF; simp [h]
theorem write_any {w : World} {stb b : Nat} {c1 z2 z3 z4 c5 c6 c7 c8 c9 : Value} (hb : StB w stb #[.pointer (some ⟨b, 0, none⟩), c1, z2, z3, z4, c5, c6, c7, c8, c9]) {S : DS} {O : Nat → Prop} (hd : DskE w b S O) (hno : ¬ O stb) (g f : Int) (v : Value) (l : List Sg) (hv : Sgs w v l) (hm : May g f l) (g1 : g ≤ 9223372036854775807) (f1 : f ≤ 9223372036854775807)
    {M : Nat} {D : Dr} {F : Nat → Fl} {c : Int} (ca : Ca S M D F c) (hc : c < 800000000) (hg : Dk.get D cnxB.data.toList = none) (hl : D.length < 256) (hM : sumL F D + (bytesC g f l).length ≤ M) :
    Calls Tryz.prog 50 #[.pointer (some ⟨stb, 0, none⟩), .agg #[.int .i64 g, .int .i64 f, v]] w fun e w' => e = .returned (.tuple #[]) ∧ ∃ p O', p ∉ S.ps ∧ DskE w' b (re5 S catB cnxB (bytesC g f l) p) O' ∧ Sto w w' stb O O' ∧ StB w' stb #[.pointer (some ⟨b, 0, none⟩), c1, .int .i64 g, .int .i64 f, v, c5, c6, c7, c8, c9] ∧ ¬ O' stb := by
 obtain ⟨va, vc, rfl⟩ : ∃ a c, v = .slice a l.length c := by obtain ⟨a, c, e, _⟩ := hv.form; exact ⟨a, c, e⟩
 have B0 := box_below w (.cells #[.int .i64 g, .int .i64 f, .slice va l.length vc] 47)
 have N0 := heap_alloc_new w (.cells #[.int .i64 g, .int .i64 f, .slice va l.length vc] 47)
 obtain ⟨w0, hw0⟩ : ∃ w0, Hid (w.alloc (.cells #[.int .i64 g, .int .i64 f, .slice va l.length vc] 47) = w0) := ⟨_, rfl⟩
 obtain ⟨g0, hg0⟩ : ∃ g0, Hid (w.heap.size = g0) := ⟨_, rfl⟩
 rw [hw0.out] at B0 N0
 have hgO : Hid (¬ O g0) := hide (fun k => by have := hd.lt _ k; rw [← hg0.out] at k; have := hd.lt _ k; omega)
 have hgs : Hid (stb ≠ g0) := hide (fun e => by have := heap_lt hb; rw [hg0.out, e] at this; omega)
 rw [hg0.out] at N0
 have hlt : Hid (∀ k, O k → k < w0.heap.size) := hide fun k hk => Nat.lt_of_lt_of_le (hd.lt k hk) B0.size
 have D0 := hide (hd.below B0)
 have S0 := hide ((B0.block _ (heap_lt hb)).trans hb)
 have hW := hide (Ct.write_any w0 g f _ l (hv.below B0) g1 f1)
 rw [write_may hm] at hW
 replace B0 := hide B0
 have hR : Hid (∀ (q : World) (vb : Value), Below w0.heap.size w0 q → Bs w0.heap.size q vb (bytesC g f l) → Calls Tryz.prog 81 #[.pointer (some ⟨stb, 0, none⟩), .string catB, .string cnxB, vb] q fun e w' => e = .returned (.tuple #[]) ∧ ∃ p O', p ∉ S.ps ∧ DskE w' b (re5 S catB cnxB (bytesC g f l) p) O' ∧ Sgo q w' O O') := hide fun q vb hq hvb => by
  obtain ⟨k1, k2, k3, k4, k5⟩ := cat_facts
  exact replace_any ((hq.block _ (heap_lt S0.out)).trans S0.out) (D0.out.below hq) hno catB cnxB k1 k2 k3 k4 k5 vb _ hvb.sl (soff_bs hvb hlt.out) ca hc hg hl hM
 have hno' := hide hno
 have y0 : w0.cell? ⟨g0, 0, none⟩ = some (.int .i64 g) := by rw [cell_of N0]; rfl
 have y1 : w0.cell? ⟨g0, 1, none⟩ = some (.int .i64 f) := by rw [cell_of N0]; rfl
 have y2 : w0.cell? ⟨g0, 2, none⟩ = some (.slice va l.length vc) := by rw [cell_of N0]; rfl
 replace N0 := hide N0
 clear hd hb hv ca hg hl hM hm hc g1 f1 hno
 generalize hBC : bytesC g f l = BC at *
 clear hBC
 generalize l.length = LN at *
 unfold catB cnxB at hR
 go_enter Tryz.func50, Tryz.ntmps50
 go_upto_region 1 with fail
 rw [hw0.out, hg0.out]
 go_upto_region 3 with (first
  | (go_at_call 80; refine hW.out.mono ?_; rintro e w1 ⟨vb, rfl, V1, B1⟩; replace V1 := hide V1; replace B1 := hide B1)
  | (go_at_call 35; refine (must_ok _).mono ?_; rintro e wm ⟨rfl, hwm⟩; rw [hwm]; clear hwm wm)
  | fail)
 clear y0 y1 y2 hW
 go_upto_region 4 with (first
  | (go_at_call 20; refine (cat_any _).mono ?_; rintro e wm ⟨rfl, hwm⟩; rw [hwm]; clear hwm wm; unfold catB)
  | (go_at_call 82; refine (cnx_any _).mono ?_; rintro e wm ⟨rfl, hwm⟩; rw [hwm]; clear hwm wm; unfold cnxB)
  | (go_at_call 81; refine (hR.out _ _ B1.out V1.out).mono ?_; rintro e w2 ⟨rfl, p, O2, hp, D2, G2⟩; replace D2 := hide D2; replace G2 := hide G2)
  | fail)
 have M1 := (B1.out.block _ (heap_lt N0.out)).trans N0.out
 have M2 := (G2.out.but.block _ (heap_lt M1) hgO.out).trans M1
 have y0 : w2.cell? ⟨g0, 0, none⟩ = some (.int .i64 g) := by rw [cell_of M2]; rfl
 have y1 : w2.cell? ⟨g0, 1, none⟩ = some (.int .i64 f) := by rw [cell_of M2]; rfl
 have y2 : w2.cell? ⟨g0, 2, none⟩ = some (.slice va LN vc) := by rw [cell_of M2]; rfl
 have T1 := (B1.out.block _ (heap_lt S0.out)).trans S0.out
 obtain ⟨T2, t2⟩ := stb_sgo T1 G2.out hno'.out
 have FZ : ∀ j, w2.frozen? ⟨stb, j, none⟩ = false := fun j => put3_frozen T2
 have z0 : w2.cell? ⟨stb, 2, none⟩ = some z2 := by rw [cell_of T2]; rfl
 have z1 : w2.cell? ⟨stb, 3, none⟩ = some z3 := by rw [cell_of T2]; rfl
 have z2' : w2.cell? ⟨stb, 4, none⟩ = some z4 := by rw [cell_of T2]; rfl
 have FIN : Hid (StB (((w2.setCell ⟨stb, 2, none⟩ (.int .i64 g)).setCell ⟨stb, 3, none⟩ (.int .i64 f)).setCell ⟨stb, 4, none⟩ (.slice va LN vc)) stb #[.pointer (some ⟨b, 0, none⟩), c1, .int .i64 g, .int .i64 f, .slice va LN vc, c5, c6, c7, c8, c9]) := hide (by
  have e0 : StB (w2.setCell ⟨stb, 2, none⟩ (.int .i64 g)) stb #[.pointer (some ⟨b, 0, none⟩), c1, .int .i64 g, z3, z4, c5, c6, c7, c8, c9] := by show _ = _; rw [heap_setCell_same _ stb 2 _ _ _ T2]; rfl
  have e1 : StB ((w2.setCell ⟨stb, 2, none⟩ (.int .i64 g)).setCell ⟨stb, 3, none⟩ (.int .i64 f)) stb #[.pointer (some ⟨b, 0, none⟩), c1, .int .i64 g, .int .i64 f, z4, c5, c6, c7, c8, c9] := by show _ = _; rw [heap_setCell_same _ stb 3 _ _ _ e0]; rfl
  show _ = _
  rw [heap_setCell_same _ stb 4 _ _ _ e1]; rfl)
 have FB : Hid (But (fun k => k = stb) w2 (((w2.setCell ⟨stb, 2, none⟩ (.int .i64 g)).setCell ⟨stb, 3, none⟩ (.int .i64 f)).setCell ⟨stb, 4, none⟩ (.slice va LN vc))) := hide (((But.of_grownBy (grown_setCell w2 stb 2 _) fun k e => by cases e; rfl).trans (But.of_grownBy (grown_setCell _ stb 3 _) fun k e => by cases e; rfl)).trans (But.of_grownBy (grown_setCell _ stb 4 _) fun k e => by cases e; rfl))
 have GO : Hid (Sgo w w2 O O2) := hide ((Sgo.of_below (O := O) (B0.out.trans (B1.out.mono B0.out.size))).trans G2.out)
 go_wp2_with fail
 go_end0
 refine ⟨rfl, p, O2, hp, D2.out.but FB.out (fun k hk e => t2 (by rw [← e]; exact hk)), ⟨⟨FB.out.os.trans GO.out.but.os, FB.out.tape.trans GO.out.but.tape, FB.out.output.trans GO.out.but.output, Nat.le_trans GO.out.but.size FB.out.size, fun k hk hx => ?_⟩, GO.out.own⟩, FIN.out, t2⟩
 rw [FB.out.block k (Nat.lt_of_lt_of_le hk GO.out.but.size) (fun e => hx (.inl e)), GO.out.but.block k hk (fun c => hx (.inr c))]
end Go.Proofs.YtnimildpcnmjeaaGreatDoor.St
namespace Go.Proofs.YtnimildpcnmjeaaGreatDoor.Sg
open Go.RowKit Go.Maps Go.Sort Go.Shelf Go.Proofs.YtnimildpcnmjeaaGreatDoor.Nm Go.Proofs.YtnimildpcnmjeaaGreatDoor.Dk
open Ix (wp_region_T wpAnyT wpAnyT_take wpAnyT_one wpAnyT_done vac)
def fbF (s : SG) (S : DS) (off : Int) : List UInt8 × Int :=
 if (S.read s.file off (min 16 (s.size - off))).2 ≠ 0 then ([], (S.read s.file off (min 16 (s.size - off))).2)
 else if szF (stv (S.read s.file off (min 16 (s.size - off))).1 4 (0, 0) : Int) = 0 ∨ s.size - off < szF (stv (S.read s.file off (min 16 (s.size - off))).1 4 (0, 0) : Int) then ([], 45)
 else S.read s.file off (szF (stv (S.read s.file off (min 16 (s.size - off))).1 4 (0, 0) : Int))
theorem stv_lt (l : List UInt8) (s : Nat × Int) : stv l 4 s < 4294967296 := by
 unfold stv
 split
 ·have := num_lt ((l.drop s.1).take 4)
  have h2 : ((l.drop s.1).take 4).length ≤ 4 := by simp; omega
  have h3 : 256 ^ ((l.drop s.1).take 4).length ≤ 256 ^ 4 := Nat.pow_le_pow_right (by omega) h2
  omega
 ·omega
theorem read_len (S : DS) (s : ByteArray) (o n : Int) : (S.read s o n).1.length ≤ n.toNat := by
 unfold DS.read
 split
 ·split
  ·simp only [List.length_take]; omega
  ·simp
 ·simp
theorem frameBytes_any {w : World} {sb : Nat} {s : SG} {S : DS} {O : Nat → Prop} {xb mb : Nat} {v : Value} (h : SW w sb s S O xb mb v) (ok : SOk s) (off : Int) (h0 : 0 ≤ off) (h1 : off ≤ 4294967296) (hf : s.file.size ≤ maxLen) :
    Calls Tryz.prog 97 #[.pointer (some ⟨sb, 0, none⟩), .int .i64 off] w fun e w' => ∃ vo, e = .returned (.tuple #[vo, .int .i64 (fbF s S off).2]) ∧ Ob w.heap.size w' vo (fbF s S off).1 ∧ Below w.heap.size w w' := by
 have H := hide h
 have hz1 := ok.z1
 have hz2 := ok.z2
 obtain ⟨y0, y1, y2, y3, y4, y5, y6, y7, y8, y9, y10⟩ := h.sg.cells
 have kw : IntKind.i64.wrap (s.size - off) = s.size - off := by simp [IntKind.wrap, IntKind.bits, IntKind.signed]; omega
 obtain ⟨FB, hFB⟩ : ∃ FB, Hid (fbF s S off = FB) := ⟨_, rfl⟩
 rw [hFB.out]
 have hd : Hid (FB = if (S.read s.file off (min 16 (s.size - off))).2 ≠ 0 then ([], (S.read s.file off (min 16 (s.size - off))).2)
  else if szF (stv (S.read s.file off (min 16 (s.size - off))).1 4 (0, 0) : Int) = 0 ∨ s.size - off < szF (stv (S.read s.file off (min 16 (s.size - off))).1 4 (0, 0) : Int) then ([], 45)
  else S.read s.file off (szF (stv (S.read s.file off (min 16 (s.size - off))).1 4 (0, 0) : Int))) := hide (by rw [← hFB.out]; rfl)
 obtain ⟨left, hleft⟩ : ∃ left, Hid (s.size - off = left) := ⟨_, rfl⟩
 rw [hleft.out] at kw hd
 obtain ⟨M, hM⟩ : ∃ M, Hid (min 16 left = M) := ⟨_, rfl⟩
 have hRd := hide (fun u (hu : Below w.heap.size w u) n => read_dsk (H.out.below hu).dk s.file hf off n)
 rw [hM.out] at hd
 clear h hFB
 rw [← hleft.out] at kw
 go_enter Tryz.func97, Tryz.ntmps97
 go_upto_region 2 with fail
 rw [hleft.out]
 clear kw y0 y1 y2 y3 y4 y5 y6 y7 y8 y9 y10
 obtain ⟨RR, hRR⟩ : ∃ RR, Hid (S.read s.file off M = RR) := ⟨_, rfl⟩
 rw [hRR.out] at hd
 obtain ⟨fr, fe⟩ := RR
 simp only at hd
 go_cut [7, 8] from 16 to 30 (fun y7 y8 wx => y8 = .int .i64 fe ∧ Hid (Below w.heap.size w wx ∧ Ob w.heap.size wx y7 fr))
 case first =>
  refine wp_region_T (fun q => Below w.heap.size w q) 16 (by kernel_rfl) ?_
  have KP : Hid (Below w.heap.size w w.drew) := hide (Below.refl _ _).drew
  generalize w.drew = q at *
  refine Ix.tk 0 ⟨some 17, .move (.tmp 0), _, _, _, _⟩ (.pointer (some ⟨sb, 0, none⟩)) [16] ?_ KP.out ?_
  ·intro wq hSw
   obtain ⟨y0, y1, y2, y3, y4, y5, y6, y7, y8, y9, y10⟩ := (H.out.below hSw).sg.cells
   go_simp
  (try simp only [zzp, zzb, zzc])
  refine Ix.tk 1 ⟨some 18, .nilCheck (.tmp 17), _, _, _, _⟩ (.pointer (some ⟨sb, 0, none⟩)) [16] ?_ KP.out ?_
  ·intro wq hSw
   obtain ⟨y0, y1, y2, y3, y4, y5, y6, y7, y8, y9, y10⟩ := (H.out.below hSw).sg.cells
   go_simp
  (try simp only [zzp, zzb, zzc])
  refine Ix.tk 2 ⟨some 19, .fieldAddr 109 (.tmp 18) 0, _, _, _, _⟩ (.pointer (some ⟨sb, 0, none⟩)) [16] ?_ KP.out ?_
  ·intro wq hSw
   obtain ⟨y0, y1, y2, y3, y4, y5, y6, y7, y8, y9, y10⟩ := (H.out.below hSw).sg.cells
   go_simp
  (try simp only [zzp, zzb, zzc])
  refine Ix.tk 3 ⟨some 20, .load 26 (.tmp 19), _, _, _, _⟩ (.pointer (some ⟨s.b, 0, none⟩)) [16] ?_ KP.out ?_
  ·intro wq hSw
   obtain ⟨y0, y1, y2, y3, y4, y5, y6, y7, y8, y9, y10⟩ := (H.out.below hSw).sg.cells
   go_simp
  (try simp only [zzp, zzb, zzc])
  refine Ix.tk 4 ⟨some 21, .move (.tmp 0), _, _, _, _⟩ (.pointer (some ⟨sb, 0, none⟩)) [16] ?_ KP.out ?_
  ·intro wq hSw
   obtain ⟨y0, y1, y2, y3, y4, y5, y6, y7, y8, y9, y10⟩ := (H.out.below hSw).sg.cells
   go_simp
  (try simp only [zzp, zzb, zzc])
  refine Ix.tk 5 ⟨some 22, .nilCheck (.tmp 21), _, _, _, _⟩ (.pointer (some ⟨sb, 0, none⟩)) [16] ?_ KP.out ?_
  ·intro wq hSw
   obtain ⟨y0, y1, y2, y3, y4, y5, y6, y7, y8, y9, y10⟩ := (H.out.below hSw).sg.cells
   go_simp
  (try simp only [zzp, zzb, zzc])
  refine Ix.tk 6 ⟨some 23, .fieldAddr 109 (.tmp 22) 1, _, _, _, _⟩ (.pointer (some ⟨sb, 1, none⟩)) [16] ?_ KP.out ?_
  ·intro wq hSw
   obtain ⟨y0, y1, y2, y3, y4, y5, y6, y7, y8, y9, y10⟩ := (H.out.below hSw).sg.cells
   go_simp
  (try simp only [zzp, zzb, zzc])
  refine Ix.tk 7 ⟨some 24, .load 9 (.tmp 23), _, _, _, _⟩ (.string s.file) [16] ?_ KP.out ?_
  ·intro wq hSw
   obtain ⟨y0, y1, y2, y3, y4, y5, y6, y7, y8, y9, y10⟩ := (H.out.below hSw).sg.cells
   go_simp
  (try simp only [zzp, zzb, zzc])
  refine Ix.tk 8 ⟨some 25, .move (.tmp 1), _, _, _, _⟩ (.int .i64 off) [16] ?_ KP.out ?_
  ·intro wq hSw
   obtain ⟨y0, y1, y2, y3, y4, y5, y6, y7, y8, y9, y10⟩ := (H.out.below hSw).sg.cells
   go_simp
  (try simp only [zzp, zzb, zzc])
  refine Ix.tk 9 ⟨some 26, .move (.tmp 6), _, _, _, _⟩ (.int .i64 left) [16] ?_ KP.out ?_
  ·intro wq hSw
   obtain ⟨y0, y1, y2, y3, y4, y5, y6, y7, y8, y9, y10⟩ := (H.out.below hSw).sg.cells
   go_simp
  (try simp only [zzp, zzb, zzc])
  refine wpAnyT_one (i := 10) (o := ⟨some 27, .call { callee := .builtin .min, args := #[.const (Value.int IntKind.i64 16), .tmp 26], argTypes := #[3, 3] }, _, _, _, _⟩) (by kernel_rfl) rfl (fun K hK => ?_)
  go_simp
  rw [hM.out]
  refine hK.out _ _ (fun _ => KP.out) ?_
  clear hK K
  (try simp only [zzp, zzb, zzc])
  refine wpAnyT_one (i := 11) (o := ⟨some 28, .call { callee := .value (.func 67), args := #[.tmp 20, .tmp 24, .tmp 25, .tmp 27], argTypes := #[26, 9, 3, 3] }, _, _, _, _⟩) (by kernel_rfl) rfl (fun K hK => ?_)
  go_simp
  go_at_call 67
  refine (hRd.out q KP.out M).mono ?_
  rw [hRR.out]
  rintro e w1 ⟨vf, rfl, of, b1⟩
  have K1 := hide (keepF KP.out b1)
  have F1 : Hid (Ob w.heap.size w1 vf fr) := hide (owns_lower of KP.out.size)
  clear of b1
  (try go_simp)
  refine hK.out _ _ (fun _ => K1.out) ?_
  clear hK K
  (try simp only [zzp, zzb, zzc])
  refine Ix.tk 12 ⟨some 16, .move (.tmp 28), _, _, _, _⟩ (.tuple #[vf, .int .i64 fe]) [16] ?_ K1.out ?_
  ·intro wq hSw; go_simp
  (try simp only [zzp, zzb, zzc])
  refine Ix.tk 13 ⟨some 29, .extract (.tmp 16) 0, _, _, _, _⟩ (vf) [16] ?_ K1.out ?_
  ·intro wq hSw; go_simp
  (try simp only [zzp, zzb, zzc])
  refine Ix.tk 14 ⟨some 30, .extract (.tmp 16) 1, _, _, _, _⟩ (.int .i64 fe) [16] ?_ K1.out ?_
  ·intro wq hSw; go_simp
  (try simp only [zzp, zzb, zzc])
  refine wpAnyT_one (i := 15) (o := ⟨some 7, .assign (.tmp 29), _, _, _, _⟩) (by kernel_rfl) rfl (fun K hK => ?_)
  go_simp
  refine hK.out _ _ (fun _ => K1.out) ?_
  clear hK K
  (try simp only [zzp, zzb, zzc])
  refine wpAnyT_one (i := 16) (o := ⟨some 8, .assign (.tmp 30), _, _, _, _⟩) (by kernel_rfl) rfl (fun K hK => ?_)
  go_simp
  refine hK.out _ _ (vac (by kernel_rfl)) ?_
  clear hK K
  (try simp only [zzp, zzb, zzc])
  refine wpAnyT_done (by kernel_rfl) ?_ _
  go_wp2_with fail
  go_meet
  case rel => exact ⟨rfl, K1.out, F1.out⟩
 case rest =>
  obtain ⟨rfl, hcu⟩ := hcut
  obtain ⟨b1, o1⟩ := hcu.out
  clear hcu
  generalize hwc : wc = w1 at *
  clear hwc
  by_cases he : fe = 0
  rotate_left
  ·have ke : (fe != 0) = true := by simp [he]
   have hE : Hid (FB = ([], fe)) := hide (by rw [hd.out, if_pos he])
   have B1 := hide b1
   replace he := hide he
   clear b1 o1 hd hRd
   go_wp2_with fail
   go_ret2
   rw [hE.out]
   exact ⟨_, rfl, World.ownsRow_nil _ _ _ _, B1.out⟩
  subst he
  obtain ⟨fa, fn, fc, hv⟩ : ∃ a n c, u7 = .slice a n c := by
   rcases o1.2 with ⟨rfl, _⟩ | ⟨_, _, _, rfl, _⟩
   ·exact ⟨_, _, _, rfl⟩
   ·exact ⟨_, _, _, rfl⟩
  subst hv
  have hsl := Sl.of_owns o1
  obtain ⟨z, hz⟩ : ∃ z, Hid (szF (stv fr 4 (0, 0) : Int) = z) := ⟨_, rfl⟩
  have hd2 : Hid (FB = if z = 0 ∨ left < z then ([], 45) else S.read s.file off z) := hide (by rw [hd.out, if_neg (show ¬ (0 : Int) ≠ 0 by omega), hz.out])
  have hst := stv_lt fr (0, 0)
  have kc : IntKind.i64.wrap ((stv fr 4 (0, 0) : Nat) : Int) = ((stv fr 4 (0, 0) : Nat) : Int) := by simp [IntKind.wrap, IntKind.bits, IntKind.signed]; omega
  have hSz := hide (fun u => size_any u ((stv fr 4 (0, 0) : Nat) : Int))
  rw [hz.out] at hSz
  have B1 := hide b1
  have hfl : Hid (fr.length ≤ 140737488355328) := hide (by have := read_len S s.file off M; rw [hRR.out] at this; simp only at this; have := hM.out; omega)
  have hNR := hide (newReader_any w1 _ fr hsl hfl.out)
  have hF32 := hide (fun u rb (hr : RdrAt u rb fr 0 0) => fixed32_tot u rb fr (0, 0) hr)
  generalize stv fr 4 (0, 0) = nz at *
  clear b1 o1 hsl hd hst
  go_wp2_with fail
  go_at_call 106
  refine hNR.out.mono ?_
  rintro e w2 ⟨rb, rfl, rd2, b2, l2⟩
  go_wp2_with fail
  go_at_call 107
  refine (hF32.out w2 rb rd2).mono ?_
  rintro e w3 ⟨rfl, _, g3⟩
  have B3 : Hid (Below w.heap.size w w3) := hide (Below.grown (keepF B1.out b2) g3 (keepF B1.out b2).size (fun k hk => by cases hk; exact Nat.le_trans B1.out.size l2))
  clear rd2 b2 l2 g3 hNR hF32 B1
  go_upto_region 6 with (first | (go_at_call 52; refine (hSz.out _).mono ?_; rintro e w4 ⟨rfl, hw⟩; rw [hw]; clear hw w4) | fail)
  by_cases hz0 : z = 0
  ·subst hz0
   have hE : Hid (FB = ([], 45)) := hide (by rw [hd2.out, if_pos (.inl rfl)])
   clear hd2 hz
   go_wp2_with fail
   go_ret2
   rw [hE.out]
   exact ⟨_, rfl, World.ownsRow_nil _ _ _ _, B3.out⟩
  have kz : (z == 0) = false := by simp [hz0]
  by_cases hzl : left < z
  ·have hE : Hid (FB = ([], 45)) := hide (by rw [hd2.out, if_pos (.inr hzl)])
   replace hz0 := hide hz0
   clear hd2 hz
   go_wp2_with fail
   go_ret2
   rw [hE.out]
   exact ⟨_, rfl, World.ownsRow_nil _ _ _ _, B3.out⟩
  have hE : Hid (FB = S.read s.file off z) := hide (by rw [hd2.out, if_neg (by omega)])
  replace hz0 := hide hz0
  clear hd2 hz
  obtain ⟨RZ, hRZ⟩ : ∃ RZ, Hid (S.read s.file off z = RZ) := ⟨_, rfl⟩
  rw [hRZ.out] at hE
  obtain ⟨gr, ge⟩ := RZ
  go_upto_region 8 with fail
  refine wp_region_T (fun q => Below w.heap.size w q) 14 (by kernel_rfl) ?_
  have KP : Hid (Below w.heap.size w w3.drew) := hide (keepF B3.out (Below.refl _ _).drew)
  generalize w3.drew = q at *
  refine Ix.tk 0 ⟨some 46, .move (.tmp 0), _, _, _, _⟩ (.pointer (some ⟨sb, 0, none⟩)) [14] ?_ KP.out ?_
  ·intro wq hSw
   obtain ⟨y0, y1, y2, y3, y4, y5, y6, y7, y8, y9, y10⟩ := (H.out.below hSw).sg.cells
   go_simp
  (try simp only [zzp, zzb, zzc])
  refine Ix.tk 1 ⟨some 47, .nilCheck (.tmp 46), _, _, _, _⟩ (.pointer (some ⟨sb, 0, none⟩)) [14] ?_ KP.out ?_
  ·intro wq hSw
   obtain ⟨y0, y1, y2, y3, y4, y5, y6, y7, y8, y9, y10⟩ := (H.out.below hSw).sg.cells
   go_simp
  (try simp only [zzp, zzb, zzc])
  refine Ix.tk 2 ⟨some 48, .fieldAddr 109 (.tmp 47) 0, _, _, _, _⟩ (.pointer (some ⟨sb, 0, none⟩)) [14] ?_ KP.out ?_
  ·intro wq hSw
   obtain ⟨y0, y1, y2, y3, y4, y5, y6, y7, y8, y9, y10⟩ := (H.out.below hSw).sg.cells
   go_simp
  (try simp only [zzp, zzb, zzc])
  refine Ix.tk 3 ⟨some 49, .load 26 (.tmp 48), _, _, _, _⟩ (.pointer (some ⟨s.b, 0, none⟩)) [14] ?_ KP.out ?_
  ·intro wq hSw
   obtain ⟨y0, y1, y2, y3, y4, y5, y6, y7, y8, y9, y10⟩ := (H.out.below hSw).sg.cells
   go_simp
  (try simp only [zzp, zzb, zzc])
  refine Ix.tk 4 ⟨some 50, .move (.tmp 0), _, _, _, _⟩ (.pointer (some ⟨sb, 0, none⟩)) [14] ?_ KP.out ?_
  ·intro wq hSw
   obtain ⟨y0, y1, y2, y3, y4, y5, y6, y7, y8, y9, y10⟩ := (H.out.below hSw).sg.cells
   go_simp
  (try simp only [zzp, zzb, zzc])
  refine Ix.tk 5 ⟨some 51, .nilCheck (.tmp 50), _, _, _, _⟩ (.pointer (some ⟨sb, 0, none⟩)) [14] ?_ KP.out ?_
  ·intro wq hSw
   obtain ⟨y0, y1, y2, y3, y4, y5, y6, y7, y8, y9, y10⟩ := (H.out.below hSw).sg.cells
   go_simp
  (try simp only [zzp, zzb, zzc])
  refine Ix.tk 6 ⟨some 52, .fieldAddr 109 (.tmp 51) 1, _, _, _, _⟩ (.pointer (some ⟨sb, 1, none⟩)) [14] ?_ KP.out ?_
  ·intro wq hSw
   obtain ⟨y0, y1, y2, y3, y4, y5, y6, y7, y8, y9, y10⟩ := (H.out.below hSw).sg.cells
   go_simp
  (try simp only [zzp, zzb, zzc])
  refine Ix.tk 7 ⟨some 53, .load 9 (.tmp 52), _, _, _, _⟩ (.string s.file) [14] ?_ KP.out ?_
  ·intro wq hSw
   obtain ⟨y0, y1, y2, y3, y4, y5, y6, y7, y8, y9, y10⟩ := (H.out.below hSw).sg.cells
   go_simp
  (try simp only [zzp, zzb, zzc])
  refine Ix.tk 8 ⟨some 54, .move (.tmp 1), _, _, _, _⟩ (.int .i64 off) [14] ?_ KP.out ?_
  ·intro wq hSw
   obtain ⟨y0, y1, y2, y3, y4, y5, y6, y7, y8, y9, y10⟩ := (H.out.below hSw).sg.cells
   go_simp
  (try simp only [zzp, zzb, zzc])
  refine Ix.tk 9 ⟨some 55, .move (.tmp 9), _, _, _, _⟩ (.int .i64 z) [14] ?_ KP.out ?_
  ·intro wq hSw
   obtain ⟨y0, y1, y2, y3, y4, y5, y6, y7, y8, y9, y10⟩ := (H.out.below hSw).sg.cells
   go_simp
  (try simp only [zzp, zzb, zzc])
  refine wpAnyT_one (i := 10) (o := ⟨some 56, .call { callee := .value (.func 67), args := #[.tmp 49, .tmp 53, .tmp 54, .tmp 55], argTypes := #[26, 9, 3, 3] }, _, _, _, _⟩) (by kernel_rfl) rfl (fun K hK => ?_)
  go_simp
  go_at_call 67
  refine (hRd.out q KP.out z).mono ?_
  rw [hRZ.out]
  rintro e w5 ⟨vf, rfl, of, b1⟩
  have K1 := hide (keepF KP.out b1)
  have F1 : Hid (Ob w.heap.size w5 vf gr) := hide (owns_lower of KP.out.size)
  clear of b1
  (try go_simp)
  refine hK.out _ _ (fun _ => K1.out) ?_
  clear hK K
  (try simp only [zzp, zzb, zzc])
  refine Ix.tk 11 ⟨some 57, .extract (.tmp 56) 0, _, _, _, _⟩ (vf) [14] ?_ K1.out ?_
  ·intro wq hSw; go_simp
  (try simp only [zzp, zzb, zzc])
  refine Ix.tk 12 ⟨some 58, .extract (.tmp 56) 1, _, _, _, _⟩ (.int .i64 ge) [14] ?_ K1.out ?_
  ·intro wq hSw; go_simp
  (try simp only [zzp, zzb, zzc])
  refine wpAnyT_one (i := 13) (o := ⟨some 4, .assign (.tmp 57), _, _, _, _⟩) (by kernel_rfl) rfl (fun K hK => ?_)
  go_simp
  refine hK.out _ _ (fun _ => K1.out) ?_
  clear hK K
  (try simp only [zzp, zzb, zzc])
  refine wpAnyT_one (i := 14) (o := ⟨some 5, .assign (.tmp 58), _, _, _, _⟩) (by kernel_rfl) rfl (fun K hK => ?_)
  go_simp
  refine hK.out _ _ (vac (by kernel_rfl)) ?_
  clear hK K
  (try simp only [zzp, zzb, zzc])
  refine wpAnyT_done (by kernel_rfl) ?_ _
  go_wp2_with fail
  go_ret2
  rw [hE.out]
  exact ⟨_, rfl, F1.out, K1.out⟩
def rfF (s : SG) (S : DS) (lsn off : Int) (seed : Crc.R) : (Int × List UInt8) × Int × Crc.R × Int :=
 if (fbF s S off).2 ≠ 0 then ((0, []), 0, 0#32, (fbF s S off).2)
 else if (rdF seed (fbF s S off).1).2.2.2.2 ≠ 0 ∨ (rdF seed (fbF s S off).1).1 ≠ lsn then ((0, []), 0, 0#32, 45)
 else (((rdF seed (fbF s S off).1).1, (rdF seed (fbF s S off).1).2.1), (rdF seed (fbF s S off).1).2.2.1, (rdF seed (fbF s S off).1).2.2.2.1, 0)
theorem put2_heap {w : World} {g : Nat} {z0 z1 : Value} {T : TypeId} (h : w.heap[g]? = some (.cells #[z0, z1] T (0, 0))) (a0 a1 : Value) : ((w.setCell ⟨g, 0, none⟩ a0).setCell ⟨g, 1, none⟩ a1).heap[g]? = some (.cells #[a0, a1] T (0, 0)) := by
 have e0 : (w.setCell ⟨g, 0, none⟩ a0).heap[g]? = some (.cells #[a0, z1] T (0, 0)) := by rw [heap_setCell_same _ g 0 _ _ _ h]; rfl
 rw [heap_setCell_same _ g 1 _ _ _ e0]; rfl
theorem put2_below {B : Nat} {u w : World} (h : Below B u w) {g : Nat} (hg : B ≤ g) (a0 a1 : Value) : Below B u ((w.setCell ⟨g, 0, none⟩ a0).setCell ⟨g, 1, none⟩ a1) := (h.setCell hg a0).setCell hg a1
theorem ob_form {B : Nat} {w : World} {v : Value} {l : List UInt8} (h : Ob B w v l) : ∃ a n c, v = .slice a n c := by
 rcases h.2 with ⟨rfl, _⟩ | ⟨_, _, _, rfl, _⟩
 ·exact ⟨_, _, _, rfl⟩
 ·exact ⟨_, _, _, rfl⟩
theorem readFrame_any {w : World} {sb : Nat} {s : SG} {S : DS} {O : Nat → Prop} {xb mb : Nat} {v : Value} (h : SW w sb s S O xb mb v) (ok : SOk s) (lsn off : Int) (seed : Crc.R) (h0 : 0 ≤ off) (h1 : off ≤ 4294967296) (hf : s.file.size ≤ maxLen) :
    Calls Tryz.prog 60 #[.pointer (some ⟨sb, 0, none⟩), .agg #[.int .i64 lsn, .int .i64 off], .int .u32 (seed.toNat : Int)] w fun e w' => ∃ vd, e = .returned (.tuple #[.agg #[.int .i64 (rfF s S lsn off seed).1.1, vd], .int .i64 (rfF s S lsn off seed).2.1, .int .u32 ((rfF s S lsn off seed).2.2.1.toNat : Int), .int .i64 (rfF s S lsn off seed).2.2.2]) ∧ Ob w.heap.size w' vd (rfF s S lsn off seed).1.2 ∧ Below w.heap.size w w' := by
 have B1 := box_below w (.cells #[.int .i64 lsn, .int .i64 off] 117)
 have N1 := heap_alloc_new w (.cells #[.int .i64 lsn, .int .i64 off] 117)
 obtain ⟨w1, hw1⟩ : ∃ w1, Hid (w.alloc (.cells #[.int .i64 lsn, .int .i64 off] 117) = w1) := ⟨_, rfl⟩
 rw [hw1.out] at B1 N1
 have hz1 : w1.heap.size = w.heap.size + 1 := by rw [← hw1.out]; simp
 have B2 := box_below w1 (.cells #[.int .i64 0, .slice none 0 0] 56)
 have N2 := heap_alloc_new w1 (.cells #[.int .i64 0, .slice none 0 0] 56)
 obtain ⟨w2, hw2⟩ : ∃ w2, Hid (w1.alloc (.cells #[.int .i64 0, .slice none 0 0] 56) = w2) := ⟨_, rfl⟩
 rw [hw2.out] at B2 N2
 rw [hz1] at N2
 have N12 := (But.of_below B2 fun _ => False).at N1 (fun c => c)
 have B12 := keepF B1 B2
 have hFb := hide (frameBytes_any (h.below B12) ok off h0 h1 hf)
 have x0 : w2.cell? ⟨w.heap.size, 0, none⟩ = some (.int .i64 lsn) := by rw [cell_of N12]; rfl
 have x1 : w2.cell? ⟨w.heap.size, 1, none⟩ = some (.int .i64 off) := by rw [cell_of N12]; rfl
 have ST : Hid (Below w.heap.size w w2 ∧ w2.heap[w.heap.size]? = some (.cells #[.int .i64 lsn, .int .i64 off] 117 (0, 0)) ∧ w2.heap[w.heap.size + 1]? = some (.cells #[.int .i64 0, .slice none 0 0] 56 (0, 0)) ∧ w.heap.size + 2 = w2.heap.size) := hide ⟨B12, N12, N2, by rw [← hw2.out]; simp; omega⟩
 obtain ⟨RF, hRF⟩ : ∃ RF, Hid (rfF s S lsn off seed = RF) := ⟨_, rfl⟩
 rw [hRF.out]
 have hd : Hid (RF = if (fbF s S off).2 ≠ 0 then ((0, []), 0, 0#32, (fbF s S off).2)
  else if (rdF seed (fbF s S off).1).2.2.2.2 ≠ 0 ∨ (rdF seed (fbF s S off).1).1 ≠ lsn then ((0, []), 0, 0#32, 45)
  else (((rdF seed (fbF s S off).1).1, (rdF seed (fbF s S off).1).2.1), (rdF seed (fbF s S off).1).2.2.1, (rdF seed (fbF s S off).1).2.2.2.1, 0)) := hide (by rw [← hRF.out]; rfl)
 obtain ⟨FB, hFB⟩ : ∃ FB, Hid (fbF s S off = FB) := ⟨_, rfl⟩
 rw [hFB.out] at hd hFb
 obtain ⟨fb, fe⟩ := FB
 simp only at hd hFb
 clear B1 B2 N1 N2 N12 B12 hz1 h hRF
 go_enter Tryz.func60, Tryz.ntmps60
 go_upto_region 1 with fail
 rw [hw1.out, hw2.out]
 clear hw1 hw2
 generalize hpa : w.heap.size = pA at *
 replace hpa := hide hpa
 go_wp2_with fail
 go_at_call 97
 refine hFb.out.mono ?_
 rintro e w3 ⟨vo, rfl, o3, b3⟩
 obtain ⟨t1, t2, t3, t4⟩ := ST.out
 have M2 := (But.of_below b3 fun _ => False).at t2 (fun c => c)
 have M3 := (But.of_below b3 fun _ => False).at t3 (fun c => c)
 have B3 : Below pA w w3 := t1.trans (b3.mono (by omega))
 obtain ⟨oa, on, oc, hvo⟩ := ob_form o3
 subst hvo
 have hsl := Sl.of_owns o3
 have z0 : w3.frozen? ⟨pA + 1, 0, none⟩ = false := by simp [World.frozen?, M3]
 have z1 : w3.frozen? ⟨pA + 1, 1, none⟩ = false := by simp [World.frozen?, M3]
 have q0 : w3.cell? ⟨pA + 1, 0, none⟩ = some (.int .i64 0) := by rw [cell_of M3]; rfl
 have q1 : w3.cell? ⟨pA + 1, 1, none⟩ = some (.slice none 0 0) := by rw [cell_of M3]; rfl
 have hpp : pA ≤ pA + 1 := by omega
 by_cases he : fe = 0
 rotate_left
 ·have ke : (fe != 0) = true := by simp [he]
  have hE : Hid (RF = ((0, []), 0, 0#32, fe)) := hide (by rw [hd.out, if_pos he])
  have FH := put2_heap M3 (.int .i64 0) (.slice none 0 0)
  have c0 := (cell_of FH (j := 0)).trans (show (#[Value.int .i64 0, .slice none 0 0] : Array Value)[0]? = some (.int .i64 0) from rfl)
  have c1 := (cell_of FH (j := 1)).trans (show (#[Value.int .i64 0, .slice none 0 0] : Array Value)[1]? = some (.slice none 0 0) from rfl)
  have FB2 := hide (put2_below B3 hpp (.int .i64 0) (.slice none 0 0))
  replace he := hide he
  clear hd hFb o3 b3 M2 M3 t1 t2 t3 hsl FH ST
  go_wp2_with fail
  try simp only [Exit.inBlock, Exit.then]
  refine bodyPost_ret (v := .tuple #[.agg #[.int .i64 0, .slice none 0 0], .int .i64 0, .int .u32 0, .int .i64 fe]) (by simp [results, Tryz.results60, go_sem, c0, c1]; try rfl) rfl ?_
  rw [hE.out]
  exact ⟨_, rfl, World.ownsRow_nil _ _ _ _, by rw [hpa.out]; exact FB2.out⟩
 ·subst he
  have hd2 : Hid (RF = if (rdF seed fb).2.2.2.2 ≠ 0 ∨ (rdF seed fb).1 ≠ lsn then ((0, []), 0, 0#32, 45)
   else (((rdF seed fb).1, (rdF seed fb).2.1), (rdF seed fb).2.2.1, (rdF seed fb).2.2.2.1, 0)) := hide (by rw [hd.out, if_neg (show ¬ (0 : Int) ≠ 0 by omega)])
  have hRd := hide (read_any w3 seed _ fb hsl)
  obtain ⟨RD, hRD⟩ : ∃ RD, Hid (rdF seed fb = RD) := ⟨_, rfl⟩
  rw [hRD.out] at hd2 hRd
  obtain ⟨r1, rdd, rz, rs, re⟩ := RD
  simp only at hd2 hRd
  have ST3 : Hid (Below pA w w3 ∧ w3.heap[pA]? = some (.cells #[.int .i64 lsn, .int .i64 off] 117 (0, 0)) ∧ w3.heap[pA + 1]? = some (.cells #[.int .i64 0, .slice none 0 0] 56 (0, 0)) ∧ pA + 2 ≤ w3.heap.size) := hide ⟨B3, M2, M3, by have := b3.size; omega⟩
  clear hd hFb o3 b3 M2 M3 t1 t2 t3 t4 hsl ST B3 z0 z1 q0 q1 x0 x1
  go_wp2_with fail
  go_at_call 98
  refine hRd.out.mono ?_
  rintro e w4 ⟨vd, rfl, o4, b4⟩
  obtain ⟨da, dn, dc, hvd⟩ := ob_form o4
  subst hvd
  obtain ⟨u1, u2, u3, u4⟩ := ST3.out
  have B5 := box_below w4 (.cells #[.int .i64 r1, .slice da dn dc] 56)
  have N5 := heap_alloc_new w4 (.cells #[.int .i64 r1, .slice da dn dc] 56)
  obtain ⟨w5, hw5⟩ : ∃ w5, Hid (w4.alloc (.cells #[.int .i64 r1, .slice da dn dc] 56) = w5) := ⟨_, rfl⟩
  obtain ⟨pC, hpC⟩ : ∃ pC, Hid (w4.heap.size = pC) := ⟨_, rfl⟩
  rw [hw5.out] at B5 N5
  rw [hpC.out] at N5
  have b35 : Below w3.heap.size w3 w5 := keepF b4 B5
  have M2 := (But.of_below b35 fun _ => False).at u2 (fun c => c)
  have M3 := (But.of_below b35 fun _ => False).at u3 (fun c => c)
  have B35 : Below pA w w5 := u1.trans (b35.mono (by omega))
  have o5 : Ob pA w5 (.slice da dn dc) rdd := owns_lower (ob_but o4 (But.of_below B5 fun _ => False) (fun _ _ c => c)) (by omega)
  have z0 : w5.frozen? ⟨pA + 1, 0, none⟩ = false := by simp [World.frozen?, M3]
  have z1 : w5.frozen? ⟨pA + 1, 1, none⟩ = false := by simp [World.frozen?, M3]
  have q0 : w5.cell? ⟨pA + 1, 0, none⟩ = some (.int .i64 0) := by rw [cell_of M3]; rfl
  have q1 : w5.cell? ⟨pA + 1, 1, none⟩ = some (.slice none 0 0) := by rw [cell_of M3]; rfl
  have x0 : w5.cell? ⟨pA, 0, none⟩ = some (.int .i64 lsn) := by rw [cell_of M2]; rfl
  have v0 : w5.cell? ⟨pC, 0, none⟩ = some (.int .i64 r1) := by rw [cell_of N5]; rfl
  have v1 : w5.cell? ⟨pC, 1, none⟩ = some (.slice da dn dc) := by rw [cell_of N5]; rfl
  have sf : True := trivial
  have ST5 : Hid (Below pA w w5 ∧ w5.heap[pA + 1]? = some (.cells #[.int .i64 0, .slice none 0 0] 56 (0, 0)) ∧ Ob pA w5 (.slice da dn dc) rdd) := hide ⟨B35, M3, o5⟩
  clear u1 u2 u3 u4 B5 N5 b35 M2 M3 B35 o4 o5 b4 ST3 hRd
  go_upto_region 5 with fail
  rw [hw5.out, hpC.out]
  by_cases hre : re = 0
  rotate_left
  ·have ke : (re != 0) = true := by simp [hre]
   have hE : Hid (RF = ((0, []), 0, 0#32, 45)) := hide (by rw [hd2.out, if_pos (.inl hre)])
   have FH := put2_heap ST5.out.2.1 (.int .i64 0) (.slice none 0 0)
   have c0 := (cell_of FH (j := 0)).trans (show (#[Value.int .i64 0, .slice none 0 0] : Array Value)[0]? = some (.int .i64 0) from rfl)
   have c1 := (cell_of FH (j := 1)).trans (show (#[Value.int .i64 0, .slice none 0 0] : Array Value)[1]? = some (.slice none 0 0) from rfl)
   have FB2 := hide (put2_below ST5.out.1 hpp (.int .i64 0) (.slice none 0 0))
   replace hre := hide hre
   clear hd2 FH ST5
   go_wp2_with fail
   try simp only [Exit.inBlock, Exit.then]
   refine bodyPost_ret (v := .tuple #[.agg #[.int .i64 0, .slice none 0 0], .int .i64 0, .int .u32 0, .int .i64 45]) (by simp [results, Tryz.results60, go_sem, c0, c1]; try rfl) rfl ?_
   rw [hE.out]
   exact ⟨_, rfl, World.ownsRow_nil _ _ _ _, by rw [hpa.out]; exact FB2.out⟩
  subst hre
  by_cases hln : r1 = lsn
  rotate_left
  ·have ke : (r1 != lsn) = true := by simp [hln]
   have hE : Hid (RF = ((0, []), 0, 0#32, 45)) := hide (by rw [hd2.out, if_pos (.inr hln)])
   have FH := put2_heap ST5.out.2.1 (.int .i64 0) (.slice none 0 0)
   have c0 := (cell_of FH (j := 0)).trans (show (#[Value.int .i64 0, .slice none 0 0] : Array Value)[0]? = some (.int .i64 0) from rfl)
   have c1 := (cell_of FH (j := 1)).trans (show (#[Value.int .i64 0, .slice none 0 0] : Array Value)[1]? = some (.slice none 0 0) from rfl)
   have FB2 := hide (put2_below ST5.out.1 hpp (.int .i64 0) (.slice none 0 0))
   replace hln := hide hln
   clear hd2 FH ST5
   go_wp2_with fail
   try simp only [Exit.inBlock, Exit.then]
   refine bodyPost_ret (v := .tuple #[.agg #[.int .i64 0, .slice none 0 0], .int .i64 0, .int .u32 0, .int .i64 45]) (by simp [results, Tryz.results60, go_sem, c0, c1]; try rfl) rfl ?_
   rw [hE.out]
   exact ⟨_, rfl, World.ownsRow_nil _ _ _ _, by rw [hpa.out]; exact FB2.out⟩
  subst hln
  have hE : Hid (RF = ((r1, rdd), rz, rs, 0)) := hide (by rw [hd2.out, if_neg (by simp)])
  have FH := put2_heap ST5.out.2.1 (.int .i64 r1) (.slice da dn dc)
  have c0 := (cell_of FH (j := 0)).trans (show (#[Value.int .i64 r1, .slice da dn dc] : Array Value)[0]? = some (.int .i64 r1) from rfl)
  have c1 := (cell_of FH (j := 1)).trans (show (#[Value.int .i64 r1, .slice da dn dc] : Array Value)[1]? = some (.slice da dn dc) from rfl)
  have FB2 := hide (put2_below ST5.out.1 hpp (.int .i64 r1) (.slice da dn dc))
  have hno : (Value.slice da dn dc).ownBlock ≠ some (pA + 1) := fun c => by
   rcases ST5.out.2.2.2 with ⟨e, _⟩ | ⟨g, cap, cur, e, hg, hh, r⟩
   ·rw [e] at c; simp [Value.ownBlock] at c
   ·rw [e] at c
    simp [Value.ownBlock] at c
    subst c
    have h9 := ST5.out.2.1
    rw [hh] at h9
    simp at h9
  have FO : Hid (Ob pA ((w5.setCell ⟨pA + 1, 0, none⟩ (.int .i64 r1)).setCell ⟨pA + 1, 1, none⟩ (.slice da dn dc)) (.slice da dn dc) rdd) := hide (ob_but ST5.out.2.2 (X := fun k => k = pA + 1) ((but_sb _ (pA + 1) 0 _ (fun k => k = pA + 1) rfl).trans (but_sb _ (pA + 1) 1 _ (fun k => k = pA + 1) rfl)) (fun k hk c => hno (by rw [← c]; exact hk)))
  clear hd2 FH ST5
  go_wp2_with fail
  try simp only [Exit.inBlock, Exit.then]
  refine bodyPost_ret (v := .tuple #[.agg #[.int .i64 r1, .slice da dn dc], .int .i64 rz, .int .u32 (rs.toNat : Int), .int .i64 0]) (by simp [results, Tryz.results60, go_sem, c0, c1]; try rfl) rfl ?_
  rw [hE.out]
  exact ⟨_, rfl, by rw [hpa.out]; exact FO.out, by rw [hpa.out]; exact FB2.out⟩
end Go.Proofs.YtnimildpcnmjeaaGreatDoor.Sg
