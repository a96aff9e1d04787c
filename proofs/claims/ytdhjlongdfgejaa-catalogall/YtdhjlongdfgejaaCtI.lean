/-
  Write: the program's.
-/
import Derived.Test.YtdhjlongdfgejaaCtH
import Derived.Test.YtdhjlongdfgejaaCrcz
import Derived.Test.YtdhjlongdfgejaaForms
import Derived.Test.YtdhjlongdfgejaaCtX
namespace Go.Proofs.Ytdhjlongdfgejaa.Ct
open Go.RowKit

/-- The bytes l as a list of the call's own, from block B on. -/
def Bs (B : Nat) (w : World) (v : Value) (l : List UInt8) : Prop := w.ownsRow B 5 1 v l.length (bvals l)
theorem Bs.no {B : Nat} {w : World} {v : Value} {l : List UInt8} (h : Bs B w v l) {b : Nat} {cs : Array Value} {T : TypeId} {fz : Nat × Nat} (hb : w.heap[b]? = some (.cells cs T fz)) (hT : T ≠ 5) : v.ownBlock ≠ some b := fun e1 => by
  rcases h.2 with ⟨rfl, _⟩ | ⟨g, cap, cur, rfl, hg, hh, r⟩
  · simp [Value.ownBlock] at e1
  · simp [Value.ownBlock] at e1
    subst e1
    rw [hb] at hh
    simp at hh
    exact hT hh.2.1
theorem Bs.low {B B' : Nat} {w : World} {v : Value} {l : List UInt8} (h : Bs B w v l) (hb : B' ≤ B) : Bs B' w v l := owns_lower h hb
theorem Bs.below {B : Nat} {w w' : World} {v : Value} {l : List UInt8} (h : Bs B w v l) (hb : Below w.heap.size w w') : Bs B w' v l := ownsRow_below h hb
theorem Bs.form {B : Nat} {w : World} {v : Value} {l : List UInt8} (h : Bs B w v l) : ∃ ao ca, v = .slice ao l.length ca := by
  rcases h.2 with ⟨rfl, e⟩ | ⟨g, cap, cur, rfl, _⟩
  · exact ⟨_, _, by rw [e]⟩
  · exact ⟨_, _, rfl⟩
theorem Bs.sl {B : Nat} {w : World} {v : Value} {l : List UInt8} (h : Bs B w v l) : Sl w v l := Sl.of_owns h
theorem Bs.lt {B : Nat} {w : World} {v : Value} {l : List UInt8} (h : Bs B w v l) : ∀ k, v.ownBlock = some k → B ≤ k ∧ k < w.heap.size := fun k hk => World.ownsRow.lt h k hk
/-- append(s, x...), s the call's own bytes l, x a slice of bytes m: what else has turned, where the new list lies. -/
theorem wpList_append_bytesA {P : Program} {w : World} {ops : Array Oper} {rest : List Oper} {o : Oper} {a : Act} {Q : Exit → Act → World → Prop} (hgd : o.guard = none) (s x : Operand) (t : TypeId)
    (ho : o.op = .call { callee := .builtin .append, args := #[s, x], argTypes := #[t, t] })
    (B : Nat) (hinf : (P.info? 5).map (fun i => (i.zero, i.size, i.bytes)) = some (some (.int .u8 0), 1, 1)) (ht : P.underlying t = some (.slice 5))
    (v vx : Value) (l m : List UInt8) (hs : a.eval s = v) (hown : Bs B w v l) (hx : a.eval x = vx) (hsl : Sl w vx m)
    (hbytes : l.length + m.length ≤ 140737488355328) (hbase : B ≤ w.heap.size)
    (h : ∀ v' w', Bs B w' v' (l ++ m) → w.grownBy w' v.ownBlock → (v'.ownBlock = v.ownBlock ∨ v'.ownBlock = some w.heap.size) → wpList P ops Q rest (a.put o.dst v') w') : wpList P ops Q (o :: rest) a w := by
  obtain ⟨i0, hi, hz0, hz1, hz2⟩ := info_parts hinf
  obtain ⟨ao, cap, rfl, h2, h3, h4, h5⟩ := hsl
  cases ao with
  | none =>
    obtain ⟨rfl, rfl⟩ := h2 rfl
    refine wpList_append_own_none hgd s x t ho B 5 i0 1 ht hi v l.length (bvals l) hs hown hx ?_
    exact h v w (by simpa using hown) ⟨rfl, rfl, rfl, Nat.le_refl _, fun _ _ _ => rfl⟩ (.inl rfl)
  | some ad =>
    have hcells : ∀ j u, (bvals m)[j]? = some u → w.cell? (ad.add j) = some u := by
      intro j u hu
      have hj : j < m.length := by
        have := (List.getElem?_eq_some_iff.1 hu).1
        simpa [bvals] using this
      obtain ⟨b, off, e1, hc⟩ := h5 j hj
      simp only [Option.some.injEq] at e1
      subst e1
      rw [bvals_get hj] at hu
      simp only [Option.some.injEq] at hu
      subst hu
      rw [addr_add]; exact hc
    refine wpList_append_own_at w hgd s x t ho B 5 i0 (.int .u8 0) 1 1 ht hi hz0 hz1 hz2 rfl (by decide) v l.length (bvals l) hs hown ad m.length cap (bvals m) hx (by simp [bvals]) hcells ?_ (by unfold maxLen; omega) (by omega) hbase ?_
    · intro u hu
      simp only [bvals, List.mem_map] at hu
      obtain ⟨c, _, rfl⟩ := hu
      rfl
    · intro v' w' ho' hg _ hat
      refine h v' w' ?_ hg hat
      unfold Bs
      rw [List.length_append, bvals_append]
      exact ho'
/-- The same where s may be a constant's bytes, which have no room. -/
def Bf (B : Nat) (w : World) (v : Value) (l : List UInt8) : Prop := Bs B w v l ∨ ∃ b fz, v = .slice (some ⟨b, 0, none⟩) l.length l.length ∧ w.heap[b]? = some (.cells (bvals l).toArray 5 fz) ∧ B ≤ b ∧ l.length ≤ 100
theorem Bf.below {B : Nat} {w w' : World} {v : Value} {l : List UInt8} (h : Bf B w v l) (hb : Below w.heap.size w w') : Bf B w' v l := by
  rcases h with h | ⟨b, fz, h1, h2, h3⟩
  · exact .inl (h.below hb)
  · exact .inr ⟨b, fz, h1, by rw [hb.block b (heap_lt h2)]; exact h2, h3⟩
theorem Bf.form {B : Nat} {w : World} {v : Value} {l : List UInt8} (h : Bf B w v l) : ∃ ao ca, v = .slice ao l.length ca := by
  rcases h with h | ⟨b, fz, h1, h2, h3⟩
  · exact h.form
  · exact ⟨_, _, h1⟩
theorem Bf.sl {B : Nat} {w : World} {v : Value} {l : List UInt8} (h : Bf B w v l) : Sl w v l := by
  rcases h with h | ⟨b, fz, rfl, h2, _, h4⟩
  · exact h.sl
  · refine ⟨_, _, rfl, fun e => by simp at e, Nat.le_refl _, by unfold maxLen; omega, fun i hi => ⟨b, 0, rfl, ?_⟩⟩
    have := bvals_get hi
    simp only [World.cell?, h2]
    simpa using this
theorem Bf.lt {B : Nat} {w : World} {v : Value} {l : List UInt8} (h : Bf B w v l) : ∀ k, v.ownBlock = some k → B ≤ k ∧ k < w.heap.size := by
  rcases h with h | ⟨b, fz, rfl, h2, h3, h4⟩
  · exact h.lt
  · intro k hk
    simp [Value.ownBlock] at hk
    subst hk
    exact ⟨h3, heap_lt h2⟩
theorem Bf.no {B : Nat} {w : World} {v : Value} {l : List UInt8} (h : Bf B w v l) {b : Nat} {cs : Array Value} {T : TypeId} {fz : Nat × Nat} (hb : w.heap[b]? = some (.cells cs T fz)) (hT : T ≠ 5) : v.ownBlock ≠ some b := by
  rcases h with h | ⟨b', fz', rfl, h2, h3, h4⟩
  · exact h.no hb hT
  · intro hk
    simp [Value.ownBlock] at hk
    subst hk
    rw [hb] at h2
    simp at h2
    exact hT h2.2.1
theorem wpList_append_bytesF {P : Program} {w : World} {ops : Array Oper} {rest : List Oper} {o : Oper} {a : Act} {Q : Exit → Act → World → Prop} (hgd : o.guard = none) (s x : Operand) (t : TypeId)
    (ho : o.op = .call { callee := .builtin .append, args := #[s, x], argTypes := #[t, t] })
    (B : Nat) (hinf : (P.info? 5).map (fun i => (i.zero, i.size, i.bytes)) = some (some (.int .u8 0), 1, 1)) (ht : P.underlying t = some (.slice 5))
    (v vx : Value) (l m : List UInt8) (hs : a.eval s = v) (hown : Bf B w v l) (hx : a.eval x = vx) (hsl : Sl w vx m) (hm : 0 < m.length) (hm2 : m.length ≤ 100)
    (hbytes : l.length ≤ 1000000) (hbase : B ≤ w.heap.size)
    (h : ∀ v' w', Bs B w' v' (l ++ m) → w.grownBy w' v.ownBlock → (∀ k, v'.ownBlock = some k → v.ownBlock = some k ∨ w.heap.size ≤ k) → wpList P ops Q rest (a.put o.dst v') w') : wpList P ops Q (o :: rest) a w := by
  rcases hown with hown | ⟨b, fz, rfl, h2, h3, h4⟩
  · refine wpList_append_bytesA hgd s x t ho B hinf ht v vx l m hs hown hx hsl (by omega) hbase fun v' w' a1 a2 a3 => h v' w' a1 a2 fun k hk => ?_
    rcases a3 with e | e
    · rw [e] at hk; exact .inl hk
    · rw [e] at hk; cases hk; exact .inr (Nat.le_refl _)
  · refine wpList_append_full hgd s x t ho 5 hinf ht ⟨b, 0, none⟩ l.length vx l m rfl hs (Bf.sl (B := B) (.inr ⟨b, fz, rfl, h2, h3, h4⟩)) hx hsl hm (by omega) fun v' w' a1 a2 => h v' w' (Bs.low a1 hbase) (Below.grownAny a2 _) fun k hk => .inr (World.ownsRow.lt a1 k hk).1
/-- A step that writes bytes further: what it leaves. -/
structure Wrt (B : Nat) (w : World) (v : Value) (w' : World) (v' : Value) (out : List UInt8) : Prop where
  bs : Bf B w' v' out
  but : But (fun k => v.ownBlock = some k) w w'
  own : ∀ k, v'.ownBlock = some k → v.ownBlock = some k ∨ w.heap.size ≤ k
theorem Wrt.refl {B : Nat} {w : World} {v : Value} {out : List UInt8} (h : Bf B w v out) : Wrt B w v w v out := ⟨h, But.refl _ _, fun _ hk => .inl hk⟩
theorem Wrt.below {B : Nat} {w w' w'' : World} {v v' : Value} {out : List UInt8} (h : Wrt B w v w' v' out) (hb : Below w'.heap.size w' w'') : Wrt B w v w'' v' out :=
  ⟨h.bs.below hb, h.but.trans (But.of_below hb _), h.own⟩
theorem Wrt.grown {B : Nat} {w w' w'' : World} {v v' v'' : Value} {out out' : List UInt8} (h : Wrt B w v w' v' out) (hb : Bs B w'' v'' out') (hg : w'.grownBy w'' v'.ownBlock) (hat : ∀ k, v''.ownBlock = some k → v'.ownBlock = some k ∨ w'.heap.size ≤ k) : Wrt B w v w'' v'' out' := by
  refine ⟨.inl hb, ?_, fun k hk => ?_⟩
  · refine ⟨hg.os.trans h.but.os, hg.tape.trans h.but.tape, hg.output.trans h.but.output, Nat.le_trans h.but.size hg.size, fun k hk hx => ?_⟩
    rw [hg.block k (Nat.lt_of_lt_of_le hk h.but.size) (fun e => by
      rcases h.own k e.symm with e | e
      · exact hx e
      · omega)]
    exact h.but.block k hk hx
  · rcases hat k hk with e | e
    · exact h.own k e
    · exact .inr (Nat.le_trans h.but.size e)
theorem Wrt.trans {B : Nat} {w w' w'' : World} {v v' v'' : Value} {out out' : List UInt8} (h : Wrt B w v w' v' out) (g : Wrt B w' v' w'' v'' out') : Wrt B w v w'' v'' out' := by
  refine ⟨g.bs, ?_, fun k hk => ?_⟩
  · refine ⟨g.but.os.trans h.but.os, g.but.tape.trans h.but.tape, g.but.output.trans h.but.output, Nat.le_trans h.but.size g.but.size, fun k hk hx => ?_⟩
    rw [g.but.block k (Nat.lt_of_lt_of_le hk h.but.size) (fun e => by
      rcases h.own k e with e | e
      · exact hx e
      · omega)]
    exact h.but.block k hk hx
  · rcases g.own k hk with e | e
    · exact h.own k e
    · exact .inr (Nat.le_trans h.but.size e)
/-- The blocks below B are as they were. -/
theorem Wrt.low {B : Nat} {w w' : World} {v v' : Value} {out o0 : List UInt8} (h : Wrt B w v w' v' out) (hv : Bf B w v o0) (hB : B ≤ w.heap.size) : Below B w w' := h.but.below hB fun k hk => (hv.lt k hk).1
def encs (ns : List Int) : List UInt8 := ns.flatMap fun n => enc n.toNat
theorem encs_snoc (ns : List Int) (n : Int) : encs (ns ++ [n]) = encs ns ++ enc n.toNat := by simp [encs]
theorem encs_len (ns : List Int) : (encs ns).length ≤ 10 * ns.length := by
  induction ns with
  | nil => simp [encs]
  | cons n r ih =>
    have a := enc_len n.toNat
    have : encs (n :: r) = enc n.toNat ++ encs r := by simp [encs]
    rw [this]; simp; omega
set_option maxHeartbeats 1000000 in
theorem numbers_any (w : World) (B : Nat) (v : Value) (out : List UInt8) (g : Nat) (ns : List Int) (T : TypeId) (hv : Bf B w v out) (hB : B ≤ w.heap.size) (hg : w.heap[g]? = some (.cells (ivals ns).toArray T (0, 0))) (hns : ∀ n ∈ ns, 0 ≤ n ∧ n ≤ 9223372036854775807) (hT : T ≠ 5) (hl : ns.length ≤ 3) (hroom : out.length ≤ 900000) :
    Calls Try.prog 27 #[v, .slice (some ⟨g, 0, none⟩) ns.length ns.length] w fun e w' => ∃ v', e = .returned v' ∧ Wrt B w v w' v' (out ++ encs ns) := by
  obtain ⟨N, hN⟩ : ∃ N, Hid (ns.length = N) := ⟨_, rfl⟩
  have HV := hide hv
  have HG := hide hg
  rw [hN.out] at hl ⊢
  obtain ⟨ao, ca, rfl⟩ := hv.form
  clear hv hg
  go_enter Try.func27, Try.ntmps27
  go_wp2_with fail
  go_loopw [0, 9] (fun vb vi wr => ∃ i : Nat, i ≤ N ∧ vi = .int .i64 (i : Int) ∧ Hid (Wrt B w (.slice ao out.length ca) wr vb (out ++ encs (ns.take i)))) (fun _ vi _ => N - (intOf vi).toNat)
  case atStart => exact ⟨0, Nat.zero_le _, rfl, by show Wrt _ _ _ _ _ _; rw [List.take_zero, show encs [] = [] from rfl, List.append_nil]; exact Wrt.refl HV.out⟩
  case round =>
    obtain ⟨i, hi, rfl, hW⟩ := hrel
    obtain ⟨aov, cav, rfl⟩ := hW.out.bs.form
    by_cases hlt : i < N
    · have hix : i < ns.length := by rw [hN.out]; exact hlt
      have hgw : wr.heap[g]? = some (.cells (ivals ns).toArray T (0, 0)) := hW.out.but.at HG.out (HV.out.no HG.out hT)
      have k0 : wr.cell? ⟨g, i, none⟩ = some (.int .i64 ns[i]) := by
        simp only [World.cell?, hgw]
        simp [ivals, hix]
      obtain ⟨n0, n1⟩ := hns _ (List.getElem_mem hix)
      have hsn : Hid (out ++ encs (ns.take (i + 1)) = (out ++ encs (ns.take i)) ++ enc ns[i].toNat) := by
        show _ = _
        rw [List.take_succ_eq_append_getElem hix, encs_snoc, List.append_assoc]
      have hlo : (out ++ encs (ns.take i)).length ≤ 900030 := by
        have := encs_len (ns.take i)
        simp at this ⊢; omega
      generalize ns[i] = n at *
      generalize out ++ encs (ns.take i) = O at *
      have hlt' : (i : Int) < (N : Int) := by omega
      have hw3 : IntKind.u64.wrap n = n := wrap_u64_in _ (by omega) (by omega)
      clear hgw
      go_wp2_with fail
      refine (varint_any _ n (by omega) (by omega)).mono ?_
      rintro e w5 ⟨v5, rfl, o5, b5⟩
      have s5 := hide (Sl.of_owns o5)
      have W5 := hide (hW.out.below b5)
      have hz5 := hide (Nat.le_trans (Nat.le_trans hB hW.out.but.size) b5.size)
      have hn1 := enc_len n.toNat
      clear o5 b5 k0
      go_wp2_with (at_builtin; refine wpList_append_bytesF rfl (.tmp 13) (.tmp 16) 31 rfl B Try.infoU8 Try.underlying31 (.slice aov O.length cav) v5 O (enc n.toNat) rfl W5.out.bs rfl s5.out (enc_pos _) (by omega) (by omega) hz5.out ?_; intro v6 w6 o6 g6 hat6)
      have W6 : Hid (Wrt B w (.slice ao out.length ca) w6 v6 (out ++ encs (ns.take (i + 1)))) := by show Wrt _ _ _ _ _ _; rw [hsn.out]; exact W5.out.grown o6 g6 hat6
      clear o6 g6 hat6
      go_wp2_with fail
      go_roundw
      case rel => exact ⟨i + 1, by omega, by go_num, W6⟩
      case measure => simp [intOf]; omega
    · obtain rfl : i = N := by omega
      have hE : Hid (ns.take i = ns) := by show _ = _; rw [← hN.out, List.take_length]
      rw [hE.out] at hW ⊢
      go_wp2_with fail
      go_ret
      exact ⟨_, rfl, hW.out⟩
#print axioms numbers_any
end Go.Proofs.Ytdhjlongdfgejaa.Ct
