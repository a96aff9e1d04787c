/-
  The document's Bytes.
-/
import Derived.Test.YtoffahbnffhliaaIxG
import Derived.Test.YtoffahbnffhliaaRefF
import Derived.Test.YtoffahbnffhliaaCrcR
namespace Go.Proofs.Ytoffahbnffhliaa.Ix
open Go.RowKit

theorem Bs.some {B : Nat} {w : World} {v : Value} {l : List UInt8} (h : Bs B w v l) (hl : l ≠ []) : ∃ g ca, v = .slice (some ⟨g, 0, none⟩) l.length ca ∧ ∀ j u, (bvals l)[j]? = some u → w.cell? ((⟨g, 0, none⟩ : Addr).add j) = some u := by
  have h0 := h
  rcases h.2 with ⟨rfl, e⟩ | ⟨g, cap, cur, rfl, _⟩
  · exact absurd (List.length_eq_zero_iff.1 e) hl
  · exact ⟨g, cap, rfl, World.ownsRow.cells (g := g) h0 rfl⟩
/-- append(s, x...) as a step of a region that draws: s the call's own bytes l, x bytes m, some of them. -/
theorem step_append_bytes {P : Program} {w : World} {ops : Array Oper} {o : Oper} {a : Act} {K : Act → World → Prop} {Q : Exit → Act → World → Prop} {E : Prop} (hgd : o.guard = none) (s x : Operand) (t : TypeId)
    (ho : o.op = .call { callee := .builtin .append, args := #[s, x], argTypes := #[t, t] })
    (B B' : Nat) (hinf : (P.info? 5).map (fun i => (i.zero, i.size, i.bytes)) = some (some (.int .u8 0), 1, 1)) (ht : P.underlying t = some (.slice 5))
    (v vx : Value) (l m : List UInt8) (hs : a.eval s = v) (hown : Bs B w v l) (hx : a.eval x = vx) (hsl : Bs B' w vx m) (hm : m ≠ [])
    (hbytes : l.length + m.length ≤ 140737488355328) (hbase : B ≤ w.heap.size)
    (h : ∀ v' w', Bs B w' v' (l ++ m) → w.grownBy w' v.ownBlock → K (a.put o.dst v') w') :
    if Region.wanted o (yielded ops a.tmps) = true then Oper.wp P o a w K Q else E := by
  obtain ⟨i0, hi, hz0, hz1, hz2⟩ := info_parts hinf
  obtain ⟨g, ca, rfl, hc⟩ := hsl.some hm
  refine step_append_lies w hgd s x t ho B 5 i0 (.int .u8 0) 1 1 ht hi hz0 hz1 hz2 rfl (by decide) v l.length (bvals l) hs hown ⟨g, 0, none⟩ m.length ca (bvals m) hx (by simp [bvals]) hc ?_ (List.length_pos_iff.2 hm) (by unfold maxLen; omega) (by omega) hbase w.heap.size rfl ?_
  · intro u hu
    simp only [bvals, List.mem_map] at hu
    obtain ⟨c, _, rfl⟩ := hu
    rfl
  · intro g2 cap2 w' h2 h3 _ _
    refine h _ w' ?_ h3
    unfold Bs
    rw [List.length_append, bvals_append]
    exact h2
theorem enc_ne (n : Nat) : enc n ≠ [] := fun e => by have := enc_pos n; rw [e] at this; simp at this
/-- What is kept through a region that writes one number more: the world w5 has all as wr had it, but for the bytes. -/
theorem wr_cells {w wr : World} {x : X} {vb : Value} {ab i : Nat} {p1 p2 : Int} {out : List UInt8} (h : Wr w x vb ab i wr p1 p2 out) : wr.cell? ⟨ab, 0, none⟩ = some (.int .i64 p1) ∧ wr.cell? ⟨ab, 1, none⟩ = some (.int .i64 p2) ∧ wr.frozen? ⟨ab, 0, none⟩ = false ∧ wr.frozen? ⟨ab, 1, none⟩ = false := two_cells h.ah
set_option maxHeartbeats 8000000 in
theorem refBytes_any : DoesBytes TR 20 := by
  intro w b x v h hk
  obtain ⟨c0, c1, _, _⟩ := h.cells
  have HK := hide hk
  have H := hide h
  have hlen := hk.srt.len
  have s0 := hk.srt.s0
  have s1 := hk.srt.s1
  have hbl : b < w.heap.size := h.lt b (.inl rfl)
  obtain ⟨ao, ca, rfl, q1, q2⟩ := h.row.form
  have HC := hide h.row.rd
  obtain ⟨N, hN⟩ : ∃ N, Hid (x.l.length = N) := ⟨_, rfl⟩
  rw [hN.out] at c1 hlen q2 H
  obtain ⟨st, hst⟩ : ∃ st, Hid (x.st = st) := ⟨_, rfl⟩
  rw [hst.out] at c0 s0 s1
  clear h hk
  go_enter Try.func20, Try.ntmps20
  go_wp2_with fail
  refine (refVarint_any _ (st : Int) (by omega) (by omega)).mono ?_
  rintro e w1 ⟨v1, rfl, o1, b1⟩
  rw [Int.toNat_natCast] at o1
  replace o1 : Hid (Bs w.heap.size w1 v1 (enc st)) := o1
  have c1' : w1.cell? ⟨b, 1, none⟩ = some (.slice ao N ca) := by rw [b1.cell (p := ⟨b, 1, none⟩) hbl]; exact c1
  replace b1 := hide b1
  obtain ⟨ao1, ca1, rfl⟩ := o1.out.form
  clear c0 c1
  go_wp2_with fail
  refine (refVarint_any _ (N : Int) (by omega) (by omega)).mono ?_
  rintro e w2 ⟨v2, rfl, o2, b2⟩
  rw [Int.toNat_natCast] at o2
  have s2 := hide (Sl.of_owns o2)
  have o12 := hide (o1.out.below b2)
  have b12 := hide (keepF b1.out b2)
  have hsz2 := b12.out.size
  have hl1 := enc_len st
  have hl2 := enc_len N
  clear o2 b2 o1 c1' b1
  obtain ⟨O, hO⟩ : ∃ O, Hid (enc st ++ enc N = O) := ⟨_, rfl⟩
  go_wp2_with (at_builtin; refine wpList_append_bytesG rfl (.tmp 12) (.tmp 19) 43 rfl w.heap.size 5 Try.infoU8 Try.underlying43 (.slice ao1 (enc st).length ca1) v2 (enc st) (enc N) rfl o12.out rfl s2.out (by omega) hsz2 ?_; intro v3 w3 o3 g3; rw [hO.out] at o3; obtain ⟨ao3, ca3, rfl⟩ := Bs.form (B := w.heap.size) o3; replace o3 := hide o3; replace g3 := hide g3)
  have B3 : Hid (Below w.heap.size w w3) := Below.grown b12.out g3.out hsz2 (fun k hk => (World.ownsRow.lt o12.out k hk).1)
  have W0 : Hid (Wr w x (.slice ao3 O.length ca3) w3.heap.size 0 (w3.alloc (.cells #[.int .i64 0, .int .i64 0] 35)) 0 0 O) :=
    ⟨Bs.below (B := w.heap.size) o3.out (box_below _ _), heap_alloc_new _ _, keepF B3.out (box_below _ _), B3.out.size, by rw [front, hst.out, hN.out, ← hO.out]; simp, by simp [lastE_nil]⟩
  generalize hq : w3.heap.size = ab at *
  generalize hq4 : w3.alloc (.cells #[.int .i64 0, .int .i64 0] 35) = w4 at *
  clear hq hq4 o3 g3 B3 s2 o12 b12 hO hl1 hl2
  go_loopg [3, 5] N (fun kx vb vi wr => ∃ (i : Nat) (p1 p2 : Int) (out : List UInt8), i ≤ N ∧ N - i ≤ kx ∧ vi = .int .i64 (i : Int) ∧ Hid (Wr w x vb ab i wr p1 p2 out))
  case atStart => exact ⟨0, 0, 0, O, Nat.zero_le _, by omega, rfl, W0.out⟩
  case round =>
    obtain ⟨i, p1, p2, out, hi, hik, rfl, hW⟩ := hrel
    have hroom := hW.out.room HK.out
    obtain ⟨aov, cav, rfl⟩ := hW.out.bs.form
    have AW := hide (H.out.below hW.out.bel)
    obtain ⟨_, d1, _, _⟩ := AW.out.cells
    by_cases hlt : i < N
    · have hix : i < x.l.length := by rw [hN.out]; exact hlt
      obtain ⟨g, rfl, k0, k1⟩ := HC.out i hix
      have gB := hW.out.bel.cell (lt_of_cell k0)
      have gB1 := hW.out.bel.cell (lt_of_cell k1)
      rw [k0] at gB
      rw [k1] at gB1
      obtain ⟨y1, y2, y3, y4, y5, y6⟩ := diff_ok HK.out hix hW.out.pos
      have hL : Hid (lastE (x.l.take (i + 1)) = x.l[i]) := lastE_take hix
      have hD : Hid (x.l.drop i = x.l[i] :: x.l.drop (i + 1)) := List.drop_eq_getElem_cons hix
      generalize x.l[i] = en at *
      obtain ⟨e1, e2⟩ := en
      simp only at gB gB1 y1 y2 y3 y4
      have hw1 : IntKind.i64.wrap (e1 - p1) = e1 - p1 := by rw [IntKind.wrap_i64]; omega
      have hw2 : IntKind.i64.wrap (e2 - p2) = e2 - p2 := by rw [IntKind.wrap_i64]; omega
      have hw3 : IntKind.u64.wrap (e1 - p1) = e1 - p1 := wrap_u64_in _ (by omega) (by omega)
      have hw4 : IntKind.u64.wrap (e2 - p2) = e2 - p2 := wrap_u64_in _ (by omega) (by omega)
      obtain ⟨t1, t2, t3, t4⟩ := wr_cells hW.out
      have hn1 := enc_len (e1 - p1).toNat
      have hn2 := enc_len (e2 - p2).toNat
      obtain ⟨O1, hO1⟩ : ∃ O1, Hid (out ++ enc (e1 - p1).toNat = O1) := ⟨_, rfl⟩
      have hO1l : O1.length ≤ out.length + 10 := by rw [← hO1.out, List.length_append]; omega
      replace k0 := hide k0
      replace k1 := hide k1
      go_upto_region 7 with fail
      go_cut [3] from 31 to 45 (fun y wx => ∃ ao6 ca6, y = .slice ao6 O1.length ca6 ∧ Hid (Bs w.heap.size wx (.slice ao6 O1.length ca6) O1 ∧ (∃ u, Below wr.heap.size wr u ∧ u.grownBy wx (Value.slice aov out.length cav).ownBlock)))
      case first =>
        go_region_law (first
          | (refine step_append_bytes rfl (.tmp 31) (.tmp 44) 43 rfl w.heap.size wr.heap.size Try.infoU8 Try.underlying43 (.slice aov out.length cav) v5 out (enc (e1 - p1).toNat) (by simp [Act.eval]) Q5.out (by simp [Act.eval]) S5.out (enc_ne _) (by omega) (Nat.le_trans hW.out.bel.size KP.out.size) ?_; intro v6 w6 o6 g6; rw [hO1.out] at o6; obtain ⟨ao6, ca6, rfl⟩ := Bs.form o6; replace o6 := hide o6; replace g6 := hide g6)
          | (go_simp; go_at_call 39; refine (refVarint_any _ (e1 - p1) (by omega) (by omega)).mono ?_; rintro e u1 ⟨v5, rfl, o5, b5⟩; have KP : Hid (Below wr.heap.size wr u1) := keepF (Below.drew (Below.refl _ wr)) b5; have Q5 := hide (hW.out.bs.below KP.out); have S5 : Hid (Bs wr.heap.size u1 v5 (enc (e1 - p1).toNat)) := o5; clear o5 b5))
        all_goals
          go_wp2_with fail
          go_meet
          case rel => exact ⟨_, _, rfl, o6.out, _, KP.out, g6.out⟩
      case rest =>
        obtain ⟨ao6, ca6, rfl, hcut⟩ := hcut
        obtain ⟨o6, u6, bu6, g6⟩ := hcut.out
        have hT0 : Two u6 ab ab p1 p2 p1 p2 := ⟨by rw [bu6.block ab (heap_lt hW.out.ah)]; exact hW.out.ah, by rw [bu6.block ab (heap_lt hW.out.ah)]; exact hW.out.ah⟩
        have Q6 := hW.out.bs.below bu6
        have T6 := hide (hT0.grown Q6 g6)
        have B6 := hide (Below.grown (keepF hW.out.bel bu6) g6 (Nat.le_trans hW.out.bel.size bu6.size) (fun k hk => (World.ownsRow.lt Q6 k hk).1))
        have O6 := hide o6
        clear o6 bu6 g6 hT0 Q6 hcut t1 t2 t3 t4 gB gB1 d1
        obtain ⟨⟨t1, t2, _, _⟩, t3, t4⟩ := T6.out.cells
        have A6 := hide (H.out.below B6.out)
        obtain ⟨_, d1, _, _⟩ := A6.out.cells
        have gB := B6.out.cell (lt_of_cell k0.out)
        have gB1 := B6.out.cell (lt_of_cell k1.out)
        rw [k0.out] at gB
        rw [k1.out] at gB1
        simp only at gB gB1
        obtain ⟨O2, hO2⟩ : ∃ O2, Hid (O1 ++ enc (e2 - p2).toNat = O2) := ⟨_, rfl⟩
        go_upto_region 8 with fail
        go_cut [3] from 46 to 60 (fun y wx => ∃ ao8 ca8, y = .slice ao8 O2.length ca8 ∧ Hid (Bs w.heap.size wx (.slice ao8 O2.length ca8) O2 ∧ (∃ u, Below wc.heap.size wc u ∧ u.grownBy wx (Value.slice ao6 O1.length ca6).ownBlock)))
        case first =>
          go_region_law (first
            | (refine step_append_bytes rfl (.tmp 46) (.tmp 59) 43 rfl w.heap.size wc.heap.size Try.infoU8 Try.underlying43 (.slice ao6 O1.length ca6) v5 O1 (enc (e2 - p2).toNat) (by simp [Act.eval]) Q5.out (by simp [Act.eval]) S5.out (enc_ne _) (by omega) (Nat.le_trans B6.out.size KP.out.size) ?_; intro v8 w8 o8 g8; rw [hO2.out] at o8; obtain ⟨ao8, ca8, rfl⟩ := Bs.form o8; replace o8 := hide o8; replace g8 := hide g8)
            | (go_simp; go_at_call 39; refine (refVarint_any _ (e2 - p2) (by omega) (by omega)).mono ?_; rintro e u1 ⟨v5, rfl, o5, b5⟩; have KP : Hid (Below wc.heap.size wc u1) := keepF (Below.drew (Below.refl _ wc)) b5; have Q5 := hide (O6.out.below KP.out); have S5 : Hid (Bs wc.heap.size u1 v5 (enc (e2 - p2).toNat)) := o5; clear o5 b5))
          all_goals
            go_wp2_with fail
            go_meet
            case rel => exact ⟨_, _, rfl, o8.out, _, KP.out, g8.out⟩
        case rest =>
          obtain ⟨ao8, ca8, rfl, hcut⟩ := hcut
          obtain ⟨o8, u8, bu8, g8⟩ := hcut.out
          have Q8 := O6.out.below bu8
          have T8 := hide ((T6.out.below bu8).grown Q8 g8)
          have B8 := hide (Below.grown (keepF B6.out bu8) g8 (Nat.le_trans B6.out.size bu8.size) (fun k hk => (World.ownsRow.lt Q8 k hk).1))
          have O8 := hide o8
          clear o8 bu8 g8 Q8 hcut t1 t2 t3 t4 gB gB1 d1
          obtain ⟨⟨t1, t2, _, _⟩, t3, t4⟩ := T8.out.cells
          have A8 := hide (H.out.below B8.out)
          obtain ⟨_, d1, _, _⟩ := A8.out.cells
          have gB := B8.out.cell (lt_of_cell k0.out)
          have gB1 := B8.out.cell (lt_of_cell k1.out)
          rw [k0.out] at gB
          rw [k1.out] at gB1
          simp only at gB gB1
          go_wp2_with fail
          go_roundg (N - (i + 1))
          case measure => omega
          case rel =>
            refine ⟨i + 1, e1, e2, O2, by omega, Nat.le_refl _, by go_num, ?_⟩
            have hab := hW.out.at0
            refine ⟨?_, ?_, put2_below B8.out hab _ _, hab, ?_, hL.out.symm⟩
            · exact ownsRow_setCell_other (ownsRow_setCell_other O8.out (Bs.no (B := w.heap.size) O8.out T8.out.1 (by decide)) _) (Bs.no (B := w.heap.size) O8.out T8.out.1 (by decide)) _
            · exact put2_heap T8.out.1 _ _
            · have := hW.out.so
              rw [hD.out, body] at this
              rw [← hO2.out, ← hO1.out, ← this]
              simp
    · obtain rfl : i = N := by omega
      have hfr : Hid (out = front x) := by
        have := hW.out.so
        rw [List.drop_of_length_le (by rw [hN.out]; exact Nat.le_refl _), body, List.append_nil] at this
        exact this
      have Q0 := hide hW.out.bs
      have B0 := hide hW.out.bel
      have sl0 : Hid (Sl wr (.slice aov out.length cav) out) := Sl.of_owns hW.out.bs
      clear hW
      go_wp2_with fail
      refine (Crc.refSum_any _ _ out sl0.out).mono ?_
      rintro e w5 ⟨rfl, rfl⟩
      have hcr := (Crc.more 0#32 out).isLt
      obtain ⟨cr, hcre⟩ : ∃ cr, Hid ((Crc.more 0#32 out).toNat = cr) := ⟨_, rfl⟩
      rw [hcre.out] at hcr ⊢
      have hw9 : IntKind.u64.wrap (cr : Int) = (cr : Int) := wrap_u64_in _ (by omega) (by omega)
      clear sl0
      go_wp2_with fail
      refine (refFixed_any _ (cr : Int) 4 (by omega) (by omega) (by omega)).mono ?_
      rintro e w7 ⟨v7, rfl, o7, b7⟩
      rw [Int.toNat_natCast] at o7
      have s7 := hide (Sl.of_owns o7)
      have Q7 := hide (Q0.out.below b7)
      have B7 := hide (keepF B0.out b7)
      have hz7 := B7.out.size
      have hn1 := fx_len 4 cr
      clear o7 b7 Q0 B0
      obtain ⟨O2, hO2⟩ : ∃ O2, Hid (out ++ fx 4 cr = O2) := ⟨_, rfl⟩
      go_wp2_with (at_builtin; refine wpList_append_bytesG rfl (.tmp 68) (.tmp 72) 43 rfl w.heap.size 5 Try.infoU8 Try.underlying43 (.slice aov out.length cav) v7 out (fx 4 cr) rfl Q7.out rfl s7.out (by omega) hz7 ?_; intro v8 w8 o8 g8; rw [hO2.out] at o8; obtain ⟨ao8, ca8, rfl⟩ := Bs.form (B := w.heap.size) o8; have B8 := hide (Below.grown B7.out g8 hz7 (fun k hk => (World.ownsRow.lt Q7.out k hk).1)); replace o8 := hide o8; clear g8)
      go_ret
      have hfin : bytesF x = O2 := by rw [bytesF, ← hfr.out, hcre.out, hO2.out]
      rw [hfin]
      exact ⟨_, rfl, o8.out, B8.out⟩
#print axioms refBytes_any
end Go.Proofs.Ytoffahbnffhliaa.Ix
