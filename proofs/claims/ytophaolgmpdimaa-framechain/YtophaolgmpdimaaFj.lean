/-
  The document's bare and WriteHead.
-/
import Derived.Test.YtophaolgmpdimaaFh
import Derived.Test.YtophaolgmpdimaaSbig
namespace Go.Proofs.Ytophaolgmpdimaa
open Go.RowKit

def ttl : List UInt8 := [70, 76, 85, 77, 69, 76, 79, 71]
/-- What stands ahead of a head's mark. -/
def hfs (nm bs : Nat) (seed : Crc.R) : List UInt8 := ttl ++ (fx 8 nm ++ (fx 8 bs ++ fx 4 seed.toNat))
def hsum (nm bs : Nat) (seed : Crc.R) : Crc.R := Crc.more 0#32 (hfs nm bs seed)
def hed (nm bs : Nat) (seed : Crc.R) : List UInt8 := hfs nm bs seed ++ fmark (hsum nm bs seed)
theorem hfs_len (nm bs : Nat) (seed : Crc.R) : (hfs nm bs seed).length = 28 := by simp [hfs, ttl, fx_len]
theorem hed_len (nm bs : Nat) (seed : Crc.R) : (hed nm bs seed).length = 32 := by simp [hed, hfs_len, fmark_len]
theorem three_cells {w : World} {b : Nat} {a0 a1 a2 : Value} {T : TypeId} (h : w.heap[b]? = some (.cells #[a0, a1, a2] T (0, 0))) : w.cell? ⟨b, 0, none⟩ = some a0 ∧ w.cell? ⟨b, 1, none⟩ = some a1 ∧ w.cell? ⟨b, 2, none⟩ = some a2 ∧ w.frozen? ⟨b, 0, none⟩ = false ∧ w.frozen? ⟨b, 1, none⟩ = false ∧ w.frozen? ⟨b, 2, none⟩ = false := by
  simp [World.cell?, World.frozen?, h]
/-- What WriteHead answers: the bytes, the sum, the error's number. -/
def whF (nm bs : Int) (seed : Crc.R) : List UInt8 × Crc.R × Int :=
  if nm < 1 ∨ bs < 1 then ([], 0#32, 1) else (hed nm.toNat bs.toNat seed, hsum nm.toNat bs.toNat seed, 0)
def DoesWH (f : Nat) : Prop := ∀ (w : World) (nm bs : Int) (seed : Crc.R), -9223372036854775808 ≤ nm → nm ≤ 9223372036854775807 → -9223372036854775808 ≤ bs → bs ≤ 9223372036854775807 →
  Calls Try.prog f #[.agg #[.int .i64 nm, .int .i64 bs, .int .u32 (seed.toNat : Int)]] w fun e w' => ∃ v', e = .returned (.tuple #[v', .int .u32 ((whF nm bs seed).2.1.toNat : Int), .int .i64 (whF nm bs seed).2.2]) ∧ w'.ownsRow w.heap.size 5 1 v' (whF nm bs seed).1.length (bvals (whF nm bs seed).1) ∧ Below w.heap.size w w'

/-- append(s, x...) where s has no room: new memory. -/
theorem wpList_append_full {P : Program} {w : World} {ops : Array Oper} {rest : List Oper} {o : Oper} {a : Act} {Q : Exit → Act → World → Prop} (hgd : o.guard = none) (s x : Operand) (t : TypeId)
    (ho : o.op = .call { callee := .builtin .append, args := #[s, x], argTypes := #[t, t] })
    (e : TypeId) (hinf : (P.info? e).map (fun i => (i.zero, i.size, i.bytes)) = some (some (.int .u8 0), 1, 1)) (ht : P.underlying t = some (.slice e))
    (ad : Addr) (n : Nat) (vx : Value) (l m : List UInt8) (hl : l.length = n) (hs : a.eval s = .slice (some ad) n n) (hvs : Sl w (.slice (some ad) n n) l) (hx : a.eval x = vx) (hsl : Sl w vx m) (hm : 0 < m.length) (hlen : l.length + m.length ≤ 4096)
    (h : ∀ v' w', w'.ownsRow w.heap.size e 1 v' (l ++ m).length (bvals (l ++ m)) → Below w.heap.size w w' → wpList P ops Q rest (a.put o.dst v') w') : wpList P ops Q (o :: rest) a w := by
  obtain ⟨i, hi, hz, hs1, hy⟩ := info_parts hinf
  have rd : ∀ {ao : Option Addr} {k c : Nat} {u : List UInt8}, Sl w (.slice ao k c) u → 0 < u.length → ∃ b off, ao = some ⟨b, off, none⟩ ∧ ∀ j v, (bvals u)[j]? = some v → w.cell? ((⟨b, off, none⟩ : Addr).add j) = some v := by
    intro ao k c u hu h0
    obtain ⟨ao', c', e1, _, _, _, h5⟩ := hu
    simp only [Value.slice.injEq] at e1
    obtain ⟨rfl, _, _⟩ := e1
    obtain ⟨b, off, rfl, hc⟩ := h5.at h0
    refine ⟨b, off, rfl, fun j v hv => ?_⟩
    have hj : j < u.length := by
      have := (List.getElem?_eq_some_iff.1 hv).1
      simpa [bvals] using this
    rw [addr_add, hc j hj, ← hv, bvals_get hj]
  obtain ⟨ao, k, c, rfl, hk⟩ : ∃ ao k c, vx = .slice ao k c ∧ k = m.length := by
    obtain ⟨ao, c, e1, _⟩ := id hsl
    exact ⟨ao, _, c, e1, rfl⟩
  subst hk
  obtain ⟨b2, o2, rfl, c2⟩ := rd hsl hm
  have c1 : ∀ j v, (bvals l)[j]? = some v → w.cell? (ad.add j) = some v := by
    intro j v hv
    have h0 : 0 < l.length := by
      have := (List.getElem?_eq_some_iff.1 hv).1
      simp [bvals] at this
      omega
    obtain ⟨b, off, e1, hc⟩ := rd hvs h0
    simp only [Option.some.injEq] at e1
    subst e1
    exact hc j v hv
  have hr := run_append_grow (P := P) w t o.type e i (.int .u8 0) ht hi hz ad n n (bvals l) (by rw [hs1, bvals_length, hl]; omega) c1 ⟨b2, o2, none⟩ m.length c (bvals m) (by rw [hs1, bvals_length]; omega) c2 (by omega) (by omega) (by rw [hy]; exact cap_fits (by omega) (by omega))
  refine Lib.wpList_append_run w hgd s x t t ho _ _ hs hx _ _ hr (h _ _ ?_ ((Below.refl _ w).drew.alloc (by simp) _))
  have hge := grownCap_ge w (n + m.length) n e
  have hle := grownCap_le_maxLen w (n + m.length) n e (by unfold maxLen; omega)
  rw [List.length_append, hl]
  refine ⟨by simp [bvals, hl], Or.inr ⟨w.heap.size, _, _, rfl, Nat.le_refl _, heap_alloc_new w.drew _, hge, hle, ?_, ?_⟩⟩
  · simp only [Array.size_append, List.size_toArray, size_zeroCells, bvals_length]
    simp [Value.cells]
    omega
  · rw [bvals_append]
    simp only [Array.toList_append, Nat.mul_one]
    exact List.take_left' (by simp [bvals, hl])

/-- Bytes that are owned from a block on that holds none: from the next block on. -/
theorem owns_up {w : World} {b n : Nat} {v : Value} {xs : List Value} {cs : Array Value} {T : TypeId} (h : w.ownsRow b 5 1 v n xs) (hb : w.heap[b]? = some (.cells cs T (0, 0))) (hT : T ≠ 5 := by decide) : w.ownsRow (b + 1) 5 1 v n xs := by
  obtain ⟨h1, h2⟩ := h
  refine ⟨h1, ?_⟩
  rcases h2 with h2 | ⟨g, cap, cur, a, hg, c, d⟩
  · exact Or.inl h2
  · refine Or.inr ⟨g, cap, cur, a, ?_, c, d⟩
    rcases Nat.lt_or_ge b g with h | h
    · exact h
    · obtain rfl : g = b := by omega
      rw [hb] at c
      simp at c
      exact absurd c.2 hT

set_option maxHeartbeats 1000000 in
theorem refBare_any (w : World) (nm bs : Int) (seed : Crc.R) (h0 : 1 ≤ nm) (h1 : nm ≤ 9223372036854775807) (h2 : 1 ≤ bs) (h3 : bs ≤ 9223372036854775807) :
    Calls Try.prog 44 #[.agg #[.int .i64 nm, .int .i64 bs, .int .u32 (seed.toNat : Int)]] w fun e w' => ∃ v', e = .returned v' ∧ w'.ownsRow w.heap.size 5 1 v' (hfs nm.toNat bs.toNat seed).length (bvals (hfs nm.toNat bs.toNat seed)) ∧ Below w.heap.size w w' := by
  have HS := hide (Crc.lt32 seed)
  have kd := fun (w : World) (C : Array Value) (n c : Nat) => Lib.run_convert_bytes_const (P := Try.prog) w 31 5 C n c Try.underlying31 Try.underlying5
  have n1 : IntKind.u64.wrap nm = nm := by rw [IntKind.wrap_u64]; omega
  have n2 : IntKind.u64.wrap bs = bs := by rw [IntKind.wrap_u64]; omega
  obtain ⟨F, hF⟩ : ∃ F, Hid (ttl ++ fx 8 nm.toNat ++ fx 8 bs.toNat ++ fx 4 seed.toNat = F) := ⟨_, rfl⟩
  have hFe : Hid (hfs nm.toNat bs.toNat seed = F) := by show _ = _; rw [← hF.out, hfs]; simp
  rw [hFe.out]
  obtain ⟨w1, hw1⟩ : ∃ w1, Hid (w.alloc (.cells #[.int .i64 nm, .int .i64 bs, .int .u32 (seed.toNat : Int)] 50) = w1) := ⟨_, rfl⟩
  have hb1 : Hid (Below w.heap.size w w1) := by rw [← hw1.out]; exact box_below _ _
  have hh1 : Hid (w1.heap[w.heap.size]? = some (.cells #[.int .i64 nm, .int .i64 bs, .int .u32 (seed.toNat : Int)] 50 (0, 0))) := by rw [← hw1.out]; exact heap_alloc_new _ _
  have hz1 : w1.heap.size = w.heap.size + 1 := by rw [← hw1.out]; simp
  have ke : (convert 31 31 (.slice (some ⟨w.heap.size + 1, 0, none⟩) 8 8)).run Try.prog (w1.alloc (.cells #[.int .u8 70, .int .u8 76, .int .u8 85, .int .u8 77, .int .u8 69, .int .u8 76, .int .u8 79, .int .u8 71] 5)) = .ok (.slice (some ⟨w.heap.size + 1, 0, none⟩) 8 8) (w1.alloc (.cells #[.int .u8 70, .int .u8 76, .int .u8 85, .int .u8 77, .int .u8 69, .int .u8 76, .int .u8 79, .int .u8 71] 5 (8, 9))) := by
    have := Lib.run_convert_bytes_const (P := Try.prog) w1 31 5 #[.int .u8 70, .int .u8 76, .int .u8 85, .int .u8 77, .int .u8 69, .int .u8 76, .int .u8 79, .int .u8 71] 8 8 Try.underlying31 Try.underlying5
    rw [hz1] at this
    exact this
  have KE := hide ke
  have sT : Hid (Sl (w1.alloc (.cells #[.int .u8 70, .int .u8 76, .int .u8 85, .int .u8 77, .int .u8 69, .int .u8 76, .int .u8 79, .int .u8 71] 5 (8, 9))) (.slice (some ⟨w.heap.size + 1, 0, none⟩) 8 8) ttl) := by
    have := sl_lit_mark w1 ttl 5 (8, 9) (by decide) _ rfl
    rw [hz1] at this
    exact this
  have hb2 : Hid (Below w.heap.size w (w1.alloc (.cells #[.int .u8 70, .int .u8 76, .int .u8 85, .int .u8 77, .int .u8 69, .int .u8 76, .int .u8 79, .int .u8 71] 5 (8, 9)))) := keepF hb1.out (box_below _ _)
  have hh2 : Hid ((w1.alloc (.cells #[.int .u8 70, .int .u8 76, .int .u8 85, .int .u8 77, .int .u8 69, .int .u8 76, .int .u8 79, .int .u8 71] 5 (8, 9))).heap[w.heap.size]? = some (.cells #[.int .i64 nm, .int .i64 bs, .int .u32 (seed.toNat : Int)] 50 (0, 0))) := by
    show _ = _
    rw [(box_below w1 _).block w.heap.size (heap_lt hh1.out)]; exact hh1.out
  clear hz1 ke kd
  go_enter Try.func44, Try.ntmps44
  go_wp2_with fail
  rw [hw1.out]
  rw [KE.out]
  generalize w1.alloc (.cells #[.int .u8 70, .int .u8 76, .int .u8 85, .int .u8 77, .int .u8 69, .int .u8 76, .int .u8 79, .int .u8 71] 5 (8, 9)) = w2 at *
  clear hw1 KE hb1 hh1
  obtain ⟨c0, c1, c2, _, _, _⟩ := three_cells hh2.out
  go_wp2_with fail
  refine (refFixed_any w2 nm 8 (by omega) (by omega) (by omega)).mono ?_
  rintro e w3 ⟨v3, rfl, ho3, hb3⟩
  have s3 := hide (Sl.of_owns ho3)
  have sT3 := hide (Below.sl hb3 sT.out)
  have hb03 := hide (keepF hb2.out hb3)
  have hh3 : Hid (w3.heap[w.heap.size]? = some (.cells #[.int .i64 nm, .int .i64 bs, .int .u32 (seed.toNat : Int)] 50 (0, 0))) := by show _ = _; rw [hb3.block w.heap.size (heap_lt hh2.out)]; exact hh2.out
  clear ho3 hb3 hh2 hb2 sT c0 c1 c2
  go_wp2_with (at_builtin; refine wpList_append_full rfl (.tmp 6) (.tmp 10) 31 rfl 5 Try.infoU8 Try.underlying31 _ 8 _ ttl (fx 8 nm.toNat) rfl rfl sT3.out rfl s3.out (by simp [fx_len]) (by simp [fx_len, ttl]) ?_)
  intro v4 w4 ho4 hb4
  have ho4' : Hid (w4.ownsRow w.heap.size 5 1 v4 (ttl ++ fx 8 nm.toNat).length (bvals (ttl ++ fx 8 nm.toNat))) := by
    show World.ownsRow _ _ _ _ _ _ _
    exact owns_lower (by simpa using ho4) hb03.out.size
  have hb04 := hide (keepF hb03.out hb4)
  have hh4 : Hid (w4.heap[w.heap.size]? = some (.cells #[.int .i64 nm, .int .i64 bs, .int .u32 (seed.toNat : Int)] 50 (0, 0))) := by show _ = _; rw [hb4.block w.heap.size (heap_lt hh3.out)]; exact hh3.out
  obtain ⟨c0, c1, c2, _, _, _⟩ := three_cells hh4.out
  clear ho4 hb4 hh3 hb03 sT3 s3
  go_wp2_with fail
  refine (refFixed_any w4 bs 8 (by omega) (by omega) (by omega)).mono ?_
  rintro e w5 ⟨v5, rfl, ho5, hb5⟩
  have s5 := hide (Sl.of_owns ho5)
  have ho5' := hide (ownsRow_below ho4'.out hb5)
  have hb05 := hide (keepF hb04.out hb5)
  have z5 := hide hb05.out.size
  have hh5 : Hid (w5.heap[w.heap.size]? = some (.cells #[.int .i64 nm, .int .i64 bs, .int .u32 (seed.toNat : Int)] 50 (0, 0))) := by show _ = _; rw [hb5.block w.heap.size (heap_lt hh4.out)]; exact hh4.out
  clear ho5 hb5 hh4 hb04 ho4' c0 c1 c2
  go_wp2_with (at_builtin; refine wpList_append_bytes rfl (.tmp 12) (.tmp 16) 31 rfl (w.heap.size + 1) 5 Try.infoU8 Try.underlying31 _ _ (ttl ++ fx 8 nm.toNat) (fx 8 bs.toNat) rfl (owns_up ho5'.out hh5.out) rfl s5.out (by simp [fx_len, ttl]) (heap_lt hh5.out) ?_)
  intro v6 w6 ho6 hb6
  have ho6' : Hid (w6.ownsRow w.heap.size 5 1 v6 (ttl ++ fx 8 nm.toNat ++ fx 8 bs.toNat).length (bvals (ttl ++ fx 8 nm.toNat ++ fx 8 bs.toNat))) := by
    show World.ownsRow _ _ _ _ _ _ _
    exact owns_lower (by simpa using ho6) (Nat.le_succ _)
  have hb06 := hide (hb05.out.trans (hb6.mono (Nat.le_succ _)))
  have hh6 : Hid (w6.heap[w.heap.size]? = some (.cells #[.int .i64 nm, .int .i64 bs, .int .u32 (seed.toNat : Int)] 50 (0, 0))) := by show _ = _; rw [hb6.block w.heap.size (Nat.lt_succ_self _)]; exact hh5.out
  obtain ⟨c0, c1, c2, _, _, _⟩ := three_cells hh6.out
  have hs32 := HS.out
  clear ho6 hb6 hh5 hb05 ho5' z5 s5
  go_wp2_with fail
  refine (refFixed_any w6 (seed.toNat : Int) 4 (by omega) (by omega) (by omega)).mono ?_
  rintro e w7 ⟨v7, rfl, ho7, hb7⟩
  rw [Int.toNat_natCast] at ho7
  have s7 := hide (Sl.of_owns ho7)
  have ho7' := hide (ownsRow_below ho6'.out hb7)
  have hb07 := hide (keepF hb06.out hb7)
  have z7 := hide hb07.out.size
  clear ho7 hb7 hh6 hb06 ho6' c0 c1 c2
  have hlen : Hid ((ttl ++ fx 8 nm.toNat ++ fx 8 bs.toNat).length + (fx 4 seed.toNat).length ≤ 140737488355328) := by show _ ≤ _; simp [fx_len, ttl]
  obtain ⟨L, hL⟩ : ∃ L, Hid (ttl ++ fx 8 nm.toNat ++ fx 8 bs.toNat = L) := ⟨_, rfl⟩
  rw [hL.out] at ho7' hlen hF
  go_wp2_with (at_builtin; refine wpList_append_bytes rfl (.tmp 18) (.tmp 22) 31 rfl w.heap.size 5 Try.infoU8 Try.underlying31 _ _ L (fx 4 seed.toNat) rfl ho7'.out rfl s7.out hlen.out z7.out ?_)
  intro v8 w8 ho8 hb8
  have ho8' : Hid (w8.ownsRow w.heap.size 5 1 v8 F.length (bvals F)) := by
    show World.ownsRow _ _ _ _ _ _ _
    rw [← List.length_append, hF.out] at ho8
    exact ho8
  have hb08 := hide (hb07.out.trans hb8)
  clear ho8 hb8
  go_wp2_with fail
  go_ret
  exact ⟨_, rfl, ho8'.out, hb08.out⟩
#print axioms refBare_any
end Go.Proofs.Ytophaolgmpdimaa
