/-
  DiskRenames: the walk.
-/
import Derived.Test.YtpphjojehfhbkabDnB
namespace Go.Proofs.Ytpphjojehfhbkab.Dk
open Go.RowKit Go.Maps Go.Sort Go.Shelf Go.Proofs.Ytpphjojehfhbkab.Nm

def sX : ByteArray := ⟨#[120]⟩
def sY : ByteArray := ⟨#[121]⟩
theorem may_x : may sX.data.toList = true := by decide
theorem may_y : may sY.data.toList = true := by decide
/-- The files at the end. -/
def rnF (p q : Nat) (old new : List UInt8) : Nat → Fl := upd (upd noF p ⟨old, old, 0⟩) q ⟨new, new, 0⟩
theorem upd_upd {α : Type} (F : Nat → α) (p : Nat) (s t : α) : upd (upd F p s) p t = upd F p t := by
  funext q
  unfold upd
  split <;> rfl
theorem syF_new (z : List UInt8) : syF ⟨z, [], 0⟩ = ⟨z, z, 0⟩ := by have := syF_plain [] z; simpa using this
theorem rn_x (p : Nat) : runs [] [.cr sX p] = [([120], p)] := rfl
theorem rn_xy (p q : Nat) : runs [([120], p)] [.cr sY q] = [([120], p), ([121], q)] := rfl
theorem rn_xq (p q : Nat) : runs [([120], p)] [.cr sY q, .rn sY sX] = [([120], q)] := rfl
theorem rn_0 (p : Nat) : runs [([120], p)] [] = [([120], p)] := rfl
structure RnP (p r : Nat) (d : Int) (L2 L3 : Dr) : Prop where
  out : if (L2 = [([120], r)]) ∨ 2 ≤ d then L3 = [([120], r)] else get L3 [120] = some p
/-- What a crash leads to. -/
theorem rn_crash (p q : Nat) (old new : List UInt8) (hpq : p ≠ q) (L2 : Dr) (PP : List Ch) (d : Int) (ks : List Kep) (h : (L2 = [([120], q)] ∧ PP = []) ∨ (L2 = [([120], p)] ∧ PP = [.cr sY q, .rn sY sX])) :
    crashL (runs L2 (PP.take (wthn d PP.length))) (nms (runs L2 (PP.take (wthn d PP.length)))) ks (rnF p q old new) = rnF p q old new ∧
    (if (L2 = [([120], q)]) ∨ 2 ≤ d then runs L2 (PP.take (wthn d PP.length)) = [([120], q)] else get (runs L2 (PP.take (wthn d PP.length))) [120] = some p) := by
  have hFp : rnF p q old new p = ⟨old, old, 0⟩ := by unfold rnF; rw [upd_ne _ _ hpq, upd_same]
  have hFq : rnF p q old new q = ⟨new, new, 0⟩ := by unfold rnF; rw [upd_same]
  have hw : ∀ l : Dr, (∀ e ∈ l, e.2 = p ∨ e.2 = q) → ∀ ns, crashL l ns ks (rnF p q old new) = rnF p q old new := fun l hl ns => by
    refine crashL_whole _ _ _ _ fun s _ r hr => ?_
    rcases hl _ (get_mem hr) with e | e
    · dsimp only at e; subst e; exact ⟨old, hFp⟩
    · dsimp only at e; subst e; exact ⟨new, hFq⟩
  rcases h with ⟨rfl, rfl⟩ | ⟨rfl, rfl⟩
  · refine ⟨hw _ (fun e he => ?_) _, ?_⟩
    · simp [runs] at he; rw [he]; exact .inr rfl
    · rw [if_pos (.inl rfl)]; simp [runs]
  · have hlen : ([.cr sY q, .rn sY sX] : List Ch).length = 2 := rfl
    rw [hlen]
    have hne : ¬ ([([120], p)] : Dr) = [([120], q)] := by intro e; simp at e; exact hpq e
    have h3 : wthn d 2 = 0 ∨ wthn d 2 = 1 ∨ wthn d 2 = 2 := by unfold wthn; omega
    rcases h3 with e | e | e
    · rw [e]
      refine ⟨hw _ (fun e he => ?_) _, ?_⟩
      · simp [runs] at he; rw [he]; exact .inl rfl
      · rw [if_neg (by rintro (c | c); exact hne c; unfold wthn at e; omega)]; rfl
    · rw [e]
      refine ⟨hw _ (fun e he => ?_) _, ?_⟩
      · have he' : e ∈ ([([120], p), ([121], q)] : Dr) := he
        simp at he'
        rcases he' with z | z
        · rw [z]; exact .inl rfl
        · rw [z]; exact .inr rfl
      · rw [if_neg (by rintro (c | c); exact hne c; unfold wthn at e; omega)]; rfl
    · rw [e]
      refine ⟨hw _ (fun e he => ?_) _, ?_⟩
      · have he' : e ∈ ([([120], q)] : Dr) := he
        simp at he'
        rw [he']; exact .inr rfl
      · rw [if_pos (.inr (by unfold wthn at e; omega))]; rfl
set_option maxRecDepth 100000 in
set_option maxHeartbeats 8000000 in
theorem renames_walk (w : World) (va vb : Value) (A B : List UInt8) (sy : Bool) (d : Int) (vk : Value) (ks : List Kep) (ha : Sl w va A) (hb : Sl w vb B) (n0 : -9223372036854775808 ≤ d) (n1 : d ≤ 9223372036854775807) (hk : Kp (fun k => k < w.heap.size) w vk ks) :
    Calls Try.prog 3 #[va, vb, .bool sy, .agg #[.int .i64 d, vk]] w fun e w' => e = .returned (.bool true) ∧ Below w.heap.size w w' := by
  have hb0 := hide (box_below w (.cells #[.int .i64 d, vk] 25))
  have hN0 := hide (heap_alloc_new w (.cells #[.int .i64 d, vk] 25))
  have HK := hide hk
  obtain ⟨ak, ck, rfl, _⟩ := hk
  obtain ⟨u, hu⟩ : ∃ u, Hid (w.alloc (.cells #[.int .i64 d, .slice ak ks.length ck] 25) = u) := ⟨_, rfl⟩
  rw [hu.out] at hb0 hN0
  have hB := begun_any u
  have SA := hide ha
  have SB := hide hb
  obtain ⟨aa, ca, rfl, _, a3, a4, _⟩ := ha
  obtain ⟨ab, cb, rfl, _, b3, b4, _⟩ := hb
  have a4' : ca ≤ 9223372036854775807 := by unfold maxLen at a4; omega
  have b4' : cb ≤ 9223372036854775807 := by unfold maxLen at b4; omega
  clear a4 b4
  by_cases k1 : (A.length : Int) > 5000
  · go_enter Try.func3, Try.ntmps3
    go_upto_region 1 with fail
    rw [hu.out]
    go_wp2_with (go_at_call 5; refine hB.mono ?_; rintro e w0 ⟨rfl, b0⟩; replace b0 := hide b0)
    go_ret
    exact ⟨rfl, hb0.out.trans (b0.out.mono hb0.out.size)⟩
  by_cases k2 : (B.length : Int) > 5000
  · go_enter Try.func3, Try.ntmps3
    go_upto_region 1 with fail
    rw [hu.out]
    go_wp2_with (go_at_call 5; refine hB.mono ?_; rintro e w0 ⟨rfl, b0⟩; replace b0 := hide b0)
    go_ret
    exact ⟨rfl, hb0.out.trans (b0.out.mono hb0.out.size)⟩
  have SA1 := hide (Below.sl hb0.out SA.out)
  have SB1 := hide (Below.sl hb0.out SB.out)
  have K1 : Hid (Kp (fun k => k < u.heap.size) u (.slice ak ks.length ck) ks) := by
    have h1 := HK.out.below hb0.out
    obtain ⟨ao, cap, e, g1, g2, g3⟩ := h1
    refine ⟨ao, cap, e, g1, g2, fun i hi => ?_⟩
    obtain ⟨b, off, vj, e1, z, c1, c2, sl, si, m0, m1⟩ := g3 i hi
    have hz := hb0.out.size
    exact ⟨b, off, vj, e1, by show b < _; have : b < w.heap.size := z; omega, c1, c2, sl, fun b' o n c e z => by have : b' < w.heap.size := si b' o n c e z; show b' < _; omega, m0, m1⟩
  have lA : A.length ≤ 5000 := by omega
  have lB : B.length ≤ 5000 := by omega
  replace lA := hide lA
  replace lB := hide lB
  have s1 : sX.size ≤ 140737488355328 := by decide
  have s2 : sY.size ≤ 140737488355328 := by decide
  have s3 : sX.size ≤ maxLen := by decide
  have s4 : sY.size ≤ maxLen := by decide
  have hN : Hid (∀ q, Below u.heap.size u q → Calls Try.prog 6 #[.int .i64 65536] q fun e w' => ∃ b, e = .returned (.pointer (some ⟨b, 0, none⟩)) ∧ CI u w' b 65536 [] [] noF 0) := fun q hq => ci_new q 65536 (by decide) hq
  have h1 : Hid (∀ q b, CI u q b 65536 [] [] noF 0 → Calls Try.prog 7 #[.pointer (some ⟨b, 0, none⟩), .string ⟨#[120]⟩] q fun e w' => e = .returned (.int .i64 0) ∧ ∃ p, CI u w' b 65536 [] [.cr sX p] noF 1) := fun q b h => by
    refine (ci_create h (by decide) sX s1 may_x rfl (by decide)).mono ?_
    rintro e w' ⟨he, p, _, hc⟩
    rw [upd_noF] at hc
    exact ⟨he, p, hc⟩
  have h2 : Hid (∀ q b p, CI u q b 65536 [] [.cr sX p] noF 1 → Calls Try.prog 8 #[.pointer (some ⟨b, 0, none⟩), .string ⟨#[120]⟩, .slice aa A.length ca] q fun e w' => e = .returned (.tuple #[.int .i64 (A.length : Int), .int .i64 0]) ∧ CI u w' b 65536 [] [.cr sX p] (upd noF p ⟨A, [], 0⟩) 2) := fun q b p h => by
    have := ci_append h (by decide) sX s3 may_x (p := p) (by rw [rn_x]; exact get_one _ _) _ A SA1.out (by rw [rn_x]; have := lA.out; simp [sumL, noF]; omega)
    exact this
  have h3 : Hid (∀ q b p, CI u q b 65536 [] [.cr sX p] (upd noF p ⟨A, [], 0⟩) 2 → Calls Try.prog 9 #[.pointer (some ⟨b, 0, none⟩), .string ⟨#[120]⟩] q fun e w' => e = .returned (.int .i64 0) ∧ CI u w' b 65536 [] [.cr sX p] (upd noF p ⟨A, A, 0⟩) 3) := fun q b p h => by
    have := ci_sync h (by decide) sX s3 may_x (p := p) (by rw [rn_x]; exact get_one _ _)
    rw [upd_same, syF_new, upd_upd] at this
    exact this
  have h4 : Hid (∀ q b p, CI u q b 65536 [] [.cr sX p] (upd noF p ⟨A, A, 0⟩) 3 → Calls Try.prog 10 #[.pointer (some ⟨b, 0, none⟩)] q fun e w' => e = .returned (.int .i64 0) ∧ CI u w' b 65536 [([120], p)] [] (upd noF p ⟨A, A, 0⟩) 4) := fun q b p h => ci_syncDir h (by decide)
  have h5 : Hid (∀ q b p, CI u q b 65536 [([120], p)] [] (upd noF p ⟨A, A, 0⟩) 4 → Calls Try.prog 7 #[.pointer (some ⟨b, 0, none⟩), .string ⟨#[121]⟩] q fun e w' => e = .returned (.int .i64 0) ∧ ∃ r, p ≠ r ∧ CI u w' b 65536 [([120], p)] [.cr sY r] (upd (upd noF p ⟨A, A, 0⟩) r ⟨[], [], 0⟩) 5) := fun q b p h => by
    refine (ci_create h (by decide) sY s2 may_y (by simp [runs, get, sY]) (by rw [rn_0]; simp)).mono ?_
    rintro e w' ⟨he, r, hr, hc⟩
    exact ⟨he, r, fun e => hr (by simp [e]), hc⟩
  have h6 : Hid (∀ q b p r, p ≠ r → CI u q b 65536 [([120], p)] [.cr sY r] (upd (upd noF p ⟨A, A, 0⟩) r ⟨[], [], 0⟩) 5 → Calls Try.prog 8 #[.pointer (some ⟨b, 0, none⟩), .string ⟨#[121]⟩, .slice ab B.length cb] q fun e w' => e = .returned (.tuple #[.int .i64 (B.length : Int), .int .i64 0]) ∧ CI u w' b 65536 [([120], p)] [.cr sY r] (upd (upd noF p ⟨A, A, 0⟩) r ⟨B, [], 0⟩) 6) := fun q b p r hpr h => by
    have := ci_append h (by decide) sY s4 may_y (p := r) (by rw [rn_xy]; simp [get, sY]) _ B SB1.out (by rw [rn_xy]; have := lA.out; have := lB.out; simp [sumL, upd_ne _ _ hpr, upd_same]; omega)
    rw [upd_same, upd_upd] at this
    exact this
  have h7 : Hid (∀ q b p r, CI u q b 65536 [([120], p)] [.cr sY r] (upd (upd noF p ⟨A, A, 0⟩) r ⟨B, [], 0⟩) 6 → Calls Try.prog 9 #[.pointer (some ⟨b, 0, none⟩), .string ⟨#[121]⟩] q fun e w' => e = .returned (.int .i64 0) ∧ CI u w' b 65536 [([120], p)] [.cr sY r] (rnF p r A B) 7) := fun q b p r h => by
    have := ci_sync h (by decide) sY s4 may_y (p := r) (by rw [rn_xy]; simp [get, sY])
    rw [upd_same, syF_new, upd_upd] at this
    exact this
  have h8 : Hid (∀ q b p r, CI u q b 65536 [([120], p)] [.cr sY r] (rnF p r A B) 7 → Calls Try.prog 11 #[.pointer (some ⟨b, 0, none⟩), .string ⟨#[121]⟩, .string ⟨#[120]⟩] q fun e w' => e = .returned (.int .i64 0) ∧ CI u w' b 65536 [([120], p)] [.cr sY r, .rn sY sX] (rnF p r A B) 8) := fun q b p r h => ci_rename h (by decide) sY sX s2 s1 may_y may_x (p := r) (by rw [rn_xy]; simp [get, sY]) (by decide)
  have h9 : Hid (∀ q b p r, CI u q b 65536 [([120], p)] [.cr sY r, .rn sY sX] (rnF p r A B) 8 → Calls Try.prog 10 #[.pointer (some ⟨b, 0, none⟩)] q fun e w' => e = .returned (.int .i64 0) ∧ CI u w' b 65536 [([120], r)] [] (rnF p r A B) 9) := fun q b p r h => ci_syncDir h (by decide)
  have h10 : Hid (∀ q b p r L2 PP c, p ≠ r → c < 100 → ((L2 = [([120], r)] ∧ PP = []) ∨ (L2 = [([120], p)] ∧ PP = [.cr sY r, .rn sY sX])) → CI u q b 65536 L2 PP (rnF p r A B) c → Calls Try.prog 12 #[.pointer (some ⟨b, 0, none⟩), .agg #[.int .i64 d, .slice ak ks.length ck]] q fun e w' => e = .returned (.tuple #[]) ∧ ∃ L3, CI u w' b 65536 L3 [] (rnF p r A B) c ∧ RnP p r d L2 L3) := fun q b p r L2 PP c hpr hc hLP h => by
    obtain ⟨e1, e2⟩ := rn_crash p r A B hpr L2 PP d ks hLP
    refine (ci_crash h (by omega) d n0 n1 _ ks K1.out).mono ?_
    rintro e w' ⟨rfl, hc'⟩
    rw [e1] at hc'
    exact ⟨rfl, _, hc', ⟨e2⟩⟩
  have h11 : Hid (∀ q b p r L3 c x, CI u q b 65536 L3 [] (rnF p r A B) c → get L3 [120] = some x → Calls Try.prog 13 #[.pointer (some ⟨b, 0, none⟩), .string ⟨#[120]⟩] q fun e w' => e = .returned (.tuple #[.int .i64 ((rnF p r A B x).by_.length : Int), .int .i64 0]) ∧ Below q.heap.size q w') := fun q b p r L3 c x h hg => ci_size h sX s3 may_x hg
  have h12 : Hid (∀ q b p r L3 c x, CI u q b 65536 L3 [] (rnF p r A B) c → get L3 [120] = some x → Calls Try.prog 14 #[.pointer (some ⟨b, 0, none⟩), .string ⟨#[120]⟩, .int .i64 0, .int .i64 ((rnF p r A B x).by_.length : Int)] q fun e w' => ∃ v, e = .returned (.tuple #[v, .int .i64 0]) ∧ Ob q.heap.size w' v (rnF p r A B x).by_ ∧ Below q.heap.size q w') := fun q b p r L3 c x h hg => by
    have := ci_read h sX s3 may_x hg (rnF p r A B x).by_.length (Nat.le_refl _)
    rw [List.take_length] at this
    exact this
  have h13 : Hid (∀ q b p r c, CI u q b 65536 [([120], r)] [] (rnF p r A B) c → c < 100 → Calls Try.prog 15 #[.pointer (some ⟨b, 0, none⟩)] q fun e w' => ∃ ao ca, e = .returned (.tuple #[.slice ao 1 ca, .int .i64 0]) ∧ (ca : Int) ≤ 9223372036854775807 ∧ Below q.heap.size q w') := fun q b p r c h hc => ci_list h (by omega)
  clear s1 s2 s3 s4
  go_enter Try.func3, Try.ntmps3
  go_upto_region 1 with fail
  rw [hu.out]
  go_upto_region 9 with (first
    | (go_at_call 5; refine hB.mono ?_; rintro e w0 ⟨rfl, b0⟩; replace b0 := hide b0)
    | (go_at_call 6; refine (hN.out _ b0.out).mono ?_; rintro e w1 ⟨db, rfl, I1⟩; replace I1 := hide I1)
    | (go_at_call 7; refine (h1.out _ _ I1.out).mono ?_; rintro e w2 ⟨rfl, p, I2⟩; replace I2 := hide I2)
    | (go_at_call 8; refine (h2.out _ _ _ I2.out).mono ?_; rintro e w3 ⟨rfl, I3⟩; replace I3 := hide I3))
  clear hB hN h1 h2 b0 I1 I2
  go_upto_region 11 with (first
    | (go_at_call 9; refine (h3.out _ _ _ I3.out).mono ?_; rintro e w4 ⟨rfl, I4⟩; replace I4 := hide I4)
    | (go_at_call 10; refine (h4.out _ _ _ I4.out).mono ?_; rintro e w5 ⟨rfl, I5⟩; replace I5 := hide I5)
    | (go_at_call 7; refine (h5.out _ _ _ I5.out).mono ?_; rintro e w6 ⟨rfl, r, hpr, I6⟩; replace I6 := hide I6; replace hpr := hide hpr))
  clear h3 h4 h5 I3 I4 I5
  have hFp : Hid ((rnF p r A B p).by_ = A) := by show _ = _; unfold rnF; rw [upd_ne _ _ hpr.out, upd_same]
  have hFr : Hid ((rnF p r A B r).by_ = B) := by show _ = _; unfold rnF; rw [upd_same]
  have hne : Hid (¬ ([([120], p)] : Dr) = [([120], r)]) := by intro e; simp at e; exact hpr.out e
  have KB : Hid (∀ (q : World), Below u.heap.size u q → q.heap[w.heap.size]? = some (.cells #[.int .i64 d, .slice ak ks.length ck] 25 (0, 0))) := fun q hq => (hq.block _ (heap_lt hN0.out)).trans hN0.out
  cases sy with
  | true =>
    go_upto_region 16 with (first
      | (go_at_call 8; refine (h6.out _ _ _ _ hpr.out I6.out).mono ?_; rintro e w7 ⟨rfl, I7⟩; replace I7 := hide I7)
      | (go_at_call 9; refine (h7.out _ _ _ _ I7.out).mono ?_; rintro e w8 ⟨rfl, I8⟩; replace I8 := hide I8)
      | (go_at_call 11; refine (h8.out _ _ _ _ I8.out).mono ?_; rintro e w9 ⟨rfl, I9⟩; replace I9 := hide I9)
      | (go_at_call 10; refine (h9.out _ _ _ _ I9.out).mono ?_; rintro e w10 ⟨rfl, I10⟩; replace I10 := hide I10))
    obtain ⟨y0, y1⟩ : w10.cell? ⟨w.heap.size, 0, none⟩ = some (.int .i64 d) ∧ w10.cell? ⟨w.heap.size, 1, none⟩ = some (.slice ak ks.length ck) := by have := KB.out _ I10.out.bel; constructor <;> simp [World.cell?, this]
    go_upto_region 17 with (go_at_call 12; refine (h10.out _ _ _ _ _ _ _ hpr.out (by decide) (.inl ⟨rfl, rfl⟩) I10.out).mono ?_; rintro e w11 ⟨rfl, L3, I11, hL0⟩; replace I11 := hide I11)
    have hL : L3 = [([120], r)] := by have := hL0.out; rw [if_pos (.inl rfl)] at this; exact this
    subst hL
    have hg : Hid (get ([([120], r)] : Dr) [120] = some r) := get_one _ _
    clear hL0 y0 y1
    have hS := h11.out _ _ _ _ _ _ r I11.out hg.out
    rw [hFr.out] at hS
    go_upto_region 18 with (go_at_call 13; refine hS.mono ?_; rintro e w12 ⟨rfl, B12⟩; have I12 := hide (I11.out.below B12); clear B12)
    have hR := h12.out _ _ _ _ _ _ r I12.out hg.out
    rw [hFr.out] at hR
    go_upto_region 21 with (go_at_call 14; refine hR.mono ?_; rintro e w13 ⟨v13, rfl, Q13, B13⟩; replace Q13 := hide Q13; have I13 := hide (I12.out.below B13); clear B13)
    obtain ⟨o13, c13, ev13, _, _⟩ := Q13.out.form
    subst ev13
    have y0 : w13.cell? ⟨w.heap.size, 0, none⟩ = some (.int .i64 d) := by have := KB.out _ I13.out.bel; simp [World.cell?, this]
    go_upto_region 23 with (go_at_call 15; refine (h13.out _ _ _ _ _ I13.out (by decide)).mono ?_; rintro e w14 ⟨o14, c14, rfl, hc14, B14⟩; have I14 := hide (I13.out.below B14); have Q14 := hide (Q13.out.below B14); clear B14)
    have hEq := eqD w14 _ _ _ _ Q14.out.sl (Below.sl I14.out.bel SB1.out)
    rw [show decide (B = B) = true by simp] at hEq
    go_wp2_with (go_at_call 16; refine hEq.mono ?_; rintro e w15 ⟨rfl, B15⟩; replace B15 := hide B15)
    go_ret
    exact ⟨rfl, hb0.out.trans ((I14.out.bel.trans (B15.out.mono I14.out.bel.size)).mono hb0.out.size)⟩
  | false =>
    by_cases hge0 : 2 ≤ d
    · have hge := hide hge0
      go_upto_region 16 with (first
        | (go_at_call 8; refine (h6.out _ _ _ _ hpr.out I6.out).mono ?_; rintro e w7 ⟨rfl, I7⟩; replace I7 := hide I7)
        | (go_at_call 9; refine (h7.out _ _ _ _ I7.out).mono ?_; rintro e w8 ⟨rfl, I8⟩; replace I8 := hide I8)
        | (go_at_call 11; refine (h8.out _ _ _ _ I8.out).mono ?_; rintro e w9 ⟨rfl, I9⟩; replace I9 := hide I9))
      obtain ⟨y0, y1⟩ : w9.cell? ⟨w.heap.size, 0, none⟩ = some (.int .i64 d) ∧ w9.cell? ⟨w.heap.size, 1, none⟩ = some (.slice ak ks.length ck) := by have := KB.out _ I9.out.bel; constructor <;> simp [World.cell?, this]
      go_upto_region 17 with (go_at_call 12; refine (h10.out _ _ _ _ _ _ _ hpr.out (by decide) (.inr ⟨rfl, rfl⟩) I9.out).mono ?_; rintro e w11 ⟨rfl, L3, I11, hL0⟩; replace I11 := hide I11)
      have hL : L3 = [([120], r)] := by have := hL0.out; rw [if_pos (.inr hge.out)] at this; exact this
      subst hL
      have hg : Hid (get ([([120], r)] : Dr) [120] = some r) := get_one _ _
      clear hL0 y0 y1
      have hS := h11.out _ _ _ _ _ _ r I11.out hg.out
      rw [hFr.out] at hS
      go_upto_region 18 with (go_at_call 13; refine hS.mono ?_; rintro e w12 ⟨rfl, B12⟩; have I12 := hide (I11.out.below B12); clear B12)
      have hR := h12.out _ _ _ _ _ _ r I12.out hg.out
      rw [hFr.out] at hR
      go_upto_region 21 with (go_at_call 14; refine hR.mono ?_; rintro e w13 ⟨v13, rfl, Q13, B13⟩; replace Q13 := hide Q13; have I13 := hide (I12.out.below B13); clear B13)
      obtain ⟨o13, c13, ev13, _, _⟩ := Q13.out.form
      subst ev13
      have y0 : w13.cell? ⟨w.heap.size, 0, none⟩ = some (.int .i64 d) := by have := KB.out _ I13.out.bel; simp [World.cell?, this]
      go_upto_region 23 with (go_at_call 15; refine (h13.out _ _ _ _ _ I13.out (by decide)).mono ?_; rintro e w14 ⟨o14, c14, rfl, hc14, B14⟩; have I14 := hide (I13.out.below B14); have Q14 := hide (Q13.out.below B14); clear B14)
      have hEq := eqD w14 _ _ _ _ Q14.out.sl (Below.sl I14.out.bel SB1.out)
      rw [show decide (B = B) = true by simp] at hEq
      go_wp2_with (go_at_call 16; refine hEq.mono ?_; rintro e w15 ⟨rfl, B15⟩; replace B15 := hide B15)
      go_ret
      exact ⟨rfl, hb0.out.trans ((I14.out.bel.trans (B15.out.mono I14.out.bel.size)).mono hb0.out.size)⟩
    · have hge : Hid (¬ 2 ≤ d) := hge0
      go_upto_region 16 with (first
        | (go_at_call 8; refine (h6.out _ _ _ _ hpr.out I6.out).mono ?_; rintro e w7 ⟨rfl, I7⟩; replace I7 := hide I7)
        | (go_at_call 9; refine (h7.out _ _ _ _ I7.out).mono ?_; rintro e w8 ⟨rfl, I8⟩; replace I8 := hide I8)
        | (go_at_call 11; refine (h8.out _ _ _ _ I8.out).mono ?_; rintro e w9 ⟨rfl, I9⟩; replace I9 := hide I9))
      obtain ⟨y0, y1⟩ : w9.cell? ⟨w.heap.size, 0, none⟩ = some (.int .i64 d) ∧ w9.cell? ⟨w.heap.size, 1, none⟩ = some (.slice ak ks.length ck) := by have := KB.out _ I9.out.bel; constructor <;> simp [World.cell?, this]
      go_upto_region 17 with (go_at_call 12; refine (h10.out _ _ _ _ _ _ _ hpr.out (by decide) (.inr ⟨rfl, rfl⟩) I9.out).mono ?_; rintro e w11 ⟨rfl, L3, I11, hL0⟩; replace I11 := hide I11)
      have hL : get L3 [120] = some p := by have := hL0.out; rw [if_neg (by rintro (c | c); exact hne.out c; (have := hge.out; omega))] at this; exact this
      have hg := hide hL
      clear hL
      clear hL0 y0 y1
      have hS := h11.out _ _ _ _ _ _ p I11.out hg.out
      rw [hFp.out] at hS
      go_upto_region 18 with (go_at_call 13; refine hS.mono ?_; rintro e w12 ⟨rfl, B12⟩; have I12 := hide (I11.out.below B12); clear B12)
      have hR := h12.out _ _ _ _ _ _ p I12.out hg.out
      rw [hFp.out] at hR
      go_upto_region 21 with (go_at_call 14; refine hR.mono ?_; rintro e w13 ⟨v13, rfl, Q13, B13⟩; replace Q13 := hide Q13; have I13 := hide (I12.out.below B13); clear B13)
      obtain ⟨o13, c13, ev13, _, _⟩ := Q13.out.form
      subst ev13
      have y0 : w13.cell? ⟨w.heap.size, 0, none⟩ = some (.int .i64 d) := by have := KB.out _ I13.out.bel; simp [World.cell?, this]
      have hEq := eqD w13 _ _ _ _ Q13.out.sl (Below.sl I13.out.bel SA1.out)
      rw [show decide (A = A) = true by simp] at hEq
      go_wp2_with (go_at_call 16; refine hEq.mono ?_; rintro e w15 ⟨rfl, B15⟩; replace B15 := hide B15)
      go_ret
      exact ⟨rfl, hb0.out.trans ((I13.out.bel.trans (B15.out.mono I13.out.bel.size)).mono hb0.out.size)⟩
#print axioms renames_walk
end Go.Proofs.Ytpphjojehfhbkab.Dk
