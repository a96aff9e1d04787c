/-
  A fate in memory of its own.
-/
import Derived.Test.YtjehpijjneghpaaGreatM36
import Derived.Test.YtjehpijjneghpaaGreatM35
import Derived.Test.YtjehpijjneghpaaGreatM30
namespace Go.Proofs.YtjehpijjneghpaaGreat.Re
open Go.RowKit Go.Maps Go.Sort Go.Shelf Go.Proofs.YtjehpijjneghpaaGreat.Nm Go.Proofs.YtjehpijjneghpaaGreat.Dk
open Ix (wp_region_T wpAnyT wpAnyT_take wpAnyT_one wpAnyT_done vac)
set_option linter.unusedVariables false
def kcs : List Kep → List Value → List Value
  | k :: r, u :: us => .int .i64 k.1 :: u :: kcs r us
  | _, _ => []
theorem kcs_snoc : ∀ (L : List Kep) (vs : List Value) (l : Kep) (u : Value), vs.length = L.length → kcs (L ++ [l]) (vs ++ [u]) = kcs L vs ++ [.int .i64 l.1, u]
  | [], [], l, u, _ => rfl
  | a :: r, b :: s, l, u, h => by
    simp only [List.cons_append, kcs]
    rw [kcs_snoc r s l u (by simpa using h)]
  | [], _ :: _, _, _, h => by simp at h
  | _ :: _, [], _, _, h => by simp at h
theorem kcs_at : ∀ (L : List Kep) (vs : List Value), vs.length = L.length → ∀ i k u, L[i]? = some k → vs[i]? = some u → (kcs L vs)[i * 2]? = some (.int .i64 k.1) ∧ (kcs L vs)[i * 2 + 1]? = some u
  | [], [], _, i, k, u, h, _ => by simp at h
  | a :: r, b :: s, h, i, k, u, h1, h2 => by
    cases i with
    | zero => simp at h1 h2; subst h1 h2; exact ⟨rfl, rfl⟩
    | succ i =>
      have := kcs_at r s (by simpa using h) i k u (by simpa using h1) (by simpa using h2)
      rw [show (i + 1) * 2 = i * 2 + 1 + 1 by omega]
      simpa [kcs] using this
  | [], _ :: _, h, _, _, _, _, _ => by simp at h
  | _ :: _, [], h, _, _, _, _, _ => by simp at h
structure LF (B : Nat) (w : World) (v : Value) (ks : List Kep) (vs : List Value) (gs : List Nat) : Prop where
  len : vs.length = ks.length
  len2 : gs.length = ks.length
  row : w.ownsRow B 88 2 v ks.length (kcs ks vs)
  at_ : ∀ (i : Nat) (k : Kep) (u : Value) (g : Nat), ks[i]? = some k → vs[i]? = some u → gs[i]? = some g → LentAt w g u k.2
  lo : ∀ g ∈ gs, B ≤ g
  ap : ∀ (i j g : Nat), i ≠ j → gs[i]? = some g → gs[j]? ≠ some g
  no : ∀ g ∈ gs, v.ownBlock ≠ some g
theorem LF.nil (B : Nat) (w : World) : LF B w (.slice none 0 0) [] [] [] := ⟨rfl, rfl, World.ownsRow_nil _ _ _ _, fun i k u g h => by simp at h, fun g h => (by cases h), fun i j g _ h => by simp at h, fun g h => (by cases h)⟩
theorem lent_but {w w' : World} {g : Nat} {u : Value} {l : List UInt8} {X : Nat → Prop} (h : LentAt w g u l) (hb : But X w w') (hx : ¬ X g) : LentAt w' g u l := by
  obtain ⟨cap, e, hr⟩ := h
  exact ⟨cap, e, ownsRow_but hr hb (fun k hk c => by simp [Value.ownBlock] at hk; subst hk; exact hx c)⟩
theorem LF.but {B : Nat} {w w' : World} {v : Value} {ks : List Kep} {vs : List Value} {gs : List Nat} {X : Nat → Prop} (h : LF B w v ks vs gs) (hb : But X w w') (hx : ∀ k, B ≤ k → k < w.heap.size → ¬ X k) : LF B w' v ks vs gs :=
  ⟨h.len, h.len2, ownsRow_but h.row hb (fun k hk => hx k (World.ownsRow.lt h.row k hk).1 (World.ownsRow.lt h.row k hk).2), fun i k u g h1 h2 h3 => lent_but (h.at_ i k u g h1 h2 h3) hb (hx g (h.lo g (List.mem_of_getElem? h3)) (h.at_ i k u g h1 h2 h3).lt), h.lo, h.ap, h.no⟩
theorem LF.below {B : Nat} {w w' : World} {v : Value} {ks : List Kep} {vs : List Value} {gs : List Nat} (h : LF B w v ks vs gs) (hb : Below w.heap.size w w') : LF B w' v ks vs gs := h.but (But.of_below hb fun _ => False) (fun _ _ _ c => c)
theorem ownsRow_low {w : World} {B B' : Nat} {e : TypeId} {s : Nat} {v : Value} {n : Nat} {xs : List Value} (h : w.ownsRow B e s v n xs) (hb : B' ≤ B) : w.ownsRow B' e s v n xs := by
  obtain ⟨h1, h2 | ⟨g, cap, cur, e1, e2, e3⟩⟩ := h
  · exact ⟨h1, .inl h2⟩
  · exact ⟨h1, .inr ⟨g, cap, cur, e1, Nat.le_trans hb e2, e3⟩⟩
theorem LF.low {B B' : Nat} {w : World} {v : Value} {ks : List Kep} {vs : List Value} {gs : List Nat} (h : LF B w v ks vs gs) (hb : B' ≤ B) : LF B' w v ks vs gs := ⟨h.len, h.len2, ownsRow_low h.row hb, h.at_, fun g hg => Nat.le_trans hb (h.lo g hg), h.ap, h.no⟩
theorem LF.snoc {B : Nat} {w wc w' : World} {v v' : Value} {ks : List Kep} {vs : List Value} {gs : List Nat} {l : Kep} {u : Value} {g : Nat} (h : LF B w v ks vs gs) (hB : B ≤ w.heap.size) (hu : LentAt wc g u l.2) (hg : w.heap.size ≤ g) (hbc : Below w.heap.size w wc)
    (hr : w'.ownsRow B 88 2 v' (ks.length + 1) (kcs ks vs ++ [.int .i64 l.1, u])) (hgr : wc.grownBy w' v.ownBlock) (hv : v'.ownBlock = v.ownBlock ∨ ∃ k, v'.ownBlock = some k ∧ wc.heap.size ≤ k) : LF B w' v' (ks ++ [l]) (vs ++ [u]) (gs ++ [g]) := by
  have hb : But (fun k => v.ownBlock = some k) wc w' := But.of_grownBy hgr fun k e => e
  have vlt : ∀ k, v.ownBlock = some k → k < w.heap.size := fun k hk => (World.ownsRow.lt h.row k hk).2
  have glt : ∀ x ∈ gs, x < w.heap.size := fun x hx => by
    obtain ⟨i, hi, rfl⟩ := List.getElem_of_mem hx
    have h1 : i < ks.length := by rw [← h.len2]; exact hi
    exact (h.at_ i ks[i] (vs[i]'(by rw [h.len]; exact h1)) gs[i] (List.getElem?_eq_getElem h1) (List.getElem?_eq_getElem _) (List.getElem?_eq_getElem hi)).lt
  refine ⟨by rw [List.length_append, List.length_append, h.len]; rfl, by rw [List.length_append, List.length_append, h.len2]; rfl, ?_, fun i k u' g' h1 h2 h3 => ?_, fun x hx => ?_, fun i j x hij h1 h2 => ?_, fun x hx c => ?_⟩
  · rw [List.length_append, kcs_snoc _ _ _ _ h.len]; exact hr
  · by_cases hi : i < ks.length
    · rw [List.getElem?_append_left hi] at h1
      rw [List.getElem?_append_left (by rw [h.len]; exact hi)] at h2
      rw [List.getElem?_append_left (by rw [h.len2]; exact hi)] at h3
      have q := h.at_ i k u' g' h1 h2 h3
      exact lent_but (q.below hbc) hb (h.no g' (List.mem_of_getElem? h3))
    · have hi2 : i = ks.length := by have := (List.getElem?_eq_some_iff.1 h1).1; rw [List.length_append] at this; simp at this; omega
      subst hi2
      rw [List.getElem?_append_right (Nat.le_refl _)] at h1
      rw [List.getElem?_append_right (by rw [h.len]; exact Nat.le_refl _), h.len] at h2
      rw [List.getElem?_append_right (by rw [h.len2]; exact Nat.le_refl _), h.len2] at h3
      simp at h1 h2 h3
      subst h1 h2 h3
      exact lent_but hu hb (fun c => by have := vlt _ c; omega)
  · rcases List.mem_append.1 hx with q | q
    · exact h.lo x q
    · rw [List.mem_singleton.1 q]; omega
  · have key : ∀ i x, (gs ++ [g])[i]? = some x → (i < gs.length ∧ gs[i]? = some x) ∨ (i = gs.length ∧ x = g) := fun i x hx => by
      by_cases hi : i < gs.length
      · rw [List.getElem?_append_left hi] at hx; exact .inl ⟨hi, hx⟩
      · have hi2 : i = gs.length := by have := (List.getElem?_eq_some_iff.1 hx).1; rw [List.length_append] at this; simp at this; omega
        subst hi2
        rw [List.getElem?_append_right (Nat.le_refl _)] at hx
        simp at hx
        exact .inr ⟨rfl, hx.symm⟩
    rcases key i x h1 with ⟨a1, a2⟩ | ⟨a1, a2⟩
    · rcases key j x h2 with ⟨b1, b2⟩ | ⟨b1, b2⟩
      · exact h.ap i j x hij a2 b2
      · have := glt x (List.mem_of_getElem? a2); omega
    · rcases key j x h2 with ⟨b1, b2⟩ | ⟨b1, b2⟩
      · have := glt x (List.mem_of_getElem? b2); omega
      · omega
  · rcases List.mem_append.1 hx with q | q
    · rcases hv with e | ⟨k, e, hk⟩
      · exact h.no x q (by rw [← e]; exact c)
      · have q1 := glt x q
        have q2 := hbc.size
        rw [e] at c
        simp at c
        omega
    · rw [List.mem_singleton.1 q] at c
      rcases hv with e | ⟨k, e, hk⟩
      · have := vlt g (by rw [← e]; exact c); omega
      · have q1 := hu.lt
        rw [e] at c
        simp at c
        omega
theorem infoKe : (Tryz.prog.info? 88).map (fun i => (i.zero, i.size, i.bytes)) = some (some (.agg #[.int .i64 0, .slice none 0 0]), 2, 32) := by kernel_rfl
structure Lx (fb gb : Nat) (d : Int) (vk vc : Value) (kb ko : Nat) (N : Int) (vj : Value) (q : World) : Prop where
  f : q.heap[fb]? = some (.cells #[.int .i64 d, vk] 34 (0, 0))
  g : q.heap[gb]? = some (.cells #[.int .i64 d, vc] 34 (0, 0))
  n : q.cell? ⟨kb, ko, none⟩ = some (.int .i64 N)
  j : q.cell? ⟨kb, ko + 1, none⟩ = some vj
theorem Lx.but {fb gb : Nat} {d : Int} {vk vc : Value} {kb ko : Nat} {N : Int} {vj : Value} {q q' : World} {X : Nat → Prop} (h : Lx fb gb d vk vc kb ko N vj q) (hb : But X q q') (h1 : ¬ X fb) (h2 : ¬ X gb) (h3 : ¬ X kb) : Lx fb gb d vk vc kb ko N vj q' := ⟨hb.at h.f h1, hb.at h.g h2, cell_but h.n hb h3, cell_but h.j hb h3⟩
set_option maxRecDepth 100000 in
set_option maxHeartbeats 2000000 in
theorem lent_fate (w : World) (d : Int) (vk : Value) (ks : List Kep) (hK : Kp (fun k => k < w.heap.size) w vk ks) (hl : ks.length * 32 ≤ 140737488351232) (hj : ∀ k ∈ ks, k.2.length ≤ 140737488351232) :
    Calls Tryz.prog 61 #[.agg #[.int .i64 d, vk]] w fun e w' => ∃ v vs gs, e = .returned (.agg #[.int .i64 d, v]) ∧ LF w.heap.size w' v ks vs gs ∧ Below w.heap.size w w' := by
  obtain ⟨ka, kc, rfl, k1, k2, k3⟩ := id hK
  have k2' : kc ≤ 9223372036854775807 := by unfold maxLen at k2; omega
  replace hK := hide hK
  replace k3 := hide k3
  replace hl := hide hl
  replace hj := hide hj
  obtain ⟨N, hN⟩ : ∃ N, Hid (ks.length = N) := ⟨_, rfl⟩
  rw [hN.out] at k1 hl ⊢
  have B1 := hide (box_below w (.cells #[.int .i64 d, .slice ka N kc] 34))
  have N1 := heap_alloc_new w (.cells #[.int .i64 d, .slice ka N kc] 34)
  obtain ⟨w1, hw1⟩ : ∃ w1, Hid (w.alloc (.cells #[.int .i64 d, .slice ka N kc] 34) = w1) := ⟨_, rfl⟩
  rw [hw1.out] at B1 N1
  have s1 : w1.heap.size = w.heap.size + 1 := by rw [← hw1.out]; simp
  have B2 := hide (box_below w1 (.cells #[.int .i64 0, .slice none 0 0] 34))
  have N2 := heap_alloc_new w1 (.cells #[.int .i64 0, .slice none 0 0] 34)
  obtain ⟨w2, hw2⟩ : ∃ w2, Hid (w1.alloc (.cells #[.int .i64 0, .slice none 0 0] 34) = w2) := ⟨_, rfl⟩
  rw [hw2.out] at B2 N2
  have s2 : w2.heap.size = w.heap.size + 2 := by rw [← hw2.out]; simp [s1]
  have N12 : w2.heap[w.heap.size]? = some (.cells #[.int .i64 d, .slice ka N kc] 34 (0, 0)) := (B2.out.block _ (heap_lt N1)).trans N1
  have c0 : w2.cell? ⟨w.heap.size, 0, none⟩ = some (.int .i64 d) := (two_cells N12).1
  obtain ⟨i0, hi, hz0, hz1, hz2⟩ := info_parts infoKe
  replace hi := hide hi
  clear k2
  go_enter Tryz.func61, Tryz.ntmps61
  go_upto_region 1 with fail
  rw [hw1.out]
  rw [s1] at N2
  rw [hw2.out]
  have B3 := hide (box_below w2 (.cells #[.int .i64 d, .slice none 0 0] 34))
  have N3 := heap_alloc_new w2 (.cells #[.int .i64 d, .slice none 0 0] 34)
  rw [s2] at N3
  go_upto_region 2 with fail
  try rw [s2]
  obtain ⟨w3, hw3⟩ : ∃ w3, Hid (w2.alloc (.cells #[.int .i64 d, .slice none 0 0] 34) = w3) := ⟨_, rfl⟩
  rw [hw3.out] at B3 N3 ⊢
  have s3 : w3.heap.size = w.heap.size + 3 := by rw [← hw3.out]; simp [s2]
  have f3 : Hid (w3.heap[w.heap.size]? = some (.cells #[.int .i64 d, .slice ka N kc] 34 (0, 0))) := (B3.out.block _ (by omega)).trans N12
  have r3 : Hid (w3.heap[w.heap.size + 1]? = some (.cells #[.int .i64 0, .slice none 0 0] 34 (0, 0))) := (B3.out.block _ (by omega)).trans N2
  have bel3 : Hid (Below w.heap.size w w3) := B1.out.trans ((B2.out.trans (B3.out.mono B2.out.size)).mono B1.out.size)
  have K3 := hide (hK.out.below bel3.out)
  replace s3 := hide s3
  clear c0 N1 N2 N12 s1 s2
  go_wp2_with fail
  go_loopw [4] (fun i wr => ∃ k : Nat, i = .int .i64 k ∧ k ≤ N ∧ Hid (∃ vc vs gs, wr.heap[w.heap.size + 2]? = some (.cells #[.int .i64 d, vc] 34 (0, 0)) ∧ LF w3.heap.size wr vc (ks.take k) vs gs ∧ But (fun k => k = w.heap.size + 2) w3 wr)) (fun i _ => N - (intOf i).toNat)
  case atStart => exact ⟨0, rfl, Nat.zero_le _, .slice none 0 0, [], [], N3, LF.nil _ _, But.of_below (Below.refl _ _) _⟩
  case round =>
    obtain ⟨k, rfl, hk, hQ⟩ := hrel
    obtain ⟨vc, vs, gs, gx, hF, hb⟩ := hQ.out
    clear hQ
    have fw : wr.heap[w.heap.size]? = some (.cells #[.int .i64 d, .slice ka N kc] 34 (0, 0)) := hb.at f3.out (by omega)
    have rw_ : Hid (wr.heap[w.heap.size + 1]? = some (.cells #[.int .i64 0, .slice none 0 0] 34 (0, 0))) := hb.at r3.out (by omega)
    obtain ⟨x0, x1⟩ := two_cells fw
    by_cases hlt : k < N
    · have i1 : (k : Int) < (N : Int) := by omega
      have hkl : k < ks.length := by rw [hN.out]; exact hlt
      obtain ⟨ka2, kc2, e3, _, _, kk⟩ := (K3.out.but hb (fun j hj e => by omega))
      simp only [Value.slice.injEq] at e3
      obtain ⟨e31, _, e33⟩ := e3
      subst e31
      subst e33
      obtain ⟨kb, ko, vj, rfl, hkz, n0, n1, hsj, hsi, nb0, nb1⟩ := kk k hkl
      obtain ⟨ja, jc, rfl, _, j3, j4, _⟩ := id hsj
      have hjl := hj.out _ (List.getElem_mem hkl)
      have hsn : Hid (ks.take (k + 1) = ks.take k ++ [ks[k]]) := by show _ = _; rw [List.take_succ_eq_append_getElem hkl]
      have hll : Hid ((ks.take k).length = k) := by show _ = _; rw [List.length_take]; omega
      have SJ := hide hsj
      obtain ⟨ca, cn, cc, rfl⟩ : ∃ ca cn cc, vc = .slice ca cn cc := by rcases hF.row.2 with ⟨e, _⟩ | ⟨g, cap, cur, e, _⟩ <;> exact ⟨_, _, _, e⟩
      generalize hkk : ks[k] = kp at *
      obtain ⟨kn, J⟩ := kp
      dsimp only at n0 n1 SJ nb0 nb1 hjl
      generalize hJ : J.length = jl at *
      replace hF := hide hF
      replace hb := hide hb
      have Z0 : Hid (Lx w.heap.size (w.heap.size + 2) d (.slice (some ⟨kb, ko, none⟩) N kc) (.slice ca cn cc) kb (ko + k * 2) kn (.slice ja jl jc) wr) := ⟨fw, gx, n0, n1⟩
      have hkz2 : Hid (kb < w.heap.size) := hkz
      clear hkk hsj kk nb0 nb1 hsi j3
      go_upto_region 5 with fail
      clear x0 x1
      have KP : Hid (Lx w.heap.size (w.heap.size + 2) d (.slice (some ⟨kb, ko, none⟩) N kc) (.slice ca cn cc) kb (ko + k * 2) kn (.slice ja jl jc) wr.drew) := Z0.out.but (But.of_below (Below.refl _ _).drew fun _ => False) (fun c => c) (fun c => c) (fun c => c)
      have GQ : Hid (Below wr.heap.size wr wr.drew) := (Below.refl _ _).drew
      refine wp_region_T (fun q => Lx w.heap.size (w.heap.size + 2) d (.slice (some ⟨kb, ko, none⟩) N kc) (.slice ca cn cc) kb (ko + k * 2) kn (.slice ja jl jc) q) 19 (by kernel_rfl) ?_
      generalize wr.drew = q at *
      refine Ix.tk 0 ⟨some 15, .fieldAddr 34 (.tmp 3) 1, 0, "law.go:102", #[], none⟩ (.pointer (some ⟨w.heap.size + 2, 1, none⟩)) [1,17,19] ?_ KP.out ?_
      · intro wq hSw; go_simp
      (try simp only [zzp, zza, zzb, zzc])
      refine Ix.tk 1 ⟨some 16, .load 32 (.tmp 15), 32, "law.go:102", #[⟨0,.data⟩], none⟩ (.slice ca cn cc) [17,19] ?_ KP.out ?_
      · intro wq hSw
        obtain ⟨y0, y1⟩ := two_cells hSw.f
        obtain ⟨z0, z1⟩ := two_cells hSw.g
        have t0 := hSw.n
        have t1 := hSw.j
        go_simp
      (try simp only [zzp, zza, zzb, zzc])
      refine Ix.tk 2 ⟨some 17, .fieldAddr 34 (.tmp 1) 1, 0, "law.go:102", #[], none⟩ (.pointer (some ⟨w.heap.size, 1, none⟩)) [3,5,6,7,15,16,17,19] ?_ KP.out ?_
      · intro wq hSw; go_simp
      (try simp only [zzp, zza, zzb, zzc])
      refine Ix.tk 3 ⟨some 18, .load 32 (.tmp 17), 32, "law.go:102", #[⟨2,.data⟩], none⟩ (.slice (some ⟨kb, ko, none⟩) N kc) [5,6,7,15,16,17,19] ?_ KP.out ?_
      · intro wq hSw
        obtain ⟨y0, y1⟩ := two_cells hSw.f
        obtain ⟨z0, z1⟩ := two_cells hSw.g
        have t0 := hSw.n
        have t1 := hSw.j
        go_simp
      (try simp only [zzp, zza, zzb, zzc])
      refine Ix.tk 4 ⟨some 19, .move (.tmp 4), 3, "law.go:102", #[], none⟩ (.int .i64 (k : Int)) [5,6,7,15,16,17,19] ?_ KP.out ?_
      · intro wq hSw; go_simp
      (try simp only [zzp, zza, zzb, zzc])
      refine Ix.tk 5 ⟨some 20, .indexAddr 32 (.tmp 18) (.tmp 19), 0, "law.go:102", #[⟨3,.data⟩,⟨4,.data⟩], none⟩ (.pointer (some ⟨kb, ko + k * 2, none⟩)) [6,7,15,16,17,19] ?_ KP.out ?_
      · intro wq hSw
        obtain ⟨y0, y1⟩ := two_cells hSw.f
        obtain ⟨z0, z1⟩ := two_cells hSw.g
        have t0 := hSw.n
        have t1 := hSw.j
        go_simp
      (try simp only [zzp, zza, zzb, zzc])
      refine Ix.tk 6 ⟨some 21, .fieldAddr 88 (.tmp 20) 0, 0, "law.go:102", #[⟨5,.data⟩], none⟩ (.pointer (some ⟨kb, ko + k * 2, none⟩)) [7,15,16,17,19] ?_ KP.out ?_
      · intro wq hSw; go_simp
      (try simp only [zzp, zza, zzb, zzc])
      refine Ix.tk 7 ⟨some 22, .load 3 (.tmp 21), 3, "law.go:102", #[⟨6,.data⟩], none⟩ (.int .i64 kn) [15,16,17,19] ?_ KP.out ?_
      · intro wq hSw
        obtain ⟨y0, y1⟩ := two_cells hSw.f
        obtain ⟨z0, z1⟩ := two_cells hSw.g
        have t0 := hSw.n
        have t1 := hSw.j
        go_simp
      (try simp only [zzp, zza, zzb, zzc])
      refine Ix.tk 8 ⟨some 23, .fieldAddr 34 (.tmp 1) 1, 0, "law.go:102", #[], none⟩ (.pointer (some ⟨w.heap.size, 1, none⟩)) [9,11,12,13,14,15,16,17,19] ?_ KP.out ?_
      · intro wq hSw; go_simp
      (try simp only [zzp, zza, zzb, zzc])
      refine Ix.tk 9 ⟨some 24, .load 32 (.tmp 23), 32, "law.go:102", #[⟨8,.data⟩], none⟩ (.slice (some ⟨kb, ko, none⟩) N kc) [11,12,13,14,15,16,17,19] ?_ KP.out ?_
      · intro wq hSw
        obtain ⟨y0, y1⟩ := two_cells hSw.f
        obtain ⟨z0, z1⟩ := two_cells hSw.g
        have t0 := hSw.n
        have t1 := hSw.j
        go_simp
      (try simp only [zzp, zza, zzb, zzc])
      refine Ix.tk 10 ⟨some 25, .move (.tmp 4), 3, "law.go:102", #[], none⟩ (.int .i64 (k : Int)) [11,12,13,14,15,16,17,19] ?_ KP.out ?_
      · intro wq hSw; go_simp
      (try simp only [zzp, zza, zzb, zzc])
      refine Ix.tk 11 ⟨some 26, .indexAddr 32 (.tmp 24) (.tmp 25), 0, "law.go:102", #[⟨9,.data⟩,⟨10,.data⟩], none⟩ (.pointer (some ⟨kb, ko + k * 2, none⟩)) [12,13,14,15,16,17,19] ?_ KP.out ?_
      · intro wq hSw
        obtain ⟨y0, y1⟩ := two_cells hSw.f
        obtain ⟨z0, z1⟩ := two_cells hSw.g
        have t0 := hSw.n
        have t1 := hSw.j
        go_simp
      (try simp only [zzp, zza, zzb, zzc])
      refine Ix.tk 12 ⟨some 27, .fieldAddr 88 (.tmp 26) 1, 0, "law.go:102", #[⟨11,.data⟩], none⟩ (.pointer (some ⟨kb, ko + k * 2 + 1, none⟩)) [13,14,15,16,17,19] ?_ KP.out ?_
      · intro wq hSw; go_simp
      (try simp only [zzp, zza, zzb, zzc])
      refine Ix.tk 13 ⟨some 28, .load 30 (.tmp 27), 30, "law.go:102", #[⟨12,.data⟩], none⟩ (.slice ja jl jc) [14,15,16,17,19] ?_ KP.out ?_
      · intro wq hSw
        obtain ⟨y0, y1⟩ := two_cells hSw.f
        obtain ⟨z0, z1⟩ := two_cells hSw.g
        have t0 := hSw.n
        have t1 := hSw.j
        go_simp
      (try simp only [zzp, zza, zzb, zzc])
      refine wpAnyT_one (i := 14) (o := ⟨some 29, .call { callee := .value (.func 45), args := #[.tmp 28], argTypes := #[30] }, 30, "law.go:102", #[⟨13, .data⟩], none⟩) (by kernel_rfl) rfl (fun K hK => ?_)
      go_simp
      go_at_call 45
      refine (lent_any q _ J (by have := Below.sl GQ.out SJ.out; exact this) (by omega)).mono ?_
      rintro e w5 ⟨lg, lv, rfl, LA, LB, LZ⟩
      obtain ⟨lcap, el, lo⟩ := id LA
      subst el
      rw [hJ] at *
      replace LA := hide LA
      replace LB := hide LB
      replace LZ := hide LZ
      have K5 : Hid (Lx w.heap.size (w.heap.size + 2) d (.slice (some ⟨kb, ko, none⟩) N kc) (.slice ca cn cc) kb (ko + k * 2) kn (.slice ja jl jc) w5) := KP.out.but (But.of_below LB.out fun _ => False) (fun c => c) (fun c => c) (fun c => c)
      (try go_simp)
      refine hK.out _ _ (fun _ => K5.out) ?_
      clear hK K lo
      (try simp only [zzp, zza, zzb, zzc])
      refine Ix.tk 15 ⟨some 30, .build 88 #[(0, .tmp 22), (1, .tmp 29)], 88, "law.go:102", #[⟨7,.data⟩,⟨14,.data⟩], none⟩ (.agg #[.int .i64 kn, .slice (some ⟨lg, 0, none⟩) jl lcap]) [16,17,19] ?_ K5.out ?_
      · intro wq hSw
        obtain ⟨y0, y1⟩ := two_cells hSw.f
        obtain ⟨z0, z1⟩ := two_cells hSw.g
        have t0 := hSw.n
        have t1 := hSw.j
        go_simp
      (try simp only [zzp, zza, zzb, zzc])
      have B6 := hide (box_below w5 (.cells #[.int .i64 kn, .slice (some ⟨lg, 0, none⟩) jl lcap] 88))
      have N6 := hide (heap_alloc_new w5 (.cells #[.int .i64 kn, .slice (some ⟨lg, 0, none⟩) jl lcap] 88))
      have K6 : Hid (Lx w.heap.size (w.heap.size + 2) d (.slice (some ⟨kb, ko, none⟩) N kc) (.slice ca cn cc) kb (ko + k * 2) kn (.slice ja jl jc) (w5.alloc (.cells #[.int .i64 kn, .slice (some ⟨lg, 0, none⟩) jl lcap] 88))) := K5.out.but (But.of_below B6.out fun _ => False) (fun c => c) (fun c => c) (fun c => c)
      have W6 : Hid (Below wr.heap.size wr (w5.alloc (.cells #[.int .i64 kn, .slice (some ⟨lg, 0, none⟩) jl lcap] 88))) := (GQ.out.trans (LB.out.mono GQ.out.size)).trans (B6.out.mono (Nat.le_trans GQ.out.size LB.out.size))
      have L6 : Hid (LentAt (w5.alloc (.cells #[.int .i64 kn, .slice (some ⟨lg, 0, none⟩) jl lcap] 88)) lg (.slice (some ⟨lg, 0, none⟩) jl lcap) J) := LA.out.below B6.out
      refine wpAnyT_one (i := 16) (o := ⟨some 31, .buildSlice 32 1 #[(0, .tmp 30)], 32, "law.go:102", #[⟨15, .data⟩], none⟩) (by kernel_rfl) rfl (fun K hK => ?_)
      go_simp
      refine hK.out _ _ (fun _ => K6.out) ?_
      clear hK K
      (try simp only [zzp, zza, zzb, zzc])
      generalize hne : w5.heap.size = ne at *
      generalize (w5.alloc (.cells #[.int .i64 kn, .slice (some ⟨lg, 0, none⟩) jl lcap] 88)) = w6 at *
      have R6 := hide (hF.out.below W6.out).row
      have w3z : Hid (w3.heap.size ≤ wr.heap.size) := hb.out.size
      have z6 : Hid (w3.heap.size ≤ w6.heap.size) := Nat.le_trans hb.out.size W6.out.size
      refine wpAnyT_one (i := 17) (o := ⟨some 32, .call { callee := .builtin .append, args := #[.tmp 16, .tmp 31], argTypes := #[32, 32] }, 32, "law.go:102", #[⟨1, .data⟩, ⟨16, .data⟩, ⟨14, .chain⟩], none⟩) (by kernel_rfl) rfl (fun K hK => ?_)
      refine step_append_lies _ rfl (.tmp 16) (.tmp 31) 32 rfl w3.heap.size 88 i0 (.agg #[.int .i64 0, .slice none 0 0]) 2 32 Tryz.underlying32 hi.out hz0 hz1 hz2 rfl (by decide) (.slice ca cn cc) (ks.take k).length (kcs (ks.take k) vs) (by simp [Act.eval]) R6.out ⟨ne, 0, none⟩ 1 1 [.int .i64 kn, .slice (some ⟨lg, 0, none⟩) jl lcap] (by simp [Act.eval]) rfl (two_new N6.out) (by simp [Value.oneCell']) (by decide) (by have := hll.out; have := hl.out; unfold maxLen; omega) (by have := hll.out; have := hl.out; omega) z6.out w6.heap.size rfl ?_
      intro g2 cap2 w8 ho8 hg8 hat hlt8
      have b8 : But (fun j => (Value.slice ca cn cc).ownBlock = some j) w6 w8 := But.of_grownBy hg8 fun j e => e
      have nob : ∀ j, (Value.slice ca cn cc).ownBlock = some j → w.heap.size + 3 ≤ j := fun j hj => by have q1 := (World.ownsRow.lt R6.out j hj).1; have q2 := s3.out; omega
      have K8 : Hid (Lx w.heap.size (w.heap.size + 2) d (.slice (some ⟨kb, ko, none⟩) N kc) (.slice ca cn cc) kb (ko + k * 2) kn (.slice ja jl jc) w8) := K6.out.but b8 (fun c => by have := nob _ c; omega) (fun c => by have := nob _ c; omega) (fun c => by have q1 := nob _ c; have q2 := hkz2.out; omega)
      have F8 : Hid (LF w3.heap.size w8 (.slice (some ⟨g2, 0, none⟩) ((ks.take k).length + 1) cap2) (ks.take k ++ [(kn, J)]) (vs ++ [.slice (some ⟨lg, 0, none⟩) jl lcap]) (gs ++ [lg])) := by
        refine hF.out.snoc w3z.out L6.out (by have q1 := LZ.out; have q2 := GQ.out.size; omega) W6.out ho8 hg8 ?_
        rcases hat with e | e
        · exact .inl (by rw [e]; rfl)
        · exact .inr ⟨g2, rfl, by rw [e]; exact Nat.le_refl _⟩
      have b38 : Hid (But (fun j => j = w.heap.size + 2) w3 w8) := by
        have h1 := hb.out.trans (But.of_below W6.out _)
        exact but_trans_new h1 b8 (fun j c => .inr (World.ownsRow.lt R6.out j c).1)
      refine hK.out _ _ (fun _ => K8.out) ?_
      clear hK K
      (try simp only [zzp, zza, zzb, zzc])
      refine Ix.tk 18 ⟨some 33, .fieldAddr 34 (.tmp 3) 1, 0, "law.go:102", #[⟨0,.phase⟩,⟨1,.phase⟩,⟨2,.phase⟩,⟨3,.phase⟩,⟨4,.phase⟩,⟨5,.phase⟩,⟨6,.phase⟩,⟨7,.phase⟩,⟨8,.phase⟩,⟨9,.phase⟩,⟨10,.phase⟩,⟨11,.phase⟩,⟨12,.phase⟩,⟨13,.phase⟩,⟨14,.phase⟩,⟨15,.phase⟩,⟨16,.phase⟩,⟨17,.phase⟩], none⟩ (.pointer (some ⟨w.heap.size + 2, 1, none⟩)) [19] ?_ K8.out ?_
      · intro wq hSw; go_simp
      (try simp only [zzp, zza, zzb, zzc])
      obtain ⟨z0, z1⟩ := two_cells K8.out.g
      have fz : w8.frozen? ⟨w.heap.size + 2, 1, none⟩ = false := by simp [World.frozen?, K8.out.g]
      have h9 := heap_setCell_same w8 (w.heap.size + 2) 1 _ _ (.slice (some ⟨g2, 0, none⟩) ((ks.take k).length + 1) cap2) K8.out.g
      have g9 := But.of_grownBy (X := fun j => j = w.heap.size + 2) (grown_setCell w8 (w.heap.size + 2) 1 (.slice (some ⟨g2, 0, none⟩) ((ks.take k).length + 1) cap2)) fun j e => by cases e; rfl
      have F9 := hide (F8.out.but g9 (fun j h1 _ e => by have := s3.out; omega))
      have b39 := hide (b38.out.trans g9)
      replace h9 := hide h9
      rw [hll.out] at F9 b39 h9
      rw [hll.out]
      refine wpAnyT_one (i := 19) (o := ⟨none, .store 32 (.tmp 33) (.tmp 32), 0, "law.go:102", #[⟨18, .data⟩, ⟨17, .data⟩, ⟨17, .chain⟩, ⟨0, .phase⟩, ⟨1, .phase⟩, ⟨2, .phase⟩, ⟨3, .phase⟩, ⟨4, .phase⟩, ⟨5, .phase⟩, ⟨6, .phase⟩, ⟨7, .phase⟩, ⟨8, .phase⟩, ⟨9, .phase⟩, ⟨10, .phase⟩, ⟨11, .phase⟩, ⟨12, .phase⟩, ⟨13, .phase⟩, ⟨14, .phase⟩, ⟨15, .phase⟩, ⟨16, .phase⟩, ⟨17, .phase⟩], none⟩) (by kernel_rfl) rfl (fun K hK => ?_)
      go_simp
      refine hK.out _ _ (vac (by kernel_rfl)) ?_
      clear hK K z0 z1 fz g9
      (try simp only [zzq])
      refine wpAnyT_done (by kernel_rfl) ?_ _
      go_wp2_with fail
      go_roundw
      case rel =>
        refine ⟨k + 1, by go_num, by omega, .slice (some ⟨g2, 0, none⟩) (k + 1) cap2, vs ++ [.slice (some ⟨lg, 0, none⟩) jl lcap], gs ++ [lg], ?_, ?_, b39.out⟩
        · exact h9.out
        · rw [hsn.out]; exact F9.out
      case measure => simp [intOf]; omega
    · have i1 : ¬ ((k : Int) < (N : Int)) := by omega
      obtain rfl : k = N := by omega
      rw [List.take_of_length_le (by rw [hN.out]; omega)] at hF
      have FF := hide hF
      obtain ⟨ca, cn, cc, rfl⟩ : ∃ ca cn cc, vc = .slice ca cn cc := by rcases hF.row.2 with ⟨e, _⟩ | ⟨g, cap, cur, e, _⟩ <;> exact ⟨_, _, _, e⟩
      obtain ⟨g0, g1⟩ := two_cells gx
      obtain ⟨y1, y2, y3, y4, y5, y6, y7, y8⟩ := two_store (.int .i64 d) (.slice ca cn cc) rw_.out
      replace y6 := hide y6
      replace y5 := hide y5
      replace hb := hide hb
      clear hF gx fw
      go_wp2_with fail
      try simp only [Exit.inBlock, Exit.then]
      refine bodyPost_ret (v := .agg #[.int .i64 d, .slice ca cn cc]) (by simp [results, Tryz.results61, go_sem, y7, y8]; try rfl) rfl ?_
      have bw : Below w.heap.size w wr := but_new bel3.out hb.out (by omega)
      have F2 := FF.out.but y6.out (fun k h1 _ e => by have := s3.out; omega)
      have F3 := F2.low (B' := w.heap.size) (by have := s3.out; omega)
      have b3 := but_new bw y6.out (by omega)
      first | exact ⟨_, rfl, ⟨vs, gs, F3⟩, b3⟩ | exact ⟨_, ⟨rfl, vs, gs, F3⟩, b3⟩ | exact ⟨_, rfl, ⟨⟨vs, gs, F3⟩, b3⟩⟩ | exact ⟨_, ⟨rfl, ⟨vs, gs, F3⟩⟩, b3⟩
end Go.Proofs.YtjehpijjneghpaaGreat.Re
