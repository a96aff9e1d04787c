/-
  The document's disk: lists of entries; find, without.
-/
import Derived.Test.YtjehpijjneghpaaGreatK17
import Derived.Test.YtjehpijjneghpaaGreatK11
namespace Go.Proofs.YtjehpijjneghpaaGreat.Re
open Go.RowKit Go.Maps Go.Sort Go.Shelf Go.Proofs.YtjehpijjneghpaaGreat.Nm Go.Proofs.YtjehpijjneghpaaGreat.Dk
set_option linter.unusedVariables false
theorem bs_eq (n : List UInt8) (s : ByteArray) : bsOf n = s ↔ n = s.data.toList := by
  constructor
  · rintro rfl; rfl
  · intro e
    subst e
    rfl
theorem str_ne {n : List UInt8} {s : ByteArray} (h : n ≠ s.data.toList) : ((bsOf n).toList == s.toList) = false := by
  rw [ByteArray.toList_eq, ByteArray.toList_eq, bsOf_list]
  simpa using h
def findN (L : Dr) (n : List UInt8) : Int := match get L n with | some p => (p : Int) | none => -1
theorem get_take {L : Dr} {n : List UInt8} {k : Nat} (hk : k < L.length) (h : ∀ j (hj : j < k), (L[j]'(by omega)).1 ≠ n) (e : L[k].1 = n) : get L n = some L[k].2 := by
  unfold Dk.get
  have : L.find? (fun p => p.1 == n) = some L[k] := by
    rw [List.find?_eq_some_iff_getElem]
    refine ⟨by simp [e], k, hk, rfl, fun j hj => ?_⟩
    simpa using h j hj
  rw [this]
  rfl
theorem get_none_of {L : Dr} {n : List UInt8} (h : ∀ j (hj : j < L.length), (L[j]).1 ≠ n) : get L n = none := by
  unfold Dk.get
  have : L.find? (fun p => p.1 == n) = none := by
    rw [List.find?_eq_none]
    intro x hx
    obtain ⟨j, hj, rfl⟩ := List.getElem_of_mem hx
    simpa using h j hj
  rw [this]
  rfl
set_option maxRecDepth 100000 in
set_option maxHeartbeats 1000000 in
theorem find_ref (w : World) (v : Value) (L : Dr) (s : ByteArray) (hv : Tr w v L) :
    Calls Tryz.prog 96 #[v, .string s] w fun e w' => e = .returned (.int .i64 (findN L s.data.toList)) ∧ w' = w := by
  obtain ⟨R, hR⟩ : ∃ R, Hid (findN L s.data.toList = R) := ⟨_, rfl⟩
  rw [hR.out]
  obtain ⟨ao, ca, rfl, q1, q2, q3⟩ := hv
  obtain ⟨N, hN⟩ : ∃ N, Hid (L.length = N) := ⟨_, rfl⟩
  rw [hN.out] at q1 ⊢
  replace q3 := hide q3
  go_enter Tryz.func96, Tryz.ntmps96
  go_wp2_with fail
  go_loopw [5] (fun i wr => ∃ k : Nat, i = .int .i64 k ∧ k ≤ N ∧ Hid (∀ j (hj : j < L.length), j < k → (L[j]).1 ≠ s.data.toList) ∧ wr = w) (fun i _ => N - (intOf i).toNat)
  case atStart => exact ⟨0, rfl, Nat.zero_le _, fun j hj c => absurd c (by omega), rfl⟩
  case round =>
    obtain ⟨k, rfl, hk, hno, rfl⟩ := hrel
    by_cases hlt : k < N
    · have i1 : (k : Int) < (N : Int) := by omega
      have hkl : k < L.length := by rw [hN.out]; exact hlt
      obtain ⟨gb, off, rfl, c0, c1⟩ := q3.out k hkl
      have hb := bs_eq L[k].1 s
      by_cases he : bsOf L[k].1 = s
      · have hg : Hid (R = (L[k].2 : Int)) := by
          show _ = _
          rw [← hR.out, findN, get_take hkl (fun j hj => hno.out j (by omega) hj) (hb.1 he)]
        rw [he] at c0
        go_wp2_with fail
        go_ret
        rw [hg.out]
        exact ⟨rfl, rfl⟩
      · have he2 : L[k].1 ≠ s.data.toList := fun c => he (hb.2 c)
        have h2 : Hid (∀ j (hj : j < L.length), j < k + 1 → (L[j]).1 ≠ s.data.toList) := fun j hj c => by
          by_cases e : j = k
          · subst e; exact he2
          · exact hno.out j hj (by omega)
        have hq : ((bsOf L[k].1).toList == s.toList) = false := str_ne he2
        clear hb
        generalize bsOf L[k].1 = t at *
        go_wp2_with fail
        exact ⟨⟨k + 1, by go_num, by omega, h2, trivial⟩, by simp [intOf]; omega⟩
    · have hg : Hid (R = -1) := by
        show _ = _
        rw [← hR.out, findN, get_none_of (fun j hj => hno.out j hj (by have := hN.out; omega))]
      go_wp2_with fail
      go_ret
      rw [hg.out]
      exact ⟨rfl, rfl⟩
def En (B : Nat) (w : World) (v : Value) (L : Dr) : Prop := w.ownsRow B 142 2 v L.length (tcells L)
theorem infoEn : (Tryz.prog.info? 142).map (fun i => (i.zero, i.size, i.bytes)) = some (some (.agg #[.string ⟨#[]⟩, .int .i64 0]), 2, 24) := by kernel_rfl
theorem En.nil (B : Nat) (w : World) : En B w (.slice none 0 0) [] := World.ownsRow_nil _ _ _ _
theorem En.tr {B : Nat} {w : World} {v : Value} {L : Dr} (h : En B w v L) : Tr w v L := by
  have h0 := h
  rcases h.2 with ⟨rfl, e⟩ | ⟨g, cap, cur, rfl, _, _, a, b, _⟩
  · have : L = [] := List.length_eq_zero_iff.1 e
    subst this
    exact ⟨none, 0, rfl, Nat.le_refl _, by omega, fun i hi => by simp at hi⟩
  · refine ⟨_, _, rfl, a, by unfold maxLen at b; omega, fun i hi => ⟨g, 0, rfl, ?_, ?_⟩⟩
    · have := World.ownsRow.cells h0 (g := g) rfl (i * 2) _ (tcells_at L i hi).1
      rw [addr_add] at this
      exact this
    · have := World.ownsRow.cells h0 (g := g) rfl (i * 2 + 1) _ (tcells_at L i hi).2
      rw [addr_add] at this
      exact this
theorem En.below {B : Nat} {w w' : World} {v : Value} {L : Dr} (h : En B w v L) (hb : Below w.heap.size w w') : En B w' v L := owns_belowN h hb
theorem ddel_take_keep {L : Dr} {n : List UInt8} {k : Nat} (hk : k < L.length) (e : L[k].1 ≠ n) : ddel (L.take (k + 1)) n = ddel (L.take k) n ++ [L[k]] := by
  unfold ddel
  rw [List.take_succ_eq_append_getElem hk, List.filter_append]
  simp [e]
theorem ddel_take_drop {L : Dr} {n : List UInt8} {k : Nat} (hk : k < L.length) (e : L[k].1 = n) : ddel (L.take (k + 1)) n = ddel (L.take k) n := by
  unfold ddel
  rw [List.take_succ_eq_append_getElem hk, List.filter_append]
  simp [e]
theorem ddel_len (L : Dr) (n : List UInt8) : (ddel L n).length ≤ L.length := List.length_filter_le _ _
theorem one_entry (w : World) (s : ByteArray) (n : Int) (t : TypeId) : ∀ j u, ([Value.string s, .int .i64 n] : List Value)[j]? = some u → (w.alloc (.cells #[.string s, .int .i64 n] t)).cell? ((⟨w.heap.size, 0, none⟩ : Addr).add j) = some u := by
  intro j u hu
  rw [addr_add]
  match j with
  | 0 => simp at hu; subst hu; simp only [World.cell?, heap_alloc_new]; rfl
  | 1 => simp at hu; subst hu; simp only [World.cell?, heap_alloc_new]; rfl
  | j + 2 => simp at hu
set_option maxRecDepth 100000 in
set_option maxHeartbeats 1000000 in
theorem without_ref (w : World) (v : Value) (L : Dr) (s : ByteArray) (hv : Tr w v L) (hl : (L.length : Int) ≤ 1000000000) :
    Calls Tryz.prog 122 #[v, .string s] w fun e w' => ∃ v', e = .returned v' ∧ En w.heap.size w' v' (ddel L s.data.toList) ∧ Below w.heap.size w w' := by
  obtain ⟨ao, ca, rfl, q1, q2, q3⟩ := hv
  obtain ⟨N, hN⟩ : ∃ N, Hid (L.length = N) := ⟨_, rfl⟩
  rw [hN.out] at q1 hl ⊢
  replace q3 := hide q3
  replace hl := hide hl
  obtain ⟨i0, hi, hz0, hz1, hz2⟩ := info_parts infoEn
  replace hi := hide hi
  go_enter Tryz.func122, Tryz.ntmps122
  go_wp2_with fail
  go_loopw [5, 6] (fun v5 i wr => ∃ k : Nat, i = .int .i64 k ∧ k ≤ N ∧ Hid (En w.heap.size wr v5 (ddel (L.take k) s.data.toList)) ∧ Hid (Below w.heap.size w wr)) (fun _ i _ => N - (intOf i).toNat)
  case atStart => exact ⟨0, rfl, Nat.zero_le _, En.nil _ _, Below.refl _ _⟩
  case round =>
    obtain ⟨k, rfl, hk, hO, hB⟩ := hrel
    by_cases hlt : k < N
    · have i1 : (k : Int) < (N : Int) := by omega
      have hkl : k < L.length := by rw [hN.out]; exact hlt
      obtain ⟨gb, off, rfl, c0, c1⟩ := q3.out k hkl
      rw [← hB.out.cell (p := ⟨gb, off + k * 2, none⟩) (lt_of_cell c0)] at c0
      rw [← hB.out.cell (p := ⟨gb, off + k * 2 + 1, none⟩) (lt_of_cell c1)] at c1
      have hb := bs_eq L[k].1 s
      by_cases he : bsOf L[k].1 = s
      · have hg := hide (ddel_take_drop hkl (hb.1 he))
        rw [he] at c0
        go_wp2_with fail
        exact ⟨⟨k + 1, by go_num, by omega, by rw [hg.out]; exact hO, hB⟩, by simp [intOf]; omega⟩
      · have hg := hide (ddel_take_keep hkl (fun c => he (hb.2 c)))
        have hll : Hid ((ddel (L.take k) s.data.toList).length ≤ k) := by have := ddel_len (L.take k) s.data.toList; rw [List.length_take] at this; show _ ≤ _; omega
        have hte : Hid (tcells [L[k]] = [.string (bsOf L[k].1), .int .i64 (L[k].2 : Int)]) := rfl
        have hq : ((bsOf L[k].1).toList == s.toList) = false := str_ne (fun c => he (hb.2 c))
        clear hb
        generalize bsOf L[k].1 = t at *
        generalize (L[k].2 : Int) = fn at *
        generalize L[k] = lk at *
        obtain ⟨D, hD⟩ : ∃ D, Hid (ddel (L.take k) s.data.toList = D) := ⟨_, rfl⟩
        rw [hD.out] at hO hg hll
        have B5 := hide (hB.out.trans ((box_below wr (.cells #[.string t, .int .i64 fn] 142)).mono hB.out.size))
        have O5 := hide (hO.out.below (box_below wr (.cells #[.string t, .int .i64 fn] 142)))
        have hz := hide B5.out.size
        go_wp2_with (at_builtin; refine wpList_append_lies _ rfl (.tmp 20) (.tmp 25) 100 rfl w.heap.size 142 i0 (.agg #[.string ⟨#[]⟩, .int .i64 0]) 2 24 Tryz.underlying100 hi.out hz0 hz1 hz2 rfl (by decide) u5 D.length (tcells D) rfl O5.out ⟨wr.heap.size, 0, none⟩ 1 1 [.string t, .int .i64 fn] rfl rfl (one_entry wr t fn _) (by simp [Value.oneCell']) (by decide) (by have := hll.out; have := hl.out; unfold maxLen; omega) (by have := hll.out; have := hl.out; omega) hz.out (wr.heap.size + 1) (by simp) ?_; intro g2 cap2 w5 ho5 hg5 hat hlt5; replace ho5 := hide ho5; replace hg5 := hide hg5)
        refine ⟨⟨k + 1, by go_num, by omega, ?_, Below.grown B5.out hg5.out hz.out (fun j hj => (World.ownsRow.lt O5.out j hj).1)⟩, by simp [intOf]; omega⟩
        show En _ _ _ _
        unfold En
        rw [hg.out, List.length_append, show tcells (D ++ [lk]) = tcells D ++ tcells [lk] by simp [tcells], hte.out]
        exact ho5.out
    · obtain rfl : k = N := by omega
      rw [List.take_of_length_le (by rw [hN.out]; omega)] at hO
      go_wp2_with fail
      go_ret
      exact ⟨_, rfl, hO.out, hB.out⟩
end Go.Proofs.YtjehpijjneghpaaGreat.Re
namespace Go.Proofs.YtjehpijjneghpaaGreat.Re
open Go.RowKit Go.Maps Go.Sort Go.Shelf Go.Proofs.YtjehpijjneghpaaGreat.Nm Go.Proofs.YtjehpijjneghpaaGreat.Dk
set_option linter.unusedVariables false
theorem less_before : ∀ (x y : List UInt8), Op.bytesLess x y = bytesBefore x y
  | [], [] => rfl
  | _ :: _, [] => rfl
  | [], _ :: _ => rfl
  | a :: x, b :: y => by rw [Op.bytesLess, bytesBefore, less_before x y]
theorem before_asym {x y : List UInt8} (h : bytesBefore x y = true) : bytesBefore y x = false := by
  by_cases c : bytesBefore y x = true
  · have := Go.WideShapes.bytes_trans x y x h c
    rw [Go.WideAt.bytes_irrefl] at this
    cases this
  · simpa using c
theorem dins_at (n : List UInt8) (p : Nat) : ∀ (D : Dr) (k : Nat), k ≤ D.length → (∀ j (hj : j < D.length), j < k → bytesBefore (D[j]).1 n = true) → (∀ hk : k < D.length, bytesBefore n (D[k]).1 = true) → dins (n, p) D = D.take k ++ (n, p) :: D.drop k := by
  intro D
  induction D with
  | nil => intro k hk _ _; simp at hk; subst hk; rfl
  | cons y r ih =>
    intro k hk h1 h2
    cases k with
    | zero =>
      have := h2 (by simp)
      simp only [List.getElem_cons_zero] at this
      simp [dins, this]
    | succ k =>
      have h0 := before_asym (h1 0 (by simp) (by omega))
      simp only [List.getElem_cons_zero] at h0
      have := ih k (by simpa using hk) (fun j hj hjk => h1 (j + 1) (by simp; omega) (by omega)) (fun hk' => h2 (by simp; omega))
      simp [dins, h0, this]
structure Er (w : World) (v : Value) (L : Dr) : Prop where
  tr : Tr w v L
  nl : ∀ n c, v = .slice none n c → n = 0 ∧ c = 0
theorem En.er {B : Nat} {w : World} {v : Value} {L : Dr} (h : En B w v L) : Er w v L := by
  refine ⟨h.tr, fun n c e => ?_⟩
  rcases h.2 with ⟨rfl, _⟩ | ⟨g, cap, cur, rfl, _⟩
  · simp only [Value.slice.injEq] at e; omega
  · simp at e
theorem Er.below {w w' : World} {v : Value} {L : Dr} (h : Er w v L) (hb : Below w.heap.size w w') : Er w' v L := ⟨h.tr.below hb, h.nl⟩
theorem run_appE {B : Nat} {w : World} {v vx : Value} {l m : Dr} (h : En B w v l) (hm : Er w vx m) (hl : ((l.length + m.length : Nat) : Int) ≤ 3000000000) (hB : B ≤ w.heap.size) (ty : TypeId) :
    ∃ v' w', (Builtin.append_ #[100, 100] ty #[v, vx]).run Tryz.prog w = .ok v' w' ∧ En B w' v' (l ++ m) ∧ w.grownBy w' v.ownBlock := by
  obtain ⟨i0, hi, hz0, hz1, hz2⟩ := info_parts infoEn
  obtain ⟨⟨ao, cap, rfl, h1, h2, h3⟩, hnl⟩ := hm
  cases ao with
  | none =>
    obtain ⟨e1, rfl⟩ := hnl _ _ rfl
    have : m = [] := List.length_eq_zero_iff.1 e1
    subst this
    refine ⟨v, w, ?_, by simpa using h, ⟨rfl, rfl, rfl, Nat.le_refl _, fun _ _ _ => rfl⟩⟩
    exact run_append_owned_none (P := Tryz.prog) (w := w) B 100 ty 142 i0 2 Tryz.underlying100 hi v l.length (tcells l) h
  | some ad =>
    have hcells : ∀ j u, (tcells m)[j]? = some u → w.cell? (ad.add j) = some u := by
      intro j u hu
      have hj : j < m.length * 2 := by
        have := (List.getElem?_eq_some_iff.1 hu).1
        rw [tcells_len] at this
        exact this
      obtain ⟨b, off, e1, c0, c1⟩ := h3 (j / 2) (by omega)
      obtain ⟨t0, t1⟩ := tcells_at m (j / 2) (by omega)
      simp only [Option.some.injEq] at e1
      subst e1
      rw [addr_add]
      rcases Nat.mod_two_eq_zero_or_one j with q | q
      · rw [show j = j / 2 * 2 by omega] at hu ⊢
        rw [t0] at hu
        simp only [Option.some.injEq] at hu
        subst hu
        exact c0
      · rw [show j = j / 2 * 2 + 1 by omega] at hu ⊢
        rw [t1] at hu
        simp only [Option.some.injEq] at hu
        subst hu
        rw [← Nat.add_assoc]
        exact c1
    obtain ⟨v', w', hr, ho, hg, _, hat⟩ := run_append_own_at (P := Tryz.prog) w B 100 ty 142 i0 (.agg #[.string ⟨#[]⟩, .int .i64 0]) 2 24 Tryz.underlying100 hi hz0 hz1 hz2 rfl (by decide) v l.length (tcells l) h ad m.length cap (tcells m) (tcells_len m) hcells (by
      intro u hu
      simp only [tcells, List.mem_flatten, List.mem_map] at hu
      obtain ⟨c, ⟨e, _, rfl⟩, hc⟩ := hu
      simp at hc
      rcases hc with rfl | rfl <;> rfl) (by unfold maxLen; omega) (by omega) hB
    refine ⟨v', w', hr, ?_, hg⟩
    unfold En
    rw [List.length_append, show tcells (l ++ m) = tcells l ++ tcells m by simp [tcells]]
    exact ho
theorem En.lt {B : Nat} {w : World} {v : Value} {L : Dr} (h : En B w v L) : ∀ k, v.ownBlock = some k → B ≤ k ∧ k < w.heap.size := fun k hk => World.ownsRow.lt h k hk
theorem En.form {B : Nat} {w : World} {v : Value} {L : Dr} (h : En B w v L) : (v = .slice none 0 0 ∧ L = []) ∨ ∃ g cap, v = .slice (some ⟨g, 0, none⟩) L.length cap ∧ L.length ≤ cap ∧ cap ≤ 9223372036854775807 := by
  rcases h.2 with ⟨rfl, e⟩ | ⟨g, cap, cur, rfl, _, _, a, b, _⟩
  · exact .inl ⟨rfl, List.length_eq_zero_iff.1 e⟩
  · exact .inr ⟨g, cap, rfl, a, by unfold maxLen at b; omega⟩
theorem Er.front {w : World} {g cap : Nat} {L : Dr} (h : Tr w (.slice (some ⟨g, 0, none⟩) L.length cap) L) {k : Nat} (hk : k ≤ L.length) : Er w (.slice (some ⟨g, 0, none⟩) k cap) (L.take k) := by
  obtain ⟨ao, ca, e, h1, h2, h3⟩ := h
  simp only [Value.slice.injEq] at e
  obtain ⟨rfl, _, rfl⟩ := e
  refine ⟨⟨_, _, by rw [List.length_take, Nat.min_eq_left hk], by rw [List.length_take]; omega, h2, fun i hi => ?_⟩, fun n c e => by simp at e⟩
  rw [List.length_take] at hi
  obtain ⟨b, off, e1, c0, c1⟩ := h3 i (by omega)
  rw [List.getElem_take]
  exact ⟨b, off, e1, c0, c1⟩
theorem Er.rest {w : World} {g cap : Nat} {L : Dr} (h : Tr w (.slice (some ⟨g, 0, none⟩) L.length cap) L) {k : Nat} (hk : k ≤ L.length) : Er w (.slice (some ⟨g, k * 2, none⟩) (L.length - k) (cap - k)) (L.drop k) := by
  obtain ⟨ao, ca, e, h1, h2, h3⟩ := h
  simp only [Value.slice.injEq] at e
  obtain ⟨rfl, _, rfl⟩ := e
  refine ⟨⟨_, _, by rw [List.length_drop], by rw [List.length_drop]; omega, by omega, fun i hi => ?_⟩, fun n c e => by simp at e⟩
  rw [List.length_drop] at hi
  obtain ⟨b, off, e1, c0, c1⟩ := h3 (k + i) (by omega)
  simp only [Option.some.injEq, Addr.mk.injEq] at e1
  obtain ⟨rfl, rfl, _⟩ := e1
  rw [List.getElem_drop]
  refine ⟨g, k * 2, rfl, ?_, ?_⟩
  · rw [show k * 2 + i * 2 = 0 + (k + i) * 2 by omega]; exact c0
  · rw [show k * 2 + i * 2 + 1 = 0 + (k + i) * 2 + 1 by omega]; exact c1
end Go.Proofs.YtjehpijjneghpaaGreat.Re
namespace Go.Proofs.YtjehpijjneghpaaGreat.Re
open Go.RowKit Go.Maps Go.Sort Go.Shelf Go.Proofs.YtjehpijjneghpaaGreat.Nm Go.Proofs.YtjehpijjneghpaaGreat.Dk
set_option linter.unusedVariables false
theorem mem_ddel_ne {L : Dr} {n : List UInt8} {j : Nat} (hj : j < (ddel L n).length) : ((ddel L n)[j]).1 ≠ n := by
  have := List.getElem_mem hj
  exact (mem_ddel this).2
theorem er_one (w : World) (s : ByteArray) (p : Nat) : Er (w.alloc (.cells #[.string s, .int .i64 (p : Int)] 142)) (.slice (some ⟨w.heap.size, 0, none⟩) 1 1) [(s.data.toList, p)] := by
  refine ⟨⟨_, 1, rfl, Nat.le_refl _, by omega, fun i hi => ?_⟩, fun n c e => by simp at e⟩
  obtain rfl : i = 0 := by simp at hi; omega
  refine ⟨w.heap.size, 0, rfl, ?_, ?_⟩
  · simp only [World.cell?, heap_alloc_new]; rfl
  · simp only [World.cell?, heap_alloc_new]; rfl
set_option maxRecDepth 100000 in
set_option maxHeartbeats 2000000 in
theorem with_ref (w : World) (v : Value) (L : Dr) (s : ByteArray) (p : Nat) (hv : Tr w v L) (hl : (L.length : Int) ≤ 1000000000) (hp : (p : Int) ≤ 9223372036854775807) :
    Calls Tryz.prog 123 #[v, .string s, .int .i64 (p : Int)] w fun e w' => ∃ v', e = .returned v' ∧ En w.heap.size w' v' (dput L s.data.toList p) ∧ Below w.heap.size w w' := by
  have hWo := without_ref w v L s hv hl
  have hne : Hid (∀ j (hj : j < (ddel L s.data.toList).length), ((ddel L s.data.toList)[j]).1 ≠ s.data.toList) := fun j hj => mem_ddel_ne hj
  have hdl : Hid (((ddel L s.data.toList).length : Int) ≤ 1000000000) := by have := ddel_len L s.data.toList; show _ ≤ _; omega
  unfold dput
  generalize ddel L s.data.toList = D at *
  obtain ⟨i0, hi, hz0, hz1, hz2⟩ := info_parts infoEn
  replace hi := hide hi
  clear hv hl
  have hWo2 : Calls Tryz.prog 122 #[v, .string s] w fun e w' => ∃ ao cap, e = .returned (.slice ao D.length cap) ∧ D.length ≤ cap ∧ cap ≤ 9223372036854775807 ∧ Hid (En w.heap.size w' (.slice ao D.length cap) D) ∧ Hid (Below w.heap.size w w') := by
    refine hWo.mono ?_
    rintro e w' ⟨v', rfl, hO, hb⟩
    rcases hO.form with ⟨rfl, e1⟩ | ⟨g, cap, rfl, k1, k2⟩
    · subst e1; exact ⟨none, 0, rfl, Nat.le_refl _, by omega, hO, hb⟩
    · exact ⟨_, cap, rfl, k1, k2, hO, hb⟩
  clear hWo
  obtain ⟨N, hN⟩ : ∃ N, Hid (D.length = N) := ⟨_, rfl⟩
  rw [hN.out] at hWo2 hdl
  go_enter Tryz.func123, Tryz.ntmps123
  go_upto_region 2 with (go_at_call 122; refine hWo2.mono ?_; rintro e w1 ⟨ao, cap, rfl, k1, k2, hO, b1⟩)
  clear hWo2
  have HT : Hid (Tr w1 (.slice ao N cap) D) := hO.out.tr
  have q3 : Hid (∀ i (h : i < D.length), ∃ b off, ao = some ⟨b, off, none⟩ ∧ w1.cell? ⟨b, off + i * 2, none⟩ = some (.string (bsOf D[i].1)) ∧ w1.cell? ⟨b, off + i * 2 + 1, none⟩ = some (.int .i64 (D[i].2 : Int))) := by
    obtain ⟨ao', ca', e, _, _, h3⟩ := HT.out
    simp only [Value.slice.injEq] at e
    obtain ⟨rfl, _, rfl⟩ := e
    exact h3
  go_wp2_with fail
  go_loopw [7] (fun i wr => ∃ k : Nat, i = .int .i64 k ∧ k ≤ N ∧ Hid (∀ j (hj : j < D.length), j < k → bytesBefore (D[j]).1 s.data.toList = true) ∧ wr = w1) (fun i _ => N - (intOf i).toNat)
  case atStart => exact ⟨0, rfl, Nat.zero_le _, fun j hj c => absurd c (by omega), rfl⟩
  case round =>
    obtain ⟨k, rfl, hk, hbf, rfl⟩ := hrel
    by_cases hgo : ∃ h : k < D.length, bytesBefore (D[k]).1 s.data.toList = true
    · obtain ⟨hkl, hbk⟩ := hgo
      have hlt : k < N := by rw [← hN.out]; exact hkl
      have i1 : (k : Int) < (N : Int) := by omega
      obtain ⟨gb, off, rfl, c0, c1⟩ := q3.out k hkl
      have hq : Op.bytesLess (bsOf D[k].1).toList s.toList = true := by rw [ByteArray.toList_eq, ByteArray.toList_eq, less_before]; exact hbk
      have h2 : Hid (∀ j (hj : j < D.length), j < k + 1 → bytesBefore (D[j]).1 s.data.toList = true) := fun j hj c => by
        by_cases e : j = k
        · subst e; exact hbk
        · exact hbf.out j hj (by omega)
      generalize bsOf D[k].1 = t at *
      go_wp2_with fail
      go_roundw
      case rel => exact ⟨k + 1, by go_num, by omega, h2, trivial⟩
      case measure => simp [intOf]; omega
    · have hEq : Hid (dins (s.data.toList, p) D = D.take k ++ (s.data.toList, p) :: D.drop k) := by
        refine dins_at _ _ D k (by rw [hN.out]; exact hk) hbf.out (fun hk' => ?_)
        rcases Go.WideAt.bytes_total _ _ (hne.out k hk') with c | c
        · exact absurd ⟨hk', c⟩ hgo
        · exact c
      have hdl2 := hdl.out
      have hDN := hN.out
      have LQ : Hid (∀ q : World, Below wr.heap.size wr q → Below w.heap.size w q) := fun q hq => b1.out.trans (hq.mono b1.out.size)
      have fin : Hid (∀ q v', En wr.heap.size q v' (D.take k ++ [(s.data.toList, p)] ++ D.drop k) → Below wr.heap.size wr q → En w.heap.size q v' (dins (s.data.toList, p) D) ∧ Below w.heap.size w q) := fun q v' hq hb => by
        rw [hEq.out]
        rw [List.append_assoc, List.singleton_append] at hq
        exact ⟨⟨hq.1, hq.2.imp id fun ⟨g, cap, cur, e, hg, r⟩ => ⟨g, cap, cur, e, Nat.le_trans b1.out.size hg, r⟩⟩, LQ.out q hb⟩
      have form := hO.out.form
      rw [hDN] at form
      rcases form with ⟨ev, hD0⟩ | ⟨g, cap', ev, _, _⟩
      · simp only [Value.slice.injEq] at ev
        obtain ⟨rfl, _, rfl⟩ := ev
        subst hD0
        obtain rfl : k = 0 := by simp at hDN; omega
        have i1 : ¬ (((0 : Nat) : Int) < (N : Int)) := by simp at hDN; omega
        have hN0 : N = 0 := by simpa using hDN.symm
        subst hN0
        have B2 := box_below wr (.cells #[.string s, .int .i64 (p : Int)] 142)
        have E2 : Er (wr.alloc (.cells #[.string s, .int .i64 (p : Int)] 142)) (.slice (some ⟨wr.heap.size, 0, none⟩) 1 1) [(s.data.toList, p)] := er_one wr s p
        obtain ⟨v4, w4, r4, Q4, G4⟩ := run_appE (En.nil wr.heap.size _) E2 (by simp) B2.size 100
        have X4 : Below wr.heap.size wr w4 := B2.grown G4 B2.size (fun k hk => by simp [Value.ownBlock] at hk)
        rw [List.nil_append] at Q4
        have fin2 := hide (fin.out w4 v4 (by simpa using Q4) X4)
        have r2 : Hid ((Builtin.append_ #[100, 100] 100 #[.slice none 0 0, .slice none 0 0]).run Tryz.prog wr = .ok (.slice none 0 0) wr) := run_append_owned_none (P := Tryz.prog) (w := wr) wr.heap.size 100 100 142 i0 2 Tryz.underlying100 hi.out (.slice none 0 0) 0 [] (World.ownsRow_nil _ _ _ _)
        have r5 : Hid ((Builtin.append_ #[100, 100] 100 #[v4, .slice none 0 0]).run Tryz.prog w4 = .ok v4 w4) := run_append_owned_none (P := Tryz.prog) (w := w4) wr.heap.size 100 100 142 i0 2 Tryz.underlying100 hi.out v4 _ _ Q4
        clear Q4 G4 X4 B2 E2 LQ fin
        replace r4 := hide r4
        go_wp2_with (first
            | (at_builtin; refine Lib.wpList_append_run _ rfl (.const (.slice none 0 0)) (.tmp 29) 100 100 rfl _ _ rfl rfl _ _ r2.out ?_)
            | (at_builtin; refine Lib.wpList_append_run _ rfl (.tmp 31) (.tmp 35) 100 100 rfl _ _ rfl rfl _ _ r4.out ?_)
            | (at_builtin; refine Lib.wpList_append_run _ rfl (.tmp 37) (.tmp 40) 100 100 rfl _ _ rfl rfl _ _ r5.out ?_)
            | fail)
        go_ret
        exact ⟨_, rfl, fin2.out.1, fin2.out.2⟩
      · simp only [Value.slice.injEq] at ev
        obtain ⟨rfl, _, rfl⟩ := ev
        have HTr := HT.out
        rw [← hDN] at HTr
        have EF := Er.front HTr (k := k) (by omega)
        have ER := Er.rest HTr (k := k) (by omega)
        rw [hDN] at ER
        obtain ⟨v2, w2, r2, Q2, G2⟩ := run_appE (En.nil wr.heap.size wr) EF (by simp; omega) (Nat.le_refl _) 100
        rw [List.nil_append] at Q2
        have X2 : Below wr.heap.size wr w2 := (Below.refl _ _).grown G2 (Nat.le_refl _) (fun k hk => by simp [Value.ownBlock] at hk)
        have B3 := box_below w2 (.cells #[.string s, .int .i64 (p : Int)] 142)
        have X3 := X2.trans (B3.mono X2.size)
        obtain ⟨v4, w4, r4, Q4, G4⟩ := run_appE (Q2.below B3) (er_one w2 s p) (by simp; omega) X3.size 100
        have X4 : Below wr.heap.size wr w4 := X3.grown G4 X3.size (fun k hk => (Q2.lt k hk).1)
        clear HTr EF G2 Q2 X2 B3 X3 G4
        replace r2 := hide r2
        replace r4 := hide r4
        by_cases hkl : k < D.length
        · obtain ⟨v5, w5, r5, Q5, G5⟩ := run_appE Q4 (ER.below (X4.mono (Nat.le_refl _))) (by simp; omega) X4.size 100
          have X5 : Below wr.heap.size wr w5 := X4.grown G5 X4.size (fun k hk => (Q4.lt k hk).1)
          have fin2 := hide (fin.out w5 v5 Q5 X5)
          clear Q4 X4 Q5 G5 X5 ER LQ fin
          replace r5 := hide r5
          have hlt : k < N := by omega
          have i1 : (k : Int) < (N : Int) := by omega
          obtain ⟨gb, off, e, c0, c1⟩ := q3.out k hkl
          simp only [Option.some.injEq, Addr.mk.injEq] at e
          obtain ⟨rfl, rfl, _⟩ := e
          rw [Nat.zero_add] at c0 c1
          have hq : Op.bytesLess (bsOf D[k].1).toList s.toList = false := by
            rw [ByteArray.toList_eq, ByteArray.toList_eq, less_before]
            by_cases c : bytesBefore D[k].1 s.data.toList = true
            · exact absurd ⟨hkl, c⟩ hgo
            · have c2 : bytesBefore D[k].1 s.data.toList = false := by simpa using c
              exact c2
          generalize bsOf D[k].1 = t at *
          go_wp2_with (first
            | (at_builtin; refine Lib.wpList_append_run _ rfl (.const (.slice none 0 0)) (.tmp 29) 100 100 rfl _ _ rfl rfl _ _ r2.out ?_)
            | (at_builtin; refine Lib.wpList_append_run _ rfl (.tmp 31) (.tmp 35) 100 100 rfl _ _ rfl rfl _ _ r4.out ?_)
            | (at_builtin; refine Lib.wpList_append_run _ rfl (.tmp 37) (.tmp 40) 100 100 rfl _ _ rfl rfl _ _ r5.out ?_)
            | fail)
          go_ret
          exact ⟨_, rfl, fin2.out.1, fin2.out.2⟩
        · obtain rfl : k = N := by omega
          have i1 : ¬ ((k : Int) < (k : Int)) := by omega
          have hdr : D.drop k = [] := List.drop_of_length_le (by omega)
          have E5 : Er w4 (.slice (if cap = k then some ⟨g, 0, none⟩ else some ⟨g, k * 2, none⟩) 0 (cap - k)) (D.drop k) := by
            rw [hdr]
            split
            · exact ⟨⟨_, _, rfl, Nat.zero_le _, by omega, fun i hi => by simp at hi⟩, fun n c e => by simp at e⟩
            · exact ⟨⟨_, _, rfl, Nat.zero_le _, by omega, fun i hi => by simp at hi⟩, fun n c e => by simp at e⟩
          obtain ⟨v5, w5, r5, Q5, G5⟩ := run_appE Q4 E5 (by simp; omega) X4.size 100
          have X5 : Below wr.heap.size wr w5 := X4.grown G5 X4.size (fun k hk => (Q4.lt k hk).1)
          have fin2 := hide (fin.out w5 v5 Q5 X5)
          clear Q4 X4 Q5 G5 X5 ER LQ fin E5 hdr
          replace r5 := hide r5
          go_wp2_with (first
            | (at_builtin; refine Lib.wpList_append_run _ rfl (.const (.slice none 0 0)) (.tmp 29) 100 100 rfl _ _ rfl rfl _ _ r2.out ?_)
            | (at_builtin; refine Lib.wpList_append_run _ rfl (.tmp 31) (.tmp 35) 100 100 rfl _ _ rfl rfl _ _ r4.out ?_)
            | (at_builtin; refine Lib.wpList_append_run _ rfl (.tmp 37) (.tmp 40) 100 100 rfl _ _ rfl rfl _ _ r5.out ?_)
            | fail)
          all_goals
            go_ret
            exact ⟨_, rfl, fin2.out.1, fin2.out.2⟩
end Go.Proofs.YtjehpijjneghpaaGreat.Re
namespace Go.Proofs.YtjehpijjneghpaaGreat.Re
open Go.RowKit Go.Maps Go.Sort Go.Shelf Go.Proofs.YtjehpijjneghpaaGreat.Nm Go.Proofs.YtjehpijjneghpaaGreat.Dk
set_option linter.unusedVariables false
structure RC where
  tn : ByteArray
  fi : Int
  fr : ByteArray
def RC.v (c : RC) : Value := .agg #[.string c.tn, .int .i64 c.fi, .string c.fr]
def RC.one (c : RC) (L : Dr) : Dr := if c.fr.data.toList = [] then L else ddel L c.fr.data.toList
def RC.run (c : RC) (L : Dr) : Dr := if 0 ≤ c.fi then dput (c.one L) c.tn.data.toList c.fi.toNat else c.one L
theorem dput_len (L : Dr) (n : List UInt8) (p : Nat) : (dput L n p).length ≤ L.length + 1 := by
  unfold dput
  rw [dins_len]
  have := ddel_len L n
  omega
theorem RC.one_len (c : RC) (L : Dr) : (c.one L).length ≤ L.length := by
  unfold RC.one
  split
  · exact Nat.le_refl _
  · exact ddel_len _ _
theorem RC.run_len (c : RC) (L : Dr) : (c.run L).length ≤ L.length + 1 := by
  have := c.one_len L
  unfold RC.run
  split
  · have := dput_len (c.one L) c.tn.data.toList c.fi.toNat; omega
  · omega
theorem str_nil (s : ByteArray) (h : s.data.toList = []) : (s.toList == ([] : List UInt8)) = true := by rw [ByteArray.toList_eq, h]; rfl
theorem str_some (s : ByteArray) (h : s.data.toList ≠ []) : (s.toList == ([] : List UInt8)) = false := by rw [ByteArray.toList_eq]; simpa using h
def Ans (B : Nat) (w : World) (v0 v : Value) (L0 L : Dr) : Prop := En B w v L ∨ (v = v0 ∧ L = L0)
theorem owns_lower2 {w : World} {B B' : Nat} {v : Value} {L : Dr} (h : En B w v L) (hb : B' ≤ B) : En B' w v L :=
  ⟨h.1, h.2.imp id fun ⟨g, cap, cur, e, hg, r⟩ => ⟨g, cap, cur, e, Nat.le_trans hb hg, r⟩⟩
set_option maxRecDepth 100000 in
set_option maxHeartbeats 2000000 in
theorem changed_ref (w : World) (v : Value) (L : Dr) (c : RC) (hv : Er w v L) (hl : (L.length : Int) ≤ 1000000000) (h0 : -9223372036854775808 ≤ c.fi) (h1 : c.fi ≤ 9223372036854775807) :
    Calls Tryz.prog 114 #[v, c.v] w fun e w' => ∃ v', e = .returned v' ∧ Ans w.heap.size w' v v' L (c.run L) ∧ Below w.heap.size w w' := by
  obtain ⟨tn, fi, fr⟩ := c
  dsimp only [RC.v] at *
  have B0 := hide (box_below w (.cells #[.string tn, .int .i64 fi, .string fr] 155))
  have N0 := hide (heap_alloc_new w (.cells #[.string tn, .int .i64 fi, .string fr] 155))
  obtain ⟨u, hu⟩ : ∃ u, Hid (w.alloc (.cells #[.string tn, .int .i64 fi, .string fr] 155) = u) := ⟨_, rfl⟩
  rw [hu.out] at B0 N0
  have KC : Hid (∀ q, Below u.heap.size u q → q.cell? ⟨w.heap.size, 0, none⟩ = some (.string tn) ∧ q.cell? ⟨w.heap.size, 1, none⟩ = some (.int .i64 fi) ∧ q.cell? ⟨w.heap.size, 2, none⟩ = some (.string fr)) := fun q hq => by
    have z := (hq.block _ (heap_lt N0.out)).trans N0.out
    exact ⟨by simp [World.cell?, z], by simp [World.cell?, z], by simp [World.cell?, z]⟩
  obtain ⟨x0, x1, x2⟩ := KC.out u (Below.refl _ _)
  have V0 := hide (hv.below B0.out)
  -- behind without
  have KW : Hid (∀ q v1 L1, Below u.heap.size u q → Tr q v1 L1 → (L1.length : Int) ≤ 1000000000 → 0 ≤ fi → Calls Tryz.prog 123 #[v1, .string tn, .int .i64 fi] q fun e w' => ∃ v', e = .returned v' ∧ Hid (En w.heap.size w' v' (dput L1 tn.data.toList fi.toNat)) ∧ Hid (Below w.heap.size w w')) := fun q v1 L1 hq h1' hl1 hfi => by
    obtain ⟨p, hp⟩ := Int.eq_ofNat_of_zero_le hfi
    subst hp
    refine (with_ref q v1 L1 tn p h1' hl1 (by omega)).mono ?_
    rintro e w' ⟨v', rfl, hO, hb⟩
    rw [Int.toNat_natCast]
    have hz := Nat.le_trans B0.out.size hq.size
    exact ⟨v', rfl, owns_lower2 hO hz, (B0.out.trans (hq.mono B0.out.size)).trans (hb.mono hz)⟩
  by_cases hf : fr.data.toList = []
  · have e1 : (⟨tn, fi, fr⟩ : RC).one L = L := by unfold RC.one; rw [if_pos hf]
    have hq : (fr.toList == ([] : List UInt8)) = true := str_nil fr hf
    by_cases hp : 0 ≤ fi
    · have e2 : Hid ((⟨tn, fi, fr⟩ : RC).run L = dput L tn.data.toList fi.toNat) := by show _ = _; unfold RC.run; rw [e1, if_pos hp]
      have hW := KW.out u v L (Below.refl _ _) V0.out.tr hl hp
      clear hv e1
      go_enter Tryz.func114, Tryz.ntmps114
      go_upto_region 1 with fail
      rw [hu.out]
      go_wp2_with (first
        | (go_at_call 123; refine hW.mono ?_; rintro e w2 ⟨v2, rfl, O2, b2⟩)
        | fail)
      go_ret
      exact ⟨_, rfl, .inl (by rw [e2.out]; exact O2.out), b2.out⟩
    · have e2 : Hid ((⟨tn, fi, fr⟩ : RC).run L = L) := by show _ = _; unfold RC.run; rw [e1, if_neg hp]
      have hp2 : ¬ (fi ≥ 0) := hp
      clear hv e1 hp
      go_enter Tryz.func114, Tryz.ntmps114
      go_upto_region 1 with fail
      rw [hu.out]
      go_wp2_with fail
      go_ret
      exact ⟨_, rfl, .inr ⟨rfl, e2.out⟩, B0.out⟩
  · have e1 : (⟨tn, fi, fr⟩ : RC).one L = ddel L fr.data.toList := by unfold RC.one; rw [if_neg hf]
    have hq : (fr.toList == ([] : List UInt8)) = false := str_some fr hf
    have hWo : Calls Tryz.prog 122 #[v, .string fr] u fun e w' => ∃ v', e = .returned v' ∧ Hid (En w.heap.size w' v' (ddel L fr.data.toList)) ∧ Hid (Below u.heap.size u w') := by
      refine (without_ref u v L fr V0.out.tr hl).mono ?_
      rintro e w' ⟨v', rfl, hO, hb⟩
      exact ⟨v', rfl, owns_lower2 hO B0.out.size, hb⟩
    have hdl : ((ddel L fr.data.toList).length : Int) ≤ 1000000000 := by have := ddel_len L fr.data.toList; omega
    by_cases hp : 0 ≤ fi
    · have e2 : Hid ((⟨tn, fi, fr⟩ : RC).run L = dput (ddel L fr.data.toList) tn.data.toList fi.toNat) := by show _ = _; unfold RC.run; rw [e1, if_pos hp]
      clear hv e1
      replace hdl := hide hdl
      go_enter Tryz.func114, Tryz.ntmps114
      go_upto_region 1 with fail
      rw [hu.out]
      go_wp2_with (first
        | (go_at_call 122; refine hWo.mono ?_; rintro e w1 ⟨v1, rfl, O1, b1⟩; obtain ⟨y0, y1, y2⟩ := KC.out w1 b1.out)
        | (go_at_call 123; refine (KW.out w1 v1 _ b1.out O1.out.tr hdl.out hp).mono ?_; rintro e w2 ⟨v2, rfl, O2, b2⟩)
        | fail)
      go_ret
      exact ⟨_, rfl, .inl (by rw [e2.out]; exact O2.out), b2.out⟩
    · have e2 : Hid ((⟨tn, fi, fr⟩ : RC).run L = ddel L fr.data.toList) := by show _ = _; unfold RC.run; rw [e1, if_neg hp]
      have hp2 : ¬ (fi ≥ 0) := hp
      clear hv e1 hp
      go_enter Tryz.func114, Tryz.ntmps114
      go_upto_region 1 with fail
      rw [hu.out]
      go_wp2_with (first
        | (go_at_call 122; refine hWo.mono ?_; rintro e w1 ⟨v1, rfl, O1, b1⟩; obtain ⟨y0, y1, y2⟩ := KC.out w1 b1.out)
        | fail)
      go_ret
      exact ⟨_, rfl, .inl (by rw [e2.out]; exact O1.out), B0.out.trans (b1.out.mono B0.out.size)⟩
def toldN (k : Int) : Int := if k = 1 then 20 else if k = 2 then 21 else if k = 3 then 22 else 23
theorem told_ref (w : World) (k : Int) : Calls Tryz.prog 98 #[.int .i64 k] w fun e w' => e = .returned (.int .i64 (toldN k)) ∧ w' = w := by
  unfold toldN
  by_cases h1 : k = 1
  · subst h1
    go_enter Tryz.func98, Tryz.ntmps98
    go_wp2_with fail
    go_ret
    exact ⟨rfl, rfl⟩
  by_cases h2 : k = 2
  · subst h2
    go_enter Tryz.func98, Tryz.ntmps98
    go_wp2_with fail
    go_ret
    exact ⟨rfl, rfl⟩
  by_cases h3 : k = 3
  · subst h3
    go_enter Tryz.func98, Tryz.ntmps98
    go_wp2_with fail
    go_ret
    exact ⟨rfl, rfl⟩
  rw [if_neg h1, if_neg h2, if_neg h3]
  go_enter Tryz.func98, Tryz.ntmps98
  go_wp2_with fail
  go_ret
  exact ⟨rfl, rfl⟩
end Go.Proofs.YtjehpijjneghpaaGreat.Re
namespace Go.Proofs.YtjehpijjneghpaaGreat.Re
open Go.RowKit Go.Maps Go.Sort Go.Shelf Go.Proofs.YtjehpijjneghpaaGreat.Nm Go.Proofs.YtjehpijjneghpaaGreat.Dk
set_option linter.unusedVariables false
def TRD : TypeId := 103
structure Sr (w u : World) (b rb : Nat) (cs : Array Value) (f : Ft) : Prop where
  box : u.heap[b]? = some (.cells cs TRD (0, 0))
  ans : u.heap[rb]? = some (.cells #[.int .i64 f.1, .int .i64 f.2.1, .int .i64 f.2.2] 118 (0, 0))
  but : But (fun k => k = b) w u
  lo : w.heap.size ≤ rb
theorem Sr.ne {w u : World} {b rb : Nat} {cs : Array Value} {f : Ft} (h : Sr w u b rb cs f) : b ≠ rb := by
  intro e
  have h1 := h.box
  rw [e, h.ans] at h1
  simp [TRD] at h1
theorem Sr.set {w u : World} {b rb : Nat} {cs : Array Value} {f : Ft} (h : Sr w u b rb cs f) (j : Nat) (v : Value) : Sr w (u.setCell ⟨b, j, none⟩ v) b rb (cs.setIfInBounds j v) f := by
  have g := grown_setCell u b j v
  refine ⟨heap_setCell_same _ _ _ _ _ _ h.box, ?_, h.but.trans (But.of_grownBy g fun k e => by cases e; rfl), h.lo⟩
  rw [g.block rb (heap_lt h.ans) (by simpa using fun e => h.ne e.symm)]
  exact h.ans
theorem Sr.start {w : World} {b : Nat} {cs : Array Value} (hb : w.heap[b]? = some (.cells cs TRD (0, 0))) : Sr w (w.alloc (.cells #[.int .i64 0, .int .i64 0, .int .i64 0] 118)) b w.heap.size cs zf := by
  have hB := (Below.refl _ w).alloc (Nat.le_refl _) (.cells #[.int .i64 0, .int .i64 0, .int .i64 0] 118)
  exact ⟨(hB.block b (heap_lt hb)).trans hb, heap_alloc_new _ _, But.of_below hB _, Nat.le_refl _⟩
theorem Sr.more {w u u' : World} {b rb : Nat} {cs : Array Value} {f : Ft} (h : Sr w u b rb cs f) (hB : Below u.heap.size u u') : Sr w u' b rb cs f :=
  ⟨(hB.block b (heap_lt h.box)).trans h.box, (hB.block rb (heap_lt h.ans)).trans h.ans, h.but.trans (But.of_below hB _), h.lo⟩
theorem Sr.cell {w u : World} {b rb : Nat} {cs : Array Value} {f : Ft} (h : Sr w u b rb cs f) (i : Nat) : u.cell? ⟨b, i, none⟩ = cs[i]? := by simp [World.cell?, h.box]
theorem Sr.frozen {w u : World} {b rb : Nat} {cs : Array Value} {f : Ft} (h : Sr w u b rb cs f) (i : Nat) : u.frozen? ⟨b, i, none⟩ = false := by simp [World.frozen?, h.box]
theorem Sr.put {w u : World} {b rb : Nat} {cs : Array Value} {g : Ft} (h : Sr w u b rb cs g) (f : Ft) :
    Sr w (((u.setCell ⟨rb, 0, none⟩ (.int .i64 f.1)).setCell ⟨rb, 1, none⟩ (.int .i64 f.2.1)).setCell ⟨rb, 2, none⟩ (.int .i64 f.2.2)) b rb cs f := by
  have g0 := grown_setCell u rb 0 (.int .i64 f.1)
  have g1 := grown_setCell (u.setCell ⟨rb, 0, none⟩ (.int .i64 f.1)) rb 1 (.int .i64 f.2.1)
  have g2 := grown_setCell ((u.setCell ⟨rb, 0, none⟩ (.int .i64 f.1)).setCell ⟨rb, 1, none⟩ (.int .i64 f.2.1)) rb 2 (.int .i64 f.2.2)
  have B := ((But.of_grownBy (X := fun k => k = rb) g0 fun k e => by cases e; rfl).trans (But.of_grownBy g1 fun k e => by cases e; rfl)).trans (But.of_grownBy g2 fun k e => by cases e; rfl)
  have z0 := heap_setCell_same u rb 0 _ _ (.int .i64 f.1) h.ans
  have z1 := heap_setCell_same _ rb 1 _ _ (.int .i64 f.2.1) z0
  have z2 := heap_setCell_same _ rb 2 _ _ (.int .i64 f.2.2) z1
  refine ⟨B.at h.box h.ne, by simpa using z2, ?_, h.lo⟩
  have lo := h.lo
  exact ⟨B.os.trans h.but.os, B.tape.trans h.but.tape, B.output.trans h.but.output, Nat.le_trans h.but.size B.size, fun k hk hx => (B.block k (Nat.lt_of_lt_of_le hk h.but.size) (by omega)).trans (h.but.block k hk hx)⟩
def rfl1 (fs : List Ft) (n : Int) : Ft := (fs.find? fun f => f.1 == n).getD zf
theorem rfl1_at {fs : List Ft} {n : Int} {k : Nat} (hk : k < fs.length) (h : ∀ j (hj : j < fs.length), j < k → (fs[j]).1 ≠ n) (e : (fs[k]).1 = n) : rfl1 fs n = fs[k] := by
  unfold rfl1
  have : fs.find? (fun f => f.1 == n) = some fs[k] := by
    rw [List.find?_eq_some_iff_getElem]
    refine ⟨by simp [e], k, hk, rfl, fun j hj => ?_⟩
    simpa using h j (by omega) hj
  rw [this]
  rfl
theorem rfl1_none {fs : List Ft} {n : Int} (h : ∀ j (hj : j < fs.length), (fs[j]).1 ≠ n) : rfl1 fs n = zf := by
  unfold rfl1
  have : fs.find? (fun f => f.1 == n) = none := by
    rw [List.find?_eq_none]
    intro x hx
    obtain ⟨j, hj, rfl⟩ := List.getElem_of_mem hx
    simpa using h j hj
  rw [this]
  rfl
end Go.Proofs.YtjehpijjneghpaaGreat.Re
