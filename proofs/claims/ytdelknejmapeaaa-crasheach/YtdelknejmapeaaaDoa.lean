/-
  Lists of files, as Files and Lasting answer them.
-/
import Derived.Test.YtdelknejmapeaaaDnE
namespace Go.Proofs.Ytdelknejmapeaaa.Dk
open Go.RowKit Go.Maps Go.Sort Go.Shelf Go.Proofs.Ytdelknejmapeaaa.Nm

/-- Names and bytes. -/
abbrev Fil2 := List (List UInt8 × List UInt8)
def fcells : Fil2 → List Value → List Value
  | l :: r, u :: us => encStr l.1 :: u :: fcells r us
  | _, _ => []
theorem fcells_snoc : ∀ (L : Fil2) (vs : List Value) (l : List UInt8 × List UInt8) (u : Value), vs.length = L.length → fcells (L ++ [l]) (vs ++ [u]) = fcells L vs ++ [encStr l.1, u]
  | [], [], l, u, _ => rfl
  | a :: r, b :: s, l, u, h => by
    simp only [List.cons_append, fcells]
    rw [fcells_snoc r s l u (by simpa using h)]
  | [], _ :: _, _, _, h => by simp at h
  | _ :: _, [], _, _, h => by simp at h
/-- The list v, in memory from B on, holds the files L; each one's bytes lie in a block of their own: vs. -/
structure FlI (B : Nat) (w : World) (v : Value) (L : Fil2) (vs : List Value) : Prop where
  len : vs.length = L.length
  row : w.ownsRow B 106 2 v L.length (fcells L vs)
  ob : ∀ (i : Nat) (l : List UInt8 × List UInt8) (u : Value), vs[i]? = some u → L[i]? = some l → Ob B w u l.2
  ap : ∀ (i j : Nat) (u u' : Value), i ≠ j → vs[i]? = some u → vs[j]? = some u' → ∀ k, u.ownBlock = some k → u'.ownBlock ≠ some k
  no : ∀ (i : Nat) (u : Value), vs[i]? = some u → ∀ k, u.ownBlock = some k → v.ownBlock ≠ some k
theorem FlI.nil (B : Nat) (w : World) : FlI B w (.slice none 0 0) [] [] := ⟨rfl, World.ownsRow_nil _ _ _ _, fun i l u h => by simp at h, fun i j u u' _ h => by simp at h, fun i u h => by simp at h⟩
theorem row_but {B : Nat} {X : Nat → Prop} {A C : World} {T : TypeId} {n k : Nat} {v : Value} {xs : List Value} (h : A.ownsRow B T k v n xs) (hb : But X A C) (hx : ∀ j, v.ownBlock = some j → ¬ X j) : C.ownsRow B T k v n xs := by
  refine ⟨h.1, ?_⟩
  rcases h.2 with h | ⟨g, cap, cur, rfl, hg, hh, r⟩
  · exact .inl h
  · exact .inr ⟨g, cap, cur, rfl, hg, hb.at hh (hx g rfl), r⟩
theorem FlI.get {B : Nat} {w : World} {v : Value} {L : Fil2} {vs : List Value} (h : FlI B w v L vs) {i : Nat} {u : Value} (hu : vs[i]? = some u) : ∃ l, L[i]? = some l ∧ Ob B w u l.2 := by
  have hi : i < L.length := by rw [← h.len]; exact (List.getElem?_eq_some_iff.1 hu).1
  exact ⟨L[i], List.getElem?_eq_getElem hi, h.ob i _ u hu (List.getElem?_eq_getElem hi)⟩
theorem FlI.but {B : Nat} {X : Nat → Prop} {w w' : World} {v : Value} {L : Fil2} {vs : List Value} (h : FlI B w v L vs) (hb : But X w w') (hx : ∀ k, X k → k < B ∨ w.heap.size ≤ k) : FlI B w' v L vs := by
  have hv : ∀ j, v.ownBlock = some j → ¬ X j := fun j hj c => by
    obtain ⟨q1, q2⟩ := World.ownsRow.lt h.row j hj
    rcases hx j c with z | z <;> omega
  refine ⟨h.len, row_but h.row hb hv, fun i l u hu hl => (h.ob i l u hu hl).but hb (fun k hk c => ?_), h.ap, h.no⟩
  obtain ⟨q1, q2⟩ := (h.ob i l u hu hl).lt k hk
  rcases hx k c with z | z <;> omega
theorem FlI.below {B : Nat} {w w' : World} {v : Value} {L : Fil2} {vs : List Value} (h : FlI B w v L vs) (hb : Below w.heap.size w w') : FlI B w' v L vs := h.but (But.of_below hb fun _ => False) (fun _ c => c.elim)
theorem FlI.low {B C : Nat} {w : World} {v : Value} {L : Fil2} {vs : List Value} (h : FlI B w v L vs) (hb : C ≤ B) : FlI C w v L vs := ⟨h.len, ownsRow_base_a h.row hb, fun i l u hu hl => (h.ob i l u hu hl).low hb, h.ap, h.no⟩
/-- One more. -/
theorem FlI.snoc {B : Nat} {w wc w' : World} {v v' : Value} {L : Fil2} {vs : List Value} {l : List UInt8 × List UInt8} {u : Value} (h : FlI B w v L vs) (hB : B ≤ w.heap.size) (hu : Ob w.heap.size wc u l.2) (hbc : Below w.heap.size w wc)
    (hr : w'.ownsRow B 106 2 v' (L.length + 1) (fcells L vs ++ [encStr l.1, u])) (hg : wc.grownBy w' v.ownBlock) (hv : v'.ownBlock = v.ownBlock ∨ ∃ k, v'.ownBlock = some k ∧ wc.heap.size ≤ k) : FlI B w' v' (L ++ [l]) (vs ++ [u]) := by
  have hGb := But.of_grownBy (X := fun k => v.ownBlock = some k) hg fun k e => e
  have h1 := h.below hbc
  have vlt : ∀ k, v.ownBlock = some k → k < w.heap.size := fun k hk => (World.ownsRow.lt h.row k hk).2
  have cases_u : ∀ i x, (vs ++ [u])[i]? = some x → (i < vs.length ∧ vs[i]? = some x) ∨ (i = vs.length ∧ x = u) := by
    intro i x hx
    rcases Nat.lt_or_ge i vs.length with q | q
    · rw [List.getElem?_append_left q] at hx; exact .inl ⟨q, hx⟩
    · rw [List.getElem?_append_right q] at hx
      have : i - vs.length < 1 := by
        have := (List.getElem?_eq_some_iff.1 hx).1
        simpa using this
      have e : i = vs.length := by omega
      subst e
      simp at hx
      exact .inr ⟨rfl, hx.symm⟩
  have blk : ∀ i x, (vs ++ [u])[i]? = some x → ∀ k, x.ownBlock = some k → (i < vs.length ∧ k < w.heap.size) ∨ (i = vs.length ∧ w.heap.size ≤ k ∧ k < wc.heap.size) := by
    intro i x hx k hk
    rcases cases_u i x hx with ⟨q, hx'⟩ | ⟨q, rfl⟩
    · obtain ⟨l', _, ho⟩ := h.get hx'
      exact .inl ⟨q, (ho.lt k hk).2⟩
    · exact .inr ⟨q, hu.lt k hk⟩
  refine ⟨by simp [h.len], ?_, ?_, ?_, ?_⟩
  · rw [fcells_snoc L vs l u h.len, List.length_append, List.length_singleton]; exact hr
  · intro i m x hx hm
    rcases cases_u i x hx with ⟨q, hx'⟩ | ⟨q, rfl⟩
    · rw [List.getElem?_append_left (by rw [← h.len]; exact q)] at hm
      exact (h1.ob i m x hx' hm).but hGb (fun k hk c => h.no i x hx' k hk c)
    · rw [q, List.getElem?_append_right (by rw [h.len]; exact Nat.le_refl _), h.len] at hm
      simp at hm
      subst hm
      refine (hu.low hB).but hGb (fun k hk c => ?_)
      have := (hu.lt k hk).1
      have := vlt k c
      omega
  · intro i j x y hij hx hy k hk c
    rcases cases_u i x hx with ⟨q, hx'⟩ | ⟨q, rfl⟩
    · rcases cases_u j y hy with ⟨q2, hy'⟩ | ⟨q2, rfl⟩
      · exact h.ap i j x y hij hx' hy' k hk c
      · obtain ⟨l', _, ho⟩ := h.get hx'
        have := (ho.lt k hk).2
        have := (hu.lt k c).1
        omega
    · rcases cases_u j y hy with ⟨q2, hy'⟩ | ⟨q2, rfl⟩
      · obtain ⟨l', _, ho⟩ := h.get hy'
        have := (ho.lt k c).2
        have := (hu.lt k hk).1
        omega
      · omega
  · intro i x hx k hk c
    rcases hv with e | ⟨k', e, hk'⟩
    · rw [e] at c
      rcases cases_u i x hx with ⟨q, hx'⟩ | ⟨q, rfl⟩
      · exact h.no i x hx' k hk c
      · have := (hu.lt k hk).1
        have := vlt k c
        omega
    · rw [e] at c
      simp at c
      have hz := hbc.size
      rcases blk i x hx k hk with ⟨_, z⟩ | ⟨_, _, z⟩ <;> omega
theorem infoFile : (Try.prog.info? 106).map (fun i => (i.zero, i.size, i.bytes)) = some (some (.agg #[.string ⟨#[]⟩, .slice none 0 0]), 2, 40) := by kernel_rfl
end Go.Proofs.Ytdelknejmapeaaa.Dk

/-
  Files and Lasting.
-/
namespace Go.Proofs.Ytdelknejmapeaaa.Dk
open Go.RowKit Go.Maps Go.Sort Go.Shelf Go.Proofs.Ytdelknejmapeaaa.Nm

def flOf (G : Nat → List UInt8) (l : Dr) (n : List UInt8) : List UInt8 := match get l n with | some p => G p | none => []
def filesOf (G : Nat → List UInt8) (l : Dr) : Fil2 := (nms l).map fun s => (s, flOf G l s)
/-- Files, Lasting: by data. -/
def DS.files (S : DS) : Fil2 := filesOf (fun p => (S.F p).by_) S.dir
def DS.lasts (S : DS) : Fil2 := filesOf (fun p => (S.F p).la) S.l2
theorem l2_mem {S : DS} {s : List UInt8} {p : Nat} (h : get S.l2 s = some p) : p ∈ S.ps := List.mem_append_left _ (List.mem_map.2 ⟨_, get_mem h, rfl⟩)
set_option maxRecDepth 100000 in
set_option maxHeartbeats 1000000 in
theorem files_any {w : World} {b : Nat} {S : DS} {O : Nat → Prop} {f g : Nat} {pd : Value} {am : Option Nat} {VB VL : Nat → Value} (h : Dsk w b S O f g pd am VB VL) (hc : S.c7 < 1000000000) :
    Calls Try.prog 21 #[.pointer (some ⟨b, 0, none⟩)] w fun e w' => ∃ v vs, e = .returned v ∧ FlI w.heap.size w' v S.files vs ∧ Below w.heap.size w w' := by
  have hM := made_any w _ _ h.dk.dp
  rw [show madeD (some (S.dc f g pd am)) = true from rfl] at hM
  have hlen := (dir_len h.ok hc).1
  have c2 : w.cell? ⟨b, 2, none⟩ = some (.map (some f)) := h.dk.box.cells.2.2.1
  have M1 := hide h.dk.mf
  have H := hide h
  have hfl : Hid (∀ p s, get S.dir s = some p → p ∈ S.ps) := fun p s hp => DS.mem_dir hp
  have hE : Hid (S.files = (nms S.dir).map fun s => (s, flOf (fun p => (S.F p).by_) S.dir s)) := rfl
  rw [hE.out]
  obtain ⟨l, hl⟩ : ∃ l, S.dir = l := ⟨_, rfl⟩
  rw [hl] at hlen M1 hfl ⊢
  have hN := hide (nms_len l)
  have hmem : Hid (∀ k (hk : k < (nms l).length), ∃ p, get l (nms l)[k] = some p) := fun k hk => nms_get (List.getElem_mem hk)
  obtain ⟨i0, hi, hz0, hz1, hz2⟩ := info_parts infoFile
  replace hi := hide hi
  clear h hE hl
  go_enter Try.func21, Try.ntmps21
  go_wp2_with (first
    | (go_at_call 36; refine hM.mono ?_; rintro e w1 ⟨rfl, e1⟩; subst w1)
    | (go_at_call 35; refine (names_any f l w M1.out (by omega)).mono ?_; rintro e w2 ⟨v2, rfl, R2, _, B2⟩; have R3 := row_of_owns R2 (by simp); replace B2 := hide B2; obtain ⟨ao, ca, rfl, r2, r3, r4, r5⟩ := R3; rw [List.length_map] at *; replace r5 := hide r5; clear r2 R2))
  obtain ⟨N, hN2⟩ : ∃ N, Hid ((nms l).length = N) := ⟨_, rfl⟩
  rw [hN2.out] at r3 ⊢
  have Q2 : Hid (∃ vs, FlI w2.heap.size w2 (.slice none 0 0) (((nms l).take 0).map fun s => (s, flOf (fun p => (S.F p).by_) l s)) vs ∧ Below w2.heap.size w2 w2) := ⟨[], FlI.nil _ _, Below.refl _ _⟩
  have hN3 : N ≤ 1000000000 := by rw [← hN2.out, hN.out]; omega
  have i4 : (ca : Int) ≤ 9223372036854775807 := by unfold maxLen at r4; omega
  have KW : Hid (∀ q, Below w2.heap.size w2 q → Below w.heap.size w q) := fun q hq => B2.out.trans (hq.mono B2.out.size)
  clear hM hlen r4
  replace hN3 := hide hN3
  go_loopw [3, 15] (fun v6 i wr => ∃ k : Nat, i = .int .i64 k ∧ k ≤ N ∧ Hid (∃ vs, FlI w2.heap.size wr v6 (((nms l).take k).map fun s => (s, flOf (fun p => (S.F p).by_) l s)) vs ∧ Below w2.heap.size w2 wr)) (fun _ i _ => N - (intOf i).toNat)
  case atStart => exact ⟨0, rfl, Nat.zero_le _, Q2.out⟩
  case round =>
    obtain ⟨k, rfl, hk, hQ⟩ := hrel
    obtain ⟨vs, O6, B6⟩ := hQ.out
    clear hQ
    by_cases hlt : k < N
    · have i1 : (k : Int) < (N : Int) := by omega
      have hkl : k < (nms l).length := by rw [hN2.out]; exact hlt
      obtain ⟨p, hp⟩ := hmem.out k hkl
      obtain ⟨gb, off, rfl, hcl⟩ := r5.out k (by rw [List.length_map]; exact hkl)
      have hcell : wr.cell? ⟨gb, off + k, none⟩ = some (.string (bsOf (nms l)[k])) := by
        rw [B6.cell (p := ⟨gb, off + k, none⟩) (lt_of_cell hcl), hcl, List.getElem_map]; rfl
      have hB := KW.out wr B6
      have Mr : Mp wr f l := M1.out.heap (hB.block _ M1.out.lt)
      have d2 : wr.cell? ⟨b, 2, none⟩ = some (.map (some f)) := by rw [hB.cell (p := ⟨b, 2, none⟩) (lt_of_cell c2)]; exact c2
      have hL := Mr.look (s := bsOf (nms l)[k]) (Mr.nlen (List.getElem_mem hkl)) hp
      have hF := (H.out.below hB).fs.at_ p (hfl.out p _ hp)
      obtain ⟨x0, x1, _⟩ := cells3 hF.box
      have hz : (S.F p).by_.length ≤ 16777216 := by have q1 := H.out.ok.sz p (hfl.out p _ hp); have q2 := hF.le; omega
      obtain ⟨bo, bc, eb, _, _⟩ := hF.b.form
      have hS := hF.b.sl
      rw [eb] at x0 hS
      have hT := clone_bytes wr _ _ hS (by omega)
      have hTL : Hid (flOf (fun p => (S.F p).by_) l (nms l)[k] = (S.F p).by_) := by show _ = _; unfold flOf; rw [hp]
      have hsn : Hid (((nms l).take (k + 1)).map (fun s => (s, flOf (fun p => (S.F p).by_) l s)) = ((nms l).take k).map (fun s => (s, flOf (fun p => (S.F p).by_) l s)) ++ [((nms l)[k], (S.F p).by_)]) := by show _ = _; rw [List.take_succ_eq_append_getElem hkl, List.map_append, ← hTL.out]; rfl
      unfold TM at hL
      have hLl : Hid ((((nms l).take k).map (fun s => (s, flOf (fun p => (S.F p).by_) l s))).length = k) := by show _ = _; rw [List.length_map, List.length_take]; omega
      replace O6 := hide O6
      replace B6 := hide B6
      clear hcl Mr hB hp hTL hF x1 eb hS
      generalize ((nms l).take k).map (fun s => (s, flOf (fun p => (S.F p).by_) l s)) = L at *
      generalize (S.F p).by_ = bl at *
      generalize (nms l)[k] = s at *
      clear hkl hz
      go_wp2_with (first
        | (go_at_call 33; refine hT.mono ?_; rintro e w4 ⟨v4, rfl, U4, B4⟩; obtain ⟨uo, uc, rfl, _, _⟩ := U4.form; replace U4 := hide U4; replace B4 := hide B4; clear hL hT; have N5 := hide (heap_alloc_new w4 (.cells #[.string (bsOf s), .slice uo bl.length uc] 106)); have O5 : Hid (FlI w2.heap.size (w4.alloc (.cells #[.string (bsOf s), .slice uo bl.length uc] 106)) u3 L vs) := hide (O6.out.below (B4.out.trans ((box_below w4 (.cells #[.string (bsOf s), .slice uo bl.length uc] 106)).mono B4.out.size))))
        | (at_builtin; refine wpList_append_lies _ rfl (.tmp 19) (.tmp 32) 56 rfl w2.heap.size 106 i0 (.agg #[.string ⟨#[]⟩, .slice none 0 0]) 2 40 Try.underlying56 hi.out hz0 hz1 hz2 rfl (by decide) u3 L.length (fcells L vs) rfl O5.out.row ⟨w4.heap.size, 0, none⟩ 1 1 [.string (bsOf s), .slice uo bl.length uc] rfl rfl (two_new N5.out) (by simp [Value.oneCell']) (by decide) (by have := hLl.out; have := hN3.out; unfold maxLen; omega) (by have := hLl.out; have := hN3.out; omega) (by have q1 := B6.out.size; have q2 := B4.out.size; simp; omega) (w4.heap.size + 1) (by simp) ?_; intro g2 cap2 w5 ho5 hg5 hat hlt5; replace ho5 := hide ho5; replace hg5 := hide hg5; replace hat := hide hat)
        | fail)
      have Bc : Hid (Below wr.heap.size wr (w4.alloc (.cells #[.string (bsOf s), .slice uo bl.length uc] 106))) := B4.out.trans ((box_below w4 _).mono B4.out.size)
      go_roundw
      case rel =>
        refine ⟨k + 1, by go_num, by omega, vs ++ [.slice uo bl.length uc], ?_, ?_⟩
        · rw [hsn.out]
          refine O6.out.snoc B6.out.size (U4.out.below (box_below w4 _)) Bc.out ho5.out hg5.out ?_
          rcases hat.out with e | e
          · exact .inl (by rw [e]; rfl)
          · exact .inr ⟨g2, rfl, by rw [e]; simp⟩
        · refine Below.grown (B6.out.trans (Bc.out.mono B6.out.size)) hg5.out ?_ ?_
          · have q1 := B6.out.size; have q2 := Bc.out.size; omega
          · intro j hj
            exact (World.ownsRow.lt O5.out.row j hj).1
      case measure => simp [intOf]; omega
    · obtain rfl : k = N := by omega
      rw [List.take_of_length_le (by rw [hN2.out]; omega)] at O6
      replace O6 := hide O6
      replace B6 := hide B6
      go_wp2_with fail
      go_ret
      refine ⟨_, vs, rfl, O6.out.low B2.out.size, KW.out _ B6.out⟩
#print axioms files_any
set_option maxRecDepth 100000 in
set_option maxHeartbeats 1000000 in
theorem lasts_any {w : World} {b : Nat} {S : DS} {O : Nat → Prop} {f g : Nat} {pd : Value} {am : Option Nat} {VB VL : Nat → Value} (h : Dsk w b S O f g pd am VB VL) (hc : S.c7 < 1000000000) :
    Calls Try.prog 22 #[.pointer (some ⟨b, 0, none⟩)] w fun e w' => ∃ v vs, e = .returned v ∧ FlI w.heap.size w' v S.lasts vs ∧ Below w.heap.size w w' := by
  have hM := made_any w _ _ h.dk.dp
  rw [show madeD (some (S.dc f g pd am)) = true from rfl] at hM
  have hlen := (dir_len h.ok hc).2.2
  have c2 : w.cell? ⟨b, 3, none⟩ = some (.map (some g)) := h.dk.box.cells.2.2.2.1
  have M1 := hide h.dk.mg
  have H := hide h
  have hfl : Hid (∀ p s, get S.l2 s = some p → p ∈ S.ps) := fun p s hp => l2_mem hp
  have hE : Hid (S.lasts = (nms S.l2).map fun s => (s, flOf (fun p => (S.F p).la) S.l2 s)) := rfl
  rw [hE.out]
  obtain ⟨l, hl⟩ : ∃ l, S.l2 = l := ⟨_, rfl⟩
  rw [hl] at hlen M1 hfl ⊢
  have hN := hide (nms_len l)
  have hmem : Hid (∀ k (hk : k < (nms l).length), ∃ p, get l (nms l)[k] = some p) := fun k hk => nms_get (List.getElem_mem hk)
  obtain ⟨i0, hi, hz0, hz1, hz2⟩ := info_parts infoFile
  replace hi := hide hi
  clear h hE hl
  go_enter Try.func22, Try.ntmps22
  go_wp2_with (first
    | (go_at_call 36; refine hM.mono ?_; rintro e w1 ⟨rfl, e1⟩; subst w1)
    | (go_at_call 35; refine (names_any g l w M1.out (by omega)).mono ?_; rintro e w2 ⟨v2, rfl, R2, _, B2⟩; have R3 := row_of_owns R2 (by simp); replace B2 := hide B2; obtain ⟨ao, ca, rfl, r2, r3, r4, r5⟩ := R3; rw [List.length_map] at *; replace r5 := hide r5; clear r2 R2))
  obtain ⟨N, hN2⟩ : ∃ N, Hid ((nms l).length = N) := ⟨_, rfl⟩
  rw [hN2.out] at r3 ⊢
  have Q2 : Hid (∃ vs, FlI w2.heap.size w2 (.slice none 0 0) (((nms l).take 0).map fun s => (s, flOf (fun p => (S.F p).la) l s)) vs ∧ Below w2.heap.size w2 w2) := ⟨[], FlI.nil _ _, Below.refl _ _⟩
  have hN3 : N ≤ 1000000000 := by rw [← hN2.out, hN.out]; omega
  have i4 : (ca : Int) ≤ 9223372036854775807 := by unfold maxLen at r4; omega
  have KW : Hid (∀ q, Below w2.heap.size w2 q → Below w.heap.size w q) := fun q hq => B2.out.trans (hq.mono B2.out.size)
  clear hM hlen r4
  replace hN3 := hide hN3
  go_loopw [3, 15] (fun v6 i wr => ∃ k : Nat, i = .int .i64 k ∧ k ≤ N ∧ Hid (∃ vs, FlI w2.heap.size wr v6 (((nms l).take k).map fun s => (s, flOf (fun p => (S.F p).la) l s)) vs ∧ Below w2.heap.size w2 wr)) (fun _ i _ => N - (intOf i).toNat)
  case atStart => exact ⟨0, rfl, Nat.zero_le _, Q2.out⟩
  case round =>
    obtain ⟨k, rfl, hk, hQ⟩ := hrel
    obtain ⟨vs, O6, B6⟩ := hQ.out
    clear hQ
    by_cases hlt : k < N
    · have i1 : (k : Int) < (N : Int) := by omega
      have hkl : k < (nms l).length := by rw [hN2.out]; exact hlt
      obtain ⟨p, hp⟩ := hmem.out k hkl
      obtain ⟨gb, off, rfl, hcl⟩ := r5.out k (by rw [List.length_map]; exact hkl)
      have hcell : wr.cell? ⟨gb, off + k, none⟩ = some (.string (bsOf (nms l)[k])) := by
        rw [B6.cell (p := ⟨gb, off + k, none⟩) (lt_of_cell hcl), hcl, List.getElem_map]; rfl
      have hB := KW.out wr B6
      have Mr : Mp wr g l := M1.out.heap (hB.block _ M1.out.lt)
      have d2 : wr.cell? ⟨b, 3, none⟩ = some (.map (some g)) := by rw [hB.cell (p := ⟨b, 3, none⟩) (lt_of_cell c2)]; exact c2
      have hL := Mr.look (s := bsOf (nms l)[k]) (Mr.nlen (List.getElem_mem hkl)) hp
      have hF := (H.out.below hB).fs.at_ p (hfl.out p _ hp)
      obtain ⟨x0, x1, _⟩ := cells3 hF.box
      have hz : (S.F p).la.length ≤ 16777216 := by have q1 := H.out.ok.sz p (hfl.out p _ hp); have q2 := hF.le; omega
      obtain ⟨bo, bc, eb, _, _⟩ := hF.l.form
      have hS := hF.l.sl
      rw [eb] at x1 hS
      have hT := clone_bytes wr _ _ hS (by omega)
      have hTL : Hid (flOf (fun p => (S.F p).la) l (nms l)[k] = (S.F p).la) := by show _ = _; unfold flOf; rw [hp]
      have hsn : Hid (((nms l).take (k + 1)).map (fun s => (s, flOf (fun p => (S.F p).la) l s)) = ((nms l).take k).map (fun s => (s, flOf (fun p => (S.F p).la) l s)) ++ [((nms l)[k], (S.F p).la)]) := by show _ = _; rw [List.take_succ_eq_append_getElem hkl, List.map_append, ← hTL.out]; rfl
      unfold TM at hL
      have hLl : Hid ((((nms l).take k).map (fun s => (s, flOf (fun p => (S.F p).la) l s))).length = k) := by show _ = _; rw [List.length_map, List.length_take]; omega
      replace O6 := hide O6
      replace B6 := hide B6
      clear hcl Mr hB hp hTL hF x0 eb hS
      generalize ((nms l).take k).map (fun s => (s, flOf (fun p => (S.F p).la) l s)) = L at *
      generalize (S.F p).la = bl at *
      generalize (nms l)[k] = s at *
      clear hkl hz
      go_wp2_with (first
        | (go_at_call 33; refine hT.mono ?_; rintro e w4 ⟨v4, rfl, U4, B4⟩; obtain ⟨uo, uc, rfl, _, _⟩ := U4.form; replace U4 := hide U4; replace B4 := hide B4; clear hL hT; have N5 := hide (heap_alloc_new w4 (.cells #[.string (bsOf s), .slice uo bl.length uc] 106)); have O5 : Hid (FlI w2.heap.size (w4.alloc (.cells #[.string (bsOf s), .slice uo bl.length uc] 106)) u3 L vs) := hide (O6.out.below (B4.out.trans ((box_below w4 (.cells #[.string (bsOf s), .slice uo bl.length uc] 106)).mono B4.out.size))))
        | (at_builtin; refine wpList_append_lies _ rfl (.tmp 19) (.tmp 32) 56 rfl w2.heap.size 106 i0 (.agg #[.string ⟨#[]⟩, .slice none 0 0]) 2 40 Try.underlying56 hi.out hz0 hz1 hz2 rfl (by decide) u3 L.length (fcells L vs) rfl O5.out.row ⟨w4.heap.size, 0, none⟩ 1 1 [.string (bsOf s), .slice uo bl.length uc] rfl rfl (two_new N5.out) (by simp [Value.oneCell']) (by decide) (by have := hLl.out; have := hN3.out; unfold maxLen; omega) (by have := hLl.out; have := hN3.out; omega) (by have q1 := B6.out.size; have q2 := B4.out.size; simp; omega) (w4.heap.size + 1) (by simp) ?_; intro g2 cap2 w5 ho5 hg5 hat hlt5; replace ho5 := hide ho5; replace hg5 := hide hg5; replace hat := hide hat)
        | fail)
      have Bc : Hid (Below wr.heap.size wr (w4.alloc (.cells #[.string (bsOf s), .slice uo bl.length uc] 106))) := B4.out.trans ((box_below w4 _).mono B4.out.size)
      go_roundw
      case rel =>
        refine ⟨k + 1, by go_num, by omega, vs ++ [.slice uo bl.length uc], ?_, ?_⟩
        · rw [hsn.out]
          refine O6.out.snoc B6.out.size (U4.out.below (box_below w4 _)) Bc.out ho5.out hg5.out ?_
          rcases hat.out with e | e
          · exact .inl (by rw [e]; rfl)
          · exact .inr ⟨g2, rfl, by rw [e]; simp⟩
        · refine Below.grown (B6.out.trans (Bc.out.mono B6.out.size)) hg5.out ?_ ?_
          · have q1 := B6.out.size; have q2 := Bc.out.size; omega
          · intro j hj
            exact (World.ownsRow.lt O5.out.row j hj).1
      case measure => simp [intOf]; omega
    · obtain rfl : k = N := by omega
      rw [List.take_of_length_le (by rw [hN2.out]; omega)] at O6
      replace O6 := hide O6
      replace B6 := hide B6
      go_wp2_with fail
      go_ret
      refine ⟨_, vs, rfl, O6.out.low B2.out.size, KW.out _ B6.out⟩
#print axioms lasts_any
end Go.Proofs.Ytdelknejmapeaaa.Dk

/-
  cut of a file.
-/
namespace Go.Proofs.Ytdelknejmapeaaa.Dk
open Go.RowKit Go.Maps Go.Sort Go.Shelf Go.Proofs.Ytdelknejmapeaaa.Nm
open Ix (wp_region_T wpAnyT wpAnyT_take wpAnyT_one wpAnyT_done vac)

theorem Ob.take {B : Nat} {w : World} {ao : Option Addr} {n ca k : Nat} {L : List UInt8} (h : Ob B w (.slice ao n ca) L) (hk : k ≤ L.length) : Ob B w (.slice ao k ca) (L.take k) := by
  have hl : (L.take k).length = k := by rw [List.length_take]; omega
  rcases h.2 with ⟨e, e2⟩ | ⟨g, cap, cur, e, hg, hh, h1, h2, h3, h4⟩
  · simp only [Value.slice.injEq] at e
    obtain ⟨rfl, rfl, rfl⟩ := e
    have : L = [] := List.length_eq_zero_iff.1 (by omega)
    subst this
    obtain rfl : k = 0 := by simpa using hk
    exact h
  · simp only [Value.slice.injEq] at e
    obtain ⟨rfl, rfl, rfl⟩ := e
    refine ⟨by unfold bvals; rw [List.length_map, hl]; omega, .inr ⟨g, ca, cur, by rw [hl], hg, hh, by rw [hl]; omega, h2, h3, ?_⟩⟩
    rw [hl]
    have e : bvals (L.take k) = (bvals L).take k := by unfold bvals; rw [List.map_take]
    rw [e, ← h4, List.take_take]
    congr 1
    omega
set_option maxRecDepth 100000 in
theorem tail_raw (w : World) (p n m : Nat) (ao ao2 : Option Addr) (ca ca2 : Nat) (x : Value) (hb : w.heap[p]? = some (.cells #[.slice ao n ca, .slice ao2 m ca2, x] TFl (0, 0))) (hle : m ≤ n) (hsz : n ≤ 1099511627776) : Calls Try.prog 49 #[.pointer (some ⟨p, 0, none⟩)] w fun e w' => e = .returned (.int .i64 ((n - m : Nat) : Int)) ∧ ∃ n, w' = w.drewN n := by
  obtain ⟨x0, x1, _⟩ := cells3 hb
  clear hb
  have e1 : ((n - m : Nat) : Int) = (n : Int) - (m : Int) := by omega
  have e2 : IntKind.i64.wrap ((n : Int) - (m : Int)) = (n : Int) - (m : Int) := by rw [IntKind.wrap_i64]; omega
  rw [e1]
  clear e1
  go_enter Try.func49, Try.ntmps49
  go_upto_region 1 with fail
  go_quiet (fail)
  go_wp2_with fail
  go_ret
  exact ⟨rfl, _, rfl⟩
/-- A file behind a Cut. -/
def cuF (f : Fl) (k : Nat) : Fl := ⟨f.by_.take k, f.la.take k, min f.sp (k - min f.la.length k)⟩
set_option maxRecDepth 100000 in
theorem cut_any (w : World) (p k : Nat) (f : Fl) (vb vl : Value) (h : FlAt w p f vb vl) (hk : k ≤ f.by_.length) :
    Calls Try.prog 45 #[.pointer (some ⟨p, 0, none⟩), .int .i64 (k : Int)] w fun e w' => e = .returned (.tuple #[]) ∧ ∃ vb' vl', FlAt w' p (cuF f k) vb' vl' ∧ But (fun k => k = p) w w' ∧ vb'.ownBlock = vb.ownBlock ∧ vl'.ownBlock = vl.ownBlock := by
  obtain ⟨ab, cb, rfl, z1, z2⟩ := h.b.form
  obtain ⟨al, cl, rfl, z3, z4⟩ := h.l.form
  have H := hide h
  obtain ⟨m, hm⟩ : ∃ m, Hid (min f.la.length k = m) := ⟨_, rfl⟩
  obtain ⟨s, hs⟩ : ∃ s, Hid (min f.sp (k - m) = s) := ⟨_, rfl⟩
  have hmin : min (f.la.length : Int) (k : Int) = (m : Int) := by have := hm.out; omega
  have hmin2 : min (f.sp : Int) ((k - m : Nat) : Int) = (s : Int) := by have := hs.out; omega
  have i2 : (k : Int) ≤ (cb : Int) := by omega
  have i3 : (m : Int) ≤ (cl : Int) := by have := hm.out; omega
  have hmk : Hid (m ≤ k ∧ m ≤ f.la.length ∧ k ≤ 1099511627776 ∧ k ≤ f.by_.length ∧ s ≤ k - m) := by have := hm.out; have := h.sz; have := hs.out; show _ ∧ _; omega
  obtain ⟨x0, x1, x2⟩ := cells3 h.box
  have fr := (frozen3 h.box).1
  have b1 : Hid ((w.setCell ⟨p, 0, none⟩ (.slice ab k cb)).heap[p]? = some (.cells #[.slice ab k cb, .slice al f.la.length cl, .int .i64 (f.sp : Int)] TFl (0, 0))) := by show _ = _; rw [heap_setCell_same _ _ _ _ _ _ h.box]; simp
  have g1 := hide (But.of_grownBy (X := fun k => k = p) (grown_setCell w p 0 (.slice ab k cb)) fun k e => by cases e; rfl)
  have KC : Hid (∀ q : World, q.heap[p]? = some (.cells #[.slice ab k cb, .slice al f.la.length cl, .int .i64 (f.sp : Int)] TFl (0, 0)) → q.cell? ⟨p, 1, none⟩ = some (.slice al f.la.length cl)) := fun q hq => (cells3 hq).2.1
  clear h hk z1 z2 z3 z4
  go_enter Try.func45, Try.ntmps45
  go_upto_region 1 with fail
  clear x0 x1 x2 fr
  generalize (w.setCell ⟨p, 0, none⟩ (.slice ab k cb)) = w1 at *
  refine wp_region_T (fun q => q.heap[p]? = some (.cells #[.slice ab k cb, .slice al f.la.length cl, .int .i64 (f.sp : Int)] TFl (0, 0))) 15 (by kernel_rfl) ?_
  have D1 : Hid (Below w1.heap.size w1 w1.drew) := (Below.refl _ _).drew
  have KP : Hid (w1.drew.heap[p]? = some (.cells #[.slice ab k cb, .slice al f.la.length cl, .int .i64 (f.sp : Int)] TFl (0, 0))) := (D1.out.block p (heap_lt b1.out)).trans b1.out
  have g2 : Hid (But (fun k => k = p) w w1.drew) := g1.out.trans (But.of_below D1.out _)
  clear D1 b1 g1
  generalize w1.drew = q at *
  refine wpAnyT_take (i := 0) (oi := { dst := some 13, op := Op.move (Operand.tmp 0), type := 73, pos := "file.go:44", after := #[], guard := none }) (v := .pointer (some ⟨p, 0, none⟩)) [15] rfl (by kernel_rfl) (by kernel_rfl) (by kernel_rfl) (by kernel_rfl) (fun _ _ _ h => h) (Or.inl ⟨by rfl, ?_⟩) KP.out ?_
  · intro wq hSw
    have y2 := KC.out wq hSw
    go_simp
  (try simp only [Act.put, List.setIfInBounds_toArray, List.set_cons_zero, List.set_cons_succ])
  refine wpAnyT_take (i := 1) (oi := { dst := some 14, op := Op.move (Operand.tmp 0), type := 73, pos := "file.go:44", after := #[], guard := none }) (v := .pointer (some ⟨p, 0, none⟩)) [15] rfl (by kernel_rfl) (by kernel_rfl) (by kernel_rfl) (by kernel_rfl) (fun _ _ _ h => h) (Or.inl ⟨by rfl, ?_⟩) KP.out ?_
  · intro wq hSw
    have y2 := KC.out wq hSw
    go_simp
  (try simp only [Act.put, List.setIfInBounds_toArray, List.set_cons_zero, List.set_cons_succ])
  refine wpAnyT_take (i := 2) (oi := { dst := some 15, op := Op.nilCheck (Operand.tmp 14), type := 0, pos := "file.go:44", after := #[{ on := 1, ground := Ground.data }], guard := none }) (v := .pointer (some ⟨p, 0, none⟩)) [15] rfl (by kernel_rfl) (by kernel_rfl) (by kernel_rfl) (by kernel_rfl) (fun _ _ _ h => h) (Or.inl ⟨by rfl, ?_⟩) KP.out ?_
  · intro wq hSw
    have y2 := KC.out wq hSw
    go_simp
  (try simp only [Act.put, List.setIfInBounds_toArray, List.set_cons_zero, List.set_cons_succ])
  refine wpAnyT_take (i := 3) (oi := { dst := some 16, op := Op.fieldAddr 81 (Operand.tmp 15) 1, type := 0, pos := "file.go:44", after := #[{ on := 2, ground := Ground.data }], guard := none }) (v := .pointer (some ⟨p, 1, none⟩)) [15] rfl (by kernel_rfl) (by kernel_rfl) (by kernel_rfl) (by kernel_rfl) (fun _ _ _ h => h) (Or.inl ⟨by rfl, ?_⟩) KP.out ?_
  · intro wq hSw
    have y2 := KC.out wq hSw
    go_simp
  (try simp only [Act.put, List.setIfInBounds_toArray, List.set_cons_zero, List.set_cons_succ])
  refine wpAnyT_take (i := 4) (oi := { dst := some 17, op := Op.load 22 (Operand.tmp 16), type := 22, pos := "file.go:44", after := #[{ on := 3, ground := Ground.data }], guard := none }) (v := .slice al f.la.length cl) [15] rfl (by kernel_rfl) (by kernel_rfl) (by kernel_rfl) (by kernel_rfl) (fun _ _ _ h => h) (Or.inl ⟨by rfl, ?_⟩) KP.out ?_
  · intro wq hSw
    have y2 := KC.out wq hSw
    go_simp
  (try simp only [Act.put, List.setIfInBounds_toArray, List.set_cons_zero, List.set_cons_succ])
  refine wpAnyT_take (i := 5) (oi := { dst := some 18, op := Op.move (Operand.tmp 0), type := 73, pos := "file.go:44", after := #[], guard := none }) (v := .pointer (some ⟨p, 0, none⟩)) [15] rfl (by kernel_rfl) (by kernel_rfl) (by kernel_rfl) (by kernel_rfl) (fun _ _ _ h => h) (Or.inl ⟨by rfl, ?_⟩) KP.out ?_
  · intro wq hSw
    have y2 := KC.out wq hSw
    go_simp
  (try simp only [Act.put, List.setIfInBounds_toArray, List.set_cons_zero, List.set_cons_succ])
  refine wpAnyT_take (i := 6) (oi := { dst := some 19, op := Op.nilCheck (Operand.tmp 18), type := 0, pos := "file.go:44", after := #[{ on := 5, ground := Ground.data }], guard := none }) (v := .pointer (some ⟨p, 0, none⟩)) [15] rfl (by kernel_rfl) (by kernel_rfl) (by kernel_rfl) (by kernel_rfl) (fun _ _ _ h => h) (Or.inl ⟨by rfl, ?_⟩) KP.out ?_
  · intro wq hSw
    have y2 := KC.out wq hSw
    go_simp
  (try simp only [Act.put, List.setIfInBounds_toArray, List.set_cons_zero, List.set_cons_succ])
  refine wpAnyT_take (i := 7) (oi := { dst := some 20, op := Op.fieldAddr 81 (Operand.tmp 19) 1, type := 0, pos := "file.go:44", after := #[{ on := 6, ground := Ground.data }], guard := none }) (v := .pointer (some ⟨p, 1, none⟩)) [15] rfl (by kernel_rfl) (by kernel_rfl) (by kernel_rfl) (by kernel_rfl) (fun _ _ _ h => h) (Or.inl ⟨by rfl, ?_⟩) KP.out ?_
  · intro wq hSw
    have y2 := KC.out wq hSw
    go_simp
  (try simp only [Act.put, List.setIfInBounds_toArray, List.set_cons_zero, List.set_cons_succ])
  refine wpAnyT_take (i := 8) (oi := { dst := some 21, op := Op.load 22 (Operand.tmp 20), type := 22, pos := "file.go:44", after := #[{ on := 7, ground := Ground.data }], guard := none }) (v := .slice al f.la.length cl) [15] rfl (by kernel_rfl) (by kernel_rfl) (by kernel_rfl) (by kernel_rfl) (fun _ _ _ h => h) (Or.inl ⟨by rfl, ?_⟩) KP.out ?_
  · intro wq hSw
    have y2 := KC.out wq hSw
    go_simp
  (try simp only [Act.put, List.setIfInBounds_toArray, List.set_cons_zero, List.set_cons_succ])
  refine wpAnyT_take (i := 9) (oi := { dst := some 22, op := Op.call { callee := Callee.builtin Builtin.len, args := #[Operand.tmp 21], argTypes := #[22] }, type := 3, pos := "file.go:44", after := #[{ on := 8, ground := Ground.data }], guard := none }) (v := .int .i64 (f.la.length : Int)) [15] rfl (by kernel_rfl) (by kernel_rfl) (by kernel_rfl) (by kernel_rfl) (fun _ _ _ h => h) (Or.inl ⟨by rfl, ?_⟩) KP.out ?_
  · intro wq hSw
    have y2 := KC.out wq hSw
    go_simp
  (try simp only [Act.put, List.setIfInBounds_toArray, List.set_cons_zero, List.set_cons_succ])
  refine wpAnyT_take (i := 10) (oi := { dst := some 23, op := Op.move (Operand.tmp 1), type := 3, pos := "file.go:44", after := #[], guard := none }) (v := .int .i64 (k : Int)) [15] rfl (by kernel_rfl) (by kernel_rfl) (by kernel_rfl) (by kernel_rfl) (fun _ _ _ h => h) (Or.inl ⟨by rfl, ?_⟩) KP.out ?_
  · intro wq hSw
    have y2 := KC.out wq hSw
    go_simp
  (try simp only [Act.put, List.setIfInBounds_toArray, List.set_cons_zero, List.set_cons_succ])
  refine wpAnyT_take (i := 11) (oi := { dst := some 24, op := Op.call { callee := Callee.builtin Builtin.min, args := #[Operand.tmp 22, Operand.tmp 23], argTypes := #[3, 3] }, type := 3, pos := "file.go:44", after := #[{ on := 9, ground := Ground.data }, { on := 10, ground := Ground.data }], guard := none }) (v := .int .i64 (m : Int)) [15] rfl (by kernel_rfl) (by kernel_rfl) (by kernel_rfl) (by kernel_rfl) (fun _ _ _ h => h) (Or.inl ⟨by rfl, ?_⟩) KP.out ?_
  · intro wq hSw
    have y2 := KC.out wq hSw
    go_simp
  (try simp only [Act.put, List.setIfInBounds_toArray, List.set_cons_zero, List.set_cons_succ])
  refine wpAnyT_take (i := 12) (oi := { dst := some 25, op := Op.slice 22 (Operand.tmp 17) none (some (Operand.tmp 24)) none, type := 22, pos := "file.go:44", after := #[{ on := 4, ground := Ground.data }, { on := 11, ground := Ground.data }], guard := none }) (v := .slice al m cl) [15] rfl (by kernel_rfl) (by kernel_rfl) (by kernel_rfl) (by kernel_rfl) (fun _ _ _ h => h) (Or.inl ⟨by rfl, ?_⟩) KP.out ?_
  · intro wq hSw
    have y2 := KC.out wq hSw
    go_simp
  (try simp only [Act.put, List.setIfInBounds_toArray, List.set_cons_zero, List.set_cons_succ])
  refine wpAnyT_take (i := 13) (oi := { dst := some 26, op := Op.nilCheck (Operand.tmp 13), type := 0, pos := "file.go:44", after := #[{ on := 0, ground := Ground.data }, { on := 0, ground := Ground.phase }, { on := 1, ground := Ground.phase }, { on := 2, ground := Ground.phase }, { on := 3, ground := Ground.phase }, { on := 4, ground := Ground.phase }, { on := 5, ground := Ground.phase }, { on := 6, ground := Ground.phase }, { on := 7, ground := Ground.phase }, { on := 8, ground := Ground.phase }, { on := 9, ground := Ground.phase }, { on := 10, ground := Ground.phase }, { on := 11, ground := Ground.phase }, { on := 12, ground := Ground.phase }], guard := none }) (v := .pointer (some ⟨p, 0, none⟩)) [14, 15] rfl (by kernel_rfl) (by kernel_rfl) (by kernel_rfl) (by kernel_rfl) (fun _ _ _ h => h) (Or.inl ⟨by rfl, ?_⟩) KP.out ?_
  · intro wq hSw
    have y2 := KC.out wq hSw
    go_simp
  (try simp only [Act.put, List.setIfInBounds_toArray, List.set_cons_zero, List.set_cons_succ])
  refine wpAnyT_take (i := 14) (oi := { dst := some 27, op := Op.fieldAddr 81 (Operand.tmp 26) 1, type := 0, pos := "file.go:44", after := #[{ on := 13, ground := Ground.data }, { on := 0, ground := Ground.phase }, { on := 1, ground := Ground.phase }, { on := 2, ground := Ground.phase }, { on := 3, ground := Ground.phase }, { on := 4, ground := Ground.phase }, { on := 5, ground := Ground.phase }, { on := 6, ground := Ground.phase }, { on := 7, ground := Ground.phase }, { on := 8, ground := Ground.phase }, { on := 9, ground := Ground.phase }, { on := 10, ground := Ground.phase }, { on := 11, ground := Ground.phase }, { on := 12, ground := Ground.phase }], guard := none }) (v := .pointer (some ⟨p, 1, none⟩)) [15] rfl (by kernel_rfl) (by kernel_rfl) (by kernel_rfl) (by kernel_rfl) (fun _ _ _ h => h) (Or.inl ⟨by rfl, ?_⟩) KP.out ?_
  · intro wq hSw
    have y2 := KC.out wq hSw
    go_simp
  (try simp only [Act.put, List.setIfInBounds_toArray, List.set_cons_zero, List.set_cons_succ])
  have d1 := (cells3 KP.out).2.1
  have d2 := (frozen3 KP.out).2.1
  refine wpAnyT_one (i := 15) (o := { dst := none, op := Op.store 22 (Operand.tmp 27) (Operand.tmp 25), type := 0, pos := "file.go:44", after := #[{ on := 14, ground := Ground.data }, { on := 12, ground := Ground.data }, { on := 0, ground := Ground.phase }, { on := 1, ground := Ground.phase }, { on := 2, ground := Ground.phase }, { on := 3, ground := Ground.phase }, { on := 4, ground := Ground.phase }, { on := 5, ground := Ground.phase }, { on := 6, ground := Ground.phase }, { on := 7, ground := Ground.phase }, { on := 8, ground := Ground.phase }, { on := 9, ground := Ground.phase }, { on := 10, ground := Ground.phase }, { on := 11, ground := Ground.phase }, { on := 12, ground := Ground.phase }], guard := none }) (by kernel_rfl) rfl (fun K hK => ?_)
  go_simp
  refine hK.out _ _ (vac (by kernel_rfl)) ?_
  clear hK K d1 d2 KC
  refine wpAnyT_done (by kernel_rfl) ?_ _
  have b3 : Hid ((q.setCell ⟨p, 1, none⟩ (.slice al m cl)).heap[p]? = some (.cells #[.slice ab k cb, .slice al m cl, .int .i64 (f.sp : Int)] TFl (0, 0))) := by show _ = _; rw [heap_setCell_same _ _ _ _ _ _ KP.out]; simp
  have g3 : Hid (But (fun k => k = p) w (q.setCell ⟨p, 1, none⟩ (.slice al m cl))) := g2.out.trans (But.of_grownBy (X := fun k => k = p) (grown_setCell q p 1 (.slice al m cl)) fun k e => by cases e; rfl)
  clear KP g2
  generalize (q.setCell ⟨p, 1, none⟩ (.slice al m cl)) = w3 at *
  have KC : Hid (∀ q : World, q.heap[p]? = some (.cells #[.slice ab k cb, .slice al m cl, .int .i64 (f.sp : Int)] TFl (0, 0)) → q.cell? ⟨p, 2, none⟩ = some (.int .i64 (f.sp : Int))) := fun q hq => (cells3 hq).2.2
  go_upto_region 2 with fail
  refine wp_region_T (fun q => q.heap[p]? = some (.cells #[.slice ab k cb, .slice al m cl, .int .i64 (f.sp : Int)] TFl (0, 0))) 10 (by kernel_rfl) ?_
  have D3 : Hid (Below w3.heap.size w3 w3.drew) := (Below.refl _ _).drew
  have KP : Hid (w3.drew.heap[p]? = some (.cells #[.slice ab k cb, .slice al m cl, .int .i64 (f.sp : Int)] TFl (0, 0))) := (D3.out.block p (heap_lt b3.out)).trans b3.out
  have g4 : Hid (But (fun k => k = p) w w3.drew) := g3.out.trans (But.of_below D3.out _)
  clear D3 b3 g3
  generalize w3.drew = q3 at *
  have hT := tail_raw q3 p k m ab al cb cl (.int .i64 (f.sp : Int)) KP.out hmk.out.1 hmk.out.2.2.1
  refine wpAnyT_take (i := 0) (oi := { dst := some 28, op := Op.move (Operand.tmp 0), type := 73, pos := "file.go:45", after := #[], guard := none }) (v := .pointer (some ⟨p, 0, none⟩)) [10] rfl (by kernel_rfl) (by kernel_rfl) (by kernel_rfl) (by kernel_rfl) (fun _ _ _ h => h) (Or.inl ⟨by rfl, ?_⟩) KP.out ?_
  · intro wq hSw
    have y2 := KC.out wq hSw
    go_simp
  (try simp only [Act.put, List.setIfInBounds_toArray, List.set_cons_zero, List.set_cons_succ])
  refine wpAnyT_take (i := 1) (oi := { dst := some 29, op := Op.move (Operand.tmp 0), type := 73, pos := "file.go:45", after := #[], guard := none }) (v := .pointer (some ⟨p, 0, none⟩)) [10] rfl (by kernel_rfl) (by kernel_rfl) (by kernel_rfl) (by kernel_rfl) (fun _ _ _ h => h) (Or.inl ⟨by rfl, ?_⟩) KP.out ?_
  · intro wq hSw
    have y2 := KC.out wq hSw
    go_simp
  (try simp only [Act.put, List.setIfInBounds_toArray, List.set_cons_zero, List.set_cons_succ])
  refine wpAnyT_take (i := 2) (oi := { dst := some 30, op := Op.nilCheck (Operand.tmp 29), type := 0, pos := "file.go:45", after := #[{ on := 1, ground := Ground.data }], guard := none }) (v := .pointer (some ⟨p, 0, none⟩)) [10] rfl (by kernel_rfl) (by kernel_rfl) (by kernel_rfl) (by kernel_rfl) (fun _ _ _ h => h) (Or.inl ⟨by rfl, ?_⟩) KP.out ?_
  · intro wq hSw
    have y2 := KC.out wq hSw
    go_simp
  (try simp only [Act.put, List.setIfInBounds_toArray, List.set_cons_zero, List.set_cons_succ])
  refine wpAnyT_take (i := 3) (oi := { dst := some 31, op := Op.fieldAddr 81 (Operand.tmp 30) 2, type := 0, pos := "file.go:45", after := #[{ on := 2, ground := Ground.data }], guard := none }) (v := .pointer (some ⟨p, 2, none⟩)) [10] rfl (by kernel_rfl) (by kernel_rfl) (by kernel_rfl) (by kernel_rfl) (fun _ _ _ h => h) (Or.inl ⟨by rfl, ?_⟩) KP.out ?_
  · intro wq hSw
    have y2 := KC.out wq hSw
    go_simp
  (try simp only [Act.put, List.setIfInBounds_toArray, List.set_cons_zero, List.set_cons_succ])
  refine wpAnyT_take (i := 4) (oi := { dst := some 32, op := Op.load 3 (Operand.tmp 31), type := 3, pos := "file.go:45", after := #[{ on := 3, ground := Ground.data }], guard := none }) (v := .int .i64 (f.sp : Int)) [10] rfl (by kernel_rfl) (by kernel_rfl) (by kernel_rfl) (by kernel_rfl) (fun _ _ _ h => h) (Or.inl ⟨by rfl, ?_⟩) KP.out ?_
  · intro wq hSw
    have y2 := KC.out wq hSw
    go_simp
  (try simp only [Act.put, List.setIfInBounds_toArray, List.set_cons_zero, List.set_cons_succ])
  refine wpAnyT_take (i := 5) (oi := { dst := some 33, op := Op.move (Operand.tmp 0), type := 73, pos := "file.go:45", after := #[], guard := none }) (v := .pointer (some ⟨p, 0, none⟩)) [10] rfl (by kernel_rfl) (by kernel_rfl) (by kernel_rfl) (by kernel_rfl) (fun _ _ _ h => h) (Or.inl ⟨by rfl, ?_⟩) KP.out ?_
  · intro wq hSw
    have y2 := KC.out wq hSw
    go_simp
  (try simp only [Act.put, List.setIfInBounds_toArray, List.set_cons_zero, List.set_cons_succ])
  refine wpAnyT_one (i := 6) (o := { dst := some 34, op := Op.call { callee := Callee.value (Operand.func 49), args := #[Operand.tmp 33], argTypes := #[73] }, type := 3, pos := "file.go:45", after := #[{ on := 5, ground := Ground.data }], guard := none }) (by kernel_rfl) rfl (fun K hK => ?_)
  go_simp
  go_at_call 49
  refine hT.mono ?_
  rintro e w5 ⟨rfl, nq, rfl⟩
  have B5 : Hid (Below q3.heap.size q3 (q3.drewN nq)) := Qt.below ⟨nq, rfl⟩ _
  have K5 : Hid ((q3.drewN nq).heap[p]? = some (.cells #[.slice ab k cb, .slice al m cl, .int .i64 (f.sp : Int)] TFl (0, 0))) := (B5.out.block p (heap_lt KP.out)).trans KP.out
  have g5 : Hid (But (fun k => k = p) w (q3.drewN nq)) := g4.out.trans (But.of_below B5.out _)
  (try go_simp)
  refine hK.out _ _ (fun _ => K5.out) ?_
  clear hK K hT B5 KP g4
  (try simp only [Act.put, List.setIfInBounds_toArray, List.set_cons_zero, List.set_cons_succ])
  generalize q3.drewN nq = q5 at *
  refine wpAnyT_take (i := 7) (oi := { dst := some 35, op := Op.call { callee := Callee.builtin Builtin.min, args := #[Operand.tmp 32, Operand.tmp 34], argTypes := #[3, 3] }, type := 3, pos := "file.go:45", after := #[{ on := 4, ground := Ground.data }, { on := 6, ground := Ground.data }], guard := none }) (v := .int .i64 (s : Int)) [10] rfl (by kernel_rfl) (by kernel_rfl) (by kernel_rfl) (by kernel_rfl) (fun _ _ _ h => h) (Or.inl ⟨by rfl, ?_⟩) K5.out ?_
  · intro wq hSw
    have y2 := KC.out wq hSw
    go_simp
  (try simp only [Act.put, List.setIfInBounds_toArray, List.set_cons_zero, List.set_cons_succ])
  refine wpAnyT_take (i := 8) (oi := { dst := some 36, op := Op.nilCheck (Operand.tmp 28), type := 0, pos := "file.go:45", after := #[{ on := 0, ground := Ground.data }, { on := 0, ground := Ground.phase }, { on := 1, ground := Ground.phase }, { on := 2, ground := Ground.phase }, { on := 3, ground := Ground.phase }, { on := 4, ground := Ground.phase }, { on := 5, ground := Ground.phase }, { on := 6, ground := Ground.phase }, { on := 7, ground := Ground.phase }], guard := none }) (v := .pointer (some ⟨p, 0, none⟩)) [9, 10] rfl (by kernel_rfl) (by kernel_rfl) (by kernel_rfl) (by kernel_rfl) (fun _ _ _ h => h) (Or.inl ⟨by rfl, ?_⟩) K5.out ?_
  · intro wq hSw
    have y2 := KC.out wq hSw
    go_simp
  (try simp only [Act.put, List.setIfInBounds_toArray, List.set_cons_zero, List.set_cons_succ])
  refine wpAnyT_take (i := 9) (oi := { dst := some 37, op := Op.fieldAddr 81 (Operand.tmp 36) 2, type := 0, pos := "file.go:45", after := #[{ on := 8, ground := Ground.data }, { on := 0, ground := Ground.phase }, { on := 1, ground := Ground.phase }, { on := 2, ground := Ground.phase }, { on := 3, ground := Ground.phase }, { on := 4, ground := Ground.phase }, { on := 5, ground := Ground.phase }, { on := 6, ground := Ground.phase }, { on := 7, ground := Ground.phase }], guard := none }) (v := .pointer (some ⟨p, 2, none⟩)) [10] rfl (by kernel_rfl) (by kernel_rfl) (by kernel_rfl) (by kernel_rfl) (fun _ _ _ h => h) (Or.inl ⟨by rfl, ?_⟩) K5.out ?_
  · intro wq hSw
    have y2 := KC.out wq hSw
    go_simp
  (try simp only [Act.put, List.setIfInBounds_toArray, List.set_cons_zero, List.set_cons_succ])
  have d1 := (cells3 K5.out).2.2
  have d2 := (frozen3 K5.out).2.2
  refine wpAnyT_one (i := 10) (o := { dst := none, op := Op.store 3 (Operand.tmp 37) (Operand.tmp 35), type := 0, pos := "file.go:45", after := #[{ on := 9, ground := Ground.data }, { on := 7, ground := Ground.data }, { on := 6, ground := Ground.chain }, { on := 0, ground := Ground.phase }, { on := 1, ground := Ground.phase }, { on := 2, ground := Ground.phase }, { on := 3, ground := Ground.phase }, { on := 4, ground := Ground.phase }, { on := 5, ground := Ground.phase }, { on := 6, ground := Ground.phase }, { on := 7, ground := Ground.phase }], guard := none }) (by kernel_rfl) rfl (fun K hK => ?_)
  go_simp
  refine hK.out _ _ (vac (by kernel_rfl)) ?_
  clear hK K d1 d2 KC
  refine wpAnyT_done (by kernel_rfl) ?_ _
  have b6 : (q5.setCell ⟨p, 2, none⟩ (.int .i64 (s : Int))).heap[p]? = some (.cells #[.slice ab k cb, .slice al m cl, .int .i64 (s : Int)] TFl (0, 0)) := by rw [heap_setCell_same _ _ _ _ _ _ K5.out]; simp
  have g6 : But (fun k => k = p) w (q5.setCell ⟨p, 2, none⟩ (.int .i64 (s : Int))) := g5.out.trans (But.of_grownBy (X := fun k => k = p) (grown_setCell q5 p 2 (.int .i64 (s : Int))) fun k e => by cases e; rfl)
  replace b6 := hide b6
  replace g6 := hide g6
  clear K5 g5
  generalize (q5.setCell ⟨p, 2, none⟩ (.int .i64 (s : Int))) = w6 at *
  go_wp2_with fail
  go_end0
  have hq := hmk.out
  have ob := (H.out.b.but g6.out (fun j hj e => H.out.b.no H.out.box (by decide) (by rw [← e]; exact hj))).take (k := k) hq.2.2.2.1
  have ol := (H.out.l.but g6.out (fun j hj e => H.out.l.no H.out.box (by decide) (by rw [← e]; exact hj))).take (k := m) hq.2.1
  have e1 : f.la.take m = f.la.take k := by rw [← hm.out, Nat.min_comm, ← List.take_eq_take_min]
  refine ⟨rfl, .slice ab k cb, .slice al m cl, ?_, g6.out, ?_, ?_⟩
  · refine ⟨?_, ob, ?_, fun j hj => (by cases ab <;> cases al <;> first | exact H.out.ne j hj | (intro c; cases c) | (cases hj)), ?_, ?_, ?_⟩
    · have : ((cuF f k).sp : Int) = (s : Int) := by unfold cuF; rw [hm.out, hs.out]
      rw [this]; exact b6.out
    · show Ob 0 w6 _ (f.la.take k)
      rw [← e1]; exact ol
    · show (f.la.take k).length ≤ (f.by_.take k).length
      rw [List.length_take, List.length_take]; have := H.out.le; omega
    · show min f.sp (k - min f.la.length k) ≤ (f.by_.take k).length - (f.la.take k).length
      rw [List.length_take, List.length_take]; omega
    · show (f.by_.take k).length ≤ _
      rw [List.length_take]; omega
  · cases ab <;> rfl
  · cases al <;> rfl
#print axioms cut_any
end Go.Proofs.Ytdelknejmapeaaa.Dk

/-
  Cut.
-/
namespace Go.Proofs.Ytdelknejmapeaaa.Dk
open Go.RowKit Go.Maps Go.Sort Go.Shelf Go.Proofs.Ytdelknejmapeaaa.Nm

/-- Cut, by data. -/
def DS.cut (S : DS) (s : ByteArray) (n : Int) : DS × Int :=
  match S.find s with
  | (none, e) => (S, e)
  | (some p, _) =>
    if n < 0 ∨ ((S.F p).by_.length : Int) < n then (S, 8)
    else if strR S.flt.2.1 ≠ 0 then ((S.beg 3).str S.flt.2.1, strR S.flt.2.1)
    else ({ S.beg 3 with F := upd S.F p (cuF (S.F p) n.toNat) }, 0)
theorem strR_zero {k : Int} (h : strR k = 0) : k ≠ 3 := fun e => by subst e; revert h; decide
set_option maxRecDepth 100000 in
set_option maxHeartbeats 1000000 in
theorem cutD_any {w : World} {b : Nat} {S : DS} {O : Nat → Prop} {f g : Nat} {pd : Value} {am : Option Nat} {VB VL : Nat → Value} (h : Dsk w b S O f g pd am VB VL) (s : ByteArray) (hs : s.size ≤ maxLen) (n : Int) (n0 : -9223372036854775808 ≤ n) (n1 : n ≤ 9223372036854775807) (hc : S.c7 < 900000000) :
    Calls Try.prog 13 #[.pointer (some ⟨b, 0, none⟩), .string s, .int .i64 n] w (Does w b O (S.cut s n)) := by
  have hF := dsk_find h s hs
  by_cases h0 : (S.find s).2 = 0
  · obtain ⟨p, e, hg, hr, hp⟩ := find_ok h0
    rw [e] at hF
    simp only [Option.map_some] at hF
    have hR : Hid (S.cut s n = if n < 0 ∨ ((S.F p).by_.length : Int) < n then (S, 8) else if strR S.flt.2.1 ≠ 0 then ((S.beg 3).str S.flt.2.1, strR S.flt.2.1) else ({ S.beg 3 with F := upd S.F p (cuF (S.F p) n.toNat) }, 0)) := by show _ = _; unfold DS.cut; rw [e]
    have hsz := hide (h.ok.sz p hp)
    have H := hide h
    have hlen : Hid (∀ u, Dsk u b S O f g pd am VB VL → ∃ ao ca, u.cell? ⟨p, 0, none⟩ = some (.slice ao (S.F p).by_.length ca)) := fun u hu => by
      have hf := hu.fs.at_ p hp
      obtain ⟨ao, ca, e, _, _⟩ := hf.b.form
      have := (cells3 hf.box).1
      rw [e] at this
      exact ⟨ao, ca, this⟩
    by_cases q1 : n < 0
    · have hR2 : Hid (S.cut s n = (S, 8)) := by show _ = _; rw [hR.out, if_pos (.inl q1)]
      rw [hR2.out]
      clear h e hr h0 hg hR hR2
      go_enter Try.func13, Try.ntmps13
      go_wp2_with (go_at_call 29; refine hF.mono ?_; rintro e w1 ⟨rfl, B1⟩; replace B1 := hide B1)
      go_ret
      exact ⟨rfl, O, (H.out.below B1.out).e, Sgo.of_below B1.out⟩
    · have q1' : 0 ≤ n := by omega
      by_cases q2 : ((S.F p).by_.length : Int) < n
      · have hR2 : Hid (S.cut s n = (S, 8)) := by show _ = _; rw [hR.out, if_pos (.inr q2)]
        rw [hR2.out]
        clear h e hr h0 hg hR hR2
        go_enter Try.func13, Try.ntmps13
        go_wp2_with (go_at_call 29; refine hF.mono ?_; rintro e w1 ⟨rfl, B1⟩; replace B1 := hide B1; obtain ⟨ao, ca, x0⟩ := hlen.out _ (H.out.below B1.out))
        go_ret
        exact ⟨rfl, O, (H.out.below B1.out).e, Sgo.of_below B1.out⟩
      · have q2' : n ≤ ((S.F p).by_.length : Int) := by omega
        obtain ⟨k, rfl⟩ : ∃ k : Nat, n = k := ⟨n.toNat, by omega⟩
        have hb : Hid (∀ u, Dsk u b S O f g pd am VB VL → _) := fun u hu => dsk_begin hu 3 (by omega) (by omega)
        have hft := h.ok.flt
        obtain ⟨t, ht⟩ : ∃ t, Hid (S.flt = t) := ⟨_, rfl⟩
        rw [ht.out] at hb hft hR
        have hst : Hid (∀ u, Dsk u b (S.beg 3) O f g pd am VB VL → _) := fun u hu => dsk_strikeR hu t (by omega)
        unfold fv at hb hst
        obtain ⟨ta, tk, tp⟩ := t
        dsimp only at hb hft hR hst
        have hcu : Hid (∀ u, Dsk u b (S.beg 3) O f g pd am VB VL → Calls Try.prog 45 #[.pointer (some ⟨p, 0, none⟩), .int .i64 (k : Int)] u fun e w' => e = .returned (.tuple #[]) ∧ ∃ O', DskE w' b { S.beg 3 with F := upd S.F p (cuF (S.F p) k) } O' ∧ Sgo u w' O O') := fun u hu => by
          refine (cut_any u p k (S.F p) (VB p) (VL p) (hu.fs.at_ p hp) (by omega)).mono ?_
          rintro e w' ⟨rfl, vb', vl', hf, hB, ob, ol⟩
          obtain ⟨O', k1, k2⟩ := hu.one (t := cuF (S.F p) k) hp hf (hB.mono fun k _ e => .inl e) (fun j hj => .inl (by unfold FOwn at hj ⊢; rw [ob, ol] at hj; exact hj)) (by have := hsz.out; show (List.take _ _).length ≤ _; rw [List.length_take]; omega)
          exact ⟨rfl, O', k1.e, k2⟩
        obtain ⟨r, hr0⟩ : ∃ r, strR tk = r := ⟨_, rfl⟩
        by_cases k1 : r = 0
        · have hR2 : Hid (S.cut s k = ({ S.beg 3 with F := upd S.F p (cuF (S.F p) k) }, 0)) := by show _ = _; rw [hR.out, if_neg (by omega), if_neg (by rw [hr0]; simpa using k1)]; rfl
          rw [hR2.out]
          have e2 : (S.beg 3).str tk = S.beg 3 := by unfold DS.str; rw [if_neg (strR_zero (by rw [hr0]; exact k1))]
          rw [hr0, k1, e2] at hst
          clear h e hr h0 hg hR hR2 hft hr0 k1 e2
          go_enter Try.func13, Try.ntmps13
          go_wp2_with (first
            | (go_at_call 29; refine hF.mono ?_; rintro e w1 ⟨rfl, B1⟩; replace B1 := hide B1; have D1 := hide (H.out.below B1.out); obtain ⟨ao, ca, x0⟩ := hlen.out _ D1.out)
            | (go_at_call 30; refine (hb.out _ D1.out).mono ?_; rintro e w2 ⟨rfl, D2, G2⟩; replace D2 := hide D2; replace G2 := hide G2)
            | (go_at_call 43; refine (hst.out _ D2.out).mono ?_; rintro e w3 ⟨rfl, D3, G3⟩; replace D3 := hide D3; replace G3 := hide G3)
            | (go_at_call 45; refine (hcu.out _ D3.out).mono ?_; rintro e w4 ⟨rfl, O4, D4, G4⟩; replace D4 := hide D4; replace G4 := hide G4))
          go_ret
          exact ⟨rfl, O4, D4.out, (Sgo.of_below (O := O) B1.out).trans (G2.out.trans (G3.out.trans G4.out))⟩
        · have hR2 : Hid (S.cut s k = ((S.beg 3).str tk, r)) := by show _ = _; rw [hR.out, if_neg (by omega), if_pos (by rw [hr0]; exact k1), hr0]
          rw [hR2.out]
          rw [hr0] at hst
          have h0' : (r != 0) = true := by simpa using k1
          clear h e hr h0 hg hR hR2 hft hr0 k1 hcu
          go_enter Try.func13, Try.ntmps13
          go_wp2_with (first
            | (go_at_call 29; refine hF.mono ?_; rintro e w1 ⟨rfl, B1⟩; replace B1 := hide B1; have D1 := hide (H.out.below B1.out); obtain ⟨ao, ca, x0⟩ := hlen.out _ D1.out)
            | (go_at_call 30; refine (hb.out _ D1.out).mono ?_; rintro e w2 ⟨rfl, D2, G2⟩; replace D2 := hide D2; replace G2 := hide G2)
            | (go_at_call 43; refine (hst.out _ D2.out).mono ?_; rintro e w3 ⟨rfl, D3, G3⟩; replace D3 := hide D3; replace G3 := hide G3))
          go_ret
          exact ⟨rfl, O, D3.out.e, (Sgo.of_below (O := O) B1.out).trans (G2.out.trans G3.out)⟩
  · have hR : Hid (S.cut s n = (S, (S.find s).2)) := by
      show _ = _
      have q := find_no h0
      unfold DS.cut
      cases hq : S.find s with
      | mk a c => rw [hq] at q; dsimp only at q; subst q; rfl
    rw [hR.out]
    have q := find_no h0
    rw [q] at hF
    simp only [Option.map_none] at hF
    generalize (S.find s).2 = r at *
    have h0' : (r != 0) = true := by simpa using h0
    have H := hide h
    clear h h0 q hR
    go_enter Try.func13, Try.ntmps13
    go_wp2_with (go_at_call 29; refine hF.mono ?_; rintro e w1 ⟨rfl, B1⟩; replace B1 := hide B1)
    go_ret
    exact ⟨rfl, O, (H.out.below B1.out).e, Sgo.of_below B1.out⟩
#print axioms cutD_any
end Go.Proofs.Ytdelknejmapeaaa.Dk

/-
  copy of a file.
-/
namespace Go.Proofs.Ytdelknejmapeaaa.Dk
open Go.RowKit Go.Maps Go.Sort Go.Shelf Go.Proofs.Ytdelknejmapeaaa.Nm
open Ix (wp_region_T wpAnyT wpAnyT_take wpAnyT_one wpAnyT_done vac)

/-- A file in memory that is new since B. -/
structure FNew (B : Nat) (w : World) (p : Nat) (f : Fl) (vb vl : Value) : Prop where
  at_ : FlAt w p f vb vl
  lo : ∀ k, FOwn p vb vl k → B ≤ k
set_option maxRecDepth 100000 in
theorem copyF_any (w : World) (p : Nat) (f : Fl) (vb vl : Value) (h : FlAt w p f vb vl) :
    Calls Try.prog 48 #[.pointer (some ⟨p, 0, none⟩)] w fun e w' => ∃ p' vb' vl', e = .returned (.pointer (some ⟨p', 0, none⟩)) ∧ FNew w.heap.size w' p' f vb' vl' ∧ Below w.heap.size w w' := by
  obtain ⟨ab, cb, rfl, z1, z2⟩ := h.b.form
  obtain ⟨al, cl, rfl, z3, z4⟩ := h.l.form
  have H := hide h
  have hz := hide h.sz
  have hz2 := hide h.le
  have KC : Hid (∀ q : World, Below w.heap.size w q → q.cell? ⟨p, 0, none⟩ = some (.slice ab f.by_.length cb) ∧ q.cell? ⟨p, 1, none⟩ = some (.slice al f.la.length cl) ∧ q.cell? ⟨p, 2, none⟩ = some (.int .i64 (f.sp : Int))) := fun q hq => cells3 (H.out.below hq).box
  have hC1 : Hid (∀ q, Below w.heap.size w q → _) := fun q hq => clone_bytes q _ _ (H.out.below hq).b.sl (by have := hz.out; omega)
  have hC2 : Hid (∀ q, Below w.heap.size w q → _) := fun q hq => clone_bytes q _ _ (H.out.below hq).l.sl (by have := hz.out; have := hz2.out; omega)
  clear h z1 z2 z3 z4
  go_enter Try.func48, Try.ntmps48
  go_upto_region 1 with fail
  have KP : Hid (Below w.heap.size w w.drew) := (Below.refl _ _).drew
  refine wp_region_T (fun q => Below w.heap.size w q) 16 (by kernel_rfl) ?_
  generalize w.drew = q at *
  refine wpAnyT_take (i := 0) (oi := { dst := some 3, op := Op.move (Operand.tmp 0), type := 73, pos := "file.go:17", after := #[], guard := none }) (v := .pointer (some ⟨p, 0, none⟩)) [1, 2, 3, 4, 14, 15, 16] rfl (by kernel_rfl) (by kernel_rfl) (by kernel_rfl) (by kernel_rfl) (fun _ _ _ h => h) (Or.inl ⟨by rfl, ?_⟩) KP.out ?_
  · intro wq hSw
    obtain ⟨y1, y2, y3⟩ := KC.out wq hSw
    go_simp
  (try simp only [Act.put, List.setIfInBounds_toArray, List.set_cons_zero, List.set_cons_succ])
  refine wpAnyT_take (i := 1) (oi := { dst := some 4, op := Op.nilCheck (Operand.tmp 3), type := 0, pos := "file.go:17", after := #[{ on := 0, ground := Ground.data }], guard := none }) (v := .pointer (some ⟨p, 0, none⟩)) [2, 3, 4, 14, 15, 16] rfl (by kernel_rfl) (by kernel_rfl) (by kernel_rfl) (by kernel_rfl) (fun _ _ _ h => h) (Or.inl ⟨by rfl, ?_⟩) KP.out ?_
  · intro wq hSw
    obtain ⟨y1, y2, y3⟩ := KC.out wq hSw
    go_simp
  (try simp only [Act.put, List.setIfInBounds_toArray, List.set_cons_zero, List.set_cons_succ])
  refine wpAnyT_take (i := 2) (oi := { dst := some 5, op := Op.fieldAddr 81 (Operand.tmp 4) 0, type := 0, pos := "file.go:17", after := #[{ on := 1, ground := Ground.data }], guard := none }) (v := .pointer (some ⟨p, 0, none⟩)) [3, 4, 14, 15, 16] rfl (by kernel_rfl) (by kernel_rfl) (by kernel_rfl) (by kernel_rfl) (fun _ _ _ h => h) (Or.inl ⟨by rfl, ?_⟩) KP.out ?_
  · intro wq hSw
    obtain ⟨y1, y2, y3⟩ := KC.out wq hSw
    go_simp
  (try simp only [Act.put, List.setIfInBounds_toArray, List.set_cons_zero, List.set_cons_succ])
  refine wpAnyT_take (i := 3) (oi := { dst := some 6, op := Op.load 22 (Operand.tmp 5), type := 22, pos := "file.go:17", after := #[{ on := 2, ground := Ground.data }], guard := none }) (v := .slice ab f.by_.length cb) [4, 14, 15, 16] rfl (by kernel_rfl) (by kernel_rfl) (by kernel_rfl) (by kernel_rfl) (fun _ _ _ h => h) (Or.inl ⟨by rfl, ?_⟩) KP.out ?_
  · intro wq hSw
    obtain ⟨y1, y2, y3⟩ := KC.out wq hSw
    go_simp
  (try simp only [Act.put, List.setIfInBounds_toArray, List.set_cons_zero, List.set_cons_succ])
  refine wpAnyT_take (i := 5) (oi := { dst := some 8, op := Op.move (Operand.tmp 0), type := 73, pos := "file.go:17", after := #[], guard := none }) (v := .pointer (some ⟨p, 0, none⟩)) [6, 7, 8, 9, 14, 15, 16] rfl (by kernel_rfl) (by kernel_rfl) (by kernel_rfl) (by kernel_rfl) (fun _ _ _ h => h) (Or.inl ⟨by rfl, ?_⟩) KP.out ?_
  · intro wq hSw
    obtain ⟨y1, y2, y3⟩ := KC.out wq hSw
    go_simp
  (try simp only [Act.put, List.setIfInBounds_toArray, List.set_cons_zero, List.set_cons_succ])
  refine wpAnyT_take (i := 6) (oi := { dst := some 9, op := Op.nilCheck (Operand.tmp 8), type := 0, pos := "file.go:17", after := #[{ on := 5, ground := Ground.data }], guard := none }) (v := .pointer (some ⟨p, 0, none⟩)) [7, 8, 9, 14, 15, 16] rfl (by kernel_rfl) (by kernel_rfl) (by kernel_rfl) (by kernel_rfl) (fun _ _ _ h => h) (Or.inl ⟨by rfl, ?_⟩) KP.out ?_
  · intro wq hSw
    obtain ⟨y1, y2, y3⟩ := KC.out wq hSw
    go_simp
  (try simp only [Act.put, List.setIfInBounds_toArray, List.set_cons_zero, List.set_cons_succ])
  refine wpAnyT_take (i := 7) (oi := { dst := some 10, op := Op.fieldAddr 81 (Operand.tmp 9) 1, type := 0, pos := "file.go:17", after := #[{ on := 6, ground := Ground.data }], guard := none }) (v := .pointer (some ⟨p, 1, none⟩)) [8, 9, 14, 15, 16] rfl (by kernel_rfl) (by kernel_rfl) (by kernel_rfl) (by kernel_rfl) (fun _ _ _ h => h) (Or.inl ⟨by rfl, ?_⟩) KP.out ?_
  · intro wq hSw
    obtain ⟨y1, y2, y3⟩ := KC.out wq hSw
    go_simp
  (try simp only [Act.put, List.setIfInBounds_toArray, List.set_cons_zero, List.set_cons_succ])
  refine wpAnyT_take (i := 8) (oi := { dst := some 11, op := Op.load 22 (Operand.tmp 10), type := 22, pos := "file.go:17", after := #[{ on := 7, ground := Ground.data }], guard := none }) (v := .slice al f.la.length cl) [9, 14, 15, 16] rfl (by kernel_rfl) (by kernel_rfl) (by kernel_rfl) (by kernel_rfl) (fun _ _ _ h => h) (Or.inl ⟨by rfl, ?_⟩) KP.out ?_
  · intro wq hSw
    obtain ⟨y1, y2, y3⟩ := KC.out wq hSw
    go_simp
  (try simp only [Act.put, List.setIfInBounds_toArray, List.set_cons_zero, List.set_cons_succ])
  refine wpAnyT_take (i := 10) (oi := { dst := some 13, op := Op.move (Operand.tmp 0), type := 73, pos := "file.go:17", after := #[], guard := none }) (v := .pointer (some ⟨p, 0, none⟩)) [11, 12, 13, 14, 15, 16] rfl (by kernel_rfl) (by kernel_rfl) (by kernel_rfl) (by kernel_rfl) (fun _ _ _ h => h) (Or.inl ⟨by rfl, ?_⟩) KP.out ?_
  · intro wq hSw
    obtain ⟨y1, y2, y3⟩ := KC.out wq hSw
    go_simp
  (try simp only [Act.put, List.setIfInBounds_toArray, List.set_cons_zero, List.set_cons_succ])
  refine wpAnyT_take (i := 11) (oi := { dst := some 14, op := Op.nilCheck (Operand.tmp 13), type := 0, pos := "file.go:17", after := #[{ on := 10, ground := Ground.data }], guard := none }) (v := .pointer (some ⟨p, 0, none⟩)) [12, 13, 14, 15, 16] rfl (by kernel_rfl) (by kernel_rfl) (by kernel_rfl) (by kernel_rfl) (fun _ _ _ h => h) (Or.inl ⟨by rfl, ?_⟩) KP.out ?_
  · intro wq hSw
    obtain ⟨y1, y2, y3⟩ := KC.out wq hSw
    go_simp
  (try simp only [Act.put, List.setIfInBounds_toArray, List.set_cons_zero, List.set_cons_succ])
  refine wpAnyT_take (i := 12) (oi := { dst := some 15, op := Op.fieldAddr 81 (Operand.tmp 14) 2, type := 0, pos := "file.go:17", after := #[{ on := 11, ground := Ground.data }], guard := none }) (v := .pointer (some ⟨p, 2, none⟩)) [13, 14, 15, 16] rfl (by kernel_rfl) (by kernel_rfl) (by kernel_rfl) (by kernel_rfl) (fun _ _ _ h => h) (Or.inl ⟨by rfl, ?_⟩) KP.out ?_
  · intro wq hSw
    obtain ⟨y1, y2, y3⟩ := KC.out wq hSw
    go_simp
  (try simp only [Act.put, List.setIfInBounds_toArray, List.set_cons_zero, List.set_cons_succ])
  refine wpAnyT_take (i := 13) (oi := { dst := some 16, op := Op.load 3 (Operand.tmp 15), type := 3, pos := "file.go:17", after := #[{ on := 12, ground := Ground.data }], guard := none }) (v := .int .i64 (f.sp : Int)) [14, 15, 16] rfl (by kernel_rfl) (by kernel_rfl) (by kernel_rfl) (by kernel_rfl) (fun _ _ _ h => h) (Or.inl ⟨by rfl, ?_⟩) KP.out ?_
  · intro wq hSw
    obtain ⟨y1, y2, y3⟩ := KC.out wq hSw
    go_simp
  (try simp only [Act.put, List.setIfInBounds_toArray, List.set_cons_zero, List.set_cons_succ])
  refine wpAnyT_one (i := 4) (o := { dst := some 7, op := Op.call { callee := Callee.value (Operand.func 33), args := #[Operand.tmp 6], argTypes := #[22] }, type := 22, pos := "file.go:17", after := #[{ on := 3, ground := Ground.data }], guard := none }) (by kernel_rfl) rfl (fun K hK => ?_)
  go_simp
  go_at_call 33
  refine (hC1.out q KP.out).mono ?_
  rintro e w1 ⟨v1, rfl, O1, B1⟩
  obtain ⟨a1, c1, rfl, _, _⟩ := O1.form
  replace O1 := hide O1
  have U1 := hide B1
  replace B1 : Hid (Below w.heap.size w w1) := KP.out.trans (B1.mono KP.out.size)
  (try go_simp)
  refine hK.out _ _ (fun _ => B1.out) ?_
  clear hK K
  (try simp only [Act.put, List.setIfInBounds_toArray, List.set_cons_zero, List.set_cons_succ])
  refine wpAnyT_one (i := 9) (o := { dst := some 12, op := Op.call { callee := Callee.value (Operand.func 33), args := #[Operand.tmp 11], argTypes := #[22] }, type := 22, pos := "file.go:17", after := #[{ on := 8, ground := Ground.data }, { on := 4, ground := Ground.chain }], guard := none }) (by kernel_rfl) rfl (fun K hK => ?_)
  go_simp
  go_at_call 33
  refine (hC2.out w1 B1.out).mono ?_
  rintro e w2 ⟨v2, rfl, O2, B2⟩
  obtain ⟨a2, c2, rfl, _, _⟩ := O2.form
  replace O2 := hide O2
  have U2 := hide B2
  replace B2 : Hid (Below w.heap.size w w2) := B1.out.trans (B2.mono B1.out.size)
  (try go_simp)
  refine hK.out _ _ (fun _ => B2.out) ?_
  clear hK K
  (try simp only [Act.put, List.setIfInBounds_toArray, List.set_cons_zero, List.set_cons_succ])
  refine wpAnyT_take (i := 14) (oi := { dst := some 17, op := Op.build 81 #[(0, Operand.tmp 7), (1, Operand.tmp 12), (2, Operand.tmp 16)], type := 81, pos := "file.go:17", after := #[{ on := 4, ground := Ground.data }, { on := 9, ground := Ground.data }, { on := 13, ground := Ground.data }], guard := none }) (v := .agg #[.slice a1 f.by_.length c1, .slice a2 f.la.length c2, .int .i64 (f.sp : Int)]) [15, 16] rfl (by kernel_rfl) (by kernel_rfl) (by kernel_rfl) (by kernel_rfl) (fun _ _ _ h => h) (Or.inl ⟨by rfl, ?_⟩) B2.out ?_
  · intro wq hSw
    obtain ⟨y1, y2, y3⟩ := KC.out wq hSw
    go_simp
  (try simp only [Act.put, List.setIfInBounds_toArray, List.set_cons_zero, List.set_cons_succ])
  refine wpAnyT_one (i := 15) (o := { dst := some 18, op := Op.box 81 (Operand.tmp 17), type := 73, pos := "file.go:17", after := #[{ on := 14, ground := Ground.data }], guard := none }) (by kernel_rfl) rfl (fun K hK => ?_)
  go_simp
  have B3 : Hid (Below w.heap.size w (w2.alloc (.cells #[.slice a1 f.by_.length c1, .slice a2 f.la.length c2, .int .i64 (f.sp : Int)] 81))) := B2.out.trans ((box_below w2 _).mono B2.out.size)
  refine hK.out _ _ (fun _ => B3.out) ?_
  clear hK K
  (try simp only [Act.put, List.setIfInBounds_toArray, List.set_cons_zero, List.set_cons_succ])
  have N3 := hide (heap_alloc_new w2 (.cells #[.slice a1 f.by_.length c1, .slice a2 f.la.length c2, .int .i64 (f.sp : Int)] 81))
  have D3 := hide (box_below w2 (.cells #[.slice a1 f.by_.length c1, .slice a2 f.la.length c2, .int .i64 (f.sp : Int)] 81))
  have zw : Hid (w.heap.size ≤ w2.heap.size ∧ w.heap.size ≤ q.heap.size ∧ w.heap.size ≤ w1.heap.size) := ⟨B2.out.size, KP.out.size, B1.out.size⟩
  generalize hz2 : w2.heap.size = z2 at *
  generalize (w2.alloc (.cells #[.slice a1 f.by_.length c1, .slice a2 f.la.length c2, .int .i64 (f.sp : Int)] 81)) = w3 at *
  refine wpAnyT_one (i := 16) (o := { dst := some 2, op := Op.assign (Operand.tmp 18), type := 73, pos := "file.go:17", after := #[{ on := 15, ground := Ground.data }, { on := 9, ground := Ground.chain }, { on := 0, ground := Ground.phase }, { on := 1, ground := Ground.phase }, { on := 2, ground := Ground.phase }, { on := 3, ground := Ground.phase }, { on := 4, ground := Ground.phase }, { on := 5, ground := Ground.phase }, { on := 6, ground := Ground.phase }, { on := 7, ground := Ground.phase }, { on := 8, ground := Ground.phase }, { on := 9, ground := Ground.phase }, { on := 10, ground := Ground.phase }, { on := 11, ground := Ground.phase }, { on := 12, ground := Ground.phase }, { on := 13, ground := Ground.phase }, { on := 14, ground := Ground.phase }, { on := 15, ground := Ground.phase }], guard := none }) (by kernel_rfl) rfl (fun K hK => ?_)
  go_simp
  refine hK.out _ _ (vac (by kernel_rfl)) ?_
  clear hK K
  (try simp only [Act.put, List.setIfInBounds_toArray, List.set_cons_zero, List.set_cons_succ])
  refine wpAnyT_done (by kernel_rfl) ?_ _
  go_wp2_with fail
  go_ret
  have D3' : Below w2.heap.size w2 w3 := by rw [hz2]; exact D3.out
  have o1 : Ob q.heap.size w3 (.slice a1 f.by_.length c1) f.by_ := (O1.out.below U2.out).below D3'
  have o2 : Ob w1.heap.size w3 (.slice a2 f.la.length c2) f.la := O2.out.below D3'
  refine ⟨z2, _, _, rfl, ⟨⟨N3.out, o1.low (Nat.zero_le _), o2.low (Nat.zero_le _), ?_, H.out.le, H.out.sp, H.out.sz⟩, ?_⟩, B3.out⟩
  · intro k hk c
    have q1 := (O1.out.lt k hk).2
    have q2 := (o2.lt k c).1
    omega
  · have hzw := zw.out
    rintro k (e | e | e)
    · omega
    · have := (o1.lt k e).1; omega
    · have := (o2.lt k e).1; omega
#print axioms copyF_any
end Go.Proofs.Ytdelknejmapeaaa.Dk

/-
  Copies of changes.
-/
namespace Go.Proofs.Ytdelknejmapeaaa.Dk
open Go.RowKit Go.Maps Go.Sort Go.Shelf Go.Proofs.Ytdelknejmapeaaa.Nm
open Ix (wp_region_T wpAnyT wpAnyT_take wpAnyT_one wpAnyT_done vac)

set_option maxRecDepth 100000 in
theorem cpC_any (w : World) (n : ByteArray) (p : Nat) (f : Fl) (vb vl : Value) (h : FlAt w p f vb vl) :
    Calls Try.prog 108 #[.agg #[.string n, .pointer (some ⟨p, 0, none⟩)]] w fun e w' => ∃ p' vb' vl', e = .returned (.iface 92 (.agg #[.string n, .pointer (some ⟨p', 0, none⟩)])) ∧ FNew w.heap.size w' p' f vb' vl' ∧ Below w.heap.size w w' := by
  have H := hide h
  have hB := hide ((Below.refl _ w).alloc (Nat.le_refl _) (.cells #[.string n, .pointer (some ⟨p, 0, none⟩)] 92))
  have hN := hide (heap_alloc_new w (.cells #[.string n, .pointer (some ⟨p, 0, none⟩)] 92))
  have S1 : Hid ((w.alloc (.cells #[.string n, .pointer (some ⟨p, 0, none⟩)] 92)).heap.size = w.heap.size + 1) := by show _ = _; simp
  clear h
  go_enter Try.func108, Try.ntmps108
  go_upto_region 1 with fail
  generalize (w.alloc (.cells #[.string n, .pointer (some ⟨p, 0, none⟩)] 92)) = w1 at *
  have KC : Hid (∀ q : World, Below w1.heap.size w1 q → q.cell? ⟨w.heap.size, 0, none⟩ = some (.string n) ∧ q.cell? ⟨w.heap.size, 1, none⟩ = some (.pointer (some ⟨p, 0, none⟩))) := fun q hq => by
    have e : q.heap[w.heap.size]? = some (.cells #[.string n, .pointer (some ⟨p, 0, none⟩)] 92 (0, 0)) := (hq.block _ (heap_lt hN.out)).trans hN.out
    exact ⟨by simp [World.cell?, e], by simp [World.cell?, e]⟩
  have KP : Hid (Below w1.heap.size w1 w1.drew) := (Below.refl _ _).drew
  refine wp_region_T (fun q => Below w1.heap.size w1 q) 7 (by kernel_rfl) ?_
  generalize w1.drew = q at *
  refine wpAnyT_take (i := 0) (oi := { dst := some 3, op := Op.fieldAddr 92 (Operand.tmp 1) 0, type := 0, pos := "directory.go:24", after := #[], guard := none }) (v := .pointer (some ⟨w.heap.size, 0, none⟩)) [1, 5, 6, 7] rfl (by kernel_rfl) (by kernel_rfl) (by kernel_rfl) (by kernel_rfl) (fun _ _ _ h => h) (Or.inl ⟨by rfl, ?_⟩) KP.out ?_
  · intro wq hSw
    obtain ⟨y1, y2⟩ := KC.out wq hSw
    go_simp
  (try simp only [Act.put, List.setIfInBounds_toArray, List.set_cons_zero, List.set_cons_succ])
  refine wpAnyT_take (i := 1) (oi := { dst := some 4, op := Op.load 9 (Operand.tmp 3), type := 9, pos := "directory.go:24", after := #[{ on := 0, ground := Ground.data }], guard := none }) (v := .string n) [5, 6, 7] rfl (by kernel_rfl) (by kernel_rfl) (by kernel_rfl) (by kernel_rfl) (fun _ _ _ h => h) (Or.inl ⟨by rfl, ?_⟩) KP.out ?_
  · intro wq hSw
    obtain ⟨y1, y2⟩ := KC.out wq hSw
    go_simp
  (try simp only [Act.put, List.setIfInBounds_toArray, List.set_cons_zero, List.set_cons_succ])
  refine wpAnyT_take (i := 2) (oi := { dst := some 5, op := Op.fieldAddr 92 (Operand.tmp 1) 1, type := 0, pos := "directory.go:24", after := #[], guard := none }) (v := .pointer (some ⟨w.heap.size, 1, none⟩)) [3, 4, 5, 6, 7] rfl (by kernel_rfl) (by kernel_rfl) (by kernel_rfl) (by kernel_rfl) (fun _ _ _ h => h) (Or.inl ⟨by rfl, ?_⟩) KP.out ?_
  · intro wq hSw
    obtain ⟨y1, y2⟩ := KC.out wq hSw
    go_simp
  (try simp only [Act.put, List.setIfInBounds_toArray, List.set_cons_zero, List.set_cons_succ])
  refine wpAnyT_take (i := 3) (oi := { dst := some 6, op := Op.load 73 (Operand.tmp 5), type := 73, pos := "directory.go:24", after := #[{ on := 2, ground := Ground.data }], guard := none }) (v := .pointer (some ⟨p, 0, none⟩)) [4, 5, 6, 7] rfl (by kernel_rfl) (by kernel_rfl) (by kernel_rfl) (by kernel_rfl) (fun _ _ _ h => h) (Or.inl ⟨by rfl, ?_⟩) KP.out ?_
  · intro wq hSw
    obtain ⟨y1, y2⟩ := KC.out wq hSw
    go_simp
  (try simp only [Act.put, List.setIfInBounds_toArray, List.set_cons_zero, List.set_cons_succ])
  have hC := copyF_any q p f vb vl (H.out.below (hB.out.trans (KP.out.mono hB.out.size)))
  refine wpAnyT_one (i := 4) (o := { dst := some 7, op := Op.call { callee := Callee.value (Operand.func 48), args := #[Operand.tmp 6], argTypes := #[73] }, type := 73, pos := "directory.go:24", after := #[{ on := 3, ground := Ground.data }], guard := none }) (by kernel_rfl) rfl (fun K hK => ?_)
  go_simp
  go_at_call 48
  refine hC.mono ?_
  rintro e w2 ⟨p', vb', vl', rfl, F2, B2⟩
  have F2' : Hid (FNew w.heap.size w2 p' f vb' vl') := ⟨F2.at_, fun k hk => by have := F2.lo k hk; have := KP.out.size; have := hB.out.size; omega⟩
  replace B2 : Hid (Below w1.heap.size w1 w2) := KP.out.trans (B2.mono KP.out.size)
  clear F2 hC
  (try go_simp)
  refine hK.out _ _ (fun _ => B2.out) ?_
  clear hK K
  (try simp only [Act.put, List.setIfInBounds_toArray, List.set_cons_zero, List.set_cons_succ])
  refine wpAnyT_take (i := 5) (oi := { dst := some 8, op := Op.build 92 #[(0, Operand.tmp 4), (1, Operand.tmp 7)], type := 92, pos := "directory.go:24", after := #[{ on := 1, ground := Ground.data }, { on := 4, ground := Ground.data }], guard := none }) (v := .agg #[.string n, .pointer (some ⟨p', 0, none⟩)]) [6, 7] rfl (by kernel_rfl) (by kernel_rfl) (by kernel_rfl) (by kernel_rfl) (fun _ _ _ h => h) (Or.inl ⟨by rfl, ?_⟩) B2.out ?_
  · intro wq hSw
    obtain ⟨y1, y2⟩ := KC.out wq hSw
    go_simp
  (try simp only [Act.put, List.setIfInBounds_toArray, List.set_cons_zero, List.set_cons_succ])
  refine wpAnyT_take (i := 6) (oi := { dst := some 9, op := Op.makeInterface 92 (Operand.tmp 8), type := 103, pos := "directory.go:24", after := #[{ on := 5, ground := Ground.data }], guard := none }) (v := .iface 92 (.agg #[.string n, .pointer (some ⟨p', 0, none⟩)])) [7] rfl (by kernel_rfl) (by kernel_rfl) (by kernel_rfl) (by kernel_rfl) (fun _ _ _ h => h) (Or.inl ⟨by rfl, ?_⟩) B2.out ?_
  · intro wq hSw
    obtain ⟨y1, y2⟩ := KC.out wq hSw
    go_simp
  (try simp only [Act.put, List.setIfInBounds_toArray, List.set_cons_zero, List.set_cons_succ])
  refine wpAnyT_one (i := 7) (o := { dst := some 2, op := Op.assign (Operand.tmp 9), type := 103, pos := "directory.go:24", after := #[{ on := 6, ground := Ground.data }, { on := 4, ground := Ground.chain }, { on := 0, ground := Ground.phase }, { on := 1, ground := Ground.phase }, { on := 2, ground := Ground.phase }, { on := 3, ground := Ground.phase }, { on := 4, ground := Ground.phase }, { on := 5, ground := Ground.phase }, { on := 6, ground := Ground.phase }], guard := none }) (by kernel_rfl) rfl (fun K hK => ?_)
  go_simp
  refine hK.out _ _ (vac (by kernel_rfl)) ?_
  clear hK K
  (try simp only [Act.put, List.setIfInBounds_toArray, List.set_cons_zero, List.set_cons_succ])
  refine wpAnyT_done (by kernel_rfl) ?_ _
  go_wp2_with fail
  go_ret
  exact ⟨p', vb', vl', rfl, F2'.out, hB.out.trans (B2.out.mono hB.out.size)⟩
#print axioms cpC_any
theorem cpN_any (w : World) (f t : ByteArray) :
    Calls Try.prog 110 #[.agg #[.string f, .string t]] w fun e w' => e = .returned (.iface 95 (.agg #[.string f, .string t])) ∧ Below w.heap.size w w' := by
  have hB := hide ((Below.refl _ w).alloc (Nat.le_refl _) (.cells #[.string f, .string t] 95))
  go_enter Try.func110, Try.ntmps110
  go_wp2_with fail
  go_ret
  exact ⟨rfl, hB.out⟩
theorem cpX_any (w : World) (n : ByteArray) :
    Calls Try.prog 112 #[.agg #[.string n]] w fun e w' => e = .returned (.iface 97 (.agg #[.string n])) ∧ Below w.heap.size w w' := by
  have hB := hide ((Below.refl _ w).alloc (Nat.le_refl _) (.cells #[.string n] 97))
  go_enter Try.func112, Try.ntmps112
  go_wp2_with fail
  go_ret
  exact ⟨rfl, hB.out⟩
/-- A change's copy, by its own type. -/
def Ch.cf : Ch → Nat
  | .cr _ _ => 108
  | .rn _ _ => 110
  | .rm _ => 112
/-- The change c' is like c; its file, if it brings one, is a new one like c's. -/
def Ch.like (B : Nat) (w : World) (F : Nat → Fl) (c c' : Ch) : Prop := match c with
  | .cr n p => ∃ p' vb' vl', c' = .cr n p' ∧ FNew B w p' (F p) vb' vl'
  | c => c' = c
theorem cp_any (w : World) (c : Ch) (F : Nat → Fl) (VB VL : Nat → Value) (h : ∀ p, c.ptr = some p → FlAt w p (F p) (VB p) (VL p)) :
    Calls Try.prog c.cf #[c.val] w fun e w' => ∃ c', e = .returned (.iface c'.ty c'.val) ∧ Ch.like w.heap.size w' F c c' ∧ Below w.heap.size w w' := by
  cases c with
  | cr n p =>
    refine (cpC_any w n p (F p) (VB p) (VL p) (h p rfl)).mono ?_
    rintro e w' ⟨p', vb', vl', rfl, hf, hb⟩
    exact ⟨.cr n p', rfl, ⟨p', vb', vl', rfl, hf⟩, hb⟩
  | rn f t =>
    refine (cpN_any w f t).mono ?_
    rintro e w' ⟨rfl, hb⟩
    exact ⟨.rn f t, rfl, rfl, hb⟩
  | rm n =>
    refine (cpX_any w n).mono ?_
    rintro e w' ⟨rfl, hb⟩
    exact ⟨.rm n, rfl, rfl, hb⟩
#print axioms cp_any
end Go.Proofs.Ytdelknejmapeaaa.Dk

/-
  A file comes to a disk once; two operations that may come in either order.
-/
namespace Go.Proofs.Ytdelknejmapeaaa.Dk
open Go.RowKit Go.Maps Go.Sort Go.Shelf Go.Proofs.Ytdelknejmapeaaa.Nm
open Ix (wp_region_T wpAnyT wpAnyT_take wpAnyT_one wpAnyT_done vac)

def ptrs (P : List Ch) : List Nat := P.filterMap Ch.ptr
/-- Each file stands in l under one name, or one of P brings it. -/
structure Uqs (l : Dr) (P : List Ch) : Prop where
  inj : ∀ e ∈ l, ∀ e' ∈ l, e.2 = e'.2 → e.1 = e'.1
  ap : ∀ e ∈ l, e.2 ∉ ptrs P
  nd : (ptrs P).Nodup
theorem mem_ddel {l : Dr} {n : List UInt8} {e : List UInt8 × Nat} (h : e ∈ ddel l n) : e ∈ l ∧ e.1 ≠ n := by
  have := List.mem_filter.1 h
  exact ⟨this.1, by simpa using this.2⟩
theorem mem_dput {l : Dr} {n : List UInt8} {p : Nat} {e : List UInt8 × Nat} (h : e ∈ dput l n p) : e = (n, p) ∨ (e ∈ l ∧ e.1 ≠ n) := (dins_mem h).imp id mem_ddel
theorem mem_run {l : Dr} {c : Ch} {e : List UInt8 × Nat} (h : e ∈ c.run l) : (∃ n p, c = .cr n p ∧ e = (n.data.toList, p)) ∨ (∃ f t p, c = .rn f t ∧ (f.data.toList, p) ∈ l ∧ e = (t.data.toList, p)) ∨ (e ∈ l ∧ (∀ f t, c = .rn f t → (get l f.data.toList).isSome → e.1 ≠ f.data.toList)) := by
  cases c with
  | cr n p => rcases mem_dput h with rfl | ⟨h1, _⟩
              · exact .inl ⟨n, p, rfl, rfl⟩
              · exact .inr (.inr ⟨h1, fun f t c => by cases c⟩)
  | rm n => exact .inr (.inr ⟨(mem_ddel h).1, fun f t c => by cases c⟩)
  | rn f t =>
    simp only [Ch.run] at h
    cases hg : get l f.data.toList with
    | none => rw [hg] at h; exact .inr (.inr ⟨h, fun f' t' c hs => by cases c; rw [hg] at hs; cases hs⟩)
    | some p =>
      rw [hg] at h
      obtain ⟨h1, h2⟩ := mem_ddel h
      rcases mem_dput h1 with rfl | ⟨h3, _⟩
      · exact .inr (.inl ⟨f, t, p, rfl, get_mem hg, rfl⟩)
      · exact .inr (.inr ⟨h3, fun f' t' c _ => by cases c; exact h2⟩)
theorem ptrs_cons (c : Ch) (P : List Ch) : ptrs (c :: P) = c.ptr.toList ++ ptrs P := by
  unfold ptrs
  rw [List.filterMap_cons]
  cases c.ptr <;> rfl
theorem get_isSome {l : Dr} {n : List UInt8} {p : Nat} (h : (n, p) ∈ l) : (get l n).isSome = true := by
  unfold get
  rw [Option.isSome_map, List.find?_isSome]
  exact ⟨_, h, by simp⟩
theorem Uqs.step {l : Dr} {c : Ch} {P : List Ch} (h : Uqs l (c :: P)) : Uqs (c.run l) P := by
  have hn := h.nd
  rw [ptrs_cons] at hn
  have hap := h.ap
  simp only [ptrs_cons, List.mem_append, not_or] at hap
  have nd2 : (ptrs P).Nodup := (List.nodup_append.1 hn).2.1
  have hc : ∀ n p, c = .cr n p → p ∉ ptrs P := fun n p e hp => by
    subst e
    exact (List.nodup_append.1 hn).2.2 p (by simp [Ch.ptr]) p hp rfl
  refine ⟨?_, ?_, nd2⟩
  · intro e he e' he' hq
    rcases mem_run he with ⟨n, p, rfl, rfl⟩ | ⟨f, t, p, rfl, hm, rfl⟩ | ⟨h1, h2⟩
    · rcases mem_run he' with ⟨n', p', e, rfl⟩ | ⟨f, t, p', e, _, rfl⟩ | ⟨h1', _⟩
      · cases e; rfl
      · cases e
      · exact ((hap e' h1').1 (by rw [← hq]; simp [Ch.ptr])).elim
    · rcases mem_run he' with ⟨n', p', e, rfl⟩ | ⟨f', t', p', e, hm', rfl⟩ | ⟨h1', h2'⟩
      · cases e
      · cases e; rfl
      · have := h.inj _ hm _ h1' hq
        exact (h2' f t rfl (get_isSome hm) this.symm).elim
    · rcases mem_run he' with ⟨n', p', e, rfl⟩ | ⟨f', t', p', e, hm', rfl⟩ | ⟨h1', h2'⟩
      · subst e
        exact ((hap _ h1).1 (by rw [hq]; simp [Ch.ptr])).elim
      · subst e
        have := h.inj _ h1 _ hm' hq
        exact (h2 f' t' rfl (get_isSome hm') this).elim
      · exact h.inj _ h1 _ h1' hq
  · intro e he
    rcases mem_run he with ⟨n, p, rfl, rfl⟩ | ⟨f, t, p, rfl, hm, rfl⟩ | ⟨h1, _⟩
    · exact hc n p rfl
    · exact (hap _ hm).2
    · exact (hap _ h1).2
theorem Uqs.runs {P : List Ch} : ∀ {l : Dr} (k : Nat), Uqs l P → Uqs (Dk.runs l (P.take k)) (P.drop k) := by
  induction P with
  | nil => intro l k h; simpa [Dk.runs] using h
  | cons c r ih =>
    intro l k h
    cases k with
    | zero => simpa [Dk.runs] using h
    | succ k => exact ih k h.step
theorem Uqs.all {l : Dr} {P : List Ch} (h : Uqs l P) : Uqs (Dk.runs l P) [] := by
  have := h.runs P.length
  rw [List.take_length, List.drop_length] at this
  exact this
theorem Uqs.only {l : Dr} {P : List Ch} (h : Uqs l P) : Uqs l [] := ⟨h.inj, fun _ _ => by simp [ptrs], by simp [ptrs]⟩
theorem Uqs.snoc {l : Dr} {P : List Ch} {c : Ch} (h : Uqs l P) (hc : ∀ p, c.ptr = some p → p ∉ l.map (·.2) ++ ptrs P) : Uqs l (P ++ [c]) := by
  have e : ptrs (P ++ [c]) = ptrs P ++ c.ptr.toList := by
    unfold ptrs
    rw [List.filterMap_append]
    cases hp : c.ptr <;> simp [hp]
  refine ⟨h.inj, fun x hx c' => ?_, ?_⟩
  · rw [e] at c'
    rcases List.mem_append.1 c' with q | q
    · exact h.ap x hx q
    · simp at q
      exact hc _ q (List.mem_append.2 (.inl (List.mem_map.2 ⟨x, hx, rfl⟩)))
  · rw [e, List.nodup_append]
    refine ⟨h.nd, by cases c.ptr <;> simp, fun a ha b hb e => ?_⟩
    simp at hb
    subst e
    exact hc _ hb (List.mem_append.2 (.inr ha))
def DS.uq (S : DS) : Prop := Uqs S.l2 S.P
theorem Uqs.of {S T : DS} (h : S.uq) (e1 : T.l2 = S.l2) (e2 : T.P = S.P) : T.uq := by unfold DS.uq; rw [e1, e2]; exact h
theorem uq_create {S : DS} (h : S.uq) (s : ByteArray) (p : Nat) (hp : p ∉ S.ps) : (S.create s p).1.uq := by
  obtain ⟨e1, e3, e4, _⟩ := hit_rest S 0
  unfold DS.create
  split
  · exact h
  split
  · exact h
  split
  · exact h
  split
  · exact Uqs.of h e3 e4
  · show Uqs (S.hit 0).l2 (S.P ++ [.cr s p])
    rw [e3]
    exact Uqs.snoc h (fun q e => by cases e; exact hp)
theorem uq_remove {S : DS} (h : S.uq) (s : ByteArray) : (S.remove s).1.uq := by
  obtain ⟨e1, e3, e4, _⟩ := hit_rest S 5
  unfold DS.remove
  split
  · exact h
  split
  · exact Uqs.of h e3 e4
  · show Uqs (S.hit 5).l2 (S.P ++ [.rm s])
    rw [e3]
    exact Uqs.snoc h (fun q e => by cases e)
theorem uq_rename {S : DS} (h : S.uq) (s t : ByteArray) : (S.rename s t).1.uq := by
  obtain ⟨e1, e3, e4, _⟩ := hit_rest S 4
  unfold DS.rename
  split
  · exact h
  split
  · exact h
  split
  · exact Uqs.of h e3 e4
  split
  · exact Uqs.of h e3 e4
  · show Uqs (S.hit 4).l2 (S.P ++ [.rn s t])
    rw [e3]
    exact Uqs.snoc h (fun q e => by cases e)
theorem uq_syncDir {S : DS} (h : S.uq) : S.syncDir.1.uq := by
  obtain ⟨e1, e3, e4, _⟩ := hit_rest S 6
  unfold DS.syncDir
  split
  · exact h
  split
  · exact Uqs.of h e3 e4
  · exact Uqs.all h
theorem uq_crash {S : DS} (h : S.uq) (d : Int) (ks : List Kep) : (S.crash d ks).uq := (Uqs.runs (wthn d S.P.length) h).only
theorem uq_append {S : DS} (h : S.uq) (s : ByteArray) (b : List UInt8) : (S.append s b).1.uq := by
  obtain ⟨e1, e3, e4, _⟩ := hit_rest S 1
  unfold DS.append
  split
  · exact h
  · exact Uqs.of h e3 e4
theorem uq_sync {S : DS} (h : S.uq) (s : ByteArray) : (S.sync s).1.uq := by
  obtain ⟨b1, b2, b3, b4, _⟩ := beg_rest S 2
  obtain ⟨e1, e3, e4, _⟩ := str_rest (S.beg 2) 3
  unfold DS.sync
  split
  · exact h
  split
  · exact Uqs.of h b3 b4
  split
  · exact Uqs.of h (e3.trans b3) (e4.trans b4)
  · exact Uqs.of h b3 b4
theorem uq_cut {S : DS} (h : S.uq) (s : ByteArray) (n : Int) : (S.cut s n).1.uq := by
  obtain ⟨b1, b2, b3, b4, _⟩ := beg_rest S 3
  obtain ⟨e1, e3, e4, _⟩ := hit_rest S 3
  unfold DS.cut
  split
  · exact h
  split
  · exact h
  split
  · exact Uqs.of h e3 e4
  · exact Uqs.of h b3 b4
/-- Two may come up; what both leave is told by G. -/
theorem wpAnyT_pair {P : Program} {ops : Array Oper} {Q : Exit → Act → World → Prop} {md : Region.Mode} {S : World → Prop} {d : Nat} {i j : Nat} {oi oj : Oper} {fuel : Nat} {listed : Array Bool} {a : Act} {w : World} (G : Value → Value → World → Prop) (hij : i ≠ j) (hr : Region.ready md ops listed = [i, j]) (hoi : ops[i]? = some oi) (hoj : ops[j]? = some oj)
    (hri : Region.ready md ops (listed.setIfInBounds i true) = [j]) (hrj : Region.ready md ops (listed.setIfInBounds j true) = [i])
    (hcomm : ∀ vi vj, (a.put oj.dst vj).put oi.dst vi = (a.put oi.dst vi).put oj.dst vj)
    (hI : ∀ K' : Act → World → Prop, Shut (∀ vi w1, S w1 → (∀ K2 : Act → World → Prop, Shut (∀ vj w2, G vi vj w2 → K2 ((a.put oi.dst vi).put oj.dst vj) w2) → if Region.wanted oj (yielded ops (a.put oi.dst vi).tmps) = true then Oper.wp P oj (a.put oi.dst vi) w1 K2 Q else K2 ((a.put oi.dst vi).put oj.dst undef) w1) → K' (a.put oi.dst vi) w1) → if Region.wanted oi (yielded ops a.tmps) = true then Oper.wp P oi a w K' Q else K' (a.put oi.dst undef) w)
    (hJ : ∀ K' : Act → World → Prop, Shut (∀ vj w1, S w1 → (∀ K2 : Act → World → Prop, Shut (∀ vi w2, G vi vj w2 → K2 ((a.put oj.dst vj).put oi.dst vi) w2) → if Region.wanted oi (yielded ops (a.put oj.dst vj).tmps) = true then Oper.wp P oi (a.put oj.dst vj) w1 K2 Q else K2 ((a.put oj.dst vj).put oi.dst undef) w1) → K' (a.put oj.dst vj) w1) → if Region.wanted oj (yielded ops a.tmps) = true then Oper.wp P oj a w K' Q else K' (a.put oj.dst undef) w)
    (hG : ∀ vi vj w2, G vi vj w2 → S w2)
    (h : ∀ vi vj w2, G vi vj w2 → wpAnyT P md ops Q S d fuel ((listed.setIfInBounds i true).setIfInBounds j true) ((a.put oi.dst vi).put oj.dst vj) w2) :
    wpAnyT P md ops Q S d (fuel + 1 + 1) listed a w := by
  refine ⟨fun h0 => (by rw [h0] at hr; cases hr), fun k hk => ?_⟩
  rw [hr] at hk
  simp only [List.mem_cons, List.not_mem_nil, or_false] at hk
  rcases hk with rfl | rfl
  · refine wpOp_step hoi (fun K' hK => hI K' (fun vi w1 hS hrest => hK _ w1 ⟨fun _ => hS, ?_⟩))
    refine wpAnyT_one hri hoj (fun K2 hK2 => hrest K2 (fun vj w2 hg => hK2 _ w2 (fun _ => hG vi vj w2 hg) (h vi vj w2 hg)))
  · refine wpOp_step hoj (fun K' hK => hJ K' (fun vj w1 hS hrest => hK _ w1 ⟨fun _ => hS, ?_⟩))
    refine wpAnyT_one hrj hoi (fun K2 hK2 => hrest K2 (fun vi w2 hg => hK2 _ w2 (fun _ => hG vi vj w2 hg) ?_))
    rw [hcomm, Array.setIfInBounds_comm _ _ (Ne.symm hij)]
    exact h vi vj w2 hg
end Go.Proofs.Ytdelknejmapeaaa.Dk

/-
  Two disks alike but for where their files lie.
-/
namespace Go.Proofs.Ytdelknejmapeaaa.Dk
open Go.RowKit Go.Maps Go.Sort Go.Shelf Go.Proofs.Ytdelknejmapeaaa.Nm

def mvD (σ : Nat → Nat) (l : Dr) : Dr := l.map fun e => (e.1, σ e.2)
def Ch.mv (σ : Nat → Nat) : Ch → Ch
  | .cr n p => .cr n (σ p)
  | .rn f t => .rn f t
  | .rm n => .rm n
theorem get_mv (σ : Nat → Nat) (l : Dr) (n : List UInt8) : get (mvD σ l) n = (get l n).map σ := by
  unfold get mvD
  rw [List.find?_map]
  simp [Function.comp_def]
theorem ddel_mv (σ : Nat → Nat) (l : Dr) (n : List UInt8) : ddel (mvD σ l) n = mvD σ (ddel l n) := by
  unfold ddel mvD
  rw [List.filter_map]
  rfl
theorem dins_mv (σ : Nat → Nat) (n : List UInt8) (p : Nat) : ∀ l : Dr, dins (n, σ p) (mvD σ l) = mvD σ (dins (n, p) l) := by
  intro l
  induction l with
  | nil => rfl
  | cons y r ih =>
    show dins (n, σ p) ((y.1, σ y.2) :: mvD σ r) = mvD σ (dins (n, p) (y :: r))
    simp only [dins]
    split
    · rfl
    · rw [ih]; rfl
theorem dput_mv (σ : Nat → Nat) (l : Dr) (n : List UInt8) (p : Nat) : dput (mvD σ l) n (σ p) = mvD σ (dput l n p) := by
  unfold dput
  rw [ddel_mv, dins_mv]
theorem run_mv (σ : Nat → Nat) (l : Dr) (c : Ch) : (c.mv σ).run (mvD σ l) = mvD σ (c.run l) := by
  cases c with
  | cr n p => exact dput_mv σ l _ p
  | rm n => exact ddel_mv σ l _
  | rn f t =>
    simp only [Ch.mv, Ch.run, get_mv]
    cases get l f.data.toList with
    | none => rfl
    | some p => simp only [Option.map_some]; rw [dput_mv, ddel_mv]
theorem runs_mv (σ : Nat → Nat) : ∀ (P : List Ch) (l : Dr), runs (mvD σ l) (P.map (Ch.mv σ)) = mvD σ (runs l P) := by
  intro P
  induction P with
  | nil => intro l; rfl
  | cons c r ih =>
    intro l
    show runs ((c.mv σ).run (mvD σ l)) (r.map (Ch.mv σ)) = _
    rw [run_mv, ih]
    rfl
theorem nms_mv (σ : Nat → Nat) (l : Dr) : nms (mvD σ l) = nms l := by
  unfold nms mvD
  rw [List.map_map]
  rfl
theorem ptr_mv (σ : Nat → Nat) (c : Ch) : (c.mv σ).ptr = c.ptr.map σ := by cases c <;> rfl
theorem ptrs_mv (σ : Nat → Nat) (P : List Ch) : (P.map (Ch.mv σ)).filterMap Ch.ptr = (P.filterMap Ch.ptr).map σ := by
  induction P with
  | nil => rfl
  | cons c r ih =>
    rw [List.map_cons, List.filterMap_cons, List.filterMap_cons, ptr_mv, ih]
    cases c.ptr <;> rfl
/-- S' is S; each file p of S is σ p of S'. -/
structure Alike (σ : Nat → Nat) (S S' : DS) : Prop where
  most : S'.most = S.most
  up : S'.up = S.up
  al : S'.al = S.al
  c0 : S'.c0 = S.c0
  c1 : S'.c1 = S.c1
  c2 : S'.c2 = S.c2
  c3 : S'.c3 = S.c3
  c4 : S'.c4 = S.c4
  c5 : S'.c5 = S.c5
  c6 : S'.c6 = S.c6
  c7 : S'.c7 = S.c7
  c8 : S'.c8 = S.c8
  l2 : S'.l2 = mvD σ S.l2
  P : S'.P = S.P.map (Ch.mv σ)
  F : ∀ p ∈ S.ps, S'.F (σ p) = S.F p
  inj : ∀ p ∈ S.ps, ∀ q ∈ S.ps, σ p = σ q → p = q
variable {σ : Nat → Nat} {S S' : DS}
theorem Alike.ps (h : Alike σ S S') : S'.ps = S.ps.map σ := by
  unfold DS.ps
  rw [h.l2, h.P, ptrs_mv, List.map_append]
  unfold mvD
  rw [List.map_map, List.map_map]
  rfl
theorem Alike.dir (h : Alike σ S S') : S'.dir = mvD σ S.dir := by
  unfold DS.dir
  rw [h.l2, h.P, runs_mv]
theorem Alike.front (h : Alike σ S S') (n : Int) : S'.front n = mvD σ (S.front n) := by
  unfold DS.front
  rw [h.l2, h.P, List.length_map, ← List.map_take, runs_mv]
theorem mem_ps_front {S : DS} {n : Int} {e : List UInt8 × Nat} (he : e ∈ S.front n) : e.2 ∈ S.ps := DS.mem_front (List.mem_map.2 ⟨e, he, rfl⟩)
theorem mem_ps_dir {S : DS} {e : List UInt8 × Nat} (he : e ∈ S.dir) : e.2 ∈ S.ps := runs_mem (List.mem_map.2 ⟨e, he, rfl⟩)
theorem Alike.tails (h : Alike σ S S') (n : Int) : S'.tails n = S.tails n := by
  unfold DS.tails
  rw [h.front, nms_mv]
  refine List.map_congr_left fun s hs => ?_
  congr 1
  unfold tlOf
  rw [get_mv]
  cases hg : get (S.front n) s with
  | none => rfl
  | some p => simp only [Option.map_some]; rw [h.F p (mem_ps_front (get_mem hg))]
theorem filesOf_mv {G G' : Nat → List UInt8} {l : Dr} (hG : ∀ e ∈ l, G' (σ e.2) = G e.2) : filesOf G' (mvD σ l) = filesOf G l := by
  unfold filesOf
  rw [nms_mv]
  refine List.map_congr_left fun s hs => ?_
  congr 1
  unfold flOf
  rw [get_mv]
  cases hg : get l s with
  | none => rfl
  | some p => simp only [Option.map_some]; exact hG _ (get_mem hg)
theorem Alike.files (h : Alike σ S S') : S'.files = S.files := by
  unfold DS.files
  rw [h.dir]
  exact filesOf_mv fun e he => by show (S'.F _).by_ = _; rw [h.F _ (mem_ps_dir he)]
theorem Alike.lasts (h : Alike σ S S') : S'.lasts = S.lasts := by
  unfold DS.lasts
  rw [h.l2]
  exact filesOf_mv fun e he => by show (S'.F _).la = _; rw [h.F _ (List.mem_append_left _ (List.mem_map.2 ⟨e, he, rfl⟩))]
theorem Alike.ref (h : Alike σ S S') (ns : List ByteArray) : S'.ref ns = S.ref ns := by
  unfold DS.ref
  rw [h.up]
theorem Alike.find (h : Alike σ S S') (s : ByteArray) : S'.find s = ((S.find s).1.map σ, (S.find s).2) := by
  unfold DS.find
  rw [h.ref, h.dir, get_mv]
  split
  · cases get S.dir s.data.toList <;> rfl
  · rfl
theorem Alike.flt (h : Alike σ S S') : S'.flt = S.flt := by
  unfold DS.flt
  rw [h.al, h.c7]
theorem Alike.sum (h : Alike σ S S') : sumL S'.F S'.dir = sumL S.F S.dir := by
  unfold sumL
  rw [h.dir]
  unfold mvD
  rw [List.map_map]
  congr 1
  refine List.map_congr_left fun e he => ?_
  show (S'.F (σ e.2)).by_.length = _
  rw [h.F _ (mem_ps_dir he)]
theorem Alike.room (h : Alike σ S S') : S'.room = S.room := by
  unfold DS.room
  rw [h.sum, h.most]
/-- Files that are kept. -/
theorem crash1_mv {F F' : Nat → Fl} {l : Dr} {ps : List Nat} (hl : ∀ e ∈ l, e.2 ∈ ps) (hF : ∀ p ∈ ps, F' (σ p) = F p) (hi : ∀ p ∈ ps, ∀ q ∈ ps, σ p = σ q → p = q) (s : List UInt8) (k : Kep) : ∀ p ∈ ps, crash1 F' (mvD σ l) s k (σ p) = crash1 F l s k p := by
  intro p hp
  unfold crash1
  rw [get_mv]
  cases hg : get l s with
  | none => exact hF p hp
  | some q =>
    simp only [Option.map_some]
    have hq := hl _ (get_mem hg)
    by_cases e : p = q
    · subst e
      rw [upd_same, upd_same, hF p hp]
    · rw [upd_ne _ _ e, upd_ne _ _ (fun c => e (hi p hp q hq c)), hF p hp]
theorem crashL_mv {l : Dr} {ps : List Nat} (hl : ∀ e ∈ l, e.2 ∈ ps) (hi : ∀ p ∈ ps, ∀ q ∈ ps, σ p = σ q → p = q) : ∀ (A : List (List UInt8)) (ks : List Kep) (F F' : Nat → Fl), (∀ p ∈ ps, F' (σ p) = F p) → ∀ p ∈ ps, crashL (mvD σ l) A ks F' (σ p) = crashL l A ks F p := by
  intro A
  induction A with
  | nil => intro ks F F' hF p hp; exact hF p hp
  | cons s r ih =>
    intro ks F F' hF p hp
    exact ih ks.tail _ _ (crash1_mv hl hF hi s _) p hp
theorem Alike.crash (h : Alike σ S S') (d : Int) (ks : List Kep) : Alike σ (S.crash d ks) (S'.crash d ks) := by
  have hps : ∀ p ∈ (S.crash d ks).ps, p ∈ S.ps := fun p hp => by
    have : p ∈ (S.front d).map (·.2) := by simpa [DS.ps, DS.crash] using hp
    exact DS.mem_front this
  refine ⟨h.most, rfl, rfl, h.c0, h.c1, h.c2, h.c3, h.c4, h.c5, h.c6, h.c7, h.c8, h.front d, rfl, ?_, fun p hp q hq => h.inj p (hps p hp) q (hps q hq)⟩
  intro p hp
  show crashL (S'.front d) (nms (S'.front d)) ks S'.F (σ p) = crashL (S.front d) (nms (S.front d)) ks S.F p
  rw [h.front, nms_mv]
  exact crashL_mv (fun e he => mem_ps_front he) h.inj _ _ _ _ h.F p (hps p hp)
end Go.Proofs.Ytdelknejmapeaaa.Dk

