/-
  Files and Lasting.
-/
import Derived.Test.YtjehpijjneghpaaGreatM14
namespace Go.Proofs.YtjehpijjneghpaaGreat.Dk
open Go.RowKit Go.Maps Go.Sort Go.Shelf Go.Proofs.YtjehpijjneghpaaGreat.Nm
def flOf (G : Nat → List UInt8) (l : Dr) (n : List UInt8) : List UInt8 := match get l n with | some p => G p | none => []
def filesOf (G : Nat → List UInt8) (l : Dr) : Fil2 := (nms l).map fun s => (s, flOf G l s)
def DS.files (S : DS) : Fil2 := filesOf (fun p => (S.F p).by_) S.dir
def DS.lasts (S : DS) : Fil2 := filesOf (fun p => (S.F p).la) S.l2
theorem l2_mem {S : DS} {s : List UInt8} {p : Nat} (h : get S.l2 s = some p) : p ∈ S.ps := List.mem_append_left _ (List.mem_map.2 ⟨_, get_mem h, rfl⟩)
set_option maxRecDepth 100000 in
set_option maxHeartbeats 1000000 in
theorem files_any {w : World} {b : Nat} {S : DS} {O : Nat → Prop} {f g : Nat} {pd : Value} {am : Option Nat} {VB VL : Nat → Value} (h : Dsk w b S O f g pd am VB VL) (hc : S.c7 < 1000000000) :
    Calls Tryz.prog 23 #[.pointer (some ⟨b, 0, none⟩)] w fun e w' => ∃ v vs, e = .returned v ∧ FlI w.heap.size w' v S.files vs ∧ Below w.heap.size w w' := by
  have hM := made_any w _ _ h.dk.dp
  rw [show madeD (some (S.dc f g pd am)) = true from rfl] at hM
  have hlen := (dir_len h.ok hc).1
  have c2 : w.cell? ⟨b, 2, none⟩ = some (.map (some f)) := h.dk.box.cells.2.2.1
  have M1 := hide h.dk.mf
  have H := hide h
  have hfl : Hid (∀ p s, get S.dir s = some p → p ∈ S.ps) := fun p s hp => DS.mem_dir hp
  have hE : Hid (S.files = (nms S.dir).map fun s => (s, flOf (fun p => (S.F p).by_) S.dir s)) := rfl
  rw [hE.out]
  obtain ⟨l, hl⟩ : ∃ l, S.dir = l := ⟨_, rfl⟩
  rw [hl] at hlen M1 hfl ⊢
  have hN := hide (nms_len l)
  have hmem : Hid (∀ k (hk : k < (nms l).length), ∃ p, get l (nms l)[k] = some p) := fun k hk => nms_get (List.getElem_mem hk)
  obtain ⟨i0, hi, hz0, hz1, hz2⟩ := info_parts infoFile
  replace hi := hide hi
  clear h hE hl
  go_enter Tryz.func23, Tryz.ntmps23
  go_wp2_with (first
    | (go_at_call 79; refine hM.mono ?_; rintro e w1 ⟨rfl, e1⟩; subst w1)
    | (go_at_call 81; refine (names_any f l w M1.out (by omega)).mono ?_; rintro e w2 ⟨v2, rfl, R2, _, B2⟩; have R3 := row_of_owns R2 (by simp); replace B2 := hide B2; obtain ⟨ao, ca, rfl, r2, r3, r4, r5⟩ := R3; rw [List.length_map] at *; replace r5 := hide r5; clear r2 R2))
  obtain ⟨N, hN2⟩ : ∃ N, Hid ((nms l).length = N) := ⟨_, rfl⟩
  rw [hN2.out] at r3 ⊢
  have Q2 : Hid (∃ vs, FlI w2.heap.size w2 (.slice none 0 0) (((nms l).take 0).map fun s => (s, flOf (fun p => (S.F p).by_) l s)) vs ∧ Below w2.heap.size w2 w2) := ⟨[], FlI.nil _ _, Below.refl _ _⟩
  have hN3 : N ≤ 1000000000 := by rw [← hN2.out, hN.out]; omega
  have i4 : (ca : Int) ≤ 9223372036854775807 := by unfold maxLen at r4; omega
  have KW : Hid (∀ q, Below w2.heap.size w2 q → Below w.heap.size w q) := fun q hq => B2.out.trans (hq.mono B2.out.size)
  clear hM hlen r4
  replace hN3 := hide hN3
  go_loopw [3, 15] (fun v6 i wr => ∃ k : Nat, i = .int .i64 k ∧ k ≤ N ∧ Hid (∃ vs, FlI w2.heap.size wr v6 (((nms l).take k).map fun s => (s, flOf (fun p => (S.F p).by_) l s)) vs ∧ Below w2.heap.size w2 wr)) (fun _ i _ => N - (intOf i).toNat)
  case atStart => exact ⟨0, rfl, Nat.zero_le _, Q2.out⟩
  case round =>
    obtain ⟨k, rfl, hk, hQ⟩ := hrel
    obtain ⟨vs, O6, B6⟩ := hQ.out
    clear hQ
    by_cases hlt : k < N
    · have i1 : (k : Int) < (N : Int) := by omega
      have hkl : k < (nms l).length := by rw [hN2.out]; exact hlt
      obtain ⟨p, hp⟩ := hmem.out k hkl
      obtain ⟨gb, off, rfl, hcl⟩ := r5.out k (by rw [List.length_map]; exact hkl)
      have hcell : wr.cell? ⟨gb, off + k, none⟩ = some (.string (bsOf (nms l)[k])) := by
        rw [B6.cell (p := ⟨gb, off + k, none⟩) (lt_of_cell hcl), hcl, List.getElem_map]; rfl
      have hB := KW.out wr B6
      have Mr : Mp wr f l := M1.out.heap (hB.block _ M1.out.lt)
      have d2 : wr.cell? ⟨b, 2, none⟩ = some (.map (some f)) := by rw [hB.cell (p := ⟨b, 2, none⟩) (lt_of_cell c2)]; exact c2
      have hL := Mr.look (s := bsOf (nms l)[k]) (Mr.nlen (List.getElem_mem hkl)) hp
      have hF := (H.out.below hB).fs.at_ p (hfl.out p _ hp)
      obtain ⟨x0, x1, _⟩ := cells3 hF.box
      have hz : (S.F p).by_.length ≤ 16777216 := by have q1 := H.out.ok.sz p (hfl.out p _ hp); have q2 := hF.le; omega
      obtain ⟨bo, bc, eb, _, _⟩ := hF.b.form
      have hS := hF.b.sl
      rw [eb] at x0 hS
      have hT := clone_bytes wr _ _ hS (by omega)
      have hTL : Hid (flOf (fun p => (S.F p).by_) l (nms l)[k] = (S.F p).by_) := by show _ = _; unfold flOf; rw [hp]
      have hsn : Hid (((nms l).take (k + 1)).map (fun s => (s, flOf (fun p => (S.F p).by_) l s)) = ((nms l).take k).map (fun s => (s, flOf (fun p => (S.F p).by_) l s)) ++ [((nms l)[k], (S.F p).by_)]) := by show _ = _; rw [List.take_succ_eq_append_getElem hkl, List.map_append, ← hTL.out]; rfl
      unfold TM at hL
      have hLl : Hid ((((nms l).take k).map (fun s => (s, flOf (fun p => (S.F p).by_) l s))).length = k) := by show _ = _; rw [List.length_map, List.length_take]; omega
      replace O6 := hide O6
      replace B6 := hide B6
      clear hcl Mr hB hp hTL hF x1 eb hS
      generalize ((nms l).take k).map (fun s => (s, flOf (fun p => (S.F p).by_) l s)) = L at *
      generalize (S.F p).by_ = bl at *
      generalize (nms l)[k] = s at *
      clear hkl hz
      go_wp2_with (first
        | (go_at_call 83; refine hT.mono ?_; rintro e w4 ⟨v4, rfl, U4, B4⟩; obtain ⟨uo, uc, rfl, _, _⟩ := U4.form; replace U4 := hide U4; replace B4 := hide B4; clear hL hT; have N5 := hide (heap_alloc_new w4 (.cells #[.string (bsOf s), .slice uo bl.length uc] 61)); have O5 : Hid (FlI w2.heap.size (w4.alloc (.cells #[.string (bsOf s), .slice uo bl.length uc] 61)) u3 L vs) := hide (O6.out.below (B4.out.trans ((box_below w4 (.cells #[.string (bsOf s), .slice uo bl.length uc] 61)).mono B4.out.size))))
        | (at_builtin; refine wpList_append_lies _ rfl (.tmp 19) (.tmp 32) 57 rfl w2.heap.size 61 i0 (.agg #[.string ⟨#[]⟩, .slice none 0 0]) 2 40 Tryz.underlying57 hi.out hz0 hz1 hz2 rfl (by decide) u3 L.length (fcells L vs) rfl O5.out.row ⟨w4.heap.size, 0, none⟩ 1 1 [.string (bsOf s), .slice uo bl.length uc] rfl rfl (two_new N5.out) (by simp [Value.oneCell']) (by decide) (by have := hLl.out; have := hN3.out; unfold maxLen; omega) (by have := hLl.out; have := hN3.out; omega) (by have q1 := B6.out.size; have q2 := B4.out.size; simp; omega) (w4.heap.size + 1) (by simp) ?_; intro g2 cap2 w5 ho5 hg5 hat hlt5; replace ho5 := hide ho5; replace hg5 := hide hg5; replace hat := hide hat)
        | fail)
      have Bc : Hid (Below wr.heap.size wr (w4.alloc (.cells #[.string (bsOf s), .slice uo bl.length uc] 61))) := B4.out.trans ((box_below w4 _).mono B4.out.size)
      go_roundw
      case rel =>
        refine ⟨k + 1, by go_num, by omega, vs ++ [.slice uo bl.length uc], ?_, ?_⟩
        · rw [hsn.out]
          refine O6.out.snoc B6.out.size (U4.out.below (box_below w4 _)) Bc.out ho5.out hg5.out ?_
          rcases hat.out with e | e
          · exact .inl (by rw [e]; rfl)
          · exact .inr ⟨g2, rfl, by rw [e]; simp⟩
        · refine Below.grown (B6.out.trans (Bc.out.mono B6.out.size)) hg5.out ?_ ?_
          · have q1 := B6.out.size; have q2 := Bc.out.size; omega
          · intro j hj
            exact (World.ownsRow.lt O5.out.row j hj).1
      case measure => simp [intOf]; omega
    · obtain rfl : k = N := by omega
      rw [List.take_of_length_le (by rw [hN2.out]; omega)] at O6
      replace O6 := hide O6
      replace B6 := hide B6
      go_wp2_with fail
      go_ret
      refine ⟨_, vs, rfl, O6.out.low B2.out.size, KW.out _ B6.out⟩
set_option maxRecDepth 100000 in
set_option maxHeartbeats 1000000 in
theorem lasts_any {w : World} {b : Nat} {S : DS} {O : Nat → Prop} {f g : Nat} {pd : Value} {am : Option Nat} {VB VL : Nat → Value} (h : Dsk w b S O f g pd am VB VL) (hc : S.c7 < 1000000000) :
    Calls Tryz.prog 24 #[.pointer (some ⟨b, 0, none⟩)] w fun e w' => ∃ v vs, e = .returned v ∧ FlI w.heap.size w' v S.lasts vs ∧ Below w.heap.size w w' := by
  have hM := made_any w _ _ h.dk.dp
  rw [show madeD (some (S.dc f g pd am)) = true from rfl] at hM
  have hlen := (dir_len h.ok hc).2.2
  have c2 : w.cell? ⟨b, 3, none⟩ = some (.map (some g)) := h.dk.box.cells.2.2.2.1
  have M1 := hide h.dk.mg
  have H := hide h
  have hfl : Hid (∀ p s, get S.l2 s = some p → p ∈ S.ps) := fun p s hp => l2_mem hp
  have hE : Hid (S.lasts = (nms S.l2).map fun s => (s, flOf (fun p => (S.F p).la) S.l2 s)) := rfl
  rw [hE.out]
  obtain ⟨l, hl⟩ : ∃ l, S.l2 = l := ⟨_, rfl⟩
  rw [hl] at hlen M1 hfl ⊢
  have hN := hide (nms_len l)
  have hmem : Hid (∀ k (hk : k < (nms l).length), ∃ p, get l (nms l)[k] = some p) := fun k hk => nms_get (List.getElem_mem hk)
  obtain ⟨i0, hi, hz0, hz1, hz2⟩ := info_parts infoFile
  replace hi := hide hi
  clear h hE hl
  go_enter Tryz.func24, Tryz.ntmps24
  go_wp2_with (first
    | (go_at_call 79; refine hM.mono ?_; rintro e w1 ⟨rfl, e1⟩; subst w1)
    | (go_at_call 81; refine (names_any g l w M1.out (by omega)).mono ?_; rintro e w2 ⟨v2, rfl, R2, _, B2⟩; have R3 := row_of_owns R2 (by simp); replace B2 := hide B2; obtain ⟨ao, ca, rfl, r2, r3, r4, r5⟩ := R3; rw [List.length_map] at *; replace r5 := hide r5; clear r2 R2))
  obtain ⟨N, hN2⟩ : ∃ N, Hid ((nms l).length = N) := ⟨_, rfl⟩
  rw [hN2.out] at r3 ⊢
  have Q2 : Hid (∃ vs, FlI w2.heap.size w2 (.slice none 0 0) (((nms l).take 0).map fun s => (s, flOf (fun p => (S.F p).la) l s)) vs ∧ Below w2.heap.size w2 w2) := ⟨[], FlI.nil _ _, Below.refl _ _⟩
  have hN3 : N ≤ 1000000000 := by rw [← hN2.out, hN.out]; omega
  have i4 : (ca : Int) ≤ 9223372036854775807 := by unfold maxLen at r4; omega
  have KW : Hid (∀ q, Below w2.heap.size w2 q → Below w.heap.size w q) := fun q hq => B2.out.trans (hq.mono B2.out.size)
  clear hM hlen r4
  replace hN3 := hide hN3
  go_loopw [3, 15] (fun v6 i wr => ∃ k : Nat, i = .int .i64 k ∧ k ≤ N ∧ Hid (∃ vs, FlI w2.heap.size wr v6 (((nms l).take k).map fun s => (s, flOf (fun p => (S.F p).la) l s)) vs ∧ Below w2.heap.size w2 wr)) (fun _ i _ => N - (intOf i).toNat)
  case atStart => exact ⟨0, rfl, Nat.zero_le _, Q2.out⟩
  case round =>
    obtain ⟨k, rfl, hk, hQ⟩ := hrel
    obtain ⟨vs, O6, B6⟩ := hQ.out
    clear hQ
    by_cases hlt : k < N
    · have i1 : (k : Int) < (N : Int) := by omega
      have hkl : k < (nms l).length := by rw [hN2.out]; exact hlt
      obtain ⟨p, hp⟩ := hmem.out k hkl
      obtain ⟨gb, off, rfl, hcl⟩ := r5.out k (by rw [List.length_map]; exact hkl)
      have hcell : wr.cell? ⟨gb, off + k, none⟩ = some (.string (bsOf (nms l)[k])) := by
        rw [B6.cell (p := ⟨gb, off + k, none⟩) (lt_of_cell hcl), hcl, List.getElem_map]; rfl
      have hB := KW.out wr B6
      have Mr : Mp wr g l := M1.out.heap (hB.block _ M1.out.lt)
      have d2 : wr.cell? ⟨b, 3, none⟩ = some (.map (some g)) := by rw [hB.cell (p := ⟨b, 3, none⟩) (lt_of_cell c2)]; exact c2
      have hL := Mr.look (s := bsOf (nms l)[k]) (Mr.nlen (List.getElem_mem hkl)) hp
      have hF := (H.out.below hB).fs.at_ p (hfl.out p _ hp)
      obtain ⟨x0, x1, _⟩ := cells3 hF.box
      have hz : (S.F p).la.length ≤ 16777216 := by have q1 := H.out.ok.sz p (hfl.out p _ hp); have q2 := hF.le; omega
      obtain ⟨bo, bc, eb, _, _⟩ := hF.l.form
      have hS := hF.l.sl
      rw [eb] at x1 hS
      have hT := clone_bytes wr _ _ hS (by omega)
      have hTL : Hid (flOf (fun p => (S.F p).la) l (nms l)[k] = (S.F p).la) := by show _ = _; unfold flOf; rw [hp]
      have hsn : Hid (((nms l).take (k + 1)).map (fun s => (s, flOf (fun p => (S.F p).la) l s)) = ((nms l).take k).map (fun s => (s, flOf (fun p => (S.F p).la) l s)) ++ [((nms l)[k], (S.F p).la)]) := by show _ = _; rw [List.take_succ_eq_append_getElem hkl, List.map_append, ← hTL.out]; rfl
      unfold TM at hL
      have hLl : Hid ((((nms l).take k).map (fun s => (s, flOf (fun p => (S.F p).la) l s))).length = k) := by show _ = _; rw [List.length_map, List.length_take]; omega
      replace O6 := hide O6
      replace B6 := hide B6
      clear hcl Mr hB hp hTL hF x0 eb hS
      generalize ((nms l).take k).map (fun s => (s, flOf (fun p => (S.F p).la) l s)) = L at *
      generalize (S.F p).la = bl at *
      generalize (nms l)[k] = s at *
      clear hkl hz
      go_wp2_with (first
        | (go_at_call 83; refine hT.mono ?_; rintro e w4 ⟨v4, rfl, U4, B4⟩; obtain ⟨uo, uc, rfl, _, _⟩ := U4.form; replace U4 := hide U4; replace B4 := hide B4; clear hL hT; have N5 := hide (heap_alloc_new w4 (.cells #[.string (bsOf s), .slice uo bl.length uc] 61)); have O5 : Hid (FlI w2.heap.size (w4.alloc (.cells #[.string (bsOf s), .slice uo bl.length uc] 61)) u3 L vs) := hide (O6.out.below (B4.out.trans ((box_below w4 (.cells #[.string (bsOf s), .slice uo bl.length uc] 61)).mono B4.out.size))))
        | (at_builtin; refine wpList_append_lies _ rfl (.tmp 19) (.tmp 32) 57 rfl w2.heap.size 61 i0 (.agg #[.string ⟨#[]⟩, .slice none 0 0]) 2 40 Tryz.underlying57 hi.out hz0 hz1 hz2 rfl (by decide) u3 L.length (fcells L vs) rfl O5.out.row ⟨w4.heap.size, 0, none⟩ 1 1 [.string (bsOf s), .slice uo bl.length uc] rfl rfl (two_new N5.out) (by simp [Value.oneCell']) (by decide) (by have := hLl.out; have := hN3.out; unfold maxLen; omega) (by have := hLl.out; have := hN3.out; omega) (by have q1 := B6.out.size; have q2 := B4.out.size; simp; omega) (w4.heap.size + 1) (by simp) ?_; intro g2 cap2 w5 ho5 hg5 hat hlt5; replace ho5 := hide ho5; replace hg5 := hide hg5; replace hat := hide hat)
        | fail)
      have Bc : Hid (Below wr.heap.size wr (w4.alloc (.cells #[.string (bsOf s), .slice uo bl.length uc] 61))) := B4.out.trans ((box_below w4 _).mono B4.out.size)
      go_roundw
      case rel =>
        refine ⟨k + 1, by go_num, by omega, vs ++ [.slice uo bl.length uc], ?_, ?_⟩
        · rw [hsn.out]
          refine O6.out.snoc B6.out.size (U4.out.below (box_below w4 _)) Bc.out ho5.out hg5.out ?_
          rcases hat.out with e | e
          · exact .inl (by rw [e]; rfl)
          · exact .inr ⟨g2, rfl, by rw [e]; simp⟩
        · refine Below.grown (B6.out.trans (Bc.out.mono B6.out.size)) hg5.out ?_ ?_
          · have q1 := B6.out.size; have q2 := Bc.out.size; omega
          · intro j hj
            exact (World.ownsRow.lt O5.out.row j hj).1
      case measure => simp [intOf]; omega
    · obtain rfl : k = N := by omega
      rw [List.take_of_length_le (by rw [hN2.out]; omega)] at O6
      replace O6 := hide O6
      replace B6 := hide B6
      go_wp2_with fail
      go_ret
      refine ⟨_, vs, rfl, O6.out.low B2.out.size, KW.out _ B6.out⟩
end Go.Proofs.YtjehpijjneghpaaGreat.Dk
namespace Go.Proofs.YtjehpijjneghpaaGreat.Dk
open Go.RowKit Go.Maps Go.Sort Go.Shelf Go.Proofs.YtjehpijjneghpaaGreat.Nm
open Ix (wp_region_T wpAnyT wpAnyT_take wpAnyT_one wpAnyT_done vac)
theorem Ob.take {B : Nat} {w : World} {ao : Option Addr} {n ca k : Nat} {L : List UInt8} (h : Ob B w (.slice ao n ca) L) (hk : k ≤ L.length) : Ob B w (.slice ao k ca) (L.take k) := by
  have hl : (L.take k).length = k := by rw [List.length_take]; omega
  rcases h.2 with ⟨e, e2⟩ | ⟨g, cap, cur, e, hg, hh, h1, h2, h3, h4⟩
  · simp only [Value.slice.injEq] at e
    obtain ⟨rfl, rfl, rfl⟩ := e
    have : L = [] := List.length_eq_zero_iff.1 (by omega)
    subst this
    obtain rfl : k = 0 := by simpa using hk
    exact h
  · simp only [Value.slice.injEq] at e
    obtain ⟨rfl, rfl, rfl⟩ := e
    refine ⟨by unfold bvals; rw [List.length_map, hl]; omega, .inr ⟨g, ca, cur, by rw [hl], hg, hh, by rw [hl]; omega, h2, h3, ?_⟩⟩
    rw [hl]
    have e : bvals (L.take k) = (bvals L).take k := by unfold bvals; rw [List.map_take]
    rw [e, ← h4, List.take_take]
    congr 1
    omega
set_option maxRecDepth 100000 in
theorem tail_raw (w : World) (p n m : Nat) (ao ao2 : Option Addr) (ca ca2 : Nat) (x : Value) (hb : w.heap[p]? = some (.cells #[.slice ao n ca, .slice ao2 m ca2, x] TFl (0, 0))) (hle : m ≤ n) (hsz : n ≤ 1099511627776) : Calls Tryz.prog 85 #[.pointer (some ⟨p, 0, none⟩)] w fun e w' => e = .returned (.int .i64 ((n - m : Nat) : Int)) ∧ ∃ n, w' = w.drewN n := by
  obtain ⟨x0, x1, _⟩ := cells3 hb
  clear hb
  have e1 : ((n - m : Nat) : Int) = (n : Int) - (m : Int) := by omega
  have e2 : IntKind.i64.wrap ((n : Int) - (m : Int)) = (n : Int) - (m : Int) := by rw [IntKind.wrap_i64]; omega
  rw [e1]
  clear e1
  go_enter Tryz.func85, Tryz.ntmps85
  go_upto_region 1 with fail
  go_quiet (fail)
  go_wp2_with fail
  go_ret
  exact ⟨rfl, _, rfl⟩
def cuF (f : Fl) (k : Nat) : Fl := ⟨f.by_.take k, f.la.take k, min f.sp (k - min f.la.length k)⟩
set_option maxRecDepth 100000 in
theorem cut_any (w : World) (p k : Nat) (f : Fl) (vb vl : Value) (h : FlAt w p f vb vl) (hk : k ≤ f.by_.length) :
    Calls Tryz.prog 101 #[.pointer (some ⟨p, 0, none⟩), .int .i64 (k : Int)] w fun e w' => e = .returned (.tuple #[]) ∧ ∃ vb' vl', FlAt w' p (cuF f k) vb' vl' ∧ But (fun k => k = p) w w' ∧ vb'.ownBlock = vb.ownBlock ∧ vl'.ownBlock = vl.ownBlock := by
  obtain ⟨ab, cb, rfl, z1, z2⟩ := h.b.form
  obtain ⟨al, cl, rfl, z3, z4⟩ := h.l.form
  have H := hide h
  obtain ⟨m, hm⟩ : ∃ m, Hid (min f.la.length k = m) := ⟨_, rfl⟩
  obtain ⟨s, hs⟩ : ∃ s, Hid (min f.sp (k - m) = s) := ⟨_, rfl⟩
  have hmin : min (f.la.length : Int) (k : Int) = (m : Int) := by have := hm.out; omega
  have hmin2 : min (f.sp : Int) ((k - m : Nat) : Int) = (s : Int) := by have := hs.out; omega
  have i2 : (k : Int) ≤ (cb : Int) := by omega
  have i3 : (m : Int) ≤ (cl : Int) := by have := hm.out; omega
  have hmk : Hid (m ≤ k ∧ m ≤ f.la.length ∧ k ≤ 1099511627776 ∧ k ≤ f.by_.length ∧ s ≤ k - m) := by have := hm.out; have := h.sz; have := hs.out; show _ ∧ _; omega
  obtain ⟨x0, x1, x2⟩ := cells3 h.box
  have fr := (frozen3 h.box).1
  have b1 : Hid ((w.setCell ⟨p, 0, none⟩ (.slice ab k cb)).heap[p]? = some (.cells #[.slice ab k cb, .slice al f.la.length cl, .int .i64 (f.sp : Int)] TFl (0, 0))) := by show _ = _; rw [heap_setCell_same _ _ _ _ _ _ h.box]; simp
  have g1 := hide (But.of_grownBy (X := fun k => k = p) (grown_setCell w p 0 (.slice ab k cb)) fun k e => by cases e; rfl)
  have KC : Hid (∀ q : World, q.heap[p]? = some (.cells #[.slice ab k cb, .slice al f.la.length cl, .int .i64 (f.sp : Int)] TFl (0, 0)) → q.cell? ⟨p, 1, none⟩ = some (.slice al f.la.length cl)) := fun q hq => (cells3 hq).2.1
  clear h hk z1 z2 z3 z4
  go_enter Tryz.func101, Tryz.ntmps101
  go_upto_region 1 with fail
  clear x0 x1 x2 fr
  generalize (w.setCell ⟨p, 0, none⟩ (.slice ab k cb)) = w1 at *
  refine wp_region_T (fun q => q.heap[p]? = some (.cells #[.slice ab k cb, .slice al f.la.length cl, .int .i64 (f.sp : Int)] TFl (0, 0))) 15 (by kernel_rfl) ?_
  have D1 : Hid (Below w1.heap.size w1 w1.drew) := (Below.refl _ _).drew
  have KP : Hid (w1.drew.heap[p]? = some (.cells #[.slice ab k cb, .slice al f.la.length cl, .int .i64 (f.sp : Int)] TFl (0, 0))) := (D1.out.block p (heap_lt b1.out)).trans b1.out
  have g2 : Hid (But (fun k => k = p) w w1.drew) := g1.out.trans (But.of_below D1.out _)
  clear D1 b1 g1
  generalize w1.drew = q at *
  refine Ix.tk 0 ⟨some 13, .move (.tmp 0), 114, "file.go:44", #[], none⟩ (.pointer (some ⟨p, 0, none⟩)) [15] ?_ KP.out ?_
  · intro wq hSw
    have y2 := KC.out wq hSw
    go_simp
  (try simp only [zzp, zza, zzb, zzc])
  refine Ix.tk 1 ⟨some 14, .move (.tmp 0), 114, "file.go:44", #[], none⟩ (.pointer (some ⟨p, 0, none⟩)) [15] ?_ KP.out ?_
  · intro wq hSw
    have y2 := KC.out wq hSw
    go_simp
  (try simp only [zzp, zza, zzb, zzc])
  refine Ix.tk 2 ⟨some 15, .nilCheck (.tmp 14), 0, "file.go:44", #[⟨1,.data⟩], none⟩ (.pointer (some ⟨p, 0, none⟩)) [15] ?_ KP.out ?_
  · intro wq hSw
    have y2 := KC.out wq hSw
    go_simp
  (try simp only [zzp, zza, zzb, zzc])
  refine Ix.tk 3 ⟨some 16, .fieldAddr 124 (.tmp 15) 1, 0, "file.go:44", #[⟨2,.data⟩], none⟩ (.pointer (some ⟨p, 1, none⟩)) [15] ?_ KP.out ?_
  · intro wq hSw
    have y2 := KC.out wq hSw
    go_simp
  (try simp only [zzp, zza, zzb, zzc])
  refine Ix.tk 4 ⟨some 17, .load 30 (.tmp 16), 30, "file.go:44", #[⟨3,.data⟩], none⟩ (.slice al f.la.length cl) [15] ?_ KP.out ?_
  · intro wq hSw
    have y2 := KC.out wq hSw
    go_simp
  (try simp only [zzp, zza, zzb, zzc])
  refine Ix.tk 5 ⟨some 18, .move (.tmp 0), 114, "file.go:44", #[], none⟩ (.pointer (some ⟨p, 0, none⟩)) [15] ?_ KP.out ?_
  · intro wq hSw
    have y2 := KC.out wq hSw
    go_simp
  (try simp only [zzp, zza, zzb, zzc])
  refine Ix.tk 6 ⟨some 19, .nilCheck (.tmp 18), 0, "file.go:44", #[⟨5,.data⟩], none⟩ (.pointer (some ⟨p, 0, none⟩)) [15] ?_ KP.out ?_
  · intro wq hSw
    have y2 := KC.out wq hSw
    go_simp
  (try simp only [zzp, zza, zzb, zzc])
  refine Ix.tk 7 ⟨some 20, .fieldAddr 124 (.tmp 19) 1, 0, "file.go:44", #[⟨6,.data⟩], none⟩ (.pointer (some ⟨p, 1, none⟩)) [15] ?_ KP.out ?_
  · intro wq hSw
    have y2 := KC.out wq hSw
    go_simp
  (try simp only [zzp, zza, zzb, zzc])
  refine Ix.tk 8 ⟨some 21, .load 30 (.tmp 20), 30, "file.go:44", #[⟨7,.data⟩], none⟩ (.slice al f.la.length cl) [15] ?_ KP.out ?_
  · intro wq hSw
    have y2 := KC.out wq hSw
    go_simp
  (try simp only [zzp, zza, zzb, zzc])
  refine Ix.tk 9 ⟨some 22, .call { callee := .builtin .len, args := #[.tmp 21], argTypes := #[30] }, 3, "file.go:44", #[⟨8,.data⟩], none⟩ (.int .i64 (f.la.length : Int)) [15] ?_ KP.out ?_
  · intro wq hSw
    have y2 := KC.out wq hSw
    go_simp
  (try simp only [zzp, zza, zzb, zzc])
  refine Ix.tk 10 ⟨some 23, .move (.tmp 1), 3, "file.go:44", #[], none⟩ (.int .i64 (k : Int)) [15] ?_ KP.out ?_
  · intro wq hSw
    have y2 := KC.out wq hSw
    go_simp
  (try simp only [zzp, zza, zzb, zzc])
  refine Ix.tk 11 ⟨some 24, .call { callee := .builtin .min, args := #[.tmp 22, .tmp 23], argTypes := #[3, 3] }, 3, "file.go:44", #[⟨9,.data⟩,⟨10,.data⟩], none⟩ (.int .i64 (m : Int)) [15] ?_ KP.out ?_
  · intro wq hSw
    have y2 := KC.out wq hSw
    go_simp
  (try simp only [zzp, zza, zzb, zzc])
  refine Ix.tk 12 ⟨some 25, .slice 30 (.tmp 17) none (some (.tmp 24)) none, 30, "file.go:44", #[⟨4,.data⟩,⟨11,.data⟩], none⟩ (.slice al m cl) [15] ?_ KP.out ?_
  · intro wq hSw
    have y2 := KC.out wq hSw
    go_simp
  (try simp only [zzp, zza, zzb, zzc])
  refine Ix.tk 13 ⟨some 26, .nilCheck (.tmp 13), 0, "file.go:44", #[⟨0,.data⟩,⟨0,.phase⟩,⟨1,.phase⟩,⟨2,.phase⟩,⟨3,.phase⟩,⟨4,.phase⟩,⟨5,.phase⟩,⟨6,.phase⟩,⟨7,.phase⟩,⟨8,.phase⟩,⟨9,.phase⟩,⟨10,.phase⟩,⟨11,.phase⟩,⟨12,.phase⟩], none⟩ (.pointer (some ⟨p, 0, none⟩)) [14,15] ?_ KP.out ?_
  · intro wq hSw
    have y2 := KC.out wq hSw
    go_simp
  (try simp only [zzp, zza, zzb, zzc])
  refine Ix.tk 14 ⟨some 27, .fieldAddr 124 (.tmp 26) 1, 0, "file.go:44", #[⟨13,.data⟩,⟨0,.phase⟩,⟨1,.phase⟩,⟨2,.phase⟩,⟨3,.phase⟩,⟨4,.phase⟩,⟨5,.phase⟩,⟨6,.phase⟩,⟨7,.phase⟩,⟨8,.phase⟩,⟨9,.phase⟩,⟨10,.phase⟩,⟨11,.phase⟩,⟨12,.phase⟩], none⟩ (.pointer (some ⟨p, 1, none⟩)) [15] ?_ KP.out ?_
  · intro wq hSw
    have y2 := KC.out wq hSw
    go_simp
  (try simp only [zzp, zza, zzb, zzc])
  have d1 := (cells3 KP.out).2.1
  have d2 := (frozen3 KP.out).2.1
  refine wpAnyT_one (i := 15) (o := ⟨none, .store 30 (.tmp 27) (.tmp 25), 0, "file.go:44", #[⟨14, .data⟩, ⟨12, .data⟩, ⟨0, .phase⟩, ⟨1, .phase⟩, ⟨2, .phase⟩, ⟨3, .phase⟩, ⟨4, .phase⟩, ⟨5, .phase⟩, ⟨6, .phase⟩, ⟨7, .phase⟩, ⟨8, .phase⟩, ⟨9, .phase⟩, ⟨10, .phase⟩, ⟨11, .phase⟩, ⟨12, .phase⟩], none⟩) (by kernel_rfl) rfl (fun K hK => ?_)
  go_simp
  refine hK.out _ _ (vac (by kernel_rfl)) ?_
  clear hK K d1 d2 KC
  refine wpAnyT_done (by kernel_rfl) ?_ _
  have b3 : Hid ((q.setCell ⟨p, 1, none⟩ (.slice al m cl)).heap[p]? = some (.cells #[.slice ab k cb, .slice al m cl, .int .i64 (f.sp : Int)] TFl (0, 0))) := by show _ = _; rw [heap_setCell_same _ _ _ _ _ _ KP.out]; simp
  have g3 : Hid (But (fun k => k = p) w (q.setCell ⟨p, 1, none⟩ (.slice al m cl))) := g2.out.trans (But.of_grownBy (X := fun k => k = p) (grown_setCell q p 1 (.slice al m cl)) fun k e => by cases e; rfl)
  clear KP g2
  generalize (q.setCell ⟨p, 1, none⟩ (.slice al m cl)) = w3 at *
  have KC : Hid (∀ q : World, q.heap[p]? = some (.cells #[.slice ab k cb, .slice al m cl, .int .i64 (f.sp : Int)] TFl (0, 0)) → q.cell? ⟨p, 2, none⟩ = some (.int .i64 (f.sp : Int))) := fun q hq => (cells3 hq).2.2
  go_upto_region 2 with fail
  refine wp_region_T (fun q => q.heap[p]? = some (.cells #[.slice ab k cb, .slice al m cl, .int .i64 (f.sp : Int)] TFl (0, 0))) 10 (by kernel_rfl) ?_
  have D3 : Hid (Below w3.heap.size w3 w3.drew) := (Below.refl _ _).drew
  have KP : Hid (w3.drew.heap[p]? = some (.cells #[.slice ab k cb, .slice al m cl, .int .i64 (f.sp : Int)] TFl (0, 0))) := (D3.out.block p (heap_lt b3.out)).trans b3.out
  have g4 : Hid (But (fun k => k = p) w w3.drew) := g3.out.trans (But.of_below D3.out _)
  clear D3 b3 g3
  generalize w3.drew = q3 at *
  have hT := tail_raw q3 p k m ab al cb cl (.int .i64 (f.sp : Int)) KP.out hmk.out.1 hmk.out.2.2.1
  refine Ix.tk 0 ⟨some 28, .move (.tmp 0), 114, "file.go:45", #[], none⟩ (.pointer (some ⟨p, 0, none⟩)) [10] ?_ KP.out ?_
  · intro wq hSw
    have y2 := KC.out wq hSw
    go_simp
  (try simp only [zzp, zza, zzb, zzc])
  refine Ix.tk 1 ⟨some 29, .move (.tmp 0), 114, "file.go:45", #[], none⟩ (.pointer (some ⟨p, 0, none⟩)) [10] ?_ KP.out ?_
  · intro wq hSw
    have y2 := KC.out wq hSw
    go_simp
  (try simp only [zzp, zza, zzb, zzc])
  refine Ix.tk 2 ⟨some 30, .nilCheck (.tmp 29), 0, "file.go:45", #[⟨1,.data⟩], none⟩ (.pointer (some ⟨p, 0, none⟩)) [10] ?_ KP.out ?_
  · intro wq hSw
    have y2 := KC.out wq hSw
    go_simp
  (try simp only [zzp, zza, zzb, zzc])
  refine Ix.tk 3 ⟨some 31, .fieldAddr 124 (.tmp 30) 2, 0, "file.go:45", #[⟨2,.data⟩], none⟩ (.pointer (some ⟨p, 2, none⟩)) [10] ?_ KP.out ?_
  · intro wq hSw
    have y2 := KC.out wq hSw
    go_simp
  (try simp only [zzp, zza, zzb, zzc])
  refine Ix.tk 4 ⟨some 32, .load 3 (.tmp 31), 3, "file.go:45", #[⟨3,.data⟩], none⟩ (.int .i64 (f.sp : Int)) [10] ?_ KP.out ?_
  · intro wq hSw
    have y2 := KC.out wq hSw
    go_simp
  (try simp only [zzp, zza, zzb, zzc])
  refine Ix.tk 5 ⟨some 33, .move (.tmp 0), 114, "file.go:45", #[], none⟩ (.pointer (some ⟨p, 0, none⟩)) [10] ?_ KP.out ?_
  · intro wq hSw
    have y2 := KC.out wq hSw
    go_simp
  (try simp only [zzp, zza, zzb, zzc])
  refine wpAnyT_one (i := 6) (o := ⟨some 34, .call { callee := .value (.func 85), args := #[.tmp 33], argTypes := #[114] }, 3, "file.go:45", #[⟨5, .data⟩], none⟩) (by kernel_rfl) rfl (fun K hK => ?_)
  go_simp
  go_at_call 85
  refine hT.mono ?_
  rintro e w5 ⟨rfl, nq, rfl⟩
  have B5 : Hid (Below q3.heap.size q3 (q3.drewN nq)) := Qt.below ⟨nq, rfl⟩ _
  have K5 : Hid ((q3.drewN nq).heap[p]? = some (.cells #[.slice ab k cb, .slice al m cl, .int .i64 (f.sp : Int)] TFl (0, 0))) := (B5.out.block p (heap_lt KP.out)).trans KP.out
  have g5 : Hid (But (fun k => k = p) w (q3.drewN nq)) := g4.out.trans (But.of_below B5.out _)
  (try go_simp)
  refine hK.out _ _ (fun _ => K5.out) ?_
  clear hK K hT B5 KP g4
  (try simp only [zzp, zza, zzb, zzc])
  generalize q3.drewN nq = q5 at *
  refine Ix.tk 7 ⟨some 35, .call { callee := .builtin .min, args := #[.tmp 32, .tmp 34], argTypes := #[3, 3] }, 3, "file.go:45", #[⟨4,.data⟩,⟨6,.data⟩], none⟩ (.int .i64 (s : Int)) [10] ?_ K5.out ?_
  · intro wq hSw
    have y2 := KC.out wq hSw
    go_simp
  (try simp only [zzp, zza, zzb, zzc])
  refine Ix.tk 8 ⟨some 36, .nilCheck (.tmp 28), 0, "file.go:45", #[⟨0,.data⟩,⟨0,.phase⟩,⟨1,.phase⟩,⟨2,.phase⟩,⟨3,.phase⟩,⟨4,.phase⟩,⟨5,.phase⟩,⟨6,.phase⟩,⟨7,.phase⟩], none⟩ (.pointer (some ⟨p, 0, none⟩)) [9,10] ?_ K5.out ?_
  · intro wq hSw
    have y2 := KC.out wq hSw
    go_simp
  (try simp only [zzp, zza, zzb, zzc])
  refine Ix.tk 9 ⟨some 37, .fieldAddr 124 (.tmp 36) 2, 0, "file.go:45", #[⟨8,.data⟩,⟨0,.phase⟩,⟨1,.phase⟩,⟨2,.phase⟩,⟨3,.phase⟩,⟨4,.phase⟩,⟨5,.phase⟩,⟨6,.phase⟩,⟨7,.phase⟩], none⟩ (.pointer (some ⟨p, 2, none⟩)) [10] ?_ K5.out ?_
  · intro wq hSw
    have y2 := KC.out wq hSw
    go_simp
  (try simp only [zzp, zza, zzb, zzc])
  have d1 := (cells3 K5.out).2.2
  have d2 := (frozen3 K5.out).2.2
  refine wpAnyT_one (i := 10) (o := ⟨none, .store 3 (.tmp 37) (.tmp 35), 0, "file.go:45", #[⟨9, .data⟩, ⟨7, .data⟩, ⟨6, .chain⟩, ⟨0, .phase⟩, ⟨1, .phase⟩, ⟨2, .phase⟩, ⟨3, .phase⟩, ⟨4, .phase⟩, ⟨5, .phase⟩, ⟨6, .phase⟩, ⟨7, .phase⟩], none⟩) (by kernel_rfl) rfl (fun K hK => ?_)
  go_simp
  refine hK.out _ _ (vac (by kernel_rfl)) ?_
  clear hK K d1 d2 KC
  refine wpAnyT_done (by kernel_rfl) ?_ _
  have b6 : (q5.setCell ⟨p, 2, none⟩ (.int .i64 (s : Int))).heap[p]? = some (.cells #[.slice ab k cb, .slice al m cl, .int .i64 (s : Int)] TFl (0, 0)) := by rw [heap_setCell_same _ _ _ _ _ _ K5.out]; simp
  have g6 : But (fun k => k = p) w (q5.setCell ⟨p, 2, none⟩ (.int .i64 (s : Int))) := g5.out.trans (But.of_grownBy (X := fun k => k = p) (grown_setCell q5 p 2 (.int .i64 (s : Int))) fun k e => by cases e; rfl)
  replace b6 := hide b6
  replace g6 := hide g6
  clear K5 g5
  generalize (q5.setCell ⟨p, 2, none⟩ (.int .i64 (s : Int))) = w6 at *
  go_wp2_with fail
  go_end0
  have hq := hmk.out
  have ob := (H.out.b.but g6.out (fun j hj e => H.out.b.no H.out.box (by decide) (by rw [← e]; exact hj))).take (k := k) hq.2.2.2.1
  have ol := (H.out.l.but g6.out (fun j hj e => H.out.l.no H.out.box (by decide) (by rw [← e]; exact hj))).take (k := m) hq.2.1
  have e1 : f.la.take m = f.la.take k := by rw [← hm.out, Nat.min_comm, ← List.take_eq_take_min]
  refine ⟨rfl, .slice ab k cb, .slice al m cl, ?_, g6.out, ?_, ?_⟩
  · refine ⟨?_, ob, ?_, fun j hj => (by cases ab <;> cases al <;> first | exact H.out.ne j hj | (intro c; cases c) | (cases hj)), ?_, ?_, ?_⟩
    · have : ((cuF f k).sp : Int) = (s : Int) := by unfold cuF; rw [hm.out, hs.out]
      rw [this]; exact b6.out
    · show Ob 0 w6 _ (f.la.take k)
      rw [← e1]; exact ol
    · show (f.la.take k).length ≤ (f.by_.take k).length
      rw [List.length_take, List.length_take]; have := H.out.le; omega
    · show min f.sp (k - min f.la.length k) ≤ (f.by_.take k).length - (f.la.take k).length
      rw [List.length_take, List.length_take]; omega
    · show (f.by_.take k).length ≤ _
      rw [List.length_take]; omega
  · cases ab <;> rfl
  · cases al <;> rfl
end Go.Proofs.YtjehpijjneghpaaGreat.Dk
