/-
  Names as they come out of a directory; rows of names, of tails.
-/
import Derived.Test.YtjehpijjneghpaaGreatM10
namespace Go.Proofs.YtjehpijjneghpaaGreat.Dk
open Go.RowKit Go.Maps Go.Sort Go.Shelf Go.Proofs.YtjehpijjneghpaaGreat.Nm
theorem Mp.klen {w : World} {b : Nat} {l : Dr} (h : Mp w b l) {e : List UInt8 × Nat} (he : e ∈ l) : e.1.length ≤ maxLen := by
  obtain ⟨es, clock, _, F, _, hD⟩ := h
  have e2 : l.map dent = (es.toList.map (Go.WideElems.rg Tryz.prog TS ptrR)).foldr DataW.insert [] := by
    have : DataW.map (l.map dent) = DataW.map _ := hD
    simpa using this
  have hm : dent e ∈ l.map dent := List.mem_map.2 ⟨e, he, rfl⟩
  rw [e2] at hm
  obtain ⟨x, hx, hr⟩ := List.mem_map.1 (mem_sorted.1 hm)
  obtain ⟨y, hy⟩ := F.reads x hx
  rw [Go.WideElems.rg_of hy] at hr
  have hk := Go.WideElems.rd_key hy
  rw [hr] at hk
  obtain ⟨s, hs⟩ := keyOf_str_inv hk
  rw [hs] at hk
  obtain ⟨e3, e4⟩ := keyOf_str_lit hk
  have e5 : e.1 = s.data.toList := by
    have : Lit.string e.1 = .string s.data.toList := e3
    simpa using this
  rw [e5]
  exact e4
def bsOf (n : List UInt8) : ByteArray := ⟨n.toArray⟩
theorem bsOf_list (n : List UInt8) : (bsOf n).data.toList = n := rfl
theorem nms_mem {l : Dr} {n : List UInt8} : n ∈ nms l ↔ ∃ p, (n, p) ∈ l := by
  unfold nms
  rw [List.mem_mergeSort, List.mem_map]
  constructor
  · rintro ⟨e, he, rfl⟩
    exact ⟨e.2, he⟩
  · rintro ⟨p, hp⟩
    exact ⟨_, hp, rfl⟩
theorem nms_get {l : Dr} {n : List UInt8} (h : n ∈ nms l) : ∃ p, get l n = some p := by
  obtain ⟨p, hp⟩ := nms_mem.1 h
  unfold get
  have : (l.find? fun p => p.1 == n).isSome = true := by rw [List.find?_isSome]; exact ⟨_, hp, by simp⟩
  obtain ⟨e, he⟩ := Option.isSome_iff_exists.1 this
  exact ⟨e.2, by rw [he]; rfl⟩
theorem Mp.nlen {w : World} {b : Nat} {l : Dr} (h : Mp w b l) {n : List UInt8} (hn : n ∈ nms l) : (bsOf n).size ≤ maxLen := by
  obtain ⟨p, hp⟩ := nms_mem.1 hn
  exact h.klen hp
theorem row_of_owns {w : World} {B : Nat} {T : TypeId} {v : Value} {n : Nat} {xs : List Value} (h : w.ownsRow B T 1 v n xs) (hx : xs.length = n) : Row w v xs := by
  have h0 := h
  rcases h.2 with ⟨rfl, e⟩ | ⟨g, cap, cur, rfl, hg, hh, a, b, c⟩
  · have : xs = [] := List.length_eq_zero_iff.1 (by omega)
    subst this
    exact Row.nil w
  · refine ⟨some ⟨g, 0, none⟩, cap, by rw [hx], fun e => by simp at e, by omega, b, fun i hi => ?_⟩
    have q := World.ownsRow.cells h0 (g := g) rfl i _ (List.getElem?_eq_getElem hi)
    exact ⟨g, 0, rfl, by rw [addr_add] at q; exact q⟩
abbrev Tls := List (List UInt8 × Nat)
def tcells (L : Tls) : List Value := (L.map fun e => [encStr e.1, Value.int .i64 (e.2 : Int)]).flatten
theorem tcells_snoc (L : Tls) (e : List UInt8 × Nat) : tcells (L ++ [e]) = tcells L ++ [encStr e.1, .int .i64 (e.2 : Int)] := by simp [tcells]
theorem tcells_len (L : Tls) : (tcells L).length = L.length * 2 := by
  induction L with
  | nil => rfl
  | cons e r ih =>
    have : tcells (e :: r) = [encStr e.1, .int .i64 (e.2 : Int)] ++ tcells r := by simp [tcells]
    rw [this, List.length_append, ih, List.length_cons]
    simp
    omega
def Tl (B : Nat) (w : World) (v : Value) (L : Tls) : Prop := w.ownsRow B 68 2 v L.length (tcells L)
theorem Tl.nil (B : Nat) (w : World) : Tl B w (.slice none 0 0) [] := World.ownsRow_nil _ _ _ _
def tlOf (F : Nat → Fl) (l : Dr) (n : List UInt8) : Nat := match get l n with | some p => (F p).by_.length - (F p).la.length | none => 0
def DS.front (S : DS) (n : Int) : Dr := runs S.l2 (S.P.take (wthn n S.P.length))
def DS.tails (S : DS) (n : Int) : Tls := (nms (S.front n)).map fun s => (s, tlOf S.F (S.front n) s)
theorem infoTl : (Tryz.prog.info? 68).map (fun i => (i.zero, i.size, i.bytes)) = some (some (.agg #[.string ⟨#[]⟩, .int .i64 0]), 2, 24) := by kernel_rfl
theorem two_new {w : World} {g : Nat} {a b : Value} {T : TypeId} {z : Nat × Nat} (h : w.heap[g]? = some (.cells #[a, b] T z)) : ∀ j u, [a, b][j]? = some u → w.cell? ((⟨g, 0, none⟩ : Addr).add j) = some u := by
  intro j u hu
  rw [addr_add]
  unfold World.cell?
  match j with
  | 0 => simp at hu; simp [h, hu]
  | 1 => simp at hu; simp [h, hu]
  | j + 2 => simp at hu
theorem dsk_directory {w : World} {b : Nat} {S : DS} {O : Nat → Prop} {f g : Nat} {pd : Value} {am : Option Nat} {VB VL : Nat → Value} (h : Dsk w b S O f g pd am VB VL) (hc : S.c7 < 1000000000) (n : Int) (n0 : -9223372036854775808 ≤ n) (n1 : n ≤ 9223372036854775807) :
    Calls Tryz.prog 80 #[.pointer (some ⟨b, 0, none⟩), .int .i64 n] w fun e w' => e = .returned (.map (some w.heap.size)) ∧ Mp w' w.heap.size (S.front n) ∧ Below w.heap.size w w' := by
  have hcn := h.ok.cnt
  exact directory_any w b g (dcells (S.dc f g pd am)) S.l2 S.P pd n h.dk.box rfl rfl h.dk.mg h.dk.pd.row h.dk.ok h.dk.can (by unfold maxLen; omega) n0 n1
theorem front_len {S : DS} (h : S.ok) (hc : S.c7 < 1000000000) (n : Int) : (S.front n).length ≤ 1000000000 := by
  have h1 := h.cnt
  have h2 := runs_len S.l2 (S.P.take (wthn n S.P.length))
  rw [List.length_take] at h2
  unfold DS.front
  omega
theorem mem_front {S : DS} {n : Int} {s : List UInt8} {p : Nat} (h : get (S.front n) s = some p) : p ∈ S.ps := DS.mem_front (List.mem_map.2 ⟨_, get_mem h, rfl⟩)
set_option maxRecDepth 100000 in
set_option maxHeartbeats 1000000 in
theorem tails_any {w : World} {b : Nat} {S : DS} {O : Nat → Prop} {f g : Nat} {pd : Value} {am : Option Nat} {VB VL : Nat → Value} (h : Dsk w b S O f g pd am VB VL) (hc : S.c7 < 1000000000) (n : Int) (n0 : -9223372036854775808 ≤ n) (n1 : n ≤ 9223372036854775807) :
    Calls Tryz.prog 27 #[.pointer (some ⟨b, 0, none⟩), .int .i64 n] w fun e w' => ∃ v, e = .returned v ∧ Tl w.heap.size w' v (S.tails n) ∧ Below w.heap.size w w' := by
  have hM := made_any w _ _ h.dk.dp
  rw [show madeD (some (S.dc f g pd am)) = true from rfl] at hM
  have hD := dsk_directory h hc n n0 n1
  have hlen := front_len h.ok hc n
  have H := hide h
  have hfl : Hid (∀ p s, get (S.front n) s = some p → p ∈ S.ps) := fun p s hp => mem_front hp
  have hE : Hid (S.tails n = (nms (S.front n)).map fun s => (s, tlOf S.F (S.front n) s)) := rfl
  rw [hE.out]
  generalize S.front n = l at *
  have hN := hide (nms_len l)
  have hmem : Hid (∀ k (hk : k < (nms l).length), ∃ p, get l (nms l)[k] = some p) := fun k hk => nms_get (List.getElem_mem hk)
  obtain ⟨i0, hi, hz0, hz1, hz2⟩ := info_parts infoTl
  replace hi := hide hi
  clear h hE
  go_enter Tryz.func27, Tryz.ntmps27
  go_wp2_with (first
    | (go_at_call 79; refine hM.mono ?_; rintro e w1 ⟨rfl, e1⟩; subst w1)
    | (go_at_call 80; refine hD.mono ?_; rintro e w1 ⟨rfl, M1, B1⟩; replace M1 := hide M1; replace B1 := hide B1)
    | (go_at_call 81; refine (names_any w.heap.size l w1 M1.out hlen).mono ?_; rintro e w2 ⟨v2, rfl, R2, _, B2⟩; have R3 := row_of_owns R2 (by simp); replace B2 := hide B2; obtain ⟨ao, ca, rfl, r2, r3, r4, r5⟩ := R3; rw [List.length_map] at *; replace r5 := hide r5; clear r2 R2))
  obtain ⟨N, hN2⟩ : ∃ N, Hid ((nms l).length = N) := ⟨_, rfl⟩
  rw [hN2.out] at r3 ⊢
  have Q2 : Hid (Tl w2.heap.size w2 (.slice none 0 0) (((nms l).take 0).map fun s => (s, tlOf S.F l s)) ∧ Below w2.heap.size w2 w2) := ⟨Tl.nil _ _, Below.refl _ _⟩
  have hN3 : N ≤ 1000000000 := by rw [← hN2.out, hN.out]; exact hlen
  have i4 : (ca : Int) ≤ 9223372036854775807 := by unfold maxLen at r4; omega
  have KW : Hid (∀ q, Below w2.heap.size w2 q → Below w1.heap.size w1 q ∧ Below w.heap.size w q) := fun q hq => ⟨B2.out.trans (hq.mono B2.out.size), B1.out.trans ((B2.out.trans (hq.mono B2.out.size)).mono B1.out.size)⟩
  clear hM hD hlen r4
  replace hN3 := hide hN3
  go_loopw [6, 18] (fun v6 i wr => ∃ k : Nat, i = .int .i64 k ∧ k ≤ N ∧ Hid (Tl w2.heap.size wr v6 (((nms l).take k).map fun s => (s, tlOf S.F l s)) ∧ Below w2.heap.size w2 wr)) (fun _ i _ => N - (intOf i).toNat)
  case atStart => exact ⟨0, rfl, Nat.zero_le _, Q2.out⟩
  case round =>
    obtain ⟨k, rfl, hk, hQ⟩ := hrel
    by_cases hlt : k < N
    · have i1 : (k : Int) < (N : Int) := by omega
      have hkl : k < (nms l).length := by rw [hN2.out]; exact hlt
      obtain ⟨p, hp⟩ := hmem.out k hkl
      obtain ⟨gb, off, rfl, hcl⟩ := r5.out k (by rw [List.length_map]; exact hkl)
      have hcell : wr.cell? ⟨gb, off + k, none⟩ = some (.string (bsOf (nms l)[k])) := by
        rw [hQ.out.2.cell (p := ⟨gb, off + k, none⟩) (lt_of_cell hcl), hcl, List.getElem_map]; rfl
      have hB := KW.out wr hQ.out.2
      have Mr : Mp wr w.heap.size l := M1.out.heap (hB.1.block _ M1.out.lt)
      have hL := Mr.look (s := bsOf (nms l)[k]) (Mr.nlen (List.getElem_mem hkl)) hp
      have hT := tail_any wr p _ _ _ ((H.out.below hB.2).fs.at_ p (hfl.out p _ hp))
      have hTL : Hid (tlOf S.F l (nms l)[k] = (S.F p).by_.length - (S.F p).la.length) := by show _ = _; unfold tlOf; rw [hp]
      rw [← hTL.out] at hT
      have hsn : Hid (((nms l).take (k + 1)).map (fun s => (s, tlOf S.F l s)) = ((nms l).take k).map (fun s => (s, tlOf S.F l s)) ++ [((nms l)[k], tlOf S.F l (nms l)[k])]) := by show _ = _; rw [List.take_succ_eq_append_getElem hkl, List.map_append]; rfl
      unfold TM at hL
      have hLl : Hid ((((nms l).take k).map (fun s => (s, tlOf S.F l s))).length = k) := by show _ = _; rw [List.length_map, List.length_take]; omega
      have O6 := hide hQ.out.1
      have B6 := hide hQ.out.2
      clear hcl Mr hB hp hTL hQ
      generalize ((nms l).take k).map (fun s => (s, tlOf S.F l s)) = L at *
      generalize tlOf S.F l (nms l)[k] = tn at *
      generalize (nms l)[k] = s at *
      clear hkl
      go_wp2_with (first
        | (go_at_call 85; refine hT.mono ?_; rintro e w4 ⟨rfl, nq, e4⟩; have B4 : Hid (Below wr.heap.size wr w4) := (by rw [e4]; exact Qt.below ⟨nq, rfl⟩ _); have O4 : Hid (Tl w2.heap.size w4 u6 L) := (by rw [e4]; exact O6.out); clear e4 hL hT; have N5 := hide (heap_alloc_new w4 (.cells #[.string (bsOf s), .int .i64 (tn : Int)] 68)); have O5 : Hid (Tl w2.heap.size (w4.alloc (.cells #[.string (bsOf s), .int .i64 (tn : Int)] 68)) u6 L) := hide (World.ownsRow.alloc O4.out _))
        | (at_builtin; refine wpList_append_lies _ rfl (.tmp 22) (.tmp 29) 65 rfl w2.heap.size 68 i0 (.agg #[.string ⟨#[]⟩, .int .i64 0]) 2 24 Tryz.underlying65 hi.out hz0 hz1 hz2 rfl (by decide) u6 L.length (tcells L) rfl O5.out ⟨w4.heap.size, 0, none⟩ 1 1 [.string (bsOf s), .int .i64 (tn : Int)] rfl rfl (two_new N5.out) (by simp [Value.oneCell']) (by decide) (by have := hLl.out; have := hN3.out; unfold maxLen; omega) (by have := hLl.out; have := hN3.out; omega) (by have q1 := B6.out.size; have q2 := B4.out.size; simp; omega) (w4.heap.size + 1) (by simp) ?_; intro g2 cap2 w5 ho5 hg5 hat hlt5; replace ho5 := hide ho5; replace hg5 := hide hg5)
        | fail)
      go_roundw
      case rel =>
        refine ⟨k + 1, by go_num, by omega, ?_, ?_⟩
        · rw [hsn.out]
          unfold Tl
          rw [List.length_append, tcells_snoc]
          exact ho5.out
        · refine Below.grown (B6.out.trans ((B4.out.trans ((box_below w4 (.cells #[.string (bsOf s), .int .i64 (tn : Int)] 68)).mono B4.out.size)).mono B6.out.size)) hg5.out ?_ ?_
          · have q1 := B6.out.size; have q2 := B4.out.size; simp; omega
          · intro j hj
            exact (World.ownsRow.lt O4.out j hj).1
      case measure => simp [intOf]; omega
    · obtain rfl : k = N := by omega
      rw [List.take_of_length_le (by rw [hN2.out]; omega)] at hQ
      go_wp2_with fail
      go_ret
      refine ⟨_, rfl, ownsRow_base_a hQ.out.1 (KW.out _ (Below.refl _ _)).2.size, (KW.out _ hQ.out.2).2⟩
abbrev Kep := Int × List UInt8
def crFl (f : Fl) (k : Kep) : Fl := ⟨crF f k.1 k.2, crF f k.1 k.2, 0⟩
def crash1 (F : Nat → Fl) (l : Dr) (s : List UInt8) (k : Kep) : Nat → Fl := match get l s with | some p => upd F p (crFl (F p) k) | none => F
def crashL (l : Dr) : List (List UInt8) → List Kep → (Nat → Fl) → (Nat → Fl)
  | [], _, F => F
  | s :: r, ks, F => crashL l r ks.tail (crash1 F l s (ks.headD (0, [])))
theorem crashL_snoc (l : Dr) (A : List (List UInt8)) (s : List UInt8) (ks : List Kep) (F : Nat → Fl) : crashL l (A ++ [s]) ks F = crash1 (crashL l A ks F) l s (ks.getD A.length (0, [])) := by
  induction A generalizing ks F with
  | nil => cases ks <;> rfl
  | cons a r ih =>
    simp only [List.cons_append, crashL, ih, List.length_cons]
    congr 1
    cases ks with
    | nil => simp
    | cons k q => simp
def DS.crash (S : DS) (d : Int) (ks : List Kep) : DS := { S with up := true, l2 := S.front d, P := [], al := [], F := crashL (S.front d) (nms (S.front d)) ks S.F }
def SIn (Z : Nat → Prop) (v : Value) : Prop := ∀ b off n c, v = .slice (some ⟨b, off, none⟩) n c → 0 < n → Z b
def Kp (Z : Nat → Prop) (w : World) (v : Value) (ks : List Kep) : Prop :=
  ∃ ao cap, v = .slice ao ks.length cap ∧ ks.length ≤ cap ∧ cap ≤ maxLen ∧ ∀ i (h : i < ks.length), ∃ b off vj, ao = some ⟨b, off, none⟩ ∧ Z b ∧ w.cell? ⟨b, off + i * 2, none⟩ = some (.int .i64 ks[i].1) ∧ w.cell? ⟨b, off + i * 2 + 1, none⟩ = some vj ∧ Sl w vj ks[i].2 ∧ SIn Z vj ∧ -9223372036854775808 ≤ ks[i].1 ∧ ks[i].1 ≤ 9223372036854775807
theorem cell_but {X : Nat → Prop} {w w' : World} {b o : Nat} {u : Value} (h : w.cell? ⟨b, o, none⟩ = some u) (hb : But X w w') (hx : ¬ X b) : w'.cell? ⟨b, o, none⟩ = some u := by
  rw [← h]
  have := hb.block b (lt_of_cell h) hx
  unfold World.cell?
  dsimp only
  rw [this]
theorem Kp.but {Z X : Nat → Prop} {w w' : World} {v : Value} {ks : List Kep} (h : Kp Z w v ks) (hb : But X w w') (hx : ∀ k, Z k → ¬ X k) : Kp Z w' v ks := by
  obtain ⟨ao, cap, e, h1, h2, h3⟩ := h
  refine ⟨ao, cap, e, h1, h2, fun i hi => ?_⟩
  obtain ⟨b, off, vj, e1, z, c1, c2, sl, si, n0, n1⟩ := h3 i hi
  exact ⟨b, off, vj, e1, z, cell_but c1 hb (hx b z), cell_but c2 hb (hx b z), sl_but sl hb (fun b' o n c e z k => hx b' (si b' o n c e z) k), si, n0, n1⟩
theorem Kp.below {Z : Nat → Prop} {w w' : World} {v : Value} {ks : List Kep} (h : Kp Z w v ks) (hb : Below w.heap.size w w') : Kp Z w' v ks := h.but (But.of_below hb fun _ => False) fun _ _ c => c
structure CrI (w3 wr : World) (O : Nat → Prop) (b m : Nat) (cs : Array Value) (l : Dr) (ps : List Nat) (F : Nat → Fl) (VB VL : Nat → Value) : Prop where
  box : wr.heap[b]? = some (.cells cs TD (0, 0))
  mp : Mp wr m l
  fs : Fs wr (fun k => k = b ∨ k = m) ps F VB VL
  but : But O w3 wr
  own : ∀ p ∈ ps, ∀ k, FOwn p (VB p) (VL p) k → O k ∨ w3.heap.size ≤ k
  sz : ∀ p ∈ ps, (F p).by_.length ≤ 16777216
theorem CrI.below {w3 wr w' : World} {O : Nat → Prop} {b m : Nat} {cs : Array Value} {l : Dr} {ps : List Nat} {F : Nat → Fl} {VB VL : Nat → Value} (h : CrI w3 wr O b m cs l ps F VB VL) (hb : Below wr.heap.size wr w') : CrI w3 w' O b m cs l ps F VB VL :=
  ⟨(hb.block b (heap_lt h.box)).trans h.box, h.mp.heap (hb.block m h.mp.lt), h.fs.but (But.of_below hb fun _ => False) (fun _ _ _ _ c => c), h.but.trans (But.of_below hb _), h.own, h.sz⟩
theorem but_trans_new {w3 q w' : World} {O Y : Nat → Prop} (h : But O w3 q) (k : But Y q w') (hy : ∀ i, Y i → O i ∨ w3.heap.size ≤ i) : But O w3 w' :=
  ⟨k.os.trans h.os, k.tape.trans h.tape, k.output.trans h.output, Nat.le_trans h.size k.size, fun i hi hx => by
    rw [k.block i (Nat.lt_of_lt_of_le hi h.size) (fun c => ?_)]
    · exact h.block i hi hx
    · rcases hy i c with z | z
      · exact hx z
      · omega⟩
theorem CrI.step {w3 q w' : World} {O : Nat → Prop} {b m p : Nat} {cs : Array Value} {l : Dr} {ps : List Nat} {F : Nat → Fl} {VB VL : Nat → Value} {k : Kep} {vb vl : Value} (h : CrI w3 q O b m cs l ps F VB VL) (hp : p ∈ ps) (hf : FlAt w' p (crFl (F p) k) vb vl) (hb : But (fun k => k = p) q w') (ho : ∀ k, FOwn p vb vl k → k = p ∨ q.heap.size ≤ k) :
    CrI w3 w' O b m cs l ps (upd F p (crFl (F p) k)) (upd VB p vb) (upd VL p vl) := by
  have hbp : b ≠ p := fun e => h.fs.no p hp p (.inl rfl) (.inl e.symm)
  have hmp : m ≠ p := fun e => h.fs.no p hp p (.inl rfl) (.inr e.symm)
  refine ⟨hb.at h.box hbp, h.mp.but hb hmp, h.fs.one hp hf (hb.mono fun k _ e => .inl e) (fun k hk => ?_) ?_, but_trans_new h.but hb (fun i e => by rw [e]; exact h.own p hp p (.inl rfl)), fun r hr i hi => ?_, fun r hr => ?_⟩
  · rcases ho k hk with e | e
    · exact .inl (.inl e)
    · exact .inr e
  · rintro k (e | e)
    · rw [e]; exact heap_lt h.box
    · rw [e]; exact h.mp.lt
  · by_cases e : r = p
    · subst e
      rw [upd_same, upd_same] at hi
      rcases ho i hi with z | z
      · rw [z]; exact h.own r hr r (.inl rfl)
      · exact .inr (Nat.le_trans h.but.size z)
    · rw [upd_ne _ _ e, upd_ne _ _ e] at hi
      exact h.own r hr i hi
  · by_cases e : r = p
    · subst e
      rw [upd_same]
      have := crF_len (F r) k.1 k.2 (h.fs.at_ r hr).le
      have := h.sz r hr
      show (crF (F r) k.1 k.2).length ≤ _
      omega
    · rw [upd_ne _ _ e]
      exact h.sz r hr
theorem CrI.done {w w3 wr w' : World} {O : Nat → Prop} {b m m' : Nat} {S T : DS} {f g : Nat} {pd : Value} {am : Option Nat} {cs : Array Value} {l : Dr} {F : Nat → Fl} {VB VL : Nat → Value} (h0 : Dk w b (S.dc f g pd am) f g S.dir S.l2 S.P S.al) (hok : S.ok) (hlt : ∀ k, O k → k < w.heap.size) (hob : O b) (hw3 : Below w.heap.size w w3 ∨ But O w w3) (hz3 : w.heap.size ≤ w3.heap.size) (hm : w.heap.size ≤ m)
    (h : CrI w3 wr O b m cs l S.ps F VB VL) (hb : But (fun k => k = b) wr w') (hm' : wr.heap.size ≤ m') (hbx : Bx w' b (T.dc m m' (.slice none 0 0) none)) (mm : Mp w' m l) (mm' : Mp w' m' l)
    (e1 : T.most = S.most) (e2 : T.l2 = l) (e3 : T.P = []) (e4 : T.al = []) (e5 : T.c0 = S.c0 ∧ T.c1 = S.c1 ∧ T.c2 = S.c2 ∧ T.c3 = S.c3 ∧ T.c4 = S.c4 ∧ T.c5 = S.c5 ∧ T.c6 = S.c6 ∧ T.c7 = S.c7 ∧ T.c8 = S.c8) (e6 : T.F = F) (hl : (l.length : Int) ≤ S.c7) (hsub : ∀ p ∈ l.map (·.2), p ∈ S.ps) :
    ∃ O', DskE w' b T O' ∧ Sgo w w' O O' := by
  obtain ⟨q0, q1, q2, q3, q4, q5, q6, q7, q8⟩ := e5
  have hdir : T.dir = l := by unfold DS.dir; rw [e2, e3]; rfl
  have hps : ∀ p ∈ T.ps, p ∈ S.ps := by
    intro p hp
    unfold DS.ps at hp
    rw [e2, e3] at hp
    simp only [List.filterMap_nil, List.append_nil] at hp
    exact hsub p hp
  have hnb : ∀ p ∈ S.ps, ∀ k, FOwn p (VB p) (VL p) k → ¬ k = b := fun p hp k hk e => h.fs.no p hp k hk (.inl e)
  have W : But O w wr := by
    rcases hw3 with z | z
    · exact but_trans_new (But.of_below z O) h.but (fun i e => .inl e)
    · exact z.trans h.but
  have W' : But O w w' := W.trans (hb.mono fun k _ e => by rw [e]; exact hob)
  refine ⟨fun k => O k ∨ (w.heap.size ≤ k ∧ k < w'.heap.size), ⟨m, m', .slice none 0 0, none, VB, VL, ⟨?_, ?_, ?_, ?_, ?_, ?_⟩⟩, ⟨W', ?_⟩⟩
  · rw [hdir, e2, e3, e4]
    refine ⟨hbx, rfl, rfl, mm, mm', ?_, Pd.nil _, (fun _ e => by cases e), fun _ => rfl, rfl, trivial, (by simp), ?_, ?_⟩
    · have := h.mp.lt; omega
    · show 0 ≤ T.c0 ∧ 0 ≤ T.c1 ∧ 0 ≤ T.c2 ∧ 0 ≤ T.c3 ∧ 0 ≤ T.c4 ∧ 0 ≤ T.c5 ∧ 0 ≤ T.c6 ∧ 0 ≤ T.c7
      rw [q0, q1, q2, q3, q4, q5, q6, q7]; exact h0.c0
    · show T.c0 ≤ T.c7 ∧ T.c1 ≤ T.c7 ∧ T.c2 ≤ T.c7 ∧ T.c3 ≤ T.c7 ∧ T.c4 ≤ T.c7 ∧ T.c5 ≤ T.c7 ∧ T.c6 ≤ T.c7
      rw [q0, q1, q2, q3, q4, q5, q6, q7]; exact h0.c1
  · rw [e6]
    have k1 := (h.fs.but hb hnb).sub hps
    refine ⟨k1.at_, k1.ap, fun p hp k hk c => ?_⟩
    rcases c with c | c | c | c | c
    · exact k1.no p hp k hk (.inl c)
    · simp only [DS.dc, Option.some.injEq] at c; exact k1.no p hp k hk (.inr c.symm)
    · simp only [DS.dc, Option.some.injEq] at c
      have := (h.fs.at_ p (hps p hp)).lt k hk
      omega
    · simp [DS.dc, Value.ownBlock] at c
    · simp [DS.dc] at c
  · intro k hk
    rcases hk with c | c | c | c | c
    · rw [c]; exact .inl hob
    · simp only [DS.dc, Option.some.injEq] at c; subst c; exact .inr ⟨hm, mm.lt⟩
    · simp only [DS.dc, Option.some.injEq] at c; subst c; exact .inr ⟨Nat.le_trans W.size hm', mm'.lt⟩
    · simp [DS.dc, Value.ownBlock] at c
    · simp [DS.dc] at c
  · intro p hp k hk
    rcases h.own p (hps p hp) k hk with z | z
    · exact .inl z
    · exact .inr ⟨Nat.le_trans hz3 z, Nat.lt_of_lt_of_le ((h.fs.at_ p (hps p hp)).lt k hk) hb.size⟩
  · rintro k (z | z)
    · exact Nat.lt_of_lt_of_le (hlt k z) W'.size
    · exact z.2
  · refine ⟨by rw [e1]; exact hok.most, fun p hp => by rw [e6]; exact h.sz p (hps p hp), by rw [e2, e3, q7]; simpa using hl, by rw [e4]; simp, by rw [q8, q7]; exact hok.by8⟩
  · rintro k (z | z)
    · exact .inl z
    · exact .inr z.1
end Go.Proofs.YtjehpijjneghpaaGreat.Dk
