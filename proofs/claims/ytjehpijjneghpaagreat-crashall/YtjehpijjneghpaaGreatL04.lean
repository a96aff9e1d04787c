/-
  Copies of changes.
-/
import Derived.Test.YtjehpijjneghpaaGreatL03
import Derived.Maps.Ext
import Derived.Maps.RangeWalk
set_option maxRecDepth 100000
set_option maxHeartbeats 40000000
set_option linter.unusedVariables false
namespace Go.Proofs.YtjehpijjneghpaaGreat.Dk
open Go.RowKit Go.Maps Go.Sort Go.Shelf Go.Proofs.YtjehpijjneghpaaGreat.Nm
open Ix (wp_region_T wpAnyT wpAnyT_take wpAnyT_one wpAnyT_done vac)
theorem cpC_any (w : World) (n : ByteArray) (p : Nat) (f : Fl) (vb vl : Value) (h : FlAt w p f vb vl) :
    Calls Tryz.prog 161 #[.agg #[.string n, .pointer (some ⟨p, 0, none⟩)]] w fun e w' => ∃ p' vb' vl', e = .returned (.iface 126 (.agg #[.string n, .pointer (some ⟨p', 0, none⟩)])) ∧ FNew w.heap.size w' p' f vb' vl' ∧ Below w.heap.size w w' := by
 have H := hide h
 have hB := hide ((Below.refl _ w).alloc (Nat.le_refl _) (.cells #[.string n, .pointer (some ⟨p, 0, none⟩)] 126))
 have hN := hide (heap_alloc_new w (.cells #[.string n, .pointer (some ⟨p, 0, none⟩)] 126))
 have S1 : Hid ((w.alloc (.cells #[.string n, .pointer (some ⟨p, 0, none⟩)] 126)).heap.size = w.heap.size + 1) := by show _ = _; simp
 clear h
 go_enter Tryz.func161, Tryz.ntmps161
 go_upto_region 1 with fail
 generalize (w.alloc (.cells #[.string n, .pointer (some ⟨p, 0, none⟩)] 126)) = w1 at *
 have KC : Hid (∀ q : World, Below w1.heap.size w1 q → q.cell? ⟨w.heap.size, 0, none⟩ = some (.string n) ∧ q.cell? ⟨w.heap.size, 1, none⟩ = some (.pointer (some ⟨p, 0, none⟩))) := fun q hq => by
  have e : q.heap[w.heap.size]? = some (.cells #[.string n, .pointer (some ⟨p, 0, none⟩)] 126 (0, 0)) := (hq.block _ (heap_lt hN.out)).trans hN.out
  exact ⟨by simp [World.cell?, e], by simp [World.cell?, e]⟩
 have KP : Hid (Below w1.heap.size w1 w1.drew) := (Below.refl _ _).drew
 refine wp_region_T (fun q => Below w1.heap.size w1 q) 7 (by kernel_rfl) ?_
 generalize w1.drew = q at *
 refine Ix.tk 0 ⟨some 3, .fieldAddr 126 (.tmp 1) 0, _, _, _, _⟩ (.pointer (some ⟨w.heap.size, 0, none⟩)) [1,5,6,7] ?_ KP.out ?_
 ·intro wq hSw
  obtain ⟨y1, y2⟩ := KC.out wq hSw
  go_simp
 (try simp only [zzp, zzb, zzc])
 refine Ix.tk 1 ⟨some 4, .load 9 (.tmp 3), _, _, _, _⟩ (.string n) [5,6,7] ?_ KP.out ?_
 ·intro wq hSw
  obtain ⟨y1, y2⟩ := KC.out wq hSw
  go_simp
 (try simp only [zzp, zzb, zzc])
 refine Ix.tk 2 ⟨some 5, .fieldAddr 126 (.tmp 1) 1, _, _, _, _⟩ (.pointer (some ⟨w.heap.size, 1, none⟩)) [3,4,5,6,7] ?_ KP.out ?_
 ·intro wq hSw
  obtain ⟨y1, y2⟩ := KC.out wq hSw
  go_simp
 (try simp only [zzp, zzb, zzc])
 refine Ix.tk 3 ⟨some 6, .load 114 (.tmp 5), _, _, _, _⟩ (.pointer (some ⟨p, 0, none⟩)) [4,5,6,7] ?_ KP.out ?_
 ·intro wq hSw
  obtain ⟨y1, y2⟩ := KC.out wq hSw
  go_simp
 (try simp only [zzp, zzb, zzc])
 have hC := copyF_any q p f vb vl (H.out.below (hB.out.trans (KP.out.mono hB.out.size)))
 refine wpAnyT_one (i := 4) (o := ⟨some 7, .call { callee := .value (.func 94), args := #[.tmp 6], argTypes := #[114] }, _, _, _, _⟩) (by kernel_rfl) rfl (fun K hK => ?_)
 go_simp
 go_at_call 94
 refine hC.mono ?_
 rintro e w2 ⟨p', vb', vl', rfl, F2, B2⟩
 have F2' : Hid (FNew w.heap.size w2 p' f vb' vl') := ⟨F2.at_, fun k hk => by have := F2.lo k hk; have := KP.out.size; have := hB.out.size; omega⟩
 replace B2 : Hid (Below w1.heap.size w1 w2) := KP.out.trans (B2.mono KP.out.size)
 clear F2 hC
 (try go_simp)
 refine hK.out _ _ (fun _ => B2.out) ?_
 clear hK K
 (try simp only [zzp, zzb, zzc])
 refine Ix.tk 5 ⟨some 8, .build 126 #[(0, .tmp 4), (1, .tmp 7)], _, _, _, _⟩ (.agg #[.string n, .pointer (some ⟨p', 0, none⟩)]) [6,7] ?_ B2.out ?_
 ·intro wq hSw
  obtain ⟨y1, y2⟩ := KC.out wq hSw
  go_simp
 (try simp only [zzp, zzb, zzc])
 refine Ix.tk 6 ⟨some 9, .makeInterface 126 (.tmp 8), _, _, _, _⟩ (.iface 126 (.agg #[.string n, .pointer (some ⟨p', 0, none⟩)])) [7] ?_ B2.out ?_
 ·intro wq hSw
  obtain ⟨y1, y2⟩ := KC.out wq hSw
  go_simp
 (try simp only [zzp, zzb, zzc])
 refine wpAnyT_one (i := 7) (o := ⟨some 2, .assign (.tmp 9), _, _, _, _⟩) (by kernel_rfl) rfl (fun K hK => ?_)
 go_simp
 refine hK.out _ _ (vac (by kernel_rfl)) ?_
 clear hK K
 (try simp only [zzp, zzb, zzc])
 refine wpAnyT_done (by kernel_rfl) ?_ _
 go_wp2_with fail
 go_ret
 exact ⟨p', vb', vl', rfl, F2'.out, hB.out.trans (B2.out.mono hB.out.size)⟩
theorem cpN_any (w : World) (f t : ByteArray) :
    Calls Tryz.prog 163 #[.agg #[.string f, .string t]] w fun e w' => e = .returned (.iface 158 (.agg #[.string f, .string t])) ∧ Below w.heap.size w w' := by
 have hB := hide ((Below.refl _ w).alloc (Nat.le_refl _) (.cells #[.string f, .string t] 158))
 go_enter Tryz.func163, Tryz.ntmps163
 go_wp2_with fail
 go_ret
 exact ⟨rfl, hB.out⟩
theorem cpX_any (w : World) (n : ByteArray) :
    Calls Tryz.prog 165 #[.agg #[.string n]] w fun e w' => e = .returned (.iface 160 (.agg #[.string n])) ∧ Below w.heap.size w w' := by
 have hB := hide ((Below.refl _ w).alloc (Nat.le_refl _) (.cells #[.string n] 160))
 go_enter Tryz.func165, Tryz.ntmps165
 go_wp2_with fail
 go_ret
 exact ⟨rfl, hB.out⟩
def Ch.cf : Ch → Nat
 | .cr _ _ => 161
 | .rn _ _ => 163
 | .rm _ => 165
def Ch.like (B : Nat) (w : World) (F : Nat → Fl) (c c' : Ch) : Prop := match c with
 | .cr n p => ∃ p' vb' vl', c' = .cr n p' ∧ FNew B w p' (F p) vb' vl'
 | c => c' = c
theorem cp_any (w : World) (c : Ch) (F : Nat → Fl) (VB VL : Nat → Value) (h : ∀ p, c.ptr = some p → FlAt w p (F p) (VB p) (VL p)) :
    Calls Tryz.prog c.cf #[c.val] w fun e w' => ∃ c', e = .returned (.iface c'.ty c'.val) ∧ Ch.like w.heap.size w' F c c' ∧ Below w.heap.size w w' := by
 cases c with
 | cr n p =>
  refine (cpC_any w n p (F p) (VB p) (VL p) (h p rfl)).mono ?_
  rintro e w' ⟨p', vb', vl', rfl, hf, hb⟩
  exact ⟨.cr n p', rfl, ⟨p', vb', vl', rfl, hf⟩, hb⟩
 | rn f t =>
  refine (cpN_any w f t).mono ?_
  rintro e w' ⟨rfl, hb⟩
  exact ⟨.rn f t, rfl, rfl, hb⟩
 | rm n =>
  refine (cpX_any w n).mono ?_
  rintro e w' ⟨rfl, hb⟩
  exact ⟨.rm n, rfl, rfl, hb⟩
def ptrs (P : List Ch) : List Nat := P.filterMap Ch.ptr
structure Uqs (l : Dr) (P : List Ch) : Prop where
 inj : ∀ e ∈ l, ∀ e' ∈ l, e.2 = e'.2 → e.1 = e'.1
 ap : ∀ e ∈ l, e.2 ∉ ptrs P
 nd : (ptrs P).Nodup
theorem mem_ddel {l : Dr} {n : List UInt8} {e : List UInt8 × Nat} (h : e ∈ ddel l n) : e ∈ l ∧ e.1 ≠ n := by
 have := List.mem_filter.1 h
 exact ⟨this.1, by simpa using this.2⟩
theorem mem_dput {l : Dr} {n : List UInt8} {p : Nat} {e : List UInt8 × Nat} (h : e ∈ dput l n p) : e = (n, p) ∨ (e ∈ l ∧ e.1 ≠ n) := (dins_mem h).imp id mem_ddel
theorem mem_run {l : Dr} {c : Ch} {e : List UInt8 × Nat} (h : e ∈ c.run l) : (∃ n p, c = .cr n p ∧ e = (n.data.toList, p)) ∨ (∃ f t p, c = .rn f t ∧ (f.data.toList, p) ∈ l ∧ e = (t.data.toList, p)) ∨ (e ∈ l ∧ (∀ f t, c = .rn f t → (get l f.data.toList).isSome → e.1 ≠ f.data.toList)) := by
 cases c with
 | cr n p => rcases mem_dput h with rfl | ⟨h1, _⟩
             ·exact .inl ⟨n, p, rfl, rfl⟩
             ·exact .inr (.inr ⟨h1, fun f t c => by cases c⟩)
 | rm n => exact .inr (.inr ⟨(mem_ddel h).1, fun f t c => by cases c⟩)
 | rn f t =>
  simp only [Ch.run] at h
  cases hg : get l f.data.toList with
  | none => rw [hg] at h; exact .inr (.inr ⟨h, fun f' t' c hs => by cases c; rw [hg] at hs; cases hs⟩)
  | some p =>
   rw [hg] at h
   obtain ⟨h1, h2⟩ := mem_ddel h
   rcases mem_dput h1 with rfl | ⟨h3, _⟩
   ·exact .inr (.inl ⟨f, t, p, rfl, get_mem hg, rfl⟩)
   ·exact .inr (.inr ⟨h3, fun f' t' c _ => by cases c; exact h2⟩)
theorem ptrs_cons (c : Ch) (P : List Ch) : ptrs (c :: P) = c.ptr.toList ++ ptrs P := by
 unfold ptrs
 rw [List.filterMap_cons]
 cases c.ptr <;> rfl
theorem get_isSome {l : Dr} {n : List UInt8} {p : Nat} (h : (n, p) ∈ l) : (get l n).isSome = true := by
 unfold get
 rw [Option.isSome_map, List.find?_isSome]
 exact ⟨_, h, by simp⟩
theorem Uqs.step {l : Dr} {c : Ch} {P : List Ch} (h : Uqs l (c :: P)) : Uqs (c.run l) P := by
 have hn := h.nd
 rw [ptrs_cons] at hn
 have hap := h.ap
 simp only [ptrs_cons, List.mem_append, not_or] at hap
 have nd2 : (ptrs P).Nodup := (List.nodup_append.1 hn).2.1
 have hc : ∀ n p, c = .cr n p → p ∉ ptrs P := fun n p e hp => by
  subst e
  exact (List.nodup_append.1 hn).2.2 p (by simp [Ch.ptr]) p hp rfl
 refine ⟨?_, ?_, nd2⟩
 ·intro e he e' he' hq
  rcases mem_run he with ⟨n, p, rfl, rfl⟩ | ⟨f, t, p, rfl, hm, rfl⟩ | ⟨h1, h2⟩
  ·rcases mem_run he' with ⟨n', p', e, rfl⟩ | ⟨f, t, p', e, _, rfl⟩ | ⟨h1', _⟩
   ·cases e; rfl
   ·cases e
   ·exact ((hap e' h1').1 (by rw [← hq]; simp [Ch.ptr])).elim
  ·rcases mem_run he' with ⟨n', p', e, rfl⟩ | ⟨f', t', p', e, hm', rfl⟩ | ⟨h1', h2'⟩
   ·cases e
   ·cases e; rfl
   ·have := h.inj _ hm _ h1' hq
    exact (h2' f t rfl (get_isSome hm) this.symm).elim
  ·rcases mem_run he' with ⟨n', p', e, rfl⟩ | ⟨f', t', p', e, hm', rfl⟩ | ⟨h1', h2'⟩
   ·subst e
    exact ((hap _ h1).1 (by rw [hq]; simp [Ch.ptr])).elim
   ·subst e
    have := h.inj _ h1 _ hm' hq
    exact (h2 f' t' rfl (get_isSome hm') this).elim
   ·exact h.inj _ h1 _ h1' hq
 ·intro e he
  rcases mem_run he with ⟨n, p, rfl, rfl⟩ | ⟨f, t, p, rfl, hm, rfl⟩ | ⟨h1, _⟩
  ·exact hc n p rfl
  ·exact (hap _ hm).2
  ·exact (hap _ h1).2
theorem Uqs.runs {P : List Ch} : ∀ {l : Dr} (k : Nat), Uqs l P → Uqs (Dk.runs l (P.take k)) (P.drop k) := by
 induction P with
 | nil => intro l k h; simpa [Dk.runs] using h
 | cons c r ih =>
  intro l k h
  cases k with
  | zero => simpa [Dk.runs] using h
  | succ k => exact ih k h.step
theorem Uqs.all {l : Dr} {P : List Ch} (h : Uqs l P) : Uqs (Dk.runs l P) [] := by
 have := h.runs P.length
 rw [List.take_length, List.drop_length] at this
 exact this
theorem Uqs.only {l : Dr} {P : List Ch} (h : Uqs l P) : Uqs l [] := ⟨h.inj, fun _ _ => by simp [ptrs], by simp [ptrs]⟩
theorem Uqs.snoc {l : Dr} {P : List Ch} {c : Ch} (h : Uqs l P) (hc : ∀ p, c.ptr = some p → p ∉ l.map (·.2) ++ ptrs P) : Uqs l (P ++ [c]) := by
 have e : ptrs (P ++ [c]) = ptrs P ++ c.ptr.toList := by
  unfold ptrs
  rw [List.filterMap_append]
  cases hp : c.ptr <;> simp [hp]
 refine ⟨h.inj, fun x hx c' => ?_, ?_⟩
 ·rw [e] at c'
  rcases List.mem_append.1 c' with q | q
  ·exact h.ap x hx q
  ·simp at q
   exact hc _ q (List.mem_append.2 (.inl (List.mem_map.2 ⟨x, hx, rfl⟩)))
 ·rw [e, List.nodup_append]
  refine ⟨h.nd, by cases c.ptr <;> simp, fun a ha b hb e => ?_⟩
  simp at hb
  subst e
  exact hc _ hb (List.mem_append.2 (.inr ha))
def DS.uq (S : DS) : Prop := Uqs S.l2 S.P
theorem Uqs.of {S T : DS} (h : S.uq) (e1 : T.l2 = S.l2) (e2 : T.P = S.P) : T.uq := by unfold DS.uq; rw [e1, e2]; exact h
theorem uq_create {S : DS} (h : S.uq) (s : ByteArray) (p : Nat) (hp : p ∉ S.ps) : (S.create s p).1.uq := by
 obtain ⟨e1, e3, e4, _⟩ := hit_rest S 0
 unfold DS.create
 split
 ·exact h
 split
 ·exact h
 split
 ·exact h
 split
 ·exact Uqs.of h e3 e4
 ·show Uqs (S.hit 0).l2 (S.P ++ [.cr s p])
  rw [e3]
  exact Uqs.snoc h (fun q e => by cases e; exact hp)
theorem uq_remove {S : DS} (h : S.uq) (s : ByteArray) : (S.remove s).1.uq := by
 obtain ⟨e1, e3, e4, _⟩ := hit_rest S 5
 unfold DS.remove
 split
 ·exact h
 split
 ·exact Uqs.of h e3 e4
 ·show Uqs (S.hit 5).l2 (S.P ++ [.rm s])
  rw [e3]
  exact Uqs.snoc h (fun q e => by cases e)
theorem uq_rename {S : DS} (h : S.uq) (s t : ByteArray) : (S.rename s t).1.uq := by
 obtain ⟨e1, e3, e4, _⟩ := hit_rest S 4
 unfold DS.rename
 split
 ·exact h
 split
 ·exact h
 split
 ·exact Uqs.of h e3 e4
 split
 ·exact Uqs.of h e3 e4
 ·show Uqs (S.hit 4).l2 (S.P ++ [.rn s t])
  rw [e3]
  exact Uqs.snoc h (fun q e => by cases e)
theorem uq_syncDir {S : DS} (h : S.uq) : S.syncDir.1.uq := by
 obtain ⟨e1, e3, e4, _⟩ := hit_rest S 6
 unfold DS.syncDir
 split
 ·exact h
 split
 ·exact Uqs.of h e3 e4
 ·exact Uqs.all h
theorem uq_crash {S : DS} (h : S.uq) (d : Int) (ks : List Kep) : (S.crash d ks).uq := (Uqs.runs (wthn d S.P.length) h).only
theorem uq_append {S : DS} (h : S.uq) (s : ByteArray) (b : List UInt8) : (S.append s b).1.uq := by
 obtain ⟨e1, e3, e4, _⟩ := hit_rest S 1
 unfold DS.append
 split
 ·exact h
 ·exact Uqs.of h e3 e4
theorem uq_sync {S : DS} (h : S.uq) (s : ByteArray) : (S.sync s).1.uq := by
 obtain ⟨b1, b2, b3, b4, _⟩ := beg_rest S 2
 obtain ⟨e1, e3, e4, _⟩ := str_rest (S.beg 2) 3
 unfold DS.sync
 split
 ·exact h
 split
 ·exact Uqs.of h b3 b4
 split
 ·exact Uqs.of h (e3.trans b3) (e4.trans b4)
 ·exact Uqs.of h b3 b4
theorem uq_cut {S : DS} (h : S.uq) (s : ByteArray) (n : Int) : (S.cut s n).1.uq := by
 obtain ⟨b1, b2, b3, b4, _⟩ := beg_rest S 3
 obtain ⟨e1, e3, e4, _⟩ := hit_rest S 3
 unfold DS.cut
 split
 ·exact h
 split
 ·exact h
 split
 ·exact Uqs.of h e3 e4
 ·exact Uqs.of h b3 b4
theorem wpAnyT_pair {P : Program} {ops : Array Oper} {Q : Exit → Act → World → Prop} {md : Region.Mode} {S : World → Prop} {d : Nat} {i j : Nat} {oi oj : Oper} {fuel : Nat} {listed : Array Bool} {a : Act} {w : World} (G : Value → Value → World → Prop) (hij : i ≠ j) (hr : Region.ready md ops listed = [i, j]) (hoi : ops[i]? = some oi) (hoj : ops[j]? = some oj)
    (hri : Region.ready md ops (listed.setIfInBounds i true) = [j]) (hrj : Region.ready md ops (listed.setIfInBounds j true) = [i])
    (hcomm : ∀ vi vj, (a.put oj.dst vj).put oi.dst vi = (a.put oi.dst vi).put oj.dst vj)
    (hI : ∀ K' : Act → World → Prop, Shut (∀ vi w1, S w1 → (∀ K2 : Act → World → Prop, Shut (∀ vj w2, G vi vj w2 → K2 ((a.put oi.dst vi).put oj.dst vj) w2) → if Region.wanted oj (yielded ops (a.put oi.dst vi).tmps) = true then Oper.wp P oj (a.put oi.dst vi) w1 K2 Q else K2 ((a.put oi.dst vi).put oj.dst undef) w1) → K' (a.put oi.dst vi) w1) → if Region.wanted oi (yielded ops a.tmps) = true then Oper.wp P oi a w K' Q else K' (a.put oi.dst undef) w)
    (hJ : ∀ K' : Act → World → Prop, Shut (∀ vj w1, S w1 → (∀ K2 : Act → World → Prop, Shut (∀ vi w2, G vi vj w2 → K2 ((a.put oj.dst vj).put oi.dst vi) w2) → if Region.wanted oi (yielded ops (a.put oj.dst vj).tmps) = true then Oper.wp P oi (a.put oj.dst vj) w1 K2 Q else K2 ((a.put oj.dst vj).put oi.dst undef) w1) → K' (a.put oj.dst vj) w1) → if Region.wanted oj (yielded ops a.tmps) = true then Oper.wp P oj a w K' Q else K' (a.put oj.dst undef) w)
    (hG : ∀ vi vj w2, G vi vj w2 → S w2)
    (h : ∀ vi vj w2, G vi vj w2 → wpAnyT P md ops Q S d fuel ((listed.setIfInBounds i true).setIfInBounds j true) ((a.put oi.dst vi).put oj.dst vj) w2) :
    wpAnyT P md ops Q S d (fuel + 1 + 1) listed a w := by
 refine ⟨fun h0 => (by rw [h0] at hr; cases hr), fun k hk => ?_⟩
 rw [hr] at hk
 simp only [List.mem_cons, List.not_mem_nil, or_false] at hk
 rcases hk with rfl | rfl
 ·refine wpOp_step hoi (fun K' hK => hI K' (fun vi w1 hS hrest => hK _ w1 ⟨fun _ => hS, ?_⟩))
  refine wpAnyT_one hri hoj (fun K2 hK2 => hrest K2 (fun vj w2 hg => hK2 _ w2 (fun _ => hG vi vj w2 hg) (h vi vj w2 hg)))
 ·refine wpOp_step hoj (fun K' hK => hJ K' (fun vj w1 hS hrest => hK _ w1 ⟨fun _ => hS, ?_⟩))
  refine wpAnyT_one hrj hoi (fun K2 hK2 => hrest K2 (fun vi w2 hg => hK2 _ w2 (fun _ => hG vi vj w2 hg) ?_))
  rw [hcomm, Array.setIfInBounds_comm _ _ (Ne.symm hij)]
  exact h vi vj w2 hg
end Go.Proofs.YtjehpijjneghpaaGreat.Dk
namespace Go.Proofs.YtjehpijjneghpaaGreat.Dk
open Go.RowKit Go.Maps Go.Sort Go.Shelf Go.Proofs.YtjehpijjneghpaaGreat.Nm
def mvD (σ : Nat → Nat) (l : Dr) : Dr := l.map fun e => (e.1, σ e.2)
def Ch.mv (σ : Nat → Nat) : Ch → Ch
 | .cr n p => .cr n (σ p)
 | .rn f t => .rn f t
 | .rm n => .rm n
theorem get_mv (σ : Nat → Nat) (l : Dr) (n : List UInt8) : get (mvD σ l) n = (get l n).map σ := by
 unfold get mvD
 rw [List.find?_map]
 simp [Function.comp_def]
theorem ddel_mv (σ : Nat → Nat) (l : Dr) (n : List UInt8) : ddel (mvD σ l) n = mvD σ (ddel l n) := by
 unfold ddel mvD
 rw [List.filter_map]
 rfl
theorem dins_mv (σ : Nat → Nat) (n : List UInt8) (p : Nat) : ∀ l : Dr, dins (n, σ p) (mvD σ l) = mvD σ (dins (n, p) l) := by
 intro l
 induction l with
 | nil => rfl
 | cons y r ih =>
  show dins (n, σ p) ((y.1, σ y.2) :: mvD σ r) = mvD σ (dins (n, p) (y :: r))
  simp only [dins]
  split
  ·rfl
  ·rw [ih]; rfl
theorem dput_mv (σ : Nat → Nat) (l : Dr) (n : List UInt8) (p : Nat) : dput (mvD σ l) n (σ p) = mvD σ (dput l n p) := by
 unfold dput
 rw [ddel_mv, dins_mv]
theorem run_mv (σ : Nat → Nat) (l : Dr) (c : Ch) : (c.mv σ).run (mvD σ l) = mvD σ (c.run l) := by
 cases c with
 | cr n p => exact dput_mv σ l _ p
 | rm n => exact ddel_mv σ l _
 | rn f t =>
  simp only [Ch.mv, Ch.run, get_mv]
  cases get l f.data.toList with
  | none => rfl
  | some p => simp only [Option.map_some]; rw [dput_mv, ddel_mv]
theorem runs_mv (σ : Nat → Nat) : ∀ (P : List Ch) (l : Dr), runs (mvD σ l) (P.map (Ch.mv σ)) = mvD σ (runs l P) := by
 intro P
 induction P with
 | nil => intro l; rfl
 | cons c r ih =>
  intro l
  show runs ((c.mv σ).run (mvD σ l)) (r.map (Ch.mv σ)) = _
  rw [run_mv, ih]
  rfl
theorem nms_mv (σ : Nat → Nat) (l : Dr) : nms (mvD σ l) = nms l := by
 unfold nms mvD
 rw [List.map_map]
 rfl
theorem ptr_mv (σ : Nat → Nat) (c : Ch) : (c.mv σ).ptr = c.ptr.map σ := by cases c <;> rfl
theorem ptrs_mv (σ : Nat → Nat) (P : List Ch) : (P.map (Ch.mv σ)).filterMap Ch.ptr = (P.filterMap Ch.ptr).map σ := by
 induction P with
 | nil => rfl
 | cons c r ih =>
  rw [List.map_cons, List.filterMap_cons, List.filterMap_cons, ptr_mv, ih]
  cases c.ptr <;> rfl
structure Alike (σ : Nat → Nat) (S S' : DS) : Prop where
 most : S'.most = S.most
 up : S'.up = S.up
 al : S'.al = S.al
 c0 : S'.c0 = S.c0
 c1 : S'.c1 = S.c1
 c2 : S'.c2 = S.c2
 c3 : S'.c3 = S.c3
 c4 : S'.c4 = S.c4
 c5 : S'.c5 = S.c5
 c6 : S'.c6 = S.c6
 c7 : S'.c7 = S.c7
 c8 : S'.c8 = S.c8
 l2 : S'.l2 = mvD σ S.l2
 P : S'.P = S.P.map (Ch.mv σ)
 F : ∀ p ∈ S.ps, S'.F (σ p) = S.F p
 inj : ∀ p ∈ S.ps, ∀ q ∈ S.ps, σ p = σ q → p = q
variable {σ : Nat → Nat} {S S' : DS}
theorem Alike.ps (h : Alike σ S S') : S'.ps = S.ps.map σ := by
 unfold DS.ps
 rw [h.l2, h.P, ptrs_mv, List.map_append]
 unfold mvD
 rw [List.map_map, List.map_map]
 rfl
theorem Alike.dir (h : Alike σ S S') : S'.dir = mvD σ S.dir := by
 unfold DS.dir
 rw [h.l2, h.P, runs_mv]
theorem Alike.front (h : Alike σ S S') (n : Int) : S'.front n = mvD σ (S.front n) := by
 unfold DS.front
 rw [h.l2, h.P, List.length_map, ← List.map_take, runs_mv]
theorem mem_ps_front {S : DS} {n : Int} {e : List UInt8 × Nat} (he : e ∈ S.front n) : e.2 ∈ S.ps := DS.mem_front (List.mem_map.2 ⟨e, he, rfl⟩)
theorem mem_ps_dir {S : DS} {e : List UInt8 × Nat} (he : e ∈ S.dir) : e.2 ∈ S.ps := runs_mem (List.mem_map.2 ⟨e, he, rfl⟩)
theorem Alike.tails (h : Alike σ S S') (n : Int) : S'.tails n = S.tails n := by
 unfold DS.tails
 rw [h.front, nms_mv]
 refine List.map_congr_left fun s hs => ?_
 congr 1
 unfold tlOf
 rw [get_mv]
 cases hg : get (S.front n) s with
 | none => rfl
 | some p => simp only [Option.map_some]; rw [h.F p (mem_ps_front (get_mem hg))]
theorem filesOf_mv {G G' : Nat → List UInt8} {l : Dr} (hG : ∀ e ∈ l, G' (σ e.2) = G e.2) : filesOf G' (mvD σ l) = filesOf G l := by
 unfold filesOf
 rw [nms_mv]
 refine List.map_congr_left fun s hs => ?_
 congr 1
 unfold flOf
 rw [get_mv]
 cases hg : get l s with
 | none => rfl
 | some p => simp only [Option.map_some]; exact hG _ (get_mem hg)
theorem Alike.files (h : Alike σ S S') : S'.files = S.files := by
 unfold DS.files
 rw [h.dir]
 exact filesOf_mv fun e he => by show (S'.F _).by_ = _; rw [h.F _ (mem_ps_dir he)]
theorem Alike.lasts (h : Alike σ S S') : S'.lasts = S.lasts := by
 unfold DS.lasts
 rw [h.l2]
 exact filesOf_mv fun e he => by show (S'.F _).la = _; rw [h.F _ (List.mem_append_left _ (List.mem_map.2 ⟨e, he, rfl⟩))]
theorem Alike.ref (h : Alike σ S S') (ns : List ByteArray) : S'.ref ns = S.ref ns := by
 unfold DS.ref
 rw [h.up]
theorem Alike.find (h : Alike σ S S') (s : ByteArray) : S'.find s = ((S.find s).1.map σ, (S.find s).2) := by
 unfold DS.find
 rw [h.ref, h.dir, get_mv]
 split
 ·cases get S.dir s.data.toList <;> rfl
 ·rfl
theorem Alike.flt (h : Alike σ S S') : S'.flt = S.flt := by
 unfold DS.flt
 rw [h.al, h.c7]
theorem Alike.sum (h : Alike σ S S') : sumL S'.F S'.dir = sumL S.F S.dir := by
 unfold sumL
 rw [h.dir]
 unfold mvD
 rw [List.map_map]
 congr 1
 refine List.map_congr_left fun e he => ?_
 show (S'.F (σ e.2)).by_.length = _
 rw [h.F _ (mem_ps_dir he)]
theorem Alike.room (h : Alike σ S S') : S'.room = S.room := by
 unfold DS.room
 rw [h.sum, h.most]
theorem crash1_mv {F F' : Nat → Fl} {l : Dr} {ps : List Nat} (hl : ∀ e ∈ l, e.2 ∈ ps) (hF : ∀ p ∈ ps, F' (σ p) = F p) (hi : ∀ p ∈ ps, ∀ q ∈ ps, σ p = σ q → p = q) (s : List UInt8) (k : Kep) : ∀ p ∈ ps, crash1 F' (mvD σ l) s k (σ p) = crash1 F l s k p := by
 intro p hp
 unfold crash1
 rw [get_mv]
 cases hg : get l s with
 | none => exact hF p hp
 | some q =>
  simp only [Option.map_some]
  have hq := hl _ (get_mem hg)
  by_cases e : p = q
  ·subst e
   rw [upd_same, upd_same, hF p hp]
  ·rw [upd_ne _ _ e, upd_ne _ _ (fun c => e (hi p hp q hq c)), hF p hp]
theorem crashL_mv {l : Dr} {ps : List Nat} (hl : ∀ e ∈ l, e.2 ∈ ps) (hi : ∀ p ∈ ps, ∀ q ∈ ps, σ p = σ q → p = q) : ∀ (A : List (List UInt8)) (ks : List Kep) (F F' : Nat → Fl), (∀ p ∈ ps, F' (σ p) = F p) → ∀ p ∈ ps, crashL (mvD σ l) A ks F' (σ p) = crashL l A ks F p := by
 intro A
 induction A with
 | nil => intro ks F F' hF p hp; exact hF p hp
 | cons s r ih =>
  intro ks F F' hF p hp
  exact ih ks.tail _ _ (crash1_mv hl hF hi s _) p hp
theorem Alike.crash (h : Alike σ S S') (d : Int) (ks : List Kep) : Alike σ (S.crash d ks) (S'.crash d ks) := by
 have hps : ∀ p ∈ (S.crash d ks).ps, p ∈ S.ps := fun p hp => by
  have : p ∈ (S.front d).map (·.2) := by simpa [DS.ps, DS.crash] using hp
  exact DS.mem_front this
 refine ⟨h.most, rfl, rfl, h.c0, h.c1, h.c2, h.c3, h.c4, h.c5, h.c6, h.c7, h.c8, h.front d, rfl, ?_, fun p hp q hq => h.inj p (hps p hp) q (hps q hq)⟩
 intro p hp
 show crashL (S'.front d) (nms (S'.front d)) ks S'.F (σ p) = crashL (S.front d) (nms (S.front d)) ks S.F p
 rw [h.front, nms_mv]
 exact crashL_mv (fun e he => mem_ps_front he) h.inj _ _ _ _ h.F p (hps p hp)
end Go.Proofs.YtjehpijjneghpaaGreat.Dk
namespace Go.Proofs.YtjehpijjneghpaaGreat.Dk
open Go.RowKit Go.Maps Go.Sort Go.Shelf Go.Proofs.YtjehpijjneghpaaGreat.Nm
def Rise (l : Dr) : Prop := l.Pairwise fun p q => bytesBefore p.1 q.1 = true
theorem Mp.rise {w : World} {b : Nat} {l : Dr} (h : Mp w b l) : Rise l := by
 obtain ⟨es, e, hp, _⟩ := World.ownsMap.canon h keyS
 have e2 : l.map dent = es := by simpa [dirD] using e
 rw [← e2, List.pairwise_map] at hp
 exact hp
theorem Rise.mv {l : Dr} (h : Rise l) (σ : Nat → Nat) : Rise (mvD σ l) := by
 unfold Rise mvD
 rw [List.pairwise_map]
 exact h
theorem rise_keys {l : Dr} (h : Rise l) : l.Pairwise fun p q => p.1 ≠ q.1 := by
 have hd : (l.map dent).Pairwise (fun p q => p.1.before q.1 = true) := by rw [List.pairwise_map]; exact h
 have := apart_of_rising hd
 rw [List.pairwise_map] at this
 exact this.imp fun {a b} hab e => hab (congrArg Lit.string e)
theorem get_of_mem {l : Dr} (h : l.Pairwise fun p q => p.1 ≠ q.1) {n : List UInt8} {p : Nat} (hm : (n, p) ∈ l) : get l n = some p := by
 induction l with
 | nil => cases hm
 | cons x r ih =>
  obtain ⟨h1, h2⟩ := List.pairwise_cons.1 h
  unfold get
  rw [List.find?_cons]
  rcases List.mem_cons.1 hm with rfl | hm
  ·simp
  ·have : (x.1 == n) = false := by simpa using h1 _ hm
   rw [this]
   exact ih h2 hm
theorem rise_ext {l l' : Dr} (h : Rise l) (h' : Rise l') (hg : ∀ k, get l k = get l' k) : l = l' := by
 have hd : ∀ {a : Dr}, Rise a → (a.map dent).Pairwise (fun p q => p.1.before q.1 = true) := fun ha => by rw [List.pairwise_map]; exact ha
 have e := eq_of_mem_rising (hd h) (hd h') (fun p => by
  simp only [List.mem_map]
  constructor
  ·rintro ⟨x, hx, rfl⟩
   exact ⟨x, get_mem (by rw [← hg]; exact get_of_mem (rise_keys h) hx), rfl⟩
  ·rintro ⟨x, hx, rfl⟩
   exact ⟨x, get_mem (by rw [hg]; exact get_of_mem (rise_keys h') hx), rfl⟩)
 refine (List.map_inj_right (f := dent) (fun a b hab => ?_)).1 e
 obtain ⟨a1, a2⟩ := a
 obtain ⟨b1, b2⟩ := b
 simp only [dent, Prod.mk.injEq, Lit.string.injEq, DataW.lit.injEq, Lit.int.injEq, true_and] at hab
 obtain ⟨q1, q2⟩ := hab
 rw [q1, show a2 = b2 by omega]
structure Cq (B : Nat) (w : World) (F : Nat → Fl) (D : Nat → Prop) (σ : Nat → Nat) (VB VL : Nat → Value) : Prop where
 at_ : ∀ p, D p → FlAt w (σ p) (F p) (VB p) (VL p)
 lo : ∀ p, D p → ∀ k, FOwn (σ p) (VB p) (VL p) k → B ≤ k
 ap : ∀ p, D p → ∀ q, D q → p ≠ q → ∀ k, FOwn (σ p) (VB p) (VL p) k → ¬ FOwn (σ q) (VB q) (VL q) k
theorem Cq.none (B : Nat) (w : World) (F : Nat → Fl) (D : Nat → Prop) (hD : ∀ p, ¬ D p) (σ : Nat → Nat) (VB VL : Nat → Value) : Cq B w F D σ VB VL := ⟨fun p h => (hD p h).elim, fun p h => (hD p h).elim, fun p h => (hD p h).elim⟩
theorem Cq.but {B : Nat} {X : Nat → Prop} {w w' : World} {F : Nat → Fl} {D : Nat → Prop} {σ : Nat → Nat} {VB VL : Nat → Value} (h : Cq B w F D σ VB VL) (hb : But X w w') (hx : ∀ p, D p → ∀ k, FOwn (σ p) (VB p) (VL p) k → ¬ X k) : Cq B w' F D σ VB VL :=
 ⟨fun p hp => (h.at_ p hp).but hb (hx p hp), h.lo, h.ap⟩
theorem Cq.below {B : Nat} {w w' : World} {F : Nat → Fl} {D : Nat → Prop} {σ : Nat → Nat} {VB VL : Nat → Value} (h : Cq B w F D σ VB VL) (hb : Below w.heap.size w w') : Cq B w' F D σ VB VL := h.but (But.of_below hb fun _ => False) fun _ _ _ _ c => c
theorem Cq.lt {B : Nat} {w : World} {F : Nat → Fl} {D : Nat → Prop} {σ : Nat → Nat} {VB VL : Nat → Value} (h : Cq B w F D σ VB VL) {p : Nat} (hp : D p) : ∀ k, FOwn (σ p) (VB p) (VL p) k → k < w.heap.size := (h.at_ p hp).lt
theorem Cq.more {B : Nat} {w w' : World} {F : Nat → Fl} {D D' : Nat → Prop} {σ : Nat → Nat} {VB VL : Nat → Value} {p p' : Nat} {vb vl : Value} (h : Cq B w F D σ VB VL) (hB : B ≤ w.heap.size) (hp : ¬ D p) (hD : ∀ q, D' q → q = p ∨ D q) (hn : FNew w.heap.size w' p' (F p) vb vl) (hb : Below w.heap.size w w') :
    Cq B w' F D' (upd σ p p') (upd VB p vb) (upd VL p vl) := by
 have hne : ∀ q, D q → q ≠ p := fun q hq e => hp (by rw [← e]; exact hq)
 have h' := h.below hb
 have key : ∀ q, D' q → (q = p ∧ upd σ p p' q = p' ∧ upd VB p vb q = vb ∧ upd VL p vl q = vl) ∨ (q ≠ p ∧ D q ∧ upd σ p p' q = σ q ∧ upd VB p vb q = VB q ∧ upd VL p vl q = VL q) := fun q hq => by
  by_cases e : q = p
  ·subst e; exact .inl ⟨rfl, upd_same _ _ _, upd_same _ _ _, upd_same _ _ _⟩
  ·rcases hD q hq with c | c
   ·exact (e c).elim
   ·exact .inr ⟨e, c, upd_ne _ _ e, upd_ne _ _ e, upd_ne _ _ e⟩
 refine ⟨fun q hq => ?_, fun q hq => ?_, fun q hq r hr hqr => ?_⟩
 ·rcases key q hq with ⟨e, e1, e2, e3⟩ | ⟨e, c, e1, e2, e3⟩
  ·rw [e1, e2, e3, e]; exact hn.at_
  ·rw [e1, e2, e3]; exact h'.at_ q c
 ·rcases key q hq with ⟨e, e1, e2, e3⟩ | ⟨e, c, e1, e2, e3⟩
  ·rw [e1, e2, e3]; exact fun k hk => Nat.le_trans hB (hn.lo k hk)
  ·rw [e1, e2, e3]; exact h.lo q c
 ·rcases key q hq with ⟨e, e1, e2, e3⟩ | ⟨e, c, e1, e2, e3⟩
  ·rcases key r hr with ⟨e', _⟩ | ⟨_, c', f1, f2, f3⟩
   ·exact (hqr (e.trans e'.symm)).elim
   ·rw [e1, e2, e3, f1, f2, f3]
    intro k hk hk'
    have := hn.lo k hk
    have := h.lt c' k hk'
    omega
  ·rcases key r hr with ⟨_, f1, f2, f3⟩ | ⟨_, c', f1, f2, f3⟩
   ·rw [e1, e2, e3, f1, f2, f3]
    intro k hk hk'
    have := hn.lo k hk'
    have := h.lt c k hk
    omega
   ·rw [e1, e2, e3, f1, f2, f3]
    exact h.ap q c r c' hqr
theorem get_ddel (l : Dr) (n k : List UInt8) : get (ddel l n) k = if n = k then none else get l k := by
 unfold get ddel
 induction l with
 | nil => simp
 | cons y r ih =>
  by_cases e : y.1 = n
  ·subst e
   rw [List.filter_cons_of_neg (by simp), ih, List.find?_cons]
   by_cases e2 : y.1 = k
   ·simp [e2]
   ·simp only [show (y.1 == k) = false by simpa using e2, if_neg e2]
  ·rw [List.filter_cons_of_pos (by simpa using e), List.find?_cons, List.find?_cons]
   by_cases e2 : y.1 = k
   ·subst e2
    simp [Ne.symm e]
   ·simp only [show (y.1 == k) = false by simpa using e2]
    exact ih
theorem get_dins {x : List UInt8 × Nat} {l : Dr} (hx : ∀ e ∈ l, e.1 ≠ x.1) (k : List UInt8) : get (dins x l) k = if x.1 = k then some x.2 else get l k := by
 induction l with
 | nil => unfold get dins; by_cases e : x.1 = k <;> simp [e]
 | cons y r ih =>
  have ih := ih (fun e he => hx e (by simp [he]))
  have hy := hx y (by simp)
  unfold dins
  split
  ·unfold get
   rw [List.find?_cons]
   by_cases e : x.1 = k
   ·simp [e]
   ·simp only [show (x.1 == k) = false by simpa using e, if_neg e]
  ·unfold get at ih ⊢
   rw [List.find?_cons, List.find?_cons]
   by_cases e : y.1 = k
   ·subst e
    simp [Ne.symm hy]
   ·simp only [show (y.1 == k) = false by simpa using e]
    exact ih
theorem get_dput (l : Dr) (n : List UInt8) (p : Nat) (k : List UInt8) : get (dput l n p) k = if n = k then some p else get l k := by
 unfold dput
 rw [get_dins (fun e he => (mem_ddel he).2), get_ddel]
 split <;> rfl
theorem dput_le (l : Dr) (n : List UInt8) (p : Nat) : (dput l n p).length ≤ l.length + 1 := by
 unfold dput
 rw [dins_len]
 have : (ddel l n).length ≤ l.length := List.length_filter_le _ _
 omega
def AmN (B : Nat) (w : World) (am : Option Nat) (al : Ar) : Prop := (am = none ∧ al = []) ∨ ∃ m, am = some m ∧ B ≤ m ∧ Am w m al
theorem AmN.but {B : Nat} {X : Nat → Prop} {w w' : World} {am : Option Nat} {al : Ar} (h : AmN B w am al) (hb : But X w w') (hx : ∀ m, am = some m → ¬ X m) : AmN B w' am al := by
 rcases h with h | ⟨m, e, hm, ha⟩
 ·exact .inl h
 ·exact .inr ⟨m, e, hm, ha.but hb (hx m e)⟩
theorem AmN.below {B : Nat} {w w' : World} {am : Option Nat} {al : Ar} (h : AmN B w am al) (hb : Below w.heap.size w w') : AmN B w' am al := h.but (But.of_below hb fun _ => False) fun _ _ c => c
theorem AmN.low {B C : Nat} {w : World} {am : Option Nat} {al : Ar} (h : AmN B w am al) (hc : C ≤ B) : AmN C w am al := by
 rcases h with h | ⟨m, e, hm, ha⟩
 ·exact .inl h
 ·exact .inr ⟨m, e, by omega, ha⟩
theorem AmN.lt {B : Nat} {w : World} {am : Option Nat} {al : Ar} (h : AmN B w am al) {m : Nat} (hm : am = some m) : B ≤ m ∧ m < w.heap.size := by
 rcases h with ⟨h, _⟩ | ⟨m', e, hb, ha⟩
 ·rw [h] at hm; cases hm
 ·rw [e] at hm; cases hm; exact ⟨hb, ha.lt⟩
theorem cloneA_any (q : World) (am : Option Nat) (al : Ar) (h1 : ∀ m, am = some m → Am q m al) (h2 : am = none → al = []) :
    Calls Tryz.prog 93 #[.map am] q fun e w' => ∃ am', e = .returned (.map am') ∧ AmN q.heap.size w' am' al ∧ Below q.heap.size q w' := by
 cases am with
 | none =>
  refine (clone_nilA q).mono ?_
  rintro e w' ⟨rfl, e1⟩
  subst w'
  exact ⟨none, rfl, .inl ⟨rfl, h2 rfl⟩, Below.refl _ _⟩
 | some m =>
  refine (clone_am q m al (h1 m rfl)).mono ?_
  rintro e w' ⟨rfl, ha, hb⟩
  exact ⟨_, rfl, .inr ⟨_, rfl, Nat.le_refl _, ha⟩, hb⟩
def ccells (S : DS) (mc : Nat) (pv : Value) (am : Option Nat) : Array Value := #[.int .i64 S.most, .bool S.up, .map none, .map (some mc), pv, .map am, .int .i64 S.c0, .int .i64 S.c1, .int .i64 S.c2, .int .i64 S.c3, .int .i64 S.c4, .int .i64 S.c5, .int .i64 S.c6, .int .i64 S.c7, .int .i64 S.c8]
def F1 : Nat → Fl := fun _ => ⟨[0], [], 0⟩
theorem sumL_F1 (l : Dr) : sumL F1 l = l.length := by
 induction l with
 | nil => rfl
 | cons y r ih => unfold sumL at ih ⊢; rw [List.map_cons, List.sum_cons, ih]; simp [F1]; omega
structure CpI (w : World) (r bc mc : Nat) (cs : Array Value) (am : Option Nat) (al : Ar) (l : Dr) (F : Nat → Fl) (wr : World) (left : Lit → Bool) (lp : Dr) (σ : Nat → Nat) (VB VL : Nat → Value) : Prop where
 lk : ∀ k, left (.string k) = true → (get l k).isSome = true
 low : Below w.heap.size w wr
 box : wr.heap[bc]? = some (.cells cs TD (0, 0))
 mp : Mp wr mc lp
 am : AmN w.heap.size wr am al
 cq : Cq (r + 1) wr F (fun p => ∃ k, get l k = some p ∧ left (.string k) = false) σ VB VL
 gt : ∀ k, get lp k = if left (.string k) = true then none else (get l k).map σ
 len : lp.length + leftS F1 l left ≤ l.length
 sz : r < wr.heap.size
theorem CpI.start {w wr : World} {r bc mc : Nat} {cs : Array Value} {am : Option Nat} {al : Ar} {l : Dr} {F : Nat → Fl} {σ : Nat → Nat} {VB VL : Nat → Value} (low : Below w.heap.size w wr) (box : wr.heap[bc]? = some (.cells cs TD (0, 0))) (mp : Mp wr mc []) (hm : AmN w.heap.size wr am al) (sz : r < wr.heap.size) :
    CpI w r bc mc cs am al l F wr (Maps.has (dirD l)) [] σ VB VL := by
 refine ⟨fun k hk => by rw [← dirD_has]; exact hk, low, box, mp, hm, Cq.none _ _ _ _ (fun p => ?_) _ _ _, fun k => ?_, ?_, sz⟩
 ·rintro ⟨k, h1, h2⟩
  rw [dirD_has, h1] at h2
  cases h2
 ·show none = _
  split
  ·rfl
  ·rename_i h
   rw [dirD_has] at h
   cases hg : get l k with
   | none => rfl
   | some p => rw [hg] at h; exact (h rfl).elim
 ·rw [leftS_start, sumL_F1]
  simp
theorem CpI.next {w wr w1 w4 w5 : World} {r bc mc : Nat} {cs : Array Value} {am : Option Nat} {al : Ar} {l : Dr} {F : Nat → Fl} {left : Lit → Bool} {lp : Dr} {σ : Nat → Nat} {VB VL : Nat → Value} {x : List UInt8} {p p' : Nat} {vb vl : Value}
    (h : CpI w r bc mc cs am al l F wr left lp σ VB VL) (hk : l.Pairwise fun p q => p.1 ≠ q.1) (hi : ∀ e ∈ l, ∀ e' ∈ l, e.2 = e'.2 → e.1 = e'.1) (hr : w.heap.size ≤ r) (hmc : w.heap.size ≤ mc ∧ mc < r) (hbc : bc < r ∧ bc ≠ mc) (ham : ∀ m, am = some m → m < r ∧ m ≠ mc)
    (hx : left (.string x) = true) (hp : get l x = some p) (h1 : But (fun k => k = r) wr w1) (hn : FNew w1.heap.size w4 p' (F p) vb vl) (h4 : Below w1.heap.size w1 w4) (h5 : But (fun k => k = mc) w4 w5) (m5 : Mp w5 mc (dput lp x p')) :
    CpI w r bc mc cs am al l F w5 (fun z => left z && !z.sameKey (.string x)) (dput lp x p') (upd σ p p') (upd VB p vb) (upd VL p vl) := by
 have b14 : But (fun k => k = r) wr w4 := h1.trans (But.of_below h4 _)
 have b15 : But (fun k => k = r ∨ k = mc) wr w5 := (b14.mono fun k _ e => .inl e).trans (h5.mono fun k _ e => .inr e)
 have same : ∀ k : List UInt8, (Lit.string k).sameKey (.string x) = decide (k = x) := fun k => by
  by_cases e : k = x
  ·subst e; simp [Lit.sameKey]
  ·simp [Lit.sameKey, e]
 have lft : ∀ k, k ≠ x → (left (.string k) && !(Lit.string k).sameKey (.string x)) = left (.string k) := fun k e => by
  rw [same, decide_eq_false e]; simp
 have lfx : (left (.string x) && !(Lit.string x).sameKey (.string x)) = false := by
  rw [same]; simp
 have inj : ∀ k q, get l k = some q → q = p → k = x := fun k q hg e => hi _ (get_mem hg) _ (get_mem hp) e
 refine ⟨?_, ?_, ?_, m5, ?_, ?_, ?_, ?_, ?_⟩
 ·intro k hk'
  by_cases e : k = x
  ·subst e; rw [hp]; rfl
  ·rw [lft k e] at hk'; exact h.lk k hk'
 ·exact ⟨b15.os.trans h.low.os, b15.tape.trans h.low.tape, b15.output.trans h.low.output, Nat.le_trans h.low.size b15.size, fun k hk => (b15.block k (Nat.lt_of_lt_of_le hk h.low.size) (by omega)).trans (h.low.block k hk)⟩
 ·exact b15.at h.box (by omega)
 ·exact h.am.but b15 (fun m e => by have := ham m e; omega)
 ·have c1 := h.cq.but h1 (fun q hq k hk => by have := h.cq.lo q hq k hk; omega)
  refine (c1.more (by have := h1.size; have := h.sz; omega) (fun c => ?_) (fun q hq => ?_) hn h4).but h5 (fun q hq k hk c => ?_)
  ·obtain ⟨k, g1, g2⟩ := c
   rw [inj k p g1 rfl, hx] at g2
   cases g2
  ·obtain ⟨k, g1, g2⟩ := hq
   by_cases e : k = x
   ·subst e; rw [hp] at g1; cases g1; exact .inl rfl
   ·rw [lft k e] at g2; exact .inr ⟨k, g1, g2⟩
  ·have := (c1.more (D' := fun q => q = p ∨ ∃ k, get l k = some q ∧ left (.string k) = false) (by have := h1.size; have := h.sz; omega) (fun c => by
     obtain ⟨k, g1, g2⟩ := c
     rw [inj k p g1 rfl, hx] at g2
     cases g2) (fun q hq => hq) hn h4).lo q (by
      obtain ⟨k, g1, g2⟩ := hq
      by_cases e : k = x
      ·subst e; rw [hp] at g1; cases g1; exact .inl rfl
      ·rw [lft k e] at g2; exact .inr ⟨k, g1, g2⟩) k hk
   omega
 ·intro k
  rw [get_dput]
  by_cases e : k = x
  ·subst e
   rw [if_pos rfl, if_neg (by rw [lfx]; simp), hp, Option.map_some, upd_same]
  ·rw [if_neg (Ne.symm e), lft k e, h.gt k]
   split
   ·rfl
   ·cases hg : get l k with
    | none => rfl
    | some q => rw [Option.map_some, Option.map_some, upd_ne _ _ (fun c => e (inj k q hg c))]
 ·have := leftS_step F1 hk hp hx
  have e1 : (F1 p).by_.length = 1 := rfl
  have := dput_le lp x p'
  have := h.len
  omega
 ·have := b15.size; have := h.sz; omega
theorem CpI.done {w wr : World} {r bc mc : Nat} {cs : Array Value} {am : Option Nat} {al : Ar} {l : Dr} {F : Nat → Fl} {left : Lit → Bool} {lp : Dr} {σ : Nat → Nat} {VB VL : Nat → Value} (h : CpI w r bc mc cs am al l F wr left lp σ VB VL) (hl : ∀ kl, left kl = false) (hr : Rise l) :
    lp = mvD σ l := rise_ext h.mp.rise (hr.mv σ) (fun k => by rw [h.gt k, hl, if_neg (by simp), get_mv])
theorem ranges_but {X : Nat → Prop} {w w' : World} {b r n cnt : Nat} {D : DataW Unit} {left : Lit → Bool} (h : w.ranges Tryz.prog TS ptrR b r n D left cnt) (hb : But X w w') (h1 : ¬ X b) (h2 : ¬ X r) : w'.ranges Tryz.prog TS ptrR b r n D left cnt := by
 have lt := h.lt
 obtain ⟨es, clock, since, seen, c0, q1, q2, q3, q4, q5, q6⟩ := h
 exact ⟨es, clock, since, seen, c0, hb.at q1 h1, q2, q3, q4, (hb.block r lt h2).trans q5, q6⟩
theorem dispC_any (c : Ch) : (∀ q, (method 325 c.ty c.val "flume/disk.copy").run Tryz.prog q = .ok (c.cf, c.val) q) ∧ (∀ a q, (callFunc c.cf a).run Tryz.prog q = .ok (.enter c.cf a) q) := by
 cases c with
 | cr n p => exact ⟨fun q => by kernel_rfl, fun a q => by kernel_rfl⟩
 | rn f t => exact ⟨fun q => by kernel_rfl, fun a q => by kernel_rfl⟩
 | rm n => exact ⟨fun q => by kernel_rfl, fun a q => by kernel_rfl⟩
theorem mvD_congr {σ τ : Nat → Nat} {l : Dr} (h : ∀ p ∈ l.map (·.2), τ p = σ p) : mvD τ l = mvD σ l := by
 unfold mvD
 refine List.map_congr_left fun e he => ?_
 rw [h _ (List.mem_map.2 ⟨e, he, rfl⟩)]
theorem mvP_congr {σ τ : Nat → Nat} {P : List Ch} (h : ∀ p ∈ ptrs P, τ p = σ p) : P.map (Ch.mv τ) = P.map (Ch.mv σ) := by
 refine List.map_congr_left fun c hc => ?_
 cases c with
 | cr n p => simp only [Ch.mv]; rw [h p (List.mem_filterMap.2 ⟨_, hc, rfl⟩)]
 | rn f t => rfl
 | rm n => rfl
structure CpJ (w : World) (r bc mc : Nat) (S : DS) (am : Option Nat) (wr : World) (k : Nat) (pv : Value) (σ : Nat → Nat) (VB VL : Nat → Value) : Prop where
 low : Below w.heap.size w wr
 box : wr.heap[bc]? = some (.cells (ccells S mc pv am) TD (0, 0))
 mp : Mp wr mc (mvD σ S.l2)
 am : AmN w.heap.size wr am S.al
 cq : Cq (r + 1) wr S.F (fun p => p ∈ S.l2.map (·.2) ++ ptrs (S.P.take k)) σ VB VL
 pd : wr.ownsRow (r + 1) 148 1 pv k (((S.P.take k).map (Ch.mv σ)).map Ch.iface)
 sz : r < wr.heap.size
theorem CpI.two {w wr : World} {r bc mc : Nat} {S : DS} {am : Option Nat} {left : Lit → Bool} {lp : Dr} {σ : Nat → Nat} {VB VL : Nat → Value} (h : CpI w r bc mc (ccells S mc (.slice none 0 0) am) am S.al S.l2 S.F wr left lp σ VB VL) (hl : ∀ kl, left kl = false) (hr : Rise S.l2) :
    CpJ w r bc mc S am wr 0 (.slice none 0 0) σ VB VL := by
 have e := h.done hl hr
 refine ⟨h.low, h.box, by rw [← e]; exact h.mp, h.am, ?_, World.ownsRow_nil _ _ _ _, h.sz⟩
 have hD : ∀ p, p ∈ S.l2.map (·.2) ++ ptrs (S.P.take 0) → ∃ k, get S.l2 k = some p ∧ left (.string k) = false := fun p hp => by
  simp [ptrs] at hp
  obtain ⟨k, hk⟩ := hp
  exact ⟨k, get_of_mem (rise_keys hr) hk, hl _⟩
 exact ⟨fun p hp => h.cq.at_ p (hD p hp), fun p hp => h.cq.lo p (hD p hp), fun p hp q hq => h.cq.ap p (hD p hp) q (hD q hq)⟩
theorem FlAt.noCh {w : World} {p : Nat} {f : Fl} {vb vl v : Value} {B n : Nat} {xs : List Value} (h : FlAt w p f vb vl) (hr : w.ownsRow B 148 1 v n xs) : ∀ k, FOwn p vb vl k → v.ownBlock ≠ some k := by
 intro k hk c
 rcases hr.2 with ⟨rfl, _⟩ | ⟨g, cap, cur, rfl, hg, hh, _⟩
 ·cases c
 ·simp [Value.ownBlock] at c
  subst c
  rcases hk with e | e | e
  ·rw [e, h.box] at hh
   simp at hh
   exact absurd hh.2 (by decide)
  ·exact h.b.no hh (by decide) e
  ·exact h.l.no hh (by decide) e
theorem uq_at {S : DS} (h : S.uq) {k p : Nat} {n : ByteArray} (hk : S.P[k]? = some (.cr n p)) : p ∉ S.l2.map (·.2) ++ ptrs (S.P.take k) := by
 have hlt : k < S.P.length := (List.getElem?_eq_some_iff.1 hk).1
 have e1 : S.P[k] = .cr n p := (List.getElem?_eq_some_iff.1 hk).2
 have e2 : S.P = S.P.take k ++ (S.P[k] :: S.P.drop (k + 1)) := by rw [← List.drop_eq_getElem_cons hlt, List.take_append_drop]
 have e3 : ptrs S.P = ptrs (S.P.take k) ++ p :: ptrs (S.P.drop (k + 1)) := by
  conv => lhs; rw [e2]
  unfold ptrs
  rw [List.filterMap_append, List.filterMap_cons, e1]
  rfl
 intro c
 rcases List.mem_append.1 c with q | q
 ·obtain ⟨e, he, rfl⟩ := List.mem_map.1 q
  exact h.ap e he (by rw [e3]; simp)
 ·have := h.nd
  rw [e3] at this
  exact (List.nodup_append.1 this).2.2 p q p (by simp) rfl
theorem CpJ.next {w wr q w4 w5 w6 : World} {r bc mc k : Nat} {S : DS} {am : Option Nat} {pv pv' : Value} {σ : Nat → Nat} {VB VL : Nat → Value} {c c' : Ch} {o : Obj}
    (h : CpJ w r bc mc S am wr k pv σ VB VL) (hu : S.uq) (hc : S.P[k]? = some c) (hmc : w.heap.size ≤ mc ∧ mc < r) (hbc : bc < r ∧ w.heap.size ≤ bc ∧ bc ≠ mc) (ham : ∀ m, am = some m → m < r ∧ m ≠ bc)
    (hq : Below wr.heap.size wr q) (hl : Ch.like q.heap.size w4 S.F c c') (h4 : Below q.heap.size q w4) (h5 : (w4.alloc o).grownBy w5 pv.ownBlock) (hpd : w5.ownsRow (r + 1) 148 1 pv' (k + 1) (((S.P.take k).map (Ch.mv σ)).map Ch.iface ++ [c'.iface]))
    (h6 : w6 = w5.setCell ⟨bc, 4, none⟩ pv') :
    ∃ σ' VB' VL', CpJ w r bc mc S am w6 (k + 1) pv' σ' VB' VL' := by
 have hq4 : Below wr.heap.size wr w4 := hq.trans (h4.mono hq.size)
 have b45 : But (fun j => pv.ownBlock = some j) w4 w5 := (But.of_below (box_below w4 o) _).trans (But.of_grownBy h5 fun j e => e)
 have b56 : But (fun j => j = bc) w5 w6 := by rw [h6]; exact But.of_grownBy (grown_setCell _ _ _ _) fun j e => by cases e; rfl
 have plo : ∀ j, pv.ownBlock = some j → r + 1 ≤ j := fun j hj => (World.ownsRow.lt h.pd j hj).1
 have b46 : But (fun j => pv.ownBlock = some j ∨ j = bc) w4 w6 := (b45.mono fun j _ e => .inl e).trans (b56.mono fun j _ e => .inr e)
 have pd4 : w4.ownsRow (r + 1) 148 1 pv k (((S.P.take k).map (Ch.mv σ)).map Ch.iface) := row_but h.pd (But.of_below hq4 fun _ => False) (fun _ _ c => c)
 have hlt : k < S.P.length := (List.getElem?_eq_some_iff.1 hc).1
 have htk : S.P.take (k + 1) = S.P.take k ++ [c] := by rw [List.take_succ_eq_append_getElem hlt, (List.getElem?_eq_some_iff.1 hc).2]
 have hpt : ptrs (S.P.take (k + 1)) = ptrs (S.P.take k) ++ c.ptr.toList := by
  rw [htk]; unfold ptrs; rw [List.filterMap_append]; cases hp : c.ptr <;> simp [hp]
 have boxw : w6.heap[bc]? = some (.cells (ccells S mc pv' am) TD (0, 0)) := by
  have q1 : w4.heap[bc]? = some (.cells (ccells S mc pv am) TD (0, 0)) := (hq4.block bc (heap_lt h.box)).trans h.box
  have q2 := b45.at q1 (fun e => by have := plo bc e; omega)
  rw [h6, heap_setCell_same _ _ _ _ _ _ q2]
  rfl
 have loww : Below w.heap.size w w6 := by
  have q1 : Below w.heap.size w w4 := h.low.trans (hq4.mono h.low.size)
  exact ⟨b46.os.trans q1.os, b46.tape.trans q1.tape, b46.output.trans q1.output, Nat.le_trans q1.size b46.size, fun j hj => (b46.block j (Nat.lt_of_lt_of_le hj q1.size) (by
   rintro (e | e)
   ·have := plo j e; omega
   ·omega)).trans (q1.block j hj)⟩
 have mpw : Mp w6 mc (mvD σ S.l2) := (h.mp.heap (hq4.block mc h.mp.lt)).but b46 (by
  rintro (e | e)
  ·have := plo mc e; omega
  ·omega)
 have amw : AmN w.heap.size w6 am S.al := (h.am.below hq4).but b46 (fun m e => by
  have := ham m e
  rintro (c | c)
  ·have := plo m c; omega
  ·omega)
 have pdw : ∀ τ : Nat → Nat, (S.P.take k).map (Ch.mv τ) = (S.P.take k).map (Ch.mv σ) → c' = c.mv τ → w6.ownsRow (r + 1) 148 1 pv' (k + 1) (((S.P.take (k + 1)).map (Ch.mv τ)).map Ch.iface) := fun τ e1 e2 => by
  rw [htk, List.map_append, List.map_append, e1]
  simp only [List.map_cons, List.map_nil]
  rw [← e2]
  refine row_but hpd b56 (fun j hj e => ?_)
  have := (World.ownsRow.lt hpd j hj).1
  omega
 have szw : r < w6.heap.size := by have := b46.size; have := hq4.size; have := h.sz; omega
 have cqw : ∀ {D : Nat → Prop} {τ : Nat → Nat} {VB' VL' : Nat → Value}, Cq (r + 1) w4 S.F D τ VB' VL' → Cq (r + 1) w6 S.F D τ VB' VL' := fun hcq => hcq.but b46 (fun p hp j hj => by
  rintro (e | e)
  ·exact (hcq.at_ p hp).noCh pd4 j hj e
  ·have := hcq.lo p hp j hj; omega)
 have keep : c.ptr = none → c' = c → ∃ σ' VB' VL', CpJ w r bc mc S am w6 (k + 1) pv' σ' VB' VL' := fun hn e => by
  have hm : c.mv σ = c := by cases c with
   | cr n p => cases hn
   | rn f t => rfl
   | rm n => rfl
  refine ⟨σ, VB, VL, loww, boxw, mpw, amw, ?_, pdw σ rfl (by rw [hm, e]), szw⟩
  rw [hpt, hn]
  simp only [Option.toList_none, List.append_nil]
  exact cqw (h.cq.below hq4)
 cases c with
 | rn f t => exact keep rfl hl
 | rm n => exact keep rfl hl
 | cr n p =>
  obtain ⟨p', vb', vl', rfl, hf⟩ := hl
  have hp := uq_at hu hc
  have hne : ∀ x ∈ S.l2.map (·.2) ++ ptrs (S.P.take k), upd σ p p' x = σ x := fun x hx => upd_ne _ _ (fun e => hp (by rw [← e]; exact hx))
  have e1 : mvD (upd σ p p') S.l2 = mvD σ S.l2 := mvD_congr fun x hx => hne x (List.mem_append_left _ hx)
  have e2 : (S.P.take k).map (Ch.mv (upd σ p p')) = (S.P.take k).map (Ch.mv σ) := mvP_congr fun x hx => hne x (List.mem_append_right _ hx)
  refine ⟨upd σ p p', upd VB p vb', upd VL p vl', loww, boxw, by rw [e1]; exact mpw, amw, ?_, pdw _ e2 (by simp only [Ch.mv]; rw [upd_same]), szw⟩
  refine cqw ((h.cq.below hq).more (by have := hq.size; have := h.sz; omega) hp (fun x hx => ?_) hf h4)
  rw [hpt] at hx
  simp [Ch.ptr] at hx
  rcases hx with q | q | q
  ·exact .inr (by simp; exact .inl q)
  ·exact .inr (by simp; exact .inr q)
  ·exact .inl q
theorem can_mv (σ : Nat → Nat) {l : Dr} {c : Ch} (h : c.can l) : (c.mv σ).can (mvD σ l) := by
 cases c with
 | cr n p => trivial
 | rm n => trivial
 | rn f t => show (get (mvD σ l) f.data.toList).isSome = true; rw [get_mv, Option.isSome_map]; exact h
theorem cans_mv (σ : Nat → Nat) : ∀ {P : List Ch} {l : Dr}, Cans l P → Cans (mvD σ l) (P.map (Ch.mv σ)) := by
 intro P
 induction P with
 | nil => intro l h; exact h
 | cons c r ih =>
  intro l h
  refine ⟨can_mv σ h.1, ?_⟩
  rw [run_mv]
  exact ih h.2
theorem ok_mv (σ : Nat → Nat) {c : Ch} (h : c.ok) : (c.mv σ).ok := by cases c <;> exact h
def bk (ps : List Nat) (σ : Nat → Nat) (x : Nat) : Nat := (ps.find? fun p => σ p == x).getD x
theorem bk_mv {ps : List Nat} {σ : Nat → Nat} (hi : ∀ p ∈ ps, ∀ q ∈ ps, σ p = σ q → p = q) {p : Nat} (hp : p ∈ ps) : bk ps σ (σ p) = p := by
 unfold bk
 cases hf : ps.find? fun q => σ q == σ p with
 | none => have := List.find?_eq_none.1 hf p hp; simp at this
 | some q =>
  have h1 := List.mem_of_find?_eq_some hf
  have h2 := List.find?_some hf
  exact hi q h1 p hp (by simpa using h2)
def DS.moved (S : DS) (σ : Nat → Nat) : DS := { S with l2 := mvD σ S.l2, P := S.P.map (Ch.mv σ), F := fun x => S.F (bk S.ps σ x) }
theorem moved_alike {S : DS} {σ : Nat → Nat} (hi : ∀ p ∈ S.ps, ∀ q ∈ S.ps, σ p = σ q → p = q) : Alike σ S (S.moved σ) :=
 ⟨rfl, rfl, rfl, rfl, rfl, rfl, rfl, rfl, rfl, rfl, rfl, rfl, rfl, rfl, fun p hp => by show S.F (bk S.ps σ (σ p)) = _; rw [bk_mv hi hp], hi⟩
theorem moved_ok {S : DS} {σ : Nat → Nat} (hi : ∀ p ∈ S.ps, ∀ q ∈ S.ps, σ p = σ q → p = q) (h : S.ok) : (S.moved σ).ok := by
 have ha := moved_alike hi
 refine ⟨h.most, fun x hx => ?_, ?_, h.calm, h.by8⟩
 ·rw [ha.ps] at hx
  obtain ⟨p, hp, rfl⟩ := List.mem_map.1 hx
  rw [ha.F p hp]
  exact h.sz p hp
 ·show ((((mvD σ S.l2).length + (S.P.map (Ch.mv σ)).length : Nat)) : Int) ≤ S.c7
  unfold mvD
  rw [List.length_map, List.length_map]
  exact h.cnt
theorem CpJ.disk {w wr w7 w8 : World} {r b bc mc : Nat} {S : DS} {O : Nat → Prop} {f g : Nat} {pd : Value} {am : Option Nat} {VB0 VL0 : Nat → Value} {am' : Option Nat} {pv : Value} {σ : Nat → Nat} {VB VL : Nat → Value}
    (H : Dsk w b S O f g pd am VB0 VL0) (h : CpJ w r bc mc S am' wr S.P.length pv σ VB VL) (hr : w.heap.size ≤ r) (hmc : w.heap.size ≤ mc ∧ mc < r) (hbc : bc < r ∧ w.heap.size ≤ bc ∧ bc ≠ mc) (ham : ∀ m, am' = some m → m < r ∧ m ≠ mc ∧ m ≠ bc)
    (h7 : Below wr.heap.size wr w7) (m7 : Mp w7 wr.heap.size (mvD σ S.dir)) (h8 : w8 = w7.setCell ⟨bc, 2, none⟩ (.map (some wr.heap.size))) :
    ∃ S' O', Alike σ S S' ∧ DskE w8 bc S' O' ∧ (∀ k, O' k → w.heap.size ≤ k) ∧ Below w.heap.size w w8 := by
 have hcq := h.cq
 rw [List.take_length] at hcq
 have hpd := h.pd
 rw [List.take_length] at hpd
 have hps : ∀ p, p ∈ S.ps ↔ p ∈ S.l2.map (·.2) ++ ptrs S.P := fun p => Iff.rfl
 have hi : ∀ p ∈ S.ps, ∀ q ∈ S.ps, σ p = σ q → p = q := fun p hp q hq e => Classical.byContradiction fun c => hcq.ap p hp q hq c (σ p) (.inl rfl) (.inl e)
 have ha := moved_alike hi
 have b78 : But (fun k => k = bc) w7 w8 := by rw [h8]; exact But.of_grownBy (grown_setCell _ _ _ _) fun j e => by cases e; rfl
 have b8 : But (fun k => k = bc) wr w8 := (But.of_below h7 _).trans b78
 have low8 : Below w.heap.size w w8 := Mp.turned h.low b8 hbc.2.1
 have box8 : w8.heap[bc]? = some (.cells (dcells ((S.moved σ).dc wr.heap.size mc pv am')) TD (0, 0)) := by
  have q1 : w7.heap[bc]? = some (.cells (ccells S mc pv am') TD (0, 0)) := (h7.block bc (heap_lt h.box)).trans h.box
  rw [h8, heap_setCell_same _ _ _ _ _ _ q1]
  rfl
 have hsz := h.sz
 have hmlt := h.mp.lt
 have plo : ∀ j, pv.ownBlock = some j → r + 1 ≤ j ∧ j < wr.heap.size := fun j hj => World.ownsRow.lt hpd j hj
 have pd8 : w8.ownsRow (r + 1) 148 1 pv S.P.length ((S.P.map (Ch.mv σ)).map Ch.iface) := row_but hpd b8 (fun j hj e => by have := plo j hj; omega)
 have cq8 : Cq (r + 1) w8 S.F (fun p => p ∈ S.l2.map (·.2) ++ ptrs S.P) σ VB VL := hcq.but b8 (fun p hp k hk e => by have := hcq.lo p hp k hk; omega)
 have am8 := h.am.but b8 (fun m e c => (ham m e).2.2 c)
 have hdc : Dk w8 bc ((S.moved σ).dc wr.heap.size mc pv am') wr.heap.size mc (S.moved σ).dir (S.moved σ).l2 (S.moved σ).P (S.moved σ).al := by
  refine ⟨box8, rfl, rfl, ?_, ?_, by omega, ?_, ?_, ?_, rfl, cans_mv σ H.dk.can, ?_, H.dk.c0, H.dk.c1⟩
  ·rw [ha.dir]; exact m7.but b78 (by have := h.box; have := heap_lt h.box; omega)
  ·exact h.mp.but b8 (fun e => hbc.2.2 e.symm)
  ·show w8.ownsRow 0 148 1 pv (S.P.map (Ch.mv σ)).length _
   rw [List.length_map]
   exact ownsRow_base_a pd8 (Nat.zero_le _)
  ·intro m e
   have q := ham m e
   rcases am8 with ⟨q1, _⟩ | ⟨m', q1, _, q3⟩
   ·have : am' = some m := e
    rw [q1] at this; cases this
   ·have e' : am' = some m := e
    rw [q1] at e'
    cases e'
    exact ⟨q3, by omega, q.2.1⟩
  ·intro e
   rcases am8 with ⟨_, q2⟩ | ⟨m', q1, _⟩
   ·exact q2
   ·have e' : am' = none := e
    rw [q1] at e'; cases e'
  ·intro c hc
   obtain ⟨c0, h0, rfl⟩ := List.mem_map.1 hc
   exact ok_mv σ (H.dk.ok c0 h0)
 have hO : ∀ k, Own bc ((S.moved σ).dc wr.heap.size mc pv am') k → k = bc ∨ k = wr.heap.size ∨ k = mc ∨ pv.ownBlock = some k ∨ am' = some k := fun k hk => by
  rcases hk with e | e | e | e | e
  ·exact .inl e
  ·exact .inr (.inl (by cases e; rfl))
  ·exact .inr (.inr (.inl (by cases e; rfl)))
  ·exact .inr (.inr (.inr (.inl e)))
  ·exact .inr (.inr (.inr (.inr e)))
 have hF : ∀ x ∈ (S.moved σ).ps, ∃ p, p ∈ S.l2.map (·.2) ++ ptrs S.P ∧ x = σ p ∧ bk S.ps σ x = p := fun x hx => by
  rw [ha.ps] at hx
  obtain ⟨p, hp, rfl⟩ := List.mem_map.1 hx
  exact ⟨p, hp, rfl, bk_mv hi hp⟩
 refine ⟨S.moved σ, fun k => Own bc ((S.moved σ).dc wr.heap.size mc pv am') k ∨ ∃ x ∈ (S.moved σ).ps, FOwn x (VB (bk S.ps σ x)) (VL (bk S.ps σ x)) k, ha,
  ⟨wr.heap.size, mc, pv, am', fun x => VB (bk S.ps σ x), fun x => VL (bk S.ps σ x), hdc, ⟨?_, ?_, ?_⟩, fun k hk => .inl hk, fun x hx k hk => .inr ⟨x, hx, hk⟩, ?_, moved_ok hi H.ok⟩, ?_, low8⟩
 ·intro x hx
  obtain ⟨p, hp, rfl, e⟩ := hF x hx
  show FlAt w8 (σ p) (S.F (bk S.ps σ (σ p))) (VB (bk S.ps σ (σ p))) (VL (bk S.ps σ (σ p)))
  rw [e]
  exact cq8.at_ p hp
 ·intro x hx y hy hxy k hk
  obtain ⟨p, hp, rfl, e⟩ := hF x hx
  obtain ⟨q, hq, rfl, e'⟩ := hF y hy
  simp only [e] at hk
  simp only [e']
  exact cq8.ap p hp q hq (fun c => hxy (by rw [c])) k hk
 ·intro x hx k hk c
  obtain ⟨p, hp, rfl, e⟩ := hF x hx
  simp only [e] at hk
  have q1 := cq8.lo p hp k hk
  have q2 := (hcq.at_ p hp).lt k hk
  rcases hO k c with e | e | e | e | e
  ·omega
  ·omega
  ·omega
  ·exact (cq8.at_ p hp).noCh pd8 k hk e
  ·have := ham k e; omega
 ·intro k hk
  have z := b8.size
  have z7 := Nat.lt_of_lt_of_le m7.lt b78.size
  have zb := heap_lt h.box
  rcases hk with c | ⟨x, hx, hk⟩
  ·rcases hO k c with e | e | e | e | e
   ·omega
   ·omega
   ·omega
   ·have := plo k e; omega
   ·have := ham k e; omega
  ·obtain ⟨p, hp, rfl, e⟩ := hF x hx
   simp only [e] at hk
   exact cq8.lt hp k hk
 ·intro k hk
  have hlo := h.low.size
  rcases hk with c | ⟨x, hx, hk⟩
  ·rcases hO k c with e | e | e | e | e
   ·omega
   ·omega
   ·omega
   ·have := plo k e; omega
   ·exact (h.am.lt e).1
  ·obtain ⟨p, hp, rfl, e⟩ := hF x hx
   simp only [e] at hk
   have := cq8.lo p hp k hk
   omega
open Ix (wp_region_T wpAnyT wpAnyT_take wpAnyT_one wpAnyT_done vac)
theorem copyD_any {w : World} {b : Nat} {S : DS} {O : Nat → Prop} {f g : Nat} {pd : Value} {am : Option Nat} {VB VL : Nat → Value} (h : Dsk w b S O f g pd am VB VL) (hu : S.uq) (hc : S.c7 < 900000000) :
    Calls Tryz.prog 41 #[.pointer (some ⟨b, 0, none⟩)] w fun e w' => ∃ b' σ S' O', e = .returned (.pointer (some ⟨b', 0, none⟩)) ∧ Alike σ S S' ∧ DskE w' b' S' O' ∧ (∀ k, O' k → w.heap.size ≤ k) ∧ Below w.heap.size w w' := by
 have hM := made_any w _ _ h.dk.dp
 rw [show madeD (some (S.dc f g pd am)) = true from rfl] at hM
 have H := hide h
 have hu := hide hu
 have KC : Hid (∀ q : World, Below w.heap.size w q → q.cell? ⟨b, 0, none⟩ = some (.int .i64 S.most) ∧ q.cell? ⟨b, 1, none⟩ = some (.bool S.up) ∧ q.cell? ⟨b, 5, none⟩ = some (.map am) ∧ q.cell? ⟨b, 6, none⟩ = some (.int .i64 S.c0) ∧ q.cell? ⟨b, 7, none⟩ = some (.int .i64 S.c1) ∧ q.cell? ⟨b, 8, none⟩ = some (.int .i64 S.c2) ∧ q.cell? ⟨b, 9, none⟩ = some (.int .i64 S.c3) ∧ q.cell? ⟨b, 10, none⟩ = some (.int .i64 S.c4) ∧ q.cell? ⟨b, 11, none⟩ = some (.int .i64 S.c5) ∧ q.cell? ⟨b, 12, none⟩ = some (.int .i64 S.c6) ∧ q.cell? ⟨b, 13, none⟩ = some (.int .i64 S.c7) ∧ q.cell? ⟨b, 14, none⟩ = some (.int .i64 S.c8)) := fun q hq => by
  have e : q.heap[b]? = some (.cells (dcells (S.dc f g pd am)) TD (0, 0)) := (H.out.below hq).dk.box
  simp [World.cell?, e, dcells, DS.dc]
 have hAm : Hid (∀ q, Below w.heap.size w q → Calls Tryz.prog 93 #[.map am] q fun e w' => ∃ am', e = .returned (.map am') ∧ AmN q.heap.size w' am' S.al ∧ Below q.heap.size q w') := fun q hq => cloneA_any q am S.al (fun m e => ((H.out.below hq).dk.am m e).1) (fun e => H.out.dk.an e)
 clear h
 have hmm := @run_makeMap Tryz.prog
 go_enter Tryz.func41, Tryz.ntmps41
 go_upto_region 3 with (go_at_call 79; refine hM.mono ?_; rintro e w1 ⟨rfl, e1⟩; subst w1)
 clear hM
 have KP : Hid (Below w.heap.size w w.drew) := (Below.refl _ _).drew
 refine wp_region_T (fun q => Below w.heap.size w q) 20 (by kernel_rfl) ?_
 generalize w.drew = q at *
 refine Ix.tk 0 ⟨some 11, .move (.tmp 0), _, _, _, _⟩ (.pointer (some ⟨b, 0, none⟩)) [1,2,3,18,19,20] ?_ KP.out ?_
 ·intro wq hSw
  obtain ⟨y0, y1, y5, z0, z1, z2, z3, z4, z5, z6, z7, z8⟩ := KC.out wq hSw
  go_simp
 (try simp only [zzp, zzb, zzc])
 refine Ix.tk 1 ⟨some 12, .nilCheck (.tmp 11), _, _, _, _⟩ (.pointer (some ⟨b, 0, none⟩)) [2,3,18,19,20] ?_ KP.out ?_
 ·intro wq hSw
  obtain ⟨y0, y1, y5, z0, z1, z2, z3, z4, z5, z6, z7, z8⟩ := KC.out wq hSw
  go_simp
 (try simp only [zzp, zzb, zzc])
 refine Ix.tk 2 ⟨some 13, .fieldAddr 98 (.tmp 12) 0, _, _, _, _⟩ (.pointer (some ⟨b, 0, none⟩)) [3,18,19,20] ?_ KP.out ?_
 ·intro wq hSw
  obtain ⟨y0, y1, y5, z0, z1, z2, z3, z4, z5, z6, z7, z8⟩ := KC.out wq hSw
  go_simp
 (try simp only [zzp, zzb, zzc])
 refine Ix.tk 3 ⟨some 14, .load 3 (.tmp 13), _, _, _, _⟩ (.int .i64 S.most) [18,19,20] ?_ KP.out ?_
 ·intro wq hSw
  obtain ⟨y0, y1, y5, z0, z1, z2, z3, z4, z5, z6, z7, z8⟩ := KC.out wq hSw
  go_simp
 (try simp only [zzp, zzb, zzc])
 refine Ix.tk 4 ⟨some 15, .move (.tmp 0), _, _, _, _⟩ (.pointer (some ⟨b, 0, none⟩)) [5,6,7,18,19,20] ?_ KP.out ?_
 ·intro wq hSw
  obtain ⟨y0, y1, y5, z0, z1, z2, z3, z4, z5, z6, z7, z8⟩ := KC.out wq hSw
  go_simp
 (try simp only [zzp, zzb, zzc])
 refine Ix.tk 5 ⟨some 16, .nilCheck (.tmp 15), _, _, _, _⟩ (.pointer (some ⟨b, 0, none⟩)) [6,7,18,19,20] ?_ KP.out ?_
 ·intro wq hSw
  obtain ⟨y0, y1, y5, z0, z1, z2, z3, z4, z5, z6, z7, z8⟩ := KC.out wq hSw
  go_simp
 (try simp only [zzp, zzb, zzc])
 refine Ix.tk 6 ⟨some 17, .fieldAddr 98 (.tmp 16) 1, _, _, _, _⟩ (.pointer (some ⟨b, 1, none⟩)) [7,18,19,20] ?_ KP.out ?_
 ·intro wq hSw
  obtain ⟨y0, y1, y5, z0, z1, z2, z3, z4, z5, z6, z7, z8⟩ := KC.out wq hSw
  go_simp
 (try simp only [zzp, zzb, zzc])
 refine Ix.tk 7 ⟨some 18, .load 4 (.tmp 17), _, _, _, _⟩ (.bool S.up) [18,19,20] ?_ KP.out ?_
 ·intro wq hSw
  obtain ⟨y0, y1, y5, z0, z1, z2, z3, z4, z5, z6, z7, z8⟩ := KC.out wq hSw
  go_simp
 (try simp only [zzp, zzb, zzc])
 refine Ix.tk 9 ⟨some 20, .move (.tmp 0), _, _, _, _⟩ (.pointer (some ⟨b, 0, none⟩)) [10,11,12,13,18,19,20] ?_ KP.out ?_
 ·intro wq hSw
  obtain ⟨y0, y1, y5, z0, z1, z2, z3, z4, z5, z6, z7, z8⟩ := KC.out wq hSw
  go_simp
 (try simp only [zzp, zzb, zzc])
 refine Ix.tk 10 ⟨some 21, .nilCheck (.tmp 20), _, _, _, _⟩ (.pointer (some ⟨b, 0, none⟩)) [11,12,13,18,19,20] ?_ KP.out ?_
 ·intro wq hSw
  obtain ⟨y0, y1, y5, z0, z1, z2, z3, z4, z5, z6, z7, z8⟩ := KC.out wq hSw
  go_simp
 (try simp only [zzp, zzb, zzc])
 refine Ix.tk 11 ⟨some 22, .fieldAddr 98 (.tmp 21) 5, _, _, _, _⟩ (.pointer (some ⟨b, 5, none⟩)) [12,13,18,19,20] ?_ KP.out ?_
 ·intro wq hSw
  obtain ⟨y0, y1, y5, z0, z1, z2, z3, z4, z5, z6, z7, z8⟩ := KC.out wq hSw
  go_simp
 (try simp only [zzp, zzb, zzc])
 refine Ix.tk 12 ⟨some 23, .load 94 (.tmp 22), _, _, _, _⟩ (.map am) [13,18,19,20] ?_ KP.out ?_
 ·intro wq hSw
  obtain ⟨y0, y1, y5, z0, z1, z2, z3, z4, z5, z6, z7, z8⟩ := KC.out wq hSw
  go_simp
 (try simp only [zzp, zzb, zzc])
 refine Ix.tk 14 ⟨some 25, .move (.tmp 0), _, _, _, _⟩ (.pointer (some ⟨b, 0, none⟩)) [15,16,17,18,19,20] ?_ KP.out ?_
 ·intro wq hSw
  obtain ⟨y0, y1, y5, z0, z1, z2, z3, z4, z5, z6, z7, z8⟩ := KC.out wq hSw
  go_simp
 (try simp only [zzp, zzb, zzc])
 refine Ix.tk 15 ⟨some 26, .nilCheck (.tmp 25), _, _, _, _⟩ (.pointer (some ⟨b, 0, none⟩)) [16,17,18,19,20] ?_ KP.out ?_
 ·intro wq hSw
  obtain ⟨y0, y1, y5, z0, z1, z2, z3, z4, z5, z6, z7, z8⟩ := KC.out wq hSw
  go_simp
 (try simp only [zzp, zzb, zzc])
 refine Ix.tk 16 ⟨some 27, .fieldAddr 98 (.tmp 26) 6, _, _, _, _⟩ (.pointer (some ⟨b, 6, none⟩)) [17,18,19,20] ?_ KP.out ?_
 ·intro wq hSw
  obtain ⟨y0, y1, y5, z0, z1, z2, z3, z4, z5, z6, z7, z8⟩ := KC.out wq hSw
  go_simp
 (try simp only [zzp, zzb, zzc])
 refine Ix.tk 17 ⟨some 28, .load 96 (.tmp 27), _, _, _, _⟩ (.agg #[.int .i64 S.c0, .int .i64 S.c1, .int .i64 S.c2, .int .i64 S.c3, .int .i64 S.c4, .int .i64 S.c5, .int .i64 S.c6, .int .i64 S.c7, .int .i64 S.c8]) [18,19,20] ?_ KP.out ?_
 ·intro wq hSw
  obtain ⟨y0, y1, y5, z0, z1, z2, z3, z4, z5, z6, z7, z8⟩ := KC.out wq hSw
  go_simp
 (try simp only [zzp, zzb, zzc])
 refine wpAnyT_pair (i := 8) (j := 13) (oi := ⟨some 19, .makeMap 92 none, _, _, _, _⟩) (oj := ⟨some 24, .call { callee := .value (.func 93), args := #[.tmp 23], argTypes := #[94] }, _, _, _, _⟩) (fun vi vj w2 => ∃ mc am', vi = .map (some mc) ∧ vj = .map am' ∧ w.heap.size ≤ mc ∧ Mp w2 mc [] ∧ AmN w.heap.size w2 am' S.al ∧ (∀ m, am' = some m → m ≠ mc) ∧ Below w.heap.size w w2) (by decide) (by kernel_rfl) rfl rfl (by kernel_rfl) (by kernel_rfl) (fun _ _ => rfl) ?_ ?_ ?_ ?_
 ·intro K hK
  go_simp
  have B1 : Hid (Below w.heap.size w (q.alloc (.map #[] 0))) := KP.out.alloc KP.out.size (.map #[] 0)
  refine hK.out (.map (some q.heap.size)) _ B1.out (fun K2 hK2 => ?_)
  clear hK K
  have M1 := hide (Mp.made q)
  go_simp
  go_at_call 93
  refine (hAm.out _ B1.out).mono ?_
  rintro e w2 ⟨am', rfl, A2, B2⟩
  (try go_simp)
  refine hK2.out (.map am') _ ⟨q.heap.size, am', rfl, rfl, KP.out.size, M1.out.heap (B2.block _ M1.out.lt), A2.low B1.out.size, fun m e => ?_, B1.out.trans (B2.mono B1.out.size)⟩
  have := (A2.lt e).1
  simp at this
  omega
 ·intro K hK
  go_simp
  go_at_call 93
  refine (hAm.out _ KP.out).mono ?_
  rintro e w1 ⟨am', rfl, A1, B1⟩
  replace B1 : Below w.heap.size w w1 := KP.out.trans (B1.mono KP.out.size)
  (try go_simp)
  refine hK.out (.map am') _ B1 (fun K2 hK2 => ?_)
  clear hK K
  go_simp
  refine hK2.out (.map (some w1.heap.size)) _ ⟨w1.heap.size, am', rfl, rfl, B1.size, Mp.made w1, ?_, fun m e => ?_, B1.alloc B1.size (.map #[] 0)⟩
  ·exact (A1.low KP.out.size).below (box_below w1 (.map #[] 0))
  ·have := (A1.lt e).2
   omega
 ·rintro vi vj w2 ⟨mc, am', _, _, _, _, _, _, hb⟩
  exact hb
 rintro vi vj w2 ⟨mc, am', rfl, rfl, hmc, M2, A2, hne, B2⟩
 replace M2 := hide M2
 replace A2 := hide A2
 replace hne := hide hne
 replace B2 := hide B2
 replace hmc := hide hmc
 (try simp only [zzp, zzb, zzc])
 refine wpAnyT_one (i := 18) (o := ⟨some 29, .build 98 #[(0, .tmp 14), (1, .tmp 18), (3, .tmp 19), (5, .tmp 24), (6, .tmp 28)], _, _, _, _⟩) (by kernel_rfl) rfl (fun K hK => ?_)
 go_simp
 refine hK.out _ _ (fun _ => B2.out) ?_
 clear hK K
 (try simp only [zzp, zzb, zzc])
 refine wpAnyT_one (i := 19) (o := ⟨some 30, .box 98 (.tmp 29), _, _, _, _⟩) (by kernel_rfl) rfl (fun K hK => ?_)
 go_simp
 have B3 : Hid (Below w.heap.size w (w2.alloc (.cells (ccells S mc (.slice none 0 0) am') 98))) := B2.out.trans ((box_below w2 _).mono B2.out.size)
 have N3 := hide (heap_alloc_new w2 (.cells (ccells S mc (.slice none 0 0) am') 98))
 have U3 := hide (box_below w2 (.cells (ccells S mc (.slice none 0 0) am') 98))
 unfold ccells at B3 N3 U3
 refine hK.out _ _ (fun _ => B3.out) ?_
 clear hK K
 (try simp only [zzp, zzb, zzc])
 refine wpAnyT_one (i := 20) (o := ⟨some 3, .assign (.tmp 30), _, _, _, _⟩) (by kernel_rfl) rfl (fun K hK => ?_)
 go_simp
 refine hK.out _ _ (vac (by kernel_rfl)) ?_
 clear hK K
 (try simp only [zzp, zzb, zzc])
 refine wpAnyT_done (by kernel_rfl) ?_ _
 have M3 := hide (M2.out.heap (U3.out.block mc M2.out.lt))
 have A3 := hide (A2.out.below U3.out)
 obtain ⟨bc, hbc⟩ : ∃ bc, Hid (w2.heap.size = bc) := ⟨_, rfl⟩
 have hlt : Hid (mc < bc ∧ w.heap.size ≤ mc ∧ w.heap.size ≤ bc ∧ (∀ m, am' = some m → m < bc ∧ m ≠ mc)) := ⟨by rw [← hbc.out]; exact M2.out.lt, hmc.out, by rw [← hbc.out]; exact B2.out.size, fun m e => ⟨by rw [← hbc.out]; exact (A2.out.lt e).2, hne.out m e⟩⟩
 rw [hbc.out] at N3 ⊢
 generalize (w2.alloc (.cells #[.int .i64 S.most, .bool S.up, .map none, .map (some mc), .slice none 0 0, .map am', .int .i64 S.c0, .int .i64 S.c1, .int .i64 S.c2, .int .i64 S.c3, .int .i64 S.c4, .int .i64 S.c5, .int .i64 S.c6, .int .i64 S.c7, .int .i64 S.c8] 98)) = w3 at *
 clear M2 A2 U3 hne B2 hmc hbc KC hAm hmm KP
 have D3 := hide (H.out.below B3.out)
 have c3 : w3.cell? ⟨b, 3, none⟩ = some (.map (some g)) := D3.out.dk.box.cells.2.2.2.1
 have hown : w3.ownsMap Tryz.prog TS ptrR g S.l2.length (dirD S.l2) := D3.out.dk.mg
 have hrise := hide H.out.dk.mg.rise
 have hd := hide (dir_len H.out.ok (by omega))
 have hgl : Hid (g < w.heap.size) := H.out.dk.mg.lt
 have b3 : Hid (bc < w3.heap.size) := heap_lt N3.out
 go_wp2_with (first
  | (at_range; refine wpList_range_own _ rfl _ TM rfl TS TF keyS undM ptrR g S.l2.length (dirD S.l2) rfl hown ?_; intro w0 hrg0 hg0 hs0)
  | go_in)
 go_frame
 have hb0 : Hid (But (fun _ => False) w3 w0) := But.of_grownBy hg0 (fun k e => by cases e)
 have Q0 : Hid (CpI w w3.heap.size bc mc (ccells S mc (.slice none 0 0) am') am' S.al S.l2 S.F w0 (Maps.has (dirD S.l2)) [] id VB VL) := CpI.start (B3.out.grown hg0 (B3.out.size) (fun j hj => by cases hj)) (hb0.out.at N3.out (fun c => c)) (M3.out.but hb0.out (fun c => c)) (A3.out.but hb0.out (fun _ _ c => c)) (by omega)
 clear hg0 c3 hown M3 A3
 replace hs0 := hide hs0
 go_loopw [] (fun wr => ∃ (left : Lit → Bool) (cnt : Nat) (lp : Dr) (σ : Nat → Nat) (VB' VL' : Nat → Value), wr.ranges Tryz.prog TS ptrR g w3.heap.size S.l2.length (dirD S.l2) left cnt ∧ Hid (CpI w w3.heap.size bc mc (ccells S mc (.slice none 0 0) am') am' S.al S.l2 S.F wr left lp σ VB' VL')) (fun wr => wr.rangeLeft g w3.heap.size)
 case atStart => exact ⟨_, _, [], id, VB, VL, hrg0, Q0.out⟩
 case round =>
  obtain ⟨left, cnt, lp, σ, VB', VL', hrgs, hQ⟩ := hrel
  go_wp2_with (first
   | (at_next; refine wpList_next_ranges _ rfl _ rfl TS keyS ptrR Value.string (fun c : Option Nat => .pointer (c.map fun b => ⟨b, 0, none⟩)) (fun key kl hk => keyOf_str_inv hk) (fun v y hv => ptrR_shape hv) g w3.heap.size S.l2.length _ _ _ rfl hrgs ?_ ?_)
   | go_in)
  ·intro hc0 hl0
   have J0 := hide (hQ.out.two hl0 hrise.out)
   clear hQ hrgs hl0 hc0
   have hpr := hide H.out.dk.pd.row
   obtain ⟨ao, ca, epd, p0, p1, p2, p3⟩ := hpr.out
   rw [List.length_map] at p1 epd
   have epd' : pd = .slice ao S.P.length ca := epd
   subst epd'
   clear epd hpr p0
   replace p3 := hide p3
   obtain ⟨N, hN⟩ : ∃ N, Hid (S.P.length = N) := ⟨_, rfl⟩
   have c4 : wr.cell? ⟨b, 4, none⟩ = some (.slice ao S.P.length ca) := (H.out.below J0.out.low).dk.box.cells.2.2.2.2.1
   rw [hN.out] at c4 p1
   have i4 : (ca : Int) ≤ 9223372036854775807 := by unfold maxLen at p2; omega
   have hN3 : Hid (N < 1000000000) := by have := hd.out.2.1; have := hN.out; show _ < _; omega
   clear p2
   obtain ⟨i0, hi, hz0, hz1, hz2⟩ : ∃ i, Tryz.prog.info? 148 = some i ∧ i.zero = some .nilIface ∧ i.size = 1 ∧ i.bytes = 16 := infoCh2
   replace hi := hide hi
   go_wp2_with fail
   go_loopw [53] (fun i wq => ∃ (k : Nat) (pv : Value) (σ' : Nat → Nat) (VB2 VL2 : Nat → Value), i = .int .i64 k ∧ k ≤ N ∧ Hid (CpJ w w3.heap.size bc mc S am' wq k pv σ' VB2 VL2)) (fun i _ => N - (intOf i).toNat)
   case atStart => exact ⟨0, _, _, _, _, rfl, Nat.zero_le _, J0.out⟩
   case round =>
    obtain ⟨k, pv, σ', VB2, VL2, rfl, hk, hJ⟩ := hrel
    by_cases hlt2 : k < N
    ·have i1 : (k : Int) < (N : Int) := by omega
     have hkl : k < S.P.length := by rw [hN.out]; exact hlt2
     obtain ⟨gb, off, rfl, hcl⟩ := p3.out k (by rw [List.length_map]; exact hkl)
     have hcell : wr.cell? ⟨gb, off + k, none⟩ = some (.iface (S.P[k]).ty (S.P[k]).val) := by
      rw [hJ.out.low.cell (p := ⟨gb, off + k, none⟩) (lt_of_cell hcl), hcl, List.getElem_map]; rfl
     obtain ⟨d1, d2⟩ := dispC_any S.P[k]
     have hC : Hid (∀ q, Below w.heap.size w q → Calls Tryz.prog (S.P[k]).cf #[(S.P[k]).val] q fun e w' => ∃ c', e = .returned (.iface c'.ty c'.val) ∧ Ch.like q.heap.size w' S.F S.P[k] c' ∧ Below q.heap.size q w') := fun q hq => cp_any q S.P[k] S.F VB VL (fun p hp => (H.out.below hq).fs.at_ p (List.mem_append_right _ (List.mem_filterMap.2 ⟨_, List.getElem_mem hkl, hp⟩)))
     have hck : Hid (S.P[k]? = some S.P[k]) := List.getElem?_eq_getElem hkl
     clear hcl
     generalize S.P[k] = c at *
     clear hkl
     generalize c.cf = cf at *
     generalize c.ty = T at *
     generalize c.val = u at *
     go_upto_region 11 with fail
     have KC : Hid (∀ q : World, q.heap[bc]? = some (.cells (ccells S mc pv am') TD (0, 0)) → q.cell? ⟨bc, 4, none⟩ = some pv) := fun q hq => by simp [World.cell?, hq, ccells]
     refine wp_region_T (fun q => q.heap[bc]? = some (.cells (ccells S mc pv am') TD (0, 0))) 11 (by kernel_rfl) ?_
     have hq2 : Hid (Below wr.heap.size wr wr.drew) := (Below.refl _ _).drew
     generalize wr.drew = q at *
     have KP : Hid (q.heap[bc]? = some (.cells (ccells S mc pv am') TD (0, 0))) := (hq2.out.block bc (heap_lt hJ.out.box)).trans hJ.out.box
     have low2 : Hid (Below w.heap.size w q) := hJ.out.low.trans (hq2.out.mono hJ.out.low.size)
     refine Ix.tk 0 ⟨some 57, .move (.tmp 3), _, _, _, _⟩ (.pointer (some ⟨bc, 0, none⟩)) [9,10,11] ?_ KP.out ?_
     ·intro wq hSw
      have y2 := KC.out wq hSw
      go_simp
     (try simp only [zzp, zzb, zzc])
     refine Ix.tk 1 ⟨some 58, .move (.tmp 3), _, _, _, _⟩ (.pointer (some ⟨bc, 0, none⟩)) [2,3,4,8,11] ?_ KP.out ?_
     ·intro wq hSw
      have y2 := KC.out wq hSw
      go_simp
     (try simp only [zzp, zzb, zzc])
     refine Ix.tk 2 ⟨some 59, .nilCheck (.tmp 58), _, _, _, _⟩ (.pointer (some ⟨bc, 0, none⟩)) [3,4,8,11] ?_ KP.out ?_
     ·intro wq hSw
      have y2 := KC.out wq hSw
      go_simp
     (try simp only [zzp, zzb, zzc])
     refine Ix.tk 3 ⟨some 60, .fieldAddr 98 (.tmp 59) 4, _, _, _, _⟩ (.pointer (some ⟨bc, 4, none⟩)) [4,8,11] ?_ KP.out ?_
     ·intro wq hSw
      have y2 := KC.out wq hSw
      go_simp
     (try simp only [zzp, zzb, zzc])
     refine Ix.tk 4 ⟨some 61, .load 93 (.tmp 60), _, _, _, _⟩ (pv) [8,11] ?_ KP.out ?_
     ·intro wq hSw
      have y2 := KC.out wq hSw
      go_simp
     (try simp only [zzp, zzb, zzc])
     refine Ix.tk 5 ⟨some 62, .move (.tmp 7), _, _, _, _⟩ (.iface T u) [6,7,8,11] ?_ KP.out ?_
     ·intro wq hSw
      have y2 := KC.out wq hSw
      go_simp
     (try simp only [zzp, zzb, zzc])
     refine wpAnyT_one (i := 6) (o := ⟨some 63, .call { callee := .invoke (.tmp 62) "flume/disk.copy", args := #[], argTypes := #[] }, _, _, _, _⟩) (by kernel_rfl) rfl (fun K hK => ?_)
     go_simp
     refine (hC.out q low2.out).mono ?_
     rintro e w4 ⟨c', rfl, L4, B4⟩
     replace L4 := hide L4
     replace B4 := hide B4
     have K4 : Hid (w4.heap[bc]? = some (.cells (ccells S mc pv am') TD (0, 0))) := (B4.out.block bc (heap_lt KP.out)).trans KP.out
     have P4 : Hid (w4.ownsRow (w3.heap.size + 1) 148 1 pv k (((S.P.take k).map (Ch.mv σ')).map Ch.iface)) := row_but hJ.out.pd (But.of_below (hq2.out.trans (B4.out.mono hq2.out.size)) fun _ => False) (fun _ _ c => c)
     have sz4 : Hid (w3.heap.size < w4.heap.size) := Nat.lt_of_lt_of_le (Nat.lt_of_lt_of_le hJ.out.sz hq2.out.size) B4.out.size
     clear hC d1 d2
     (try go_simp)
     refine hK.out _ _ (fun _ => K4.out) ?_
     clear hK K
     (try simp only [zzp, zzb, zzc])
     refine wpAnyT_one (i := 7) (o := ⟨some 64, .buildSlice 93 1 #[(0, .tmp 63)], _, _, _, _⟩) (by kernel_rfl) rfl (fun K hK => ?_)
     go_simp
     have K5 : Hid ((w4.alloc (.cells #[.iface c'.ty c'.val] 148)).heap[bc]? = some (.cells (ccells S mc pv am') TD (0, 0))) := ((box_below w4 _).block bc (heap_lt K4.out)).trans K4.out
     refine hK.out _ _ (fun _ => K5.out) ?_
     clear hK K
     (try simp only [zzp, zzb, zzc])
     refine wpAnyT_one (i := 8) (o := ⟨some 65, .call { callee := .builtin .append, args := #[.tmp 61, .tmp 64], argTypes := #[93, 93] }, _, _, _, _⟩) (by kernel_rfl) rfl (fun K hK => ?_)
     refine step_append_lies _ rfl (.tmp 61) (.tmp 64) 93 rfl (w3.heap.size + 1) 148 i0 .nilIface 1 16 Tryz.underlying93 hi.out hz0 hz1 hz2 rfl (by decide) pv k (((S.P.take k).map (Ch.mv σ')).map Ch.iface) (by simp [Act.eval]) (World.ownsRow.alloc P4.out _) ⟨w4.heap.size, 0, none⟩ 1 1 [.iface c'.ty c'.val] (by simp [Act.eval]) rfl (cell_one_new _ _ _) (by simp [Value.oneCell']) (by decide) (by have := hN3.out; unfold maxLen; omega) (by have := hN3.out; omega) (by have := sz4.out; simp; omega) (w4.heap.size + 1) (by simp) ?_
     intro g2 cap2 w5 ho5 hg5 hat hlt5
     replace ho5 := hide ho5
     replace hg5 := hide hg5
     have K6 : Hid (w5.heap[bc]? = some (.cells (ccells S mc pv am') TD (0, 0))) := (But.of_grownBy (X := fun j => pv.ownBlock = some j) hg5.out fun j e => e).at K5.out (fun e => by have := (World.ownsRow.lt P4.out _ e).1; have := b3.out; omega)
     refine hK.out _ _ (fun _ => K6.out) ?_
     clear hK K hat hlt5
     (try simp only [zzp, zzb, zzc])
     refine Ix.tk 9 ⟨some 66, .nilCheck (.tmp 57), _, _, _, _⟩ (.pointer (some ⟨bc, 0, none⟩)) [10,11] ?_ K6.out ?_
     ·intro wq hSw
      have y2 := KC.out wq hSw
      go_simp
     (try simp only [zzp, zzb, zzc])
     refine Ix.tk 10 ⟨some 67, .fieldAddr 98 (.tmp 66) 4, _, _, _, _⟩ (.pointer (some ⟨bc, 4, none⟩)) [11] ?_ K6.out ?_
     ·intro wq hSw
      have y2 := KC.out wq hSw
      go_simp
     (try simp only [zzp, zzb, zzc])
     have e1 := KC.out _ K6.out
     have e2 : w5.frozen? ⟨bc, 4, none⟩ = false := by simp [World.frozen?, K6.out]
     refine wpAnyT_one (i := 11) (o := ⟨none, .store 93 (.tmp 67) (.tmp 65), _, _, _, _⟩) (by kernel_rfl) rfl (fun K hK => ?_)
     go_simp
     refine hK.out _ _ (vac (by kernel_rfl)) ?_
     clear hK K e1 e2 KC
     (try simp only [zzq])
     refine wpAnyT_done (by kernel_rfl) ?_ _
     obtain ⟨σ2, VB3, VL3, J6⟩ := hJ.out.next (w6 := w5.setCell ⟨bc, 4, none⟩ (.slice (some ⟨g2, 0, none⟩) (k + 1) cap2)) hu.out hck.out ⟨hlt.out.2.1, by have := hlt.out; have := b3.out; omega⟩ ⟨b3.out, hlt.out.2.2.1, by have := hlt.out; omega⟩ (fun m e => by have := hlt.out.2.2.2 m e; have := b3.out; omega) hq2.out L4.out B4.out hg5.out ho5.out rfl
     replace J6 := hide J6
     clear K6 K5 K4 KP low2 hq2 P4 L4 B4 ho5 hg5 hck
     go_wp2_with fail
     go_roundw
     case rel => exact ⟨k + 1, _, σ2, VB3, VL3, by go_num, by omega, J6.out⟩
     case measure => simp [intOf]; omega
    ·obtain rfl : k = N := by omega
     have hJ' : CpJ w w3.heap.size bc mc S am' wr S.P.length pv σ' VB2 VL2 := by rw [hN.out]; exact hJ.out
     have hpd := hJ'.pd
     rw [List.take_length] at hpd
     have hrow := row_of_owns hpd (by simp)
     obtain ⟨po, pc, epv, _, r3, r4, _⟩ := hrow
     rw [List.length_map, List.length_map] at epv r3
     subst epv
     have hD := directory_any wr bc mc (ccells S mc (.slice po S.P.length pc) am') (mvD σ' S.l2) (S.P.map (Ch.mv σ')) (.slice po S.P.length pc) (S.P.length : Int) hJ'.box rfl rfl hJ'.mp (row_of_owns hpd (by simp)) (fun c hc => by obtain ⟨c0, h0, rfl⟩ := List.mem_map.1 hc; exact ok_mv σ' (H.out.dk.ok c0 h0)) (cans_mv σ' H.out.dk.can) (by have := hd.out; unfold mvD maxLen; rw [List.length_map, List.length_map]; omega) (by omega) (by have := hd.out; omega)
     have e5 : runs (mvD σ' S.l2) ((S.P.map (Ch.mv σ')).take (wthn (S.P.length : Int) (S.P.map (Ch.mv σ')).length)) = mvD σ' S.dir := by
      rw [List.length_map, show wthn (S.P.length : Int) S.P.length = S.P.length by unfold wthn; omega, List.take_of_length_le (by rw [List.length_map]; omega), runs_mv]; rfl
     rw [e5] at hD
     have y4 : wr.cell? ⟨bc, 4, none⟩ = some (.slice po S.P.length pc) := by simp [World.cell?, hJ'.box, ccells]
     have i5 : (pc : Int) ≤ 9223372036854775807 := by unfold maxLen at r4; omega
     have hend : Hid (∀ w7, Below wr.heap.size wr w7 → Mp w7 wr.heap.size (mvD σ' S.dir) → ∃ S' O', Alike σ' S S' ∧ DskE (w7.setCell ⟨bc, 2, none⟩ (.map (some wr.heap.size))) bc S' O' ∧ (∀ k, O' k → w.heap.size ≤ k) ∧ Below w.heap.size w (w7.setCell ⟨bc, 2, none⟩ (.map (some wr.heap.size)))) := fun w7 b7 m7 => hJ'.disk H.out B3.out.size ⟨hlt.out.2.1, by have := hlt.out; have := b3.out; omega⟩ ⟨b3.out, hlt.out.2.2.1, by have := hlt.out; omega⟩ (fun m e => by have := hlt.out.2.2.2 m e; have := b3.out; omega) b7 m7 rfl
     have hbx : Hid (∀ w7, Below wr.heap.size wr w7 → w7.heap[bc]? = some (.cells (ccells S mc (.slice po S.P.length pc) am') TD (0, 0))) := fun w7 b7 => (b7.block bc (heap_lt hJ'.box)).trans hJ'.box
     clear hJ' hpd hJ e5 r3 r4
     go_wp2_with (go_at_call 80; refine hD.mono ?_; rintro e w7 ⟨rfl, M7, B7⟩; replace M7 := hide M7; replace B7 := hide B7; have y2 : w7.cell? ⟨bc, 2, none⟩ = some (.map none) := (by simp [World.cell?, hbx.out w7 B7.out, ccells]); have y3 : w7.frozen? ⟨bc, 2, none⟩ = false := (by simp [World.frozen?, hbx.out w7 B7.out]))
     go_ret
     obtain ⟨S', O', q1, q2, q3, q4⟩ := hend.out w7 B7.out M7.out
     exact ⟨bc, σ', S', O', rfl, q1, q2, q3, q4⟩
  ·intro x c kl ya yb w1 cnt1 hkey hlx hv hat hrg1 hlt1 hg1 hs1 hen
   obtain ⟨rfl, hxs⟩ := keyOf_str_lit hkey
   obtain ⟨p, rfl, hp⟩ := round_get (y := (ya, yb)) hat hv (hQ.out.lk _ hlx)
   simp only [Option.map_some] at hen
   have hb1 : Hid (But (fun k => k = w3.heap.size) wr w1) := But.of_grownBy hg1 (fun k e => by cases e; rfl)
   replace hp := hide hp
   replace hlx := hide hlx
   replace hrg1 := hide hrg1
   replace hrgs := hide hrgs
   replace hlt1 := hide hlt1
   replace hxs := hide hxs
   clear hv hat hkey hg1 hs1
   go_upto_region 7 with fail
   have KC : Hid (∀ q : World, q.heap[bc]? = some (.cells (ccells S mc (.slice none 0 0) am') TD (0, 0)) → q.cell? ⟨bc, 3, none⟩ = some (.map (some mc))) := fun q hq => by simp [World.cell?, hq, ccells]
   refine wp_region_T (fun q => q.heap[bc]? = some (.cells (ccells S mc (.slice none 0 0) am') TD (0, 0))) 7 (by kernel_rfl) ?_
   have hb2 : Hid (But (fun k => k = w3.heap.size) wr w1.drew) := hb1.out.trans (But.of_below (Below.refl _ _).drew _)
   have hrg2 : Hid (w1.drew.ranges Tryz.prog TS ptrR g w3.heap.size S.l2.length (dirD S.l2) (fun z => left z && !z.sameKey (.string x.data.toList)) cnt1) := ranges_but (X := fun _ => False) hrg1.out (But.of_below (Below.refl _ _).drew _) (fun c => c) (fun c => c)
   clear hb1 hrg1
   generalize w1.drew = q at *
   have KP : Hid (q.heap[bc]? = some (.cells (ccells S mc (.slice none 0 0) am') TD (0, 0))) := hb2.out.at hQ.out.box (by have := b3.out; omega)
   have low2 : Hid (Below w.heap.size w q) := Mp.turned hQ.out.low hb2.out B3.out.size
   refine Ix.tk 0 ⟨some 41, .move (.tmp 3), _, _, _, _⟩ (.pointer (some ⟨bc, 0, none⟩)) [1,2,3,7] ?_ KP.out ?_
   ·intro wq hSw
    have y2 := KC.out wq hSw
    go_simp
   (try simp only [zzp, zzb, zzc])
   refine Ix.tk 1 ⟨some 42, .nilCheck (.tmp 41), _, _, _, _⟩ (.pointer (some ⟨bc, 0, none⟩)) [2,3,7] ?_ KP.out ?_
   ·intro wq hSw
    have y2 := KC.out wq hSw
    go_simp
   (try simp only [zzp, zzb, zzc])
   refine Ix.tk 2 ⟨some 43, .fieldAddr 98 (.tmp 42) 3, _, _, _, _⟩ (.pointer (some ⟨bc, 3, none⟩)) [3,7] ?_ KP.out ?_
   ·intro wq hSw
    have y2 := KC.out wq hSw
    go_simp
   (try simp only [zzp, zzb, zzc])
   refine Ix.tk 3 ⟨some 44, .load 92 (.tmp 43), _, _, _, _⟩ (.map (some mc)) [7] ?_ KP.out ?_
   ·intro wq hSw
    have y2 := KC.out wq hSw
    go_simp
   (try simp only [zzp, zzb, zzc])
   refine Ix.tk 4 ⟨some 45, .move (.tmp 4), _, _, _, _⟩ (.string x) [7] ?_ KP.out ?_
   ·intro wq hSw
    have y2 := KC.out wq hSw
    go_simp
   (try simp only [zzp, zzb, zzc])
   refine Ix.tk 5 ⟨some 46, .move (.tmp 5), _, _, _, _⟩ (.pointer (some ⟨p, 0, none⟩)) [6,7] ?_ KP.out ?_
   ·intro wq hSw
    have y2 := KC.out wq hSw
    go_simp
   (try simp only [zzp, zzb, zzc])
   have hC := copyF_any q p (S.F p) (VB p) (VL p) ((H.out.below low2.out).fs.at_ p (l2_mem hp.out))
   refine wpAnyT_one (i := 6) (o := ⟨some 47, .call { callee := .value (.func 94), args := #[.tmp 46], argTypes := #[114] }, _, _, _, _⟩) (by kernel_rfl) rfl (fun K hK => ?_)
   go_simp
   go_at_call 94
   refine hC.mono ?_
   rintro e w4 ⟨p', vb', vl', rfl, F4, B4⟩
   replace F4 := hide F4
   replace B4 := hide B4
   have K4 : Hid (w4.heap[bc]? = some (.cells (ccells S mc (.slice none 0 0) am') TD (0, 0))) := (B4.out.block bc (heap_lt KP.out)).trans KP.out
   clear hC
   (try go_simp)
   refine hK.out _ _ (fun _ => K4.out) ?_
   clear hK K
   (try simp only [zzp, zzb, zzc])
   have M1 : Mp q mc lp := hQ.out.mp.but hb2.out (by have := hlt.out; have := b3.out; omega)
   have M4 : Mp w4 mc lp := M1.heap (B4.out.block mc M1.lt)
   obtain ⟨w5, hU, M5, t5⟩ := M4.store (s := x) (p := p') hxs.out (by have := hQ.out.len; have := hd.out; unfold maxLen; omega)
   replace M5 := hide M5
   have hb5 := hide (turned_but t5)
   unfold TM at hU
   clear M1 M4 t5
   refine wpAnyT_one (i := 7) (o := ⟨none, .mapUpdate 92 (.tmp 44) (.tmp 45) (.tmp 47), _, _, _, _⟩) (by kernel_rfl) rfl (fun K hK => ?_)
   go_simp
   refine hK.out _ _ (vac (by kernel_rfl)) ?_
   clear hK K hU KC KP K4
   (try simp only [zzq])
   refine wpAnyT_done (by kernel_rfl) ?_ _
   have R5 : Hid (w5.ranges Tryz.prog TS ptrR g w3.heap.size S.l2.length (dirD S.l2) (fun z => left z && !z.sameKey (.string x.data.toList)) cnt1) := ranges_but (X := fun k => k = mc) hrg2.out ((But.of_below B4.out _).trans hb5.out) (by have := hlt.out; have := hgl.out; omega) (by have := hlt.out; have := b3.out; omega)
   have Q5 : Hid (CpI w w3.heap.size bc mc (ccells S mc (.slice none 0 0) am') am' S.al S.l2 S.F w5 (fun z => left z && !z.sameKey (.string x.data.toList)) (dput lp x.data.toList p') (upd σ p p') (upd VB' p vb') (upd VL' p vl')) := hQ.out.next (rise_keys hrise.out) hu.out.inj B3.out.size ⟨hlt.out.2.1, by have := hlt.out; have := b3.out; omega⟩ ⟨b3.out, by have := hlt.out; omega⟩ (fun m e => by have := hlt.out.2.2.2 m e; have := b3.out; omega) hlx.out hp.out hb2.out F4.out B4.out hb5.out M5.out
   clear hb2 hrg2 low2 F4 B4 M5 hb5
   go_wp2_with fail
   go_roundw
   case rel => exact ⟨_, cnt1, _, _, _, _, R5.out, Q5.out⟩
   case measure => rw [R5.out.left_eq, hrgs.out.left_eq]; exact hlt1.out
def M40 : Nat := 1099511627776
def prodT : Tls → Nat
 | [] => 1
 | e :: r => (e.2 + 1) * prodT r
theorem prodT_pos (L : Tls) : 1 ≤ prodT L := by
 induction L with
 | nil => exact Nat.le_refl _
 | cons e r ih => unfold prodT; exact Nat.mul_pos (by omega) ih
theorem prodT_append (A B : Tls) : prodT (A ++ B) = prodT A * prodT B := by
 induction A with
 | nil => simp [prodT]
 | cons e r ih => simp only [List.cons_append, prodT, ih, Nat.mul_assoc]
theorem prodT_snoc (A : Tls) (e : List UInt8 × Nat) : prodT (A ++ [e]) = prodT A * (e.2 + 1) := by rw [prodT_append]; simp [prodT]
theorem prodT_take (L : Tls) (k : Nat) : prodT (L.take k) ≤ prodT L := by
 have h := prodT_append (L.take k) (L.drop k)
 rw [List.take_append_drop] at h
 rw [h]
 exact Nat.le_mul_of_pos_right _ (prodT_pos _)
theorem over_iff (n m : Nat) (hm : 1 ≤ m) : M40 / m < n ↔ M40 < n * m := by
 rw [Nat.div_lt_iff_lt_mul (by omega)]
def DS.cnts (S : DS) (k : Nat) : List Nat := (List.range k).map fun (d : Nat) => prodT (S.tails (d : Int))
def DS.ways (S : DS) : Nat := (S.cnts (S.P.length + 1)).sum
theorem cnts_snoc (S : DS) (k : Nat) : S.cnts (k + 1) = S.cnts k ++ [prodT (S.tails (k : Int))] := by unfold DS.cnts; rw [List.range_succ, List.map_append]; rfl
theorem cnts_len (S : DS) (k : Nat) : (S.cnts k).length = k := by unfold DS.cnts; simp
theorem cnts_sum (S : DS) (k : Nat) : (S.cnts (k + 1)).sum = (S.cnts k).sum + prodT (S.tails (k : Int)) := by rw [cnts_snoc, List.sum_append]; simp
theorem cnts_mono (S : DS) {k m : Nat} (h : k ≤ m) : (S.cnts k).sum ≤ (S.cnts m).sum := by
 induction m with
 | zero => obtain rfl : k = 0 := Nat.le_zero.1 h
           exact Nat.le_refl _
 | succ m ih =>
  by_cases e : k = m + 1
  ·rw [e]; exact Nat.le_refl _
  ·rw [cnts_sum]; have := ih (by omega); omega
theorem cnts_get (S : DS) (k i : Nat) (h : i < k) : (S.cnts k)[i]? = some (prodT (S.tails (i : Int))) := by
 unfold DS.cnts
 rw [List.getElem?_map, List.getElem?_range h]
 rfl
def digs : Tls → Nat → List Nat
 | [], _ => []
 | e :: r, i => (i / prodT r) % (e.2 + 1) :: digs r (i % prodT r)
theorem digs_len (L : Tls) (i : Nat) : (digs L i).length = L.length := by
 induction L generalizing i with
 | nil => rfl
 | cons e r ih => simp [digs, ih]
def numb : Tls → List Nat → Nat
 | [], _ => 0
 | e :: r, ds => ds.headD 0 * prodT r + numb r ds.tail
theorem digs_at (L : Tls) (i k : Nat) (hi : i < prodT L) (hk : k < L.length) : (digs L i)[k]? = some (i / prodT (L.drop (k + 1)) % (L[k].2 + 1)) := by
 induction L generalizing i k with
 | nil => simp at hk
 | cons e r ih =>
  cases k with
  | zero => simp [digs]
  | succ k =>
   simp only [digs, List.getElem?_cons_succ, List.drop_succ_cons, List.getElem_cons_succ]
   have hp := prodT_pos r
   rw [ih (i % prodT r) k (Nat.mod_lt _ (by omega)) (by simpa using hk)]
   congr 1
   have hk' : k < r.length := by simpa using hk
   have e1 : r = r.take k ++ (r[k] :: r.drop (k + 1)) := by rw [← List.drop_eq_getElem_cons hk', List.take_append_drop]
   have e2 : prodT r = prodT (r.drop (k + 1)) * ((r[k].2 + 1) * prodT (r.take k)) := by
    conv => lhs; rw [e1, prodT_append, prodT]
    generalize prodT (r.take k) = x, r[k].2 + 1 = y, prodT (r.drop (k + 1)) = z
    rw [Nat.mul_comm z, Nat.mul_comm x, Nat.mul_right_comm]
   rw [e2, Nat.mod_mul_right_div_self, Nat.mod_mul_right_mod]
theorem numb_snoc (A : Tls) (e : List UInt8 × Nat) (ds : List Nat) : numb (A ++ [e]) ds = numb A ds * (e.2 + 1) + ds.getD A.length 0 := by
 induction A generalizing ds with
 | nil => cases ds <;> simp [numb, prodT]
 | cons a r ih =>
  simp only [List.cons_append, numb, ih, prodT_snoc, List.length_cons]
  rw [Nat.add_mul, Nat.mul_assoc]
  cases ds with
  | nil => simp
  | cons x y => simp [Nat.add_assoc]
theorem numb_lt (L : Tls) (ds : List Nat) (h : ∀ k (hk : k < L.length), ds.getD k 0 ≤ L[k].2) : numb L ds < prodT L := by
 induction L generalizing ds with
 | nil => simp [numb, prodT]
 | cons e r ih =>
  simp only [numb, prodT]
  have h0 := h 0 (by simp)
  have h1 := ih ds.tail (fun k hk => by
   have := h (k + 1) (by simp; omega)
   cases ds with
   | nil => simp
   | cons x y => simpa using this)
  have h2 : ds.headD 0 ≤ e.2 := by cases ds <;> simp_all
  have h3 : ds.headD 0 * prodT r ≤ e.2 * prodT r := Nat.mul_le_mul_right _ h2
  rw [Nat.add_mul]
  omega
theorem numb_digs (L : Tls) (i : Nat) (h : i < prodT L) : numb L (digs L i) = i := by
 induction L generalizing i with
 | nil => simp [prodT] at h; simp [numb, h]
 | cons e r ih =>
  simp only [digs, numb, List.headD_cons, List.tail_cons]
  have hp := prodT_pos r
  rw [ih _ (Nat.mod_lt _ (by omega))]
  have h1 : i / prodT r < e.2 + 1 := by rw [Nat.div_lt_iff_lt_mul (by omega)]; exact h
  rw [Nat.mod_eq_of_lt h1, Nat.mul_comm]
  exact Nat.div_add_mod i _
theorem digs_le (L : Tls) (i k : Nat) (hi : i < prodT L) (hk : k < L.length) : (digs L i).getD k 0 ≤ L[k].2 := by
 rw [List.getD_eq_getElem?_getD, digs_at L i k hi hk]
 simp only [Option.getD_some]
 have := Nat.mod_lt (i / prodT (L.drop (k + 1))) (show 0 < L[k].2 + 1 by omega)
 omega
end Go.Proofs.YtjehpijjneghpaaGreat.Dk
namespace Go.Proofs.YtjehpijjneghpaaGreat.Dk
open Go.RowKit Go.Maps Go.Sort Go.Shelf Go.Proofs.YtjehpijjneghpaaGreat.Nm
variable {σ : Nat → Nat} {S S' : DS}
theorem Alike.beg (h : Alike σ S S') (j : Nat) : Alike σ (S.beg j) (S'.beg j) := by
 have e := beg_ps S j
 have eF := (beg_rest S j).2.2.2.2.2.2.2
 have eF' := (beg_rest S' j).2.2.2.2.2.2.2
 refine ⟨?_, ?_, ?_, ?_, ?_, ?_, ?_, ?_, ?_, ?_, ?_, ?_, ?_, ?_, by rw [e, eF, eF']; exact h.F, by rw [e]; exact h.inj⟩
 all_goals (unfold DS.beg; split <;> simp only [h.most, h.up, h.al, h.c0, h.c1, h.c2, h.c3, h.c4, h.c5, h.c6, h.c7, h.c8, h.l2, h.P])
theorem Alike.str (h : Alike σ S S') (k : Int) : Alike σ (S.str k) (S'.str k) := by
 unfold DS.str
 split
 ·exact ⟨h.most, rfl, h.al, h.c0, h.c1, h.c2, h.c3, h.c4, h.c5, h.c6, h.c7, h.c8, h.l2, h.P, h.F, h.inj⟩
 ·exact h
theorem Alike.hit (h : Alike σ S S') (j : Nat) : Alike σ (S.hit j) (S'.hit j) := by
 unfold DS.hit
 rw [h.flt]
 exact (h.beg j).str _
theorem Alike.one (h : Alike σ S S') {p : Nat} (hp : p ∈ S.ps) (t : Fl) : Alike σ { S with F := upd S.F p t } { S' with F := upd S'.F (σ p) t } := by
 refine ⟨h.most, h.up, h.al, h.c0, h.c1, h.c2, h.c3, h.c4, h.c5, h.c6, h.c7, h.c8, h.l2, h.P, fun q hq => ?_, h.inj⟩
 show upd S'.F (σ p) t (σ q) = upd S.F p t q
 by_cases e : q = p
 ·subst e; rw [upd_same, upd_same]
 ·rw [upd_ne _ _ e, upd_ne _ _ (fun c => e (h.inj q hq p hp c)), h.F q hq]
theorem Alike.more (h : Alike σ S S') (c : Ch) (hc : c.ptr = none) : Alike σ { S with P := S.P ++ [c] } { S' with P := S'.P ++ [c] } := by
 have e : ({ S with P := S.P ++ [c] } : DS).ps = S.ps := by
  show S.l2.map (·.2) ++ (S.P ++ [c]).filterMap Ch.ptr = _
  rw [List.filterMap_append]; simp [hc, DS.ps]
 have hm : c.mv σ = c := by cases c with
  | cr n p => cases hc
  | rn f t => rfl
  | rm n => rfl
 refine ⟨h.most, h.up, h.al, h.c0, h.c1, h.c2, h.c3, h.c4, h.c5, h.c6, h.c7, h.c8, h.l2, ?_, by rw [e]; exact h.F, by rw [e]; exact h.inj⟩
 show S'.P ++ [c] = (S.P ++ [c]).map (Ch.mv σ)
 rw [List.map_append, h.P]
 simp [hm]
theorem Alike.new (h : Alike σ S S') (s : ByteArray) {p p' : Nat} (hp : p ∉ S.ps) (hp' : p' ∉ S'.ps) (t : Fl) : Alike (upd σ p p') { S with P := S.P ++ [.cr s p], F := upd S.F p t } { S' with P := S'.P ++ [.cr s p'], F := upd S'.F p' t } := by
 have e : ({ S with P := S.P ++ [.cr s p], F := upd S.F p t } : DS).ps = S.ps ++ [p] := by
  show S.l2.map (·.2) ++ (S.P ++ [Ch.cr s p]).filterMap Ch.ptr = _
  rw [List.filterMap_append]; simp [Ch.ptr, DS.ps]
 have hne : ∀ q ∈ S.ps, q ≠ p := fun q hq c => hp (by rw [← c]; exact hq)
 have hs : ∀ q ∈ S.ps, upd σ p p' q = σ q := fun q hq => upd_ne _ _ (hne q hq)
 have hno : ∀ q ∈ S.ps, σ q ≠ p' := fun q hq c => hp' (by rw [h.ps, ← c]; exact List.mem_map.2 ⟨q, hq, rfl⟩)
 refine ⟨h.most, h.up, h.al, h.c0, h.c1, h.c2, h.c3, h.c4, h.c5, h.c6, h.c7, h.c8, ?_, ?_, ?_, ?_⟩
 ·show S'.l2 = mvD (upd σ p p') S.l2
  rw [h.l2]
  exact (mvD_congr fun x hx => hs x (List.mem_append_left _ hx)).symm
 ·show S'.P ++ [.cr s p'] = (S.P ++ [Ch.cr s p]).map (Ch.mv (upd σ p p'))
  rw [List.map_append, mvP_congr (σ := σ) (fun x hx => hs x (List.mem_append_right _ hx)), h.P]
  simp [Ch.mv, upd_same]
 ·rw [e]
  intro q hq
  show upd S'.F p' t (upd σ p p' q) = upd S.F p t q
  rcases List.mem_append.1 hq with z | z
  ·rw [hs q z, upd_ne _ _ (hno q z), upd_ne _ _ (hne q z), h.F q z]
  ·simp at z
   subst z
   rw [upd_same, upd_same, upd_same]
 ·rw [e]
  intro a ha b hb hab
  rcases List.mem_append.1 ha with z | z <;> rcases List.mem_append.1 hb with y | y
  ·rw [hs a z, hs b y] at hab; exact h.inj a z b y hab
  ·simp at y; subst y
   rw [hs a z, upd_same] at hab; exact (hno a z hab).elim
  ·simp at z; subst z
   rw [hs b y, upd_same] at hab; exact (hno b y hab.symm).elim
  ·simp at z y; rw [z, y]
theorem Alike.remove (h : Alike σ S S') (s : ByteArray) : Alike σ (S.remove s).1 (S'.remove s).1 ∧ (S'.remove s).2 = (S.remove s).2 := by
 have e1 : (S'.find s).2 = (S.find s).2 := by rw [h.find]
 unfold DS.remove
 rw [e1, h.flt]
 split
 ·exact ⟨h, rfl⟩
 split
 ·exact ⟨h.hit 5, rfl⟩
 ·have q := (h.hit 5).more (.rm s) rfl
  rw [(hit_rest S 5).2.2.1, (hit_rest S' 5).2.2.1] at q
  exact ⟨q, rfl⟩
theorem Alike.rename (h : Alike σ S S') (s t : ByteArray) : Alike σ (S.rename s t).1 (S'.rename s t).1 ∧ (S'.rename s t).2 = (S.rename s t).2 := by
 have e1 : (S'.find s).2 = (S.find s).2 := by rw [h.find]
 unfold DS.rename
 rw [h.ref, e1, h.flt]
 split
 ·exact ⟨h, rfl⟩
 split
 ·exact ⟨h, rfl⟩
 split
 ·exact ⟨h.hit 4, rfl⟩
 split
 ·exact ⟨h.hit 4, rfl⟩
 ·have q := (h.hit 4).more (.rn s t) rfl
  rw [(hit_rest S 4).2.2.1, (hit_rest S' 4).2.2.1] at q
  exact ⟨q, rfl⟩
theorem Alike.syncDir (h : Alike σ S S') : Alike σ S.syncDir.1 S'.syncDir.1 ∧ S'.syncDir.2 = S.syncDir.2 := by
 have q := h.hit 6
 have hps : ∀ p ∈ ({ S.hit 6 with l2 := S.dir, P := [] } : DS).ps, p ∈ S.ps := fun p hp => by
  have : p ∈ S.dir.map (·.2) := by simpa [DS.ps] using hp
  obtain ⟨e, he, rfl⟩ := List.mem_map.1 this
  exact mem_ps_dir he
 unfold DS.syncDir
 rw [h.ref, h.flt]
 split
 ·exact ⟨h, rfl⟩
 split
 ·exact ⟨q, rfl⟩
 ·refine ⟨⟨q.most, q.up, q.al, q.c0, q.c1, q.c2, q.c3, q.c4, q.c5, q.c6, q.c7, q.c8, h.dir, rfl, fun p hp => ?_, fun p hp r hr => h.inj p (hps p hp) r (hps r hr)⟩, rfl⟩
  show (S'.hit 6).F (σ p) = (S.hit 6).F p
  rw [(hit_rest S 6).2.2.2.2.2.2, (hit_rest S' 6).2.2.2.2.2.2]
  exact h.F p (hps p hp)
theorem Alike.create (h : Alike σ S S') (s : ByteArray) {p p' : Nat} (hp : p ∉ S.ps) (hp' : p' ∉ S'.ps) : (∃ τ, Alike τ (S.create s p).1 (S'.create s p').1) ∧ (S'.create s p').2 = (S.create s p).2 := by
 have e1 : S'.dir.length = S.dir.length := by rw [h.dir]; unfold mvD; rw [List.length_map]
 have e2 : (get S'.dir s.data.toList).isSome = (get S.dir s.data.toList).isSome := by rw [h.dir, get_mv, Option.isSome_map]
 unfold DS.create
 rw [h.ref, h.flt, e1, e2]
 split
 ·exact ⟨⟨σ, h⟩, rfl⟩
 split
 ·exact ⟨⟨σ, h⟩, rfl⟩
 split
 ·exact ⟨⟨σ, h⟩, rfl⟩
 have q := (h.beg 0).str S.flt.2.1
 split
 ·exact ⟨⟨σ, q⟩, rfl⟩
 ·have e3 : ((S.beg 0).str S.flt.2.1).ps = S.ps := (str_ps _ _).trans (beg_ps S 0)
  have e4 : ((S'.beg 0).str S.flt.2.1).ps = S'.ps := (str_ps _ _).trans (beg_ps S' 0)
  have z := q.new s (p := p) (p' := p') (by rw [e3]; exact hp) (by rw [e4]; exact hp') ⟨[], [], 0⟩
  have hS := str_rest (S.beg 0) S.flt.2.1
  have hS' := str_rest (S'.beg 0) S.flt.2.1
  rw [hS.2.2.1, hS'.2.2.1, hS.2.2.2.2.2.2, hS'.2.2.2.2.2.2] at z
  exact ⟨⟨_, z⟩, rfl⟩
end Go.Proofs.YtjehpijjneghpaaGreat.Dk
namespace Go.Proofs.YtjehpijjneghpaaGreat.Dk
open Go.RowKit Go.Maps Go.Sort Go.Shelf Go.Proofs.YtjehpijjneghpaaGreat.Nm
variable {σ : Nat → Nat} {S S' : DS}
theorem Alike.c8s (h : Alike σ S S') (n : Int) : Alike σ { S with c8 := n } { S' with c8 := n } :=
 ⟨h.most, h.up, h.al, h.c0, h.c1, h.c2, h.c3, h.c4, h.c5, h.c6, h.c7, rfl, h.l2, h.P, h.F, h.inj⟩
theorem Alike.apN (h : Alike σ S S') (n : Nat) : S'.apN n = S.apN n := by
 unfold DS.apN
 rw [h.flt, h.room]
theorem find_mem {S : DS} {s : ByteArray} {p : Nat} {e : Int} (h : S.find s = (some p, e)) : p ∈ S.ps := by
 by_cases h0 : (S.find s).2 = 0
 ·obtain ⟨q, e1, _, _, hq⟩ := find_ok h0
  rw [h] at e1
  cases e1
  exact hq
 ·have := find_no h0
  rw [h] at this
  cases this
theorem Alike.append (h : Alike σ S S') (s : ByteArray) (b : List UInt8) : Alike σ (S.append s b).1 (S'.append s b).1 ∧ (S'.append s b).2 = (S.append s b).2 := by
 have hf := h.find s
 unfold DS.append
 cases hq : S.find s with
 | mk a e =>
  rw [hq] at hf
  cases a with
  | none => rw [hf]; exact ⟨h, rfl⟩
  | some p =>
   have hp := find_mem hq
   rw [hf]
   simp only [Option.map_some]
   rw [h.apN, h.flt, h.F p hp, h.c8]
   refine ⟨?_, rfl⟩
   have e3 : ((S.beg 1).str S.flt.2.1).ps = S.ps := (str_ps _ _).trans (beg_ps S 1)
   have z := (((h.beg 1).str S.flt.2.1).one (p := p) (by rw [e3]; exact hp) (apF (S.F p) (b.take (S.apN b.length)))).c8s (S.c8 + (S.apN b.length : Int))
   have hS := str_rest (S.beg 1) S.flt.2.1
   have hS' := str_rest (S'.beg 1) S.flt.2.1
   rw [hS.2.2.2.2.2.2, hS'.2.2.2.2.2.2] at z
   exact z
theorem Alike.sync (h : Alike σ S S') (s : ByteArray) : Alike σ (S.sync s).1 (S'.sync s).1 ∧ (S'.sync s).2 = (S.sync s).2 := by
 have hf := h.find s
 unfold DS.sync
 cases hq : S.find s with
 | mk a e =>
  rw [hq] at hf
  cases a with
  | none => rw [hf]; exact ⟨h, rfl⟩
  | some p =>
   have hp := find_mem hq
   rw [hf]
   simp only [Option.map_some]
   rw [h.flt, h.F p hp]
   have one := fun t => (h.beg 2).one (p := p) (by rw [beg_ps]; exact hp) t
   split
   ·exact ⟨one _, rfl⟩
   split
   ·exact ⟨(h.beg 2).str 3, rfl⟩
   ·exact ⟨one _, rfl⟩
theorem Alike.cut (h : Alike σ S S') (s : ByteArray) (n : Int) : Alike σ (S.cut s n).1 (S'.cut s n).1 ∧ (S'.cut s n).2 = (S.cut s n).2 := by
 have hf := h.find s
 unfold DS.cut
 cases hq : S.find s with
 | mk a e =>
  rw [hq] at hf
  cases a with
  | none => rw [hf]; exact ⟨h, rfl⟩
  | some p =>
   have hp := find_mem hq
   rw [hf]
   simp only [Option.map_some]
   rw [h.flt, h.F p hp]
   have one := fun t => (h.beg 3).one (p := p) (by rw [beg_ps]; exact hp) t
   split
   ·exact ⟨h, rfl⟩
   split
   ·exact ⟨(h.beg 3).str _, rfl⟩
   ·exact ⟨one _, rfl⟩
end Go.Proofs.YtjehpijjneghpaaGreat.Dk
namespace Go.Proofs.YtjehpijjneghpaaGreat.Dk
open Go.RowKit Go.Maps Go.Sort Go.Shelf Go.Proofs.YtjehpijjneghpaaGreat.Nm
variable {σ : Nat → Nat} {S S' : DS} in
theorem Alike.size (h : Alike σ S S') (s : ByteArray) : S'.size s = S.size s := by
 have hf := h.find s
 unfold DS.size
 rw [hf]
 by_cases h0 : (S.find s).2 = 0
 ·obtain ⟨p, e, _, _, hp⟩ := find_ok h0
  rw [e]
  dsimp only [Option.map_some]
  rw [h.F p hp]
 ·have e : S.find s = (none, (S.find s).2) := Prod.ext (find_no h0) rfl
  rw [e]
  rfl
variable {σ : Nat → Nat} {S S' : DS} in
theorem Alike.read (h : Alike σ S S') (s : ByteArray) (o n : Int) : S'.read s o n = S.read s o n := by
 have hf := h.find s
 unfold DS.read
 rw [hf]
 by_cases h0 : (S.find s).2 = 0
 ·obtain ⟨p, e, _, _, hp⟩ := find_ok h0
  rw [e]
  dsimp only [Option.map_some]
  rw [h.F p hp]
 ·have e : S.find s = (none, (S.find s).2) := Prod.ext (find_no h0) rfl
  rw [e]
  rfl
structure FateOf (S : DS) (i d j : Nat) : Prop where
 dl : d ≤ S.P.length
 eq : i = (S.cnts d).sum + j
 lt : j < prodT (S.tails (d : Int))
theorem FateOf.less {S : DS} {i d j d' j' : Nat} (h : FateOf S i d j) (h' : FateOf S i d' j') : ¬ d < d' := fun c => by
 have h1 := cnts_mono S (show d + 1 ≤ d' by omega)
 have h2 := cnts_sum S d
 have := h.eq; have := h'.eq; have := h.lt
 omega
theorem FateOf.uniq {S : DS} {i d j d' j' : Nat} (h : FateOf S i d j) (h' : FateOf S i d' j') : d = d' ∧ j = j' := by
 have a := h.less h'
 have b := h'.less h
 obtain rfl : d = d' := by omega
 have := h.eq; have := h'.eq
 exact ⟨rfl, by omega⟩
def keps (ds : List Nat) : List Kep := ds.map fun (n : Nat) => ((n : Int), ([] : List UInt8))
def DS.after (S : DS) (d j : Nat) : DS := S.crash (d : Int) (keps (digs (S.tails (d : Int)) j))
def sM (m : UInt8) : ByteArray := ⟨#[m]⟩
theorem may_m {m : UInt8} (h : m = 98 ∨ m = 110) : may (sM m).data.toList = true := by rcases h with rfl | rfl <;> decide
theorem nms_two (p q : Nat) {m : UInt8} (h : m = 98 ∨ m = 110) : nms [([97], p), ([m], q)] = [[97], [m]] := by
 unfold nms
 simp [List.mergeSort, List.MergeSort.Internal.splitInTwo, List.merge]
 rcases h with rfl | rfl <;> decide
structure EachD (S : DS) (m : UInt8) (A B C : List UInt8) (p q : Nat) : Prop where
 hm : m = 98 ∨ m = 110
 up : S.up = true
 l2 : S.l2 = [([97], p)]
 P : S.P = [.cr (sM m) q]
 Fp : S.F p = ⟨A ++ B, A, 0⟩
 Fq : S.F q = ⟨C, [], 0⟩
 ne : p ≠ q
section
variable {S : DS} {m : UInt8} {A B C : List UInt8} {p q : Nat}
theorem EachD.front0 (h : EachD S m A B C p q) : S.front 0 = [([97], p)] := by
 unfold DS.front
 rw [h.l2, h.P]
 rfl
theorem EachD.front1 (h : EachD S m A B C p q) : S.front 1 = [([97], p), ([m], q)] := by
 unfold DS.front
 rw [h.l2, h.P]
 rcases h.hm with rfl | rfl <;> rfl
theorem EachD.tails0 (h : EachD S m A B C p q) : S.tails 0 = [([97], B.length)] := by
 unfold DS.tails
 rw [h.front0, nms_one]
 have : tlOf S.F [([97], p)] [97] = B.length := by
  show (S.F p).by_.length - (S.F p).la.length = _
  rw [h.Fp]; simp
 simp [this]
theorem EachD.tails1 (h : EachD S m A B C p q) : S.tails 1 = [([97], B.length), ([m], C.length)] := by
 unfold DS.tails
 rw [h.front1, nms_two p q h.hm]
 have h1 : tlOf S.F [([97], p), ([m], q)] [97] = B.length := by
  show (S.F p).by_.length - (S.F p).la.length = _
  rw [h.Fp]; simp
 have h2 : tlOf S.F [([97], p), ([m], q)] [m] = C.length := by
  have : tlOf S.F [([97], p), ([m], q)] [m] = (S.F q).by_.length - (S.F q).la.length := by rcases h.hm with rfl | rfl <;> rfl
  rw [this, h.Fq]; simp
 simp [h1, h2]
theorem EachD.cnt1 (h : EachD S m A B C p q) : (S.cnts 1).sum = B.length + 1 := by
 have := cnts_sum S 0
 rw [show ((0 : Nat) : Int) = 0 from rfl, h.tails0] at this
 simpa [DS.cnts, prodT] using this
theorem EachD.cnt2 (h : EachD S m A B C p q) : (S.cnts 2).sum = (B.length + 1) * (C.length + 2) := by
 have := cnts_sum S 1
 rw [show ((1 : Nat) : Int) = 1 from rfl, h.tails1, h.cnt1] at this
 rw [this]
 simp only [prodT, Nat.mul_one]
 rw [Nat.mul_add (B.length + 1) (C.length + 1) 1, Nat.mul_one, Nat.add_comm]
theorem EachD.ways (h : EachD S m A B C p q) : S.ways = (B.length + 1) * (C.length + 2) := by
 unfold DS.ways
 rw [h.P]
 exact h.cnt2
theorem EachD.uq (h : EachD S m A B C p q) : S.uq := by
 unfold DS.uq
 rw [h.l2, h.P]
 refine ⟨fun e he e' he' _ => ?_, fun e he c => ?_, ?_⟩
 ·simp at he he'; rw [he, he']
 ·simp at he; subst he; simp [ptrs, Ch.ptr] at c; exact h.ne c
 ·simp [ptrs, Ch.ptr]
end
end Go.Proofs.YtjehpijjneghpaaGreat.Dk
namespace Go.Proofs.YtjehpijjneghpaaGreat.Dk
open Go.RowKit Go.Maps Go.Sort Go.Shelf Go.Proofs.YtjehpijjneghpaaGreat.Nm
def Tr (w : World) (v : Value) (L : Tls) : Prop := ∃ ao ca, v = .slice ao L.length ca ∧ L.length ≤ ca ∧ ca ≤ 9223372036854775807 ∧ ∀ i (h : i < L.length), ∃ b off, ao = some ⟨b, off, none⟩ ∧ w.cell? ⟨b, off + i * 2, none⟩ = some (.string (bsOf L[i].1)) ∧ w.cell? ⟨b, off + i * 2 + 1, none⟩ = some (.int .i64 (L[i].2 : Int))
theorem tcells_at (L : Tls) : ∀ i (h : i < L.length), (tcells L)[i * 2]? = some (.string (bsOf L[i].1)) ∧ (tcells L)[i * 2 + 1]? = some (.int .i64 (L[i].2 : Int)) := by
 induction L with
 | nil => intro i h; simp at h
 | cons e r ih =>
  intro i h
  have : tcells (e :: r) = [encStr e.1, .int .i64 (e.2 : Int)] ++ tcells r := by simp [tcells]
  rw [this]
  cases i with
  | zero => exact ⟨rfl, rfl⟩
  | succ i =>
   have h' : i < r.length := by simpa using h
   obtain ⟨a, b⟩ := ih i h'
   refine ⟨?_, ?_⟩
   ·rw [List.getElem?_append_right (by simp; omega)]
    simp only [List.length_cons, List.length_nil, List.getElem_cons_succ]
    rw [show (i + 1) * 2 - (0 + 1 + 1) = i * 2 by omega]
    exact a
   ·rw [List.getElem?_append_right (by simp; omega)]
    simp only [List.length_cons, List.length_nil, List.getElem_cons_succ]
    rw [show (i + 1) * 2 + 1 - (0 + 1 + 1) = i * 2 + 1 by omega]
    exact b
theorem Tl.tr {B : Nat} {w : World} {v : Value} {L : Tls} (h : Tl B w v L) : Tr w v L := by
 have h0 := h
 rcases h.2 with ⟨rfl, e⟩ | ⟨g, cap, cur, rfl, _, _, a, b, _⟩
 ·have : L = [] := List.length_eq_zero_iff.1 e
  subst this
  exact ⟨none, 0, rfl, Nat.le_refl _, by omega, fun i hi => by simp at hi⟩
 ·refine ⟨_, _, rfl, a, by unfold maxLen at b; omega, fun i hi => ⟨g, 0, rfl, ?_, ?_⟩⟩
  ·have := World.ownsRow.cells h0 (g := g) rfl (i * 2) _ (tcells_at L i hi).1
   rw [addr_add] at this
   exact this
  ·have := World.ownsRow.cells h0 (g := g) rfl (i * 2 + 1) _ (tcells_at L i hi).2
   rw [addr_add] at this
   exact this
theorem Tr.below {w w' : World} {v : Value} {L : Tls} (h : Tr w v L) (hb : Below w.heap.size w w') : Tr w' v L := by
 obtain ⟨ao, ca, e, h1, h2, h3⟩ := h
 refine ⟨ao, ca, e, h1, h2, fun i hi => ?_⟩
 obtain ⟨b, off, e1, c1, c2⟩ := h3 i hi
 exact ⟨b, off, e1, by rw [hb.cell (lt_of_cell c1)]; exact c1, by rw [hb.cell (lt_of_cell c2)]; exact c2⟩
theorem base_any (w : World) (s : ByteArray) (n : Nat) (hn : n ≤ 16777216) :
    Calls Tryz.prog 113 #[.agg #[.string s, .int .i64 (n : Int)]] w fun e w' => e = .returned (.int .i64 ((n : Int) + 1)) ∧ Below w.heap.size w w' := by
 have hB := hide (box_below w (.cells #[.string s, .int .i64 (n : Int)] 68))
 go_enter Tryz.func113, Tryz.ntmps113
 go_wp2_with fail
 go_ret
 exact ⟨by go_num, hB.out⟩
def chA (L : Tls) : Int × Bool := if prodT L ≤ M40 then ((prodT L : Int), true) else (0, false)
theorem choices_any (w : World) (v : Value) (L : Tls) (hv : Tr w v L) (hs : ∀ e ∈ L, e.2 ≤ 16777216) :
    Calls Tryz.prog 112 #[v] w fun e w' => e = .returned (.tuple #[.int .i64 (chA L).1, .bool (chA L).2]) ∧ Below w.heap.size w w' := by
 obtain ⟨R, hR⟩ : ∃ R, Hid (chA L = R) := ⟨_, rfl⟩
 rw [hR.out]
 obtain ⟨ao, ca, rfl, q1, q2, q3⟩ := hv
 obtain ⟨N, hN⟩ : ∃ N, Hid (L.length = N) := ⟨_, rfl⟩
 rw [hN.out] at q1 ⊢
 replace q3 := hide q3
 replace hs := hide hs
 go_enter Tryz.func112, Tryz.ntmps112
 go_wp2_with fail
 go_loopw [4, 9] (fun v4 i wr => ∃ k x : Nat, i = .int .i64 k ∧ k ≤ N ∧ v4 = .int .i64 x ∧ x ≤ 1099511627776 ∧ Hid (x = prodT (L.take k)) ∧ Hid (Below w.heap.size w wr)) (fun _ i _ => N - (intOf i).toNat)
 case atStart => exact ⟨0, 1, rfl, Nat.zero_le _, rfl, by omega, rfl, Below.refl _ _⟩
 case round =>
  obtain ⟨k, x, rfl, hk, rfl, hx, ex, hB⟩ := hrel
  by_cases hlt : k < N
  ·have i1 : (k : Int) < (N : Int) := by omega
   have hkl : k < L.length := by rw [hN.out]; exact hlt
   obtain ⟨gb, off, rfl, c0, c1⟩ := q3.out k hkl
   rw [← hB.out.cell (p := ⟨gb, off + k * 2, none⟩) (lt_of_cell c0)] at c0
   rw [← hB.out.cell (p := ⟨gb, off + k * 2 + 1, none⟩) (lt_of_cell c1)] at c1
   have hn := hs.out L[k] (List.getElem_mem hkl)
   have ey : Hid (prodT (L.take (k + 1)) = x * (L[k].2 + 1)) := by show _ = _; rw [List.take_succ_eq_append_getElem hkl, prodT_snoc, ex.out]
   have ez : Hid (prodT (L.take (k + 1)) ≤ prodT L) := prodT_take _ _
   obtain ⟨y, ey2⟩ : ∃ y, Hid (y = prodT (L.take (k + 1))) := ⟨_, rfl⟩
   rw [← ey2.out] at ey ez
   generalize L[k].2 = n at *
   generalize bsOf L[k].1 = s at *
   obtain ⟨X, hX⟩ : ∃ X, Hid (wr.alloc (.cells #[.string s, .int .i64 (n : Int)] 68) = X) := ⟨_, rfl⟩
   have B0 : Hid (Below w.heap.size w X) := by
    rw [← hX.out]
    exact hB.out.trans ((box_below wr (.cells #[.string s, .int .i64 (n : Int)] 68)).mono hB.out.size)
   have z0 := heap_alloc_new wr (.cells #[.string s, .int .i64 (n : Int)] 68)
   rw [hX.out] at z0
   have KB : Hid (∀ q, Below X.heap.size X q → Calls Tryz.prog 113 #[.agg #[.string s, .int .i64 (n : Int)]] q fun e q' => e = .returned (.int .i64 ((n : Int) + 1)) ∧ Below X.heap.size X q' ∧ q'.cell? ⟨wr.heap.size, 0, none⟩ = some (.string s) ∧ q'.cell? ⟨wr.heap.size, 1, none⟩ = some (.int .i64 (n : Int))) := fun q hq => by
    refine (base_any q s n hn).mono ?_
    rintro e q' ⟨rfl, hb⟩
    have hb' := hq.trans (hb.mono hq.size)
    have hz := (hb'.block wr.heap.size (heap_lt z0)).trans z0
    exact ⟨rfl, hb', by simp [World.cell?, hz], by simp [World.cell?, hz]⟩
   have x0 : X.cell? ⟨wr.heap.size, 0, none⟩ = some (.string s) := by simp [World.cell?, z0]
   have x1 : X.cell? ⟨wr.heap.size, 1, none⟩ = some (.int .i64 (n : Int)) := by simp [World.cell?, z0]
   have bX := Below.refl X.heap.size X
   clear z0
   obtain ⟨Q, hQ⟩ : ∃ Q, Hid (Q = M40 / (n + 1)) := ⟨_, rfl⟩
   have t1 : (1099511627776 : Int).tdiv ((n : Int) + 1) = (Q : Int) := by
    rw [Int.tdiv_eq_ediv_of_nonneg (by omega), hQ.out]
    exact (Int.natCast_ediv 1099511627776 (n + 1)).symm
   have t2 : Q ≤ 1099511627776 := by rw [hQ.out]; exact Nat.div_le_self _ _
   have t3 := over_iff x (n + 1) (by omega)
   rw [← hQ.out, ← ey.out] at t3
   by_cases ho : y ≤ 1099511627776
   ·have t4 : ¬ ((x : Int) > (Q : Int)) := by unfold M40 at t3; omega
    have t5 : (x : Int) * ((n : Int) + 1) = (y : Int) := by rw [ey.out]; norm_cast
    clear t3
    have t6 : (y : Int) ≤ 9223372036854775807 := by omega
    replace ho := hide ho
    replace hx := hide hx
    go_upto_region 5 with fail
    rw [hX.out]
    go_wp2_with (first
     | (go_at_call 113; refine (KB.out _ (by assumption)).mono ?_; rintro e w1 ⟨rfl, b1, c2, c3⟩)
     | fail)
    go_roundw
    case rel => exact ⟨k + 1, y, by go_num, by omega, rfl, ho.out, ey2, B0.out.trans (b1.mono B0.out.size)⟩
    case measure => simp [intOf]; omega
   ·have t4 : (x : Int) > (Q : Int) := by unfold M40 at t3; omega
    clear t3
    go_upto_region 5 with fail
    rw [hX.out]
    go_wp2_with (first
     | (go_at_call 113; refine (KB.out _ (by assumption)).mono ?_; rintro e w1 ⟨rfl, b1, c2, c3⟩)
     | fail)
    go_ret2
    refine ⟨?_, B0.out.trans (b1.mono B0.out.size)⟩
    rw [← hR.out, chA, if_neg (by have := ez.out; unfold M40; omega)]
    rfl
  ·obtain rfl : k = N := by omega
   rw [List.take_of_length_le (by rw [hN.out]; omega)] at ex
   go_wp2_with fail
   go_ret2
   refine ⟨?_, hB.out⟩
   rw [← hR.out, chA, ← ex.out, if_pos (by unfold M40; exact hx)]
   rfl
theorem infoKeep : (Tryz.prog.info? 88).map (fun i => (i.zero, i.size, i.bytes)) = some (some (.agg #[.int .i64 0, .slice none 0 0]), 2, 32) := by kernel_rfl
def kcells (ds : List Nat) : List Value := (ds.map fun (n : Nat) => [Value.int .i64 (n : Int), .slice none 0 0]).flatten
theorem kcells_cons (d : Nat) (ds : List Nat) : kcells (d :: ds) = [.int .i64 (d : Int), .slice none 0 0] ++ kcells ds := by simp [kcells]
theorem kcells_len (ds : List Nat) : (kcells ds).length = ds.length * 2 := by
 induction ds with
 | nil => rfl
 | cons d r ih => rw [kcells_cons, List.length_append, ih, List.length_cons]; simp; omega
theorem kcells_set (ds : List Nat) (k d : Nat) : (kcells ds).set (k * 2) (.int .i64 (d : Int)) = kcells (ds.set k d) := by
 induction ds generalizing k with
 | nil => simp [kcells]
 | cons x r ih =>
  cases k with
  | zero => simp [kcells_cons]
  | succ k =>
   rw [kcells_cons, List.set_cons_succ, kcells_cons, ← ih k]
   rw [show (k + 1) * 2 = k * 2 + 1 + 1 by omega]
   simp
theorem kcells_at (ds : List Nat) : ∀ k (h : k < ds.length), (kcells ds)[k * 2]? = some (.int .i64 (ds[k] : Int)) ∧ (kcells ds)[k * 2 + 1]? = some (.slice none 0 0) := by
 induction ds with
 | nil => intro k h; simp at h
 | cons x r ih =>
  intro k h
  cases k with
  | zero => exact ⟨rfl, rfl⟩
  | succ k =>
   obtain ⟨a, b⟩ := ih k (by simpa using h)
   rw [kcells_cons, show (k + 1) * 2 = k * 2 + 1 + 1 by omega, show k * 2 + 1 + 1 + 1 = (k * 2 + 1) + 1 + 1 by omega]
   simp only [List.cons_append, List.nil_append, List.getElem?_cons_succ, List.getElem_cons_succ]
   exact ⟨a, b⟩
theorem made_keeps (n : Nat) : (madeCells #[.int .i64 0, .slice none 0 0] (n * 2)).toList = kcells (List.replicate n 0) := by
 refine List.ext_getElem? fun j => ?_
 have hl : (kcells (List.replicate n 0)).length = n * 2 := by rw [kcells_len]; simp
 by_cases hj : j < n * 2
 ·have e1 : (madeCells #[.int .i64 0, .slice none 0 0] (n * 2)).toList[j]? = some (#[Value.int .i64 0, .slice none 0 0][j % 2]!) := by
    unfold madeCells
    simp [hj]
  rw [e1]
  obtain ⟨a, b⟩ := kcells_at (List.replicate n 0) (j / 2) (by simp; omega)
  rcases Nat.mod_two_eq_zero_or_one j with h | h
  ·rw [h, show j = j / 2 * 2 by omega, a]; simp
  ·rw [h]
   conv => rhs; rw [show j = j / 2 * 2 + 1 by omega]
   rw [b]; simp
 ·rw [List.getElem?_eq_none (by rw [Array.length_toList, size_madeCells]; omega), List.getElem?_eq_none (by omega)]
def Ks (B : Nat) (w : World) (v : Value) (ds : List Nat) : Prop := w.ownsRow B 88 2 v ds.length (kcells ds)
theorem Ks.kp {B : Nat} {w : World} {v : Value} {ds : List Nat} (h : Ks B w v ds) (hd : ∀ d ∈ ds, d ≤ 16777216) : Kp (fun k => B ≤ k ∧ k < w.heap.size) w v (keps ds) := by
 have h0 := h
 have hl : (keps ds).length = ds.length := by simp [keps]
 rcases h.2 with ⟨rfl, e⟩ | ⟨g, cap, cur, rfl, hg, hh, a, b, _⟩
 ·have : ds = [] := List.length_eq_zero_iff.1 e
  subst this
  exact ⟨none, 0, rfl, Nat.le_refl _, by decide, fun i hi => by simp [keps] at hi⟩
 ·refine ⟨_, cap, by rw [hl], by rw [hl]; exact a, b, fun i hi => ?_⟩
  rw [hl] at hi
  have e1 : (keps ds)[i]'(by rw [hl]; exact hi) = ((ds[i] : Int), []) := by simp [keps]
  rw [e1]
  obtain ⟨c0, c1⟩ := kcells_at ds i hi
  have q0 := World.ownsRow.cells h0 (g := g) rfl (i * 2) _ c0
  have q1 := World.ownsRow.cells h0 (g := g) rfl (i * 2 + 1) _ c1
  rw [addr_add] at q0 q1
  have := hd ds[i] (List.getElem_mem hi)
  exact ⟨g, 0, .slice none 0 0, rfl, ⟨hg, heap_lt hh⟩, q0, q1, Sl.nil _, fun b off n c e => by simp at e, by dsimp only; omega, by dsimp only; omega⟩
theorem kp_mono {Z Z' : Nat → Prop} {w : World} {v : Value} {ks : List Kep} (h : Kp Z w v ks) (hz : ∀ k, Z k → Z' k) : Kp Z' w v ks := by
 obtain ⟨ao, cap, e, h1, h2, h3⟩ := h
 refine ⟨ao, cap, e, h1, h2, fun i hi => ?_⟩
 obtain ⟨b, off, vj, e1, z, c1, c2, sl, si, m0, m1⟩ := h3 i hi
 exact ⟨b, off, vj, e1, hz b z, c1, c2, sl, fun b' o n c e z => hz b' (si b' o n c e z), m0, m1⟩
theorem owns_belowN {w w' : World} {B : Nat} {T : TypeId} {size : Nat} {v : Value} {n : Nat} {xs : List Value} (h : w.ownsRow B T size v n xs) (hb : Below w.heap.size w w') : w'.ownsRow B T size v n xs :=
 ⟨h.1, h.2.imp id fun ⟨g, cap, cur, e, hg, hh, r⟩ => ⟨g, cap, cur, e, hg, (hb.block g (heap_lt hh)).trans hh, r⟩⟩
theorem rest_set (D : List Nat) (k : Nat) (h : k < D.length) : (List.replicate (k + 1) 0 ++ D.drop (k + 1)).set k D[k] = List.replicate k 0 ++ D.drop k := by
 rw [List.replicate_succ', List.append_assoc, List.set_append_right _ _ (by simp)]
 rw [List.length_replicate, Nat.sub_self, List.singleton_append, List.set_cons_zero, ← List.drop_eq_getElem_cons h]
theorem apart_any (w : World) (v : Value) (L : Tls) (i : Nat) (hv : Tr w v L) (hs : ∀ e ∈ L, e.2 ≤ 16777216) (hi : i < prodT L) (hm : i < 1099511627776) (hl : L.length ≤ 1000000000) :
    Calls Tryz.prog 88 #[v, .int .i64 (i : Int)] w fun e w' => ∃ v', e = .returned v' ∧ Ks w.heap.size w' v' (digs L i) ∧ Below w.heap.size w w' := by
 obtain ⟨ao, ca, rfl, q1, q2, q3⟩ := hv
 obtain ⟨N, hN⟩ : ∃ N, Hid (L.length = N) := ⟨_, rfl⟩
 rw [hN.out] at q1 hl ⊢
 replace q3 := hide q3
 replace hs := hide hs
 have hD : Hid ((digs L i).length = N) := by show _ = _; rw [digs_len, hN.out]
 obtain ⟨i0, hi0, hz0, hz1, hz2⟩ := info_parts infoKeep
 go_enter Tryz.func88, Tryz.ntmps88
 go_wp2_with (at_make; refine wpList_make_full w rfl _ _ 32 rfl w.heap.size 88 i0 (.agg #[.int .i64 0, .slice none 0 0]) 2 Tryz.underlying32 hi0 hz0 hz1 .i64 .i64 _ _ N rfl rfl rfl rfl (by rw [hz2]; omega) (by unfold maxLen; omega) (Nat.le_refl _) ?_)
 intro w1 ho1 hg1
 have hb1 : Hid (Below w.heap.size w w1) := (Below.refl _ _).grown hg1 (Nat.le_refl _) (fun k hk => by simp at hk)
 rw [made_keeps] at ho1
 replace ho1 := hide ho1
 clear hg1 hi0 hz0 hz1 hz2
 go_wp2_with fail
 go_loopw [1, 6] (fun vi v6 wr => ∃ k x : Nat, k ≤ N ∧ v6 = .int .i64 ((k : Int) - 1) ∧ vi = .int .i64 (x : Int) ∧ x < 1099511627776 ∧ Hid (x = i / prodT (L.drop k)) ∧ Hid (wr.ownsRow w.heap.size 88 2 (.slice (some ⟨w.heap.size, 0, none⟩) N N) N (kcells (List.replicate k 0 ++ (digs L i).drop k))) ∧ Hid (Below w.heap.size w wr)) (fun _ v6 _ => ((intOf v6) + 1).toNat)
 case atStart =>
  refine ⟨N, i, Nat.le_refl _, by go_num, rfl, hm, ?_, ?_, hb1⟩
  ·show _ = _
   rw [List.drop_of_length_le (by rw [hN.out]; exact Nat.le_refl _)]; simp [prodT]
  ·rw [List.drop_of_length_le (by rw [hD.out]; exact Nat.le_refl _), List.append_nil]; exact ho1
 case round =>
  obtain ⟨k1, x, hk, rfl, rfl, hx, ex, hO, hB⟩ := hrel
  cases k1 with
  | zero =>
   go_wp2_with fail
   go_ret
   refine ⟨_, rfl, ?_, hB.out⟩
   have := hO.out
   simp only [List.replicate_zero, List.nil_append, List.drop_zero] at this
   unfold Ks
   rw [hD.out]
   exact this
  | succ k =>
   have i1 : ((k + 1 : Nat) : Int) - 1 = (k : Int) := by omega
   rw [i1]
   have i2 : (k : Int) < (N : Int) := by omega
   have hkl : k < L.length := by rw [hN.out]; omega
   obtain ⟨gb, off, rfl, c0, c1⟩ := q3.out k hkl
   have KC : Hid (∀ q, Below w.heap.size w q → q.cell? ⟨gb, off + k * 2, none⟩ = some (.string (bsOf L[k].1)) ∧ q.cell? ⟨gb, off + k * 2 + 1, none⟩ = some (.int .i64 (L[k].2 : Int))) := fun q hq => ⟨by rw [hq.cell (lt_of_cell c0)]; exact c0, by rw [hq.cell (lt_of_cell c1)]; exact c1⟩
   clear c0 c1
   obtain ⟨c0, c1⟩ := KC.out wr hB.out
   have hn := hs.out L[k] (List.getElem_mem hkl)
   have hdk : Hid (∀ h, (digs L i)[k]'h = x % (L[k].2 + 1)) := fun h => by
    have := digs_at L i k hi hkl
    rw [List.getElem?_eq_getElem (by rw [hD.out]; omega)] at this
    rw [ex.out]
    exact Option.some.inj this
   have hnx : Hid (x / (L[k].2 + 1) = i / prodT (L.drop k)) := by
    show _ = _
    rw [ex.out, List.drop_eq_getElem_cons hkl, prodT, Nat.div_div_eq_div_mul, Nat.mul_comm]
   generalize L[k].2 = n at *
   generalize bsOf L[k].1 = s at *
   obtain ⟨d, hd⟩ : ∃ d, Hid (x % (n + 1) = d) := ⟨_, rfl⟩
   obtain ⟨y, hy⟩ : ∃ y, Hid (x / (n + 1) = y) := ⟨_, rfl⟩
   rw [hd.out] at hdk
   rw [hy.out] at hnx
   have t1 : (x : Int).tmod ((n : Int) + 1) = (d : Int) := by rw [Int.tmod_eq_emod_of_nonneg (by omega), ← hd.out]; exact (Int.natCast_emod x (n + 1)).symm
   have t2 : (x : Int).tdiv ((n : Int) + 1) = (y : Int) := by rw [Int.tdiv_eq_ediv_of_nonneg (by omega), ← hy.out]; exact (Int.natCast_ediv x (n + 1)).symm
   have t3 : d ≤ 16777216 := by have := Nat.mod_lt x (show 0 < n + 1 by omega); rw [hd.out] at this; omega
   have t4 : y < 1099511627776 := by have := Nat.div_le_self x (n + 1); rw [hy.out] at this; omega
   have hst : Hid (kcells (List.replicate k 0 ++ (digs L i).drop k) = (kcells (List.replicate (k + 1) 0 ++ (digs L i).drop (k + 1))).set (k * 2) (.int .i64 (d : Int))) := by
    show _ = _
    rw [kcells_set, ← hdk.out (by rw [hD.out]; omega), rest_set]
   have KO : Hid (∀ q, Below wr.heap.size wr q → (∃ v0, q.cell? ⟨w.heap.size, k * 2, none⟩ = some v0) ∧ q.frozen? ⟨w.heap.size, k * 2, none⟩ = false ∧ (q.setCell ⟨w.heap.size, k * 2, none⟩ (.int .i64 (d : Int))).ownsRow w.heap.size 88 2 (.slice (some ⟨w.heap.size, 0, none⟩) N N) N (kcells (List.replicate k 0 ++ (digs L i).drop k)) ∧ Below w.heap.size w (q.setCell ⟨w.heap.size, k * 2, none⟩ (.int .i64 (d : Int)))) := fun q hq => by
    have o1 := owns_belowN hO.out hq
    refine ⟨?_, o1.frozenAt _, ?_, (hB.out.trans (hq.mono hB.out.size)).setCell (Nat.le_refl _) _⟩
    ·refine Option.isSome_iff_exists.1 ?_
     rw [o1.cellAt (k * 2) (by omega)]
     have := kcells_len (List.replicate (k + 1) 0 ++ (digs L i).drop (k + 1))
     have h2 := hD.out
     simp at this
     simp; omega
    ·rw [hst.out]
     exact (o1.stored (k * 2) _).1
   clear hO hk
   go_wp2_with (first
    | (go_at_call 113; refine (base_any wr s n hn).mono ?_; rintro e w2 ⟨rfl, b2⟩; obtain ⟨⟨v0, k0⟩, k1, k2, k3⟩ := KO.out w2 b2; obtain ⟨d0, d1⟩ := KC.out _ k3; replace k2 := hide k2; replace k3 := hide k3; replace b2 := hide b2)
    | (go_at_call 113; refine (base_any _ s n hn).mono ?_; rintro e w3 ⟨rfl, b3⟩; replace b3 := hide b3)
    | fail)
   go_roundw
   case rel => exact ⟨k, y, by omega, by go_num, rfl, t4, hnx.out.symm ▸ rfl, hide (owns_belowN k2.out b3.out), k3.out.trans (b3.out.mono k3.out.size)⟩
   case measure => simp [intOf]
end Go.Proofs.YtjehpijjneghpaaGreat.Dk
namespace Go.Proofs.YtjehpijjneghpaaGreat.Re
open Go.RowKit Go.Maps Go.Sort Go.Shelf Go.Proofs.YtjehpijjneghpaaGreat.Nm Go.Proofs.YtjehpijjneghpaaGreat.Dk
theorem bs_eq (n : List UInt8) (s : ByteArray) : bsOf n = s ↔ n = s.data.toList := by
 constructor
 ·rintro rfl; rfl
 ·intro e
  subst e
  rfl
theorem str_ne {n : List UInt8} {s : ByteArray} (h : n ≠ s.data.toList) : ((bsOf n).toList == s.toList) = false := by
 rw [ByteArray.toList_eq, ByteArray.toList_eq, bsOf_list]
 simpa using h
def findN (L : Dr) (n : List UInt8) : Int := match get L n with | some p => (p : Int) | none => -1
theorem get_take {L : Dr} {n : List UInt8} {k : Nat} (hk : k < L.length) (h : ∀ j (hj : j < k), (L[j]'(by omega)).1 ≠ n) (e : L[k].1 = n) : get L n = some L[k].2 := by
 unfold Dk.get
 have : L.find? (fun p => p.1 == n) = some L[k] := by
  rw [List.find?_eq_some_iff_getElem]
  refine ⟨by simp [e], k, hk, rfl, fun j hj => ?_⟩
  simpa using h j hj
 rw [this]
 rfl
theorem get_none_of {L : Dr} {n : List UInt8} (h : ∀ j (hj : j < L.length), (L[j]).1 ≠ n) : get L n = none := by
 unfold Dk.get
 have : L.find? (fun p => p.1 == n) = none := by
  rw [List.find?_eq_none]
  intro x hx
  obtain ⟨j, hj, rfl⟩ := List.getElem_of_mem hx
  simpa using h j hj
 rw [this]
 rfl
theorem find_ref (w : World) (v : Value) (L : Dr) (s : ByteArray) (hv : Tr w v L) :
    Calls Tryz.prog 96 #[v, .string s] w fun e w' => e = .returned (.int .i64 (findN L s.data.toList)) ∧ w' = w := by
 obtain ⟨R, hR⟩ : ∃ R, Hid (findN L s.data.toList = R) := ⟨_, rfl⟩
 rw [hR.out]
 obtain ⟨ao, ca, rfl, q1, q2, q3⟩ := hv
 obtain ⟨N, hN⟩ : ∃ N, Hid (L.length = N) := ⟨_, rfl⟩
 rw [hN.out] at q1 ⊢
 replace q3 := hide q3
 go_enter Tryz.func96, Tryz.ntmps96
 go_wp2_with fail
 go_loopw [5] (fun i wr => ∃ k : Nat, i = .int .i64 k ∧ k ≤ N ∧ Hid (∀ j (hj : j < L.length), j < k → (L[j]).1 ≠ s.data.toList) ∧ wr = w) (fun i _ => N - (intOf i).toNat)
 case atStart => exact ⟨0, rfl, Nat.zero_le _, fun j hj c => absurd c (by omega), rfl⟩
 case round =>
  obtain ⟨k, rfl, hk, hno, rfl⟩ := hrel
  by_cases hlt : k < N
  ·have i1 : (k : Int) < (N : Int) := by omega
   have hkl : k < L.length := by rw [hN.out]; exact hlt
   obtain ⟨gb, off, rfl, c0, c1⟩ := q3.out k hkl
   have hb := bs_eq L[k].1 s
   by_cases he : bsOf L[k].1 = s
   ·have hg : Hid (R = (L[k].2 : Int)) := by
      show _ = _
      rw [← hR.out, findN, get_take hkl (fun j hj => hno.out j (by omega) hj) (hb.1 he)]
    rw [he] at c0
    go_wp2_with fail
    go_ret
    rw [hg.out]
    exact ⟨rfl, rfl⟩
   ·have he2 : L[k].1 ≠ s.data.toList := fun c => he (hb.2 c)
    have h2 : Hid (∀ j (hj : j < L.length), j < k + 1 → (L[j]).1 ≠ s.data.toList) := fun j hj c => by
     by_cases e : j = k
     ·subst e; exact he2
     ·exact hno.out j hj (by omega)
    have hq : ((bsOf L[k].1).toList == s.toList) = false := str_ne he2
    clear hb
    generalize bsOf L[k].1 = t at *
    go_wp2_with fail
    exact ⟨⟨k + 1, by go_num, by omega, h2, trivial⟩, by simp [intOf]; omega⟩
  ·have hg : Hid (R = -1) := by
     show _ = _
     rw [← hR.out, findN, get_none_of (fun j hj => hno.out j hj (by have := hN.out; omega))]
   go_wp2_with fail
   go_ret
   rw [hg.out]
   exact ⟨rfl, rfl⟩
def En (B : Nat) (w : World) (v : Value) (L : Dr) : Prop := w.ownsRow B 142 2 v L.length (tcells L)
theorem infoEn : (Tryz.prog.info? 142).map (fun i => (i.zero, i.size, i.bytes)) = some (some (.agg #[.string ⟨#[]⟩, .int .i64 0]), 2, 24) := by kernel_rfl
theorem En.nil (B : Nat) (w : World) : En B w (.slice none 0 0) [] := World.ownsRow_nil _ _ _ _
theorem En.tr {B : Nat} {w : World} {v : Value} {L : Dr} (h : En B w v L) : Tr w v L := by
 have h0 := h
 rcases h.2 with ⟨rfl, e⟩ | ⟨g, cap, cur, rfl, _, _, a, b, _⟩
 ·have : L = [] := List.length_eq_zero_iff.1 e
  subst this
  exact ⟨none, 0, rfl, Nat.le_refl _, by omega, fun i hi => by simp at hi⟩
 ·refine ⟨_, _, rfl, a, by unfold maxLen at b; omega, fun i hi => ⟨g, 0, rfl, ?_, ?_⟩⟩
  ·have := World.ownsRow.cells h0 (g := g) rfl (i * 2) _ (tcells_at L i hi).1
   rw [addr_add] at this
   exact this
  ·have := World.ownsRow.cells h0 (g := g) rfl (i * 2 + 1) _ (tcells_at L i hi).2
   rw [addr_add] at this
   exact this
theorem En.below {B : Nat} {w w' : World} {v : Value} {L : Dr} (h : En B w v L) (hb : Below w.heap.size w w') : En B w' v L := owns_belowN h hb
theorem ddel_take_keep {L : Dr} {n : List UInt8} {k : Nat} (hk : k < L.length) (e : L[k].1 ≠ n) : ddel (L.take (k + 1)) n = ddel (L.take k) n ++ [L[k]] := by
 unfold ddel
 rw [List.take_succ_eq_append_getElem hk, List.filter_append]
 simp [e]
theorem ddel_take_drop {L : Dr} {n : List UInt8} {k : Nat} (hk : k < L.length) (e : L[k].1 = n) : ddel (L.take (k + 1)) n = ddel (L.take k) n := by
 unfold ddel
 rw [List.take_succ_eq_append_getElem hk, List.filter_append]
 simp [e]
theorem ddel_len (L : Dr) (n : List UInt8) : (ddel L n).length ≤ L.length := List.length_filter_le _ _
theorem one_entry (w : World) (s : ByteArray) (n : Int) (t : TypeId) : ∀ j u, ([Value.string s, .int .i64 n] : List Value)[j]? = some u → (w.alloc (.cells #[.string s, .int .i64 n] t)).cell? ((⟨w.heap.size, 0, none⟩ : Addr).add j) = some u := by
 intro j u hu
 rw [addr_add]
 match j with
 | 0 => simp at hu; subst hu; simp only [World.cell?, heap_alloc_new]; rfl
 | 1 => simp at hu; subst hu; simp only [World.cell?, heap_alloc_new]; rfl
 | j + 2 => simp at hu
theorem without_ref (w : World) (v : Value) (L : Dr) (s : ByteArray) (hv : Tr w v L) (hl : (L.length : Int) ≤ 1000000000) :
    Calls Tryz.prog 122 #[v, .string s] w fun e w' => ∃ v', e = .returned v' ∧ En w.heap.size w' v' (ddel L s.data.toList) ∧ Below w.heap.size w w' := by
 obtain ⟨ao, ca, rfl, q1, q2, q3⟩ := hv
 obtain ⟨N, hN⟩ : ∃ N, Hid (L.length = N) := ⟨_, rfl⟩
 rw [hN.out] at q1 hl ⊢
 replace q3 := hide q3
 replace hl := hide hl
 obtain ⟨i0, hi, hz0, hz1, hz2⟩ := info_parts infoEn
 replace hi := hide hi
 go_enter Tryz.func122, Tryz.ntmps122
 go_wp2_with fail
 go_loopw [5, 6] (fun v5 i wr => ∃ k : Nat, i = .int .i64 k ∧ k ≤ N ∧ Hid (En w.heap.size wr v5 (ddel (L.take k) s.data.toList)) ∧ Hid (Below w.heap.size w wr)) (fun _ i _ => N - (intOf i).toNat)
 case atStart => exact ⟨0, rfl, Nat.zero_le _, En.nil _ _, Below.refl _ _⟩
 case round =>
  obtain ⟨k, rfl, hk, hO, hB⟩ := hrel
  by_cases hlt : k < N
  ·have i1 : (k : Int) < (N : Int) := by omega
   have hkl : k < L.length := by rw [hN.out]; exact hlt
   obtain ⟨gb, off, rfl, c0, c1⟩ := q3.out k hkl
   rw [← hB.out.cell (p := ⟨gb, off + k * 2, none⟩) (lt_of_cell c0)] at c0
   rw [← hB.out.cell (p := ⟨gb, off + k * 2 + 1, none⟩) (lt_of_cell c1)] at c1
   have hb := bs_eq L[k].1 s
   by_cases he : bsOf L[k].1 = s
   ·have hg := hide (ddel_take_drop hkl (hb.1 he))
    rw [he] at c0
    go_wp2_with fail
    exact ⟨⟨k + 1, by go_num, by omega, by rw [hg.out]; exact hO, hB⟩, by simp [intOf]; omega⟩
   ·have hg := hide (ddel_take_keep hkl (fun c => he (hb.2 c)))
    have hll : Hid ((ddel (L.take k) s.data.toList).length ≤ k) := by have := ddel_len (L.take k) s.data.toList; rw [List.length_take] at this; show _ ≤ _; omega
    have hte : Hid (tcells [L[k]] = [.string (bsOf L[k].1), .int .i64 (L[k].2 : Int)]) := rfl
    have hq : ((bsOf L[k].1).toList == s.toList) = false := str_ne (fun c => he (hb.2 c))
    clear hb
    generalize bsOf L[k].1 = t at *
    generalize (L[k].2 : Int) = fn at *
    generalize L[k] = lk at *
    obtain ⟨D, hD⟩ : ∃ D, Hid (ddel (L.take k) s.data.toList = D) := ⟨_, rfl⟩
    rw [hD.out] at hO hg hll
    have B5 := hide (hB.out.trans ((box_below wr (.cells #[.string t, .int .i64 fn] 142)).mono hB.out.size))
    have O5 := hide (hO.out.below (box_below wr (.cells #[.string t, .int .i64 fn] 142)))
    have hz := hide B5.out.size
    go_wp2_with (at_builtin; refine wpList_append_lies _ rfl (.tmp 20) (.tmp 25) 100 rfl w.heap.size 142 i0 (.agg #[.string ⟨#[]⟩, .int .i64 0]) 2 24 Tryz.underlying100 hi.out hz0 hz1 hz2 rfl (by decide) u5 D.length (tcells D) rfl O5.out ⟨wr.heap.size, 0, none⟩ 1 1 [.string t, .int .i64 fn] rfl rfl (one_entry wr t fn _) (by simp [Value.oneCell']) (by decide) (by have := hll.out; have := hl.out; unfold maxLen; omega) (by have := hll.out; have := hl.out; omega) hz.out (wr.heap.size + 1) (by simp) ?_; intro g2 cap2 w5 ho5 hg5 hat hlt5; replace ho5 := hide ho5; replace hg5 := hide hg5)
    refine ⟨⟨k + 1, by go_num, by omega, ?_, Below.grown B5.out hg5.out hz.out (fun j hj => (World.ownsRow.lt O5.out j hj).1)⟩, by simp [intOf]; omega⟩
    show En _ _ _ _
    unfold En
    rw [hg.out, List.length_append, show tcells (D ++ [lk]) = tcells D ++ tcells [lk] by simp [tcells], hte.out]
    exact ho5.out
  ·obtain rfl : k = N := by omega
   rw [List.take_of_length_le (by rw [hN.out]; omega)] at hO
   go_wp2_with fail
   go_ret
   exact ⟨_, rfl, hO.out, hB.out⟩
theorem less_before : ∀ (x y : List UInt8), Op.bytesLess x y = bytesBefore x y
 | [], [] => rfl
 | _ :: _, [] => rfl
 | [], _ :: _ => rfl
 | a :: x, b :: y => by rw [Op.bytesLess, bytesBefore, less_before x y]
theorem before_asym {x y : List UInt8} (h : bytesBefore x y = true) : bytesBefore y x = false := by
 by_cases c : bytesBefore y x = true
 ·have := Go.WideShapes.bytes_trans x y x h c
  rw [Go.WideAt.bytes_irrefl] at this
  cases this
 ·simpa using c
theorem dins_at (n : List UInt8) (p : Nat) : ∀ (D : Dr) (k : Nat), k ≤ D.length → (∀ j (hj : j < D.length), j < k → bytesBefore (D[j]).1 n = true) → (∀ hk : k < D.length, bytesBefore n (D[k]).1 = true) → dins (n, p) D = D.take k ++ (n, p) :: D.drop k := by
 intro D
 induction D with
 | nil => intro k hk _ _; simp at hk; subst hk; rfl
 | cons y r ih =>
  intro k hk h1 h2
  cases k with
  | zero =>
   have := h2 (by simp)
   simp only [List.getElem_cons_zero] at this
   simp [dins, this]
  | succ k =>
   have h0 := before_asym (h1 0 (by simp) (by omega))
   simp only [List.getElem_cons_zero] at h0
   have := ih k (by simpa using hk) (fun j hj hjk => h1 (j + 1) (by simp; omega) (by omega)) (fun hk' => h2 (by simp; omega))
   simp [dins, h0, this]
structure Er (w : World) (v : Value) (L : Dr) : Prop where
 tr : Tr w v L
 nl : ∀ n c, v = .slice none n c → n = 0 ∧ c = 0
theorem En.er {B : Nat} {w : World} {v : Value} {L : Dr} (h : En B w v L) : Er w v L := by
 refine ⟨h.tr, fun n c e => ?_⟩
 rcases h.2 with ⟨rfl, _⟩ | ⟨g, cap, cur, rfl, _⟩
 ·simp only [Value.slice.injEq] at e; omega
 ·simp at e
theorem Er.below {w w' : World} {v : Value} {L : Dr} (h : Er w v L) (hb : Below w.heap.size w w') : Er w' v L := ⟨h.tr.below hb, h.nl⟩
theorem run_appE {B : Nat} {w : World} {v vx : Value} {l m : Dr} (h : En B w v l) (hm : Er w vx m) (hl : ((l.length + m.length : Nat) : Int) ≤ 3000000000) (hB : B ≤ w.heap.size) (ty : TypeId) :
    ∃ v' w', (Builtin.append_ #[100, 100] ty #[v, vx]).run Tryz.prog w = .ok v' w' ∧ En B w' v' (l ++ m) ∧ w.grownBy w' v.ownBlock := by
 obtain ⟨i0, hi, hz0, hz1, hz2⟩ := info_parts infoEn
 obtain ⟨⟨ao, cap, rfl, h1, h2, h3⟩, hnl⟩ := hm
 cases ao with
 | none =>
  obtain ⟨e1, rfl⟩ := hnl _ _ rfl
  have : m = [] := List.length_eq_zero_iff.1 e1
  subst this
  refine ⟨v, w, ?_, by simpa using h, ⟨rfl, rfl, rfl, Nat.le_refl _, fun _ _ _ => rfl⟩⟩
  exact run_append_owned_none (P := Tryz.prog) (w := w) B 100 ty 142 i0 2 Tryz.underlying100 hi v l.length (tcells l) h
 | some ad =>
  have hcells : ∀ j u, (tcells m)[j]? = some u → w.cell? (ad.add j) = some u := by
   intro j u hu
   have hj : j < m.length * 2 := by
    have := (List.getElem?_eq_some_iff.1 hu).1
    rw [tcells_len] at this
    exact this
   obtain ⟨b, off, e1, c0, c1⟩ := h3 (j / 2) (by omega)
   obtain ⟨t0, t1⟩ := tcells_at m (j / 2) (by omega)
   simp only [Option.some.injEq] at e1
   subst e1
   rw [addr_add]
   rcases Nat.mod_two_eq_zero_or_one j with q | q
   ·rw [show j = j / 2 * 2 by omega] at hu ⊢
    rw [t0] at hu
    simp only [Option.some.injEq] at hu
    subst hu
    exact c0
   ·rw [show j = j / 2 * 2 + 1 by omega] at hu ⊢
    rw [t1] at hu
    simp only [Option.some.injEq] at hu
    subst hu
    rw [← Nat.add_assoc]
    exact c1
  obtain ⟨v', w', hr, ho, hg, _, hat⟩ := run_append_own_at (P := Tryz.prog) w B 100 ty 142 i0 (.agg #[.string ⟨#[]⟩, .int .i64 0]) 2 24 Tryz.underlying100 hi hz0 hz1 hz2 rfl (by decide) v l.length (tcells l) h ad m.length cap (tcells m) (tcells_len m) hcells (by
   intro u hu
   simp only [tcells, List.mem_flatten, List.mem_map] at hu
   obtain ⟨c, ⟨e, _, rfl⟩, hc⟩ := hu
   simp at hc
   rcases hc with rfl | rfl <;> rfl) (by unfold maxLen; omega) (by omega) hB
  refine ⟨v', w', hr, ?_, hg⟩
  unfold En
  rw [List.length_append, show tcells (l ++ m) = tcells l ++ tcells m by simp [tcells]]
  exact ho
theorem En.lt {B : Nat} {w : World} {v : Value} {L : Dr} (h : En B w v L) : ∀ k, v.ownBlock = some k → B ≤ k ∧ k < w.heap.size := fun k hk => World.ownsRow.lt h k hk
theorem En.form {B : Nat} {w : World} {v : Value} {L : Dr} (h : En B w v L) : (v = .slice none 0 0 ∧ L = []) ∨ ∃ g cap, v = .slice (some ⟨g, 0, none⟩) L.length cap ∧ L.length ≤ cap ∧ cap ≤ 9223372036854775807 := by
 rcases h.2 with ⟨rfl, e⟩ | ⟨g, cap, cur, rfl, _, _, a, b, _⟩
 ·exact .inl ⟨rfl, List.length_eq_zero_iff.1 e⟩
 ·exact .inr ⟨g, cap, rfl, a, by unfold maxLen at b; omega⟩
theorem Er.front {w : World} {g cap : Nat} {L : Dr} (h : Tr w (.slice (some ⟨g, 0, none⟩) L.length cap) L) {k : Nat} (hk : k ≤ L.length) : Er w (.slice (some ⟨g, 0, none⟩) k cap) (L.take k) := by
 obtain ⟨ao, ca, e, h1, h2, h3⟩ := h
 simp only [Value.slice.injEq] at e
 obtain ⟨rfl, _, rfl⟩ := e
 refine ⟨⟨_, _, by rw [List.length_take, Nat.min_eq_left hk], by rw [List.length_take]; omega, h2, fun i hi => ?_⟩, fun n c e => by simp at e⟩
 rw [List.length_take] at hi
 obtain ⟨b, off, e1, c0, c1⟩ := h3 i (by omega)
 rw [List.getElem_take]
 exact ⟨b, off, e1, c0, c1⟩
theorem Er.rest {w : World} {g cap : Nat} {L : Dr} (h : Tr w (.slice (some ⟨g, 0, none⟩) L.length cap) L) {k : Nat} (hk : k ≤ L.length) : Er w (.slice (some ⟨g, k * 2, none⟩) (L.length - k) (cap - k)) (L.drop k) := by
 obtain ⟨ao, ca, e, h1, h2, h3⟩ := h
 simp only [Value.slice.injEq] at e
 obtain ⟨rfl, _, rfl⟩ := e
 refine ⟨⟨_, _, by rw [List.length_drop], by rw [List.length_drop]; omega, by omega, fun i hi => ?_⟩, fun n c e => by simp at e⟩
 rw [List.length_drop] at hi
 obtain ⟨b, off, e1, c0, c1⟩ := h3 (k + i) (by omega)
 simp only [Option.some.injEq, Addr.mk.injEq] at e1
 obtain ⟨rfl, rfl, _⟩ := e1
 rw [List.getElem_drop]
 refine ⟨g, k * 2, rfl, ?_, ?_⟩
 ·rw [show k * 2 + i * 2 = 0 + (k + i) * 2 by omega]; exact c0
 ·rw [show k * 2 + i * 2 + 1 = 0 + (k + i) * 2 + 1 by omega]; exact c1
theorem mem_ddel_ne {L : Dr} {n : List UInt8} {j : Nat} (hj : j < (ddel L n).length) : ((ddel L n)[j]).1 ≠ n := by
 have := List.getElem_mem hj
 exact (mem_ddel this).2
theorem er_one (w : World) (s : ByteArray) (p : Nat) : Er (w.alloc (.cells #[.string s, .int .i64 (p : Int)] 142)) (.slice (some ⟨w.heap.size, 0, none⟩) 1 1) [(s.data.toList, p)] := by
 refine ⟨⟨_, 1, rfl, Nat.le_refl _, by omega, fun i hi => ?_⟩, fun n c e => by simp at e⟩
 obtain rfl : i = 0 := by simp at hi; omega
 refine ⟨w.heap.size, 0, rfl, ?_, ?_⟩
 ·simp only [World.cell?, heap_alloc_new]; rfl
 ·simp only [World.cell?, heap_alloc_new]; rfl
theorem with_ref (w : World) (v : Value) (L : Dr) (s : ByteArray) (p : Nat) (hv : Tr w v L) (hl : (L.length : Int) ≤ 1000000000) (hp : (p : Int) ≤ 9223372036854775807) :
    Calls Tryz.prog 123 #[v, .string s, .int .i64 (p : Int)] w fun e w' => ∃ v', e = .returned v' ∧ En w.heap.size w' v' (dput L s.data.toList p) ∧ Below w.heap.size w w' := by
 have hWo := without_ref w v L s hv hl
 have hne : Hid (∀ j (hj : j < (ddel L s.data.toList).length), ((ddel L s.data.toList)[j]).1 ≠ s.data.toList) := fun j hj => mem_ddel_ne hj
 have hdl : Hid (((ddel L s.data.toList).length : Int) ≤ 1000000000) := by have := ddel_len L s.data.toList; show _ ≤ _; omega
 unfold dput
 generalize ddel L s.data.toList = D at *
 obtain ⟨i0, hi, hz0, hz1, hz2⟩ := info_parts infoEn
 replace hi := hide hi
 clear hv hl
 have hWo2 : Calls Tryz.prog 122 #[v, .string s] w fun e w' => ∃ ao cap, e = .returned (.slice ao D.length cap) ∧ D.length ≤ cap ∧ cap ≤ 9223372036854775807 ∧ Hid (En w.heap.size w' (.slice ao D.length cap) D) ∧ Hid (Below w.heap.size w w') := by
  refine hWo.mono ?_
  rintro e w' ⟨v', rfl, hO, hb⟩
  rcases hO.form with ⟨rfl, e1⟩ | ⟨g, cap, rfl, k1, k2⟩
  ·subst e1; exact ⟨none, 0, rfl, Nat.le_refl _, by omega, hO, hb⟩
  ·exact ⟨_, cap, rfl, k1, k2, hO, hb⟩
 clear hWo
 obtain ⟨N, hN⟩ : ∃ N, Hid (D.length = N) := ⟨_, rfl⟩
 rw [hN.out] at hWo2 hdl
 go_enter Tryz.func123, Tryz.ntmps123
 go_upto_region 2 with (go_at_call 122; refine hWo2.mono ?_; rintro e w1 ⟨ao, cap, rfl, k1, k2, hO, b1⟩)
 clear hWo2
 have HT : Hid (Tr w1 (.slice ao N cap) D) := hO.out.tr
 have q3 : Hid (∀ i (h : i < D.length), ∃ b off, ao = some ⟨b, off, none⟩ ∧ w1.cell? ⟨b, off + i * 2, none⟩ = some (.string (bsOf D[i].1)) ∧ w1.cell? ⟨b, off + i * 2 + 1, none⟩ = some (.int .i64 (D[i].2 : Int))) := by
  obtain ⟨ao', ca', e, _, _, h3⟩ := HT.out
  simp only [Value.slice.injEq] at e
  obtain ⟨rfl, _, rfl⟩ := e
  exact h3
 go_wp2_with fail
 go_loopw [7] (fun i wr => ∃ k : Nat, i = .int .i64 k ∧ k ≤ N ∧ Hid (∀ j (hj : j < D.length), j < k → bytesBefore (D[j]).1 s.data.toList = true) ∧ wr = w1) (fun i _ => N - (intOf i).toNat)
 case atStart => exact ⟨0, rfl, Nat.zero_le _, fun j hj c => absurd c (by omega), rfl⟩
 case round =>
  obtain ⟨k, rfl, hk, hbf, rfl⟩ := hrel
  by_cases hgo : ∃ h : k < D.length, bytesBefore (D[k]).1 s.data.toList = true
  ·obtain ⟨hkl, hbk⟩ := hgo
   have hlt : k < N := by rw [← hN.out]; exact hkl
   have i1 : (k : Int) < (N : Int) := by omega
   obtain ⟨gb, off, rfl, c0, c1⟩ := q3.out k hkl
   have hq : Op.bytesLess (bsOf D[k].1).toList s.toList = true := by rw [ByteArray.toList_eq, ByteArray.toList_eq, less_before]; exact hbk
   have h2 : Hid (∀ j (hj : j < D.length), j < k + 1 → bytesBefore (D[j]).1 s.data.toList = true) := fun j hj c => by
    by_cases e : j = k
    ·subst e; exact hbk
    ·exact hbf.out j hj (by omega)
   generalize bsOf D[k].1 = t at *
   go_wp2_with fail
   go_roundw
   case rel => exact ⟨k + 1, by go_num, by omega, h2, trivial⟩
   case measure => simp [intOf]; omega
  ·have hEq : Hid (dins (s.data.toList, p) D = D.take k ++ (s.data.toList, p) :: D.drop k) := by
     refine dins_at _ _ D k (by rw [hN.out]; exact hk) hbf.out (fun hk' => ?_)
     rcases Go.WideAt.bytes_total _ _ (hne.out k hk') with c | c
     ·exact absurd ⟨hk', c⟩ hgo
     ·exact c
   have hdl2 := hdl.out
   have hDN := hN.out
   have LQ : Hid (∀ q : World, Below wr.heap.size wr q → Below w.heap.size w q) := fun q hq => b1.out.trans (hq.mono b1.out.size)
   have fin : Hid (∀ q v', En wr.heap.size q v' (D.take k ++ [(s.data.toList, p)] ++ D.drop k) → Below wr.heap.size wr q → En w.heap.size q v' (dins (s.data.toList, p) D) ∧ Below w.heap.size w q) := fun q v' hq hb => by
    rw [hEq.out]
    rw [List.append_assoc, List.singleton_append] at hq
    exact ⟨⟨hq.1, hq.2.imp id fun ⟨g, cap, cur, e, hg, r⟩ => ⟨g, cap, cur, e, Nat.le_trans b1.out.size hg, r⟩⟩, LQ.out q hb⟩
   have form := hO.out.form
   rw [hDN] at form
   rcases form with ⟨ev, hD0⟩ | ⟨g, cap', ev, _, _⟩
   ·simp only [Value.slice.injEq] at ev
    obtain ⟨rfl, _, rfl⟩ := ev
    subst hD0
    obtain rfl : k = 0 := by simp at hDN; omega
    have i1 : ¬ (((0 : Nat) : Int) < (N : Int)) := by simp at hDN; omega
    have hN0 : N = 0 := by simpa using hDN.symm
    subst hN0
    have B2 := box_below wr (.cells #[.string s, .int .i64 (p : Int)] 142)
    have E2 : Er (wr.alloc (.cells #[.string s, .int .i64 (p : Int)] 142)) (.slice (some ⟨wr.heap.size, 0, none⟩) 1 1) [(s.data.toList, p)] := er_one wr s p
    obtain ⟨v4, w4, r4, Q4, G4⟩ := run_appE (En.nil wr.heap.size _) E2 (by simp) B2.size 100
    have X4 : Below wr.heap.size wr w4 := B2.grown G4 B2.size (fun k hk => by simp [Value.ownBlock] at hk)
    rw [List.nil_append] at Q4
    have fin2 := hide (fin.out w4 v4 (by simpa using Q4) X4)
    have r2 : Hid ((Builtin.append_ #[100, 100] 100 #[.slice none 0 0, .slice none 0 0]).run Tryz.prog wr = .ok (.slice none 0 0) wr) := run_append_owned_none (P := Tryz.prog) (w := wr) wr.heap.size 100 100 142 i0 2 Tryz.underlying100 hi.out (.slice none 0 0) 0 [] (World.ownsRow_nil _ _ _ _)
    have r5 : Hid ((Builtin.append_ #[100, 100] 100 #[v4, .slice none 0 0]).run Tryz.prog w4 = .ok v4 w4) := run_append_owned_none (P := Tryz.prog) (w := w4) wr.heap.size 100 100 142 i0 2 Tryz.underlying100 hi.out v4 _ _ Q4
    clear Q4 G4 X4 B2 E2 LQ fin
    replace r4 := hide r4
    go_wp2_with (first
        | (at_builtin; refine Lib.wpList_append_run _ rfl (.const (.slice none 0 0)) (.tmp 29) 100 100 rfl _ _ rfl rfl _ _ r2.out ?_)
        | (at_builtin; refine Lib.wpList_append_run _ rfl (.tmp 31) (.tmp 35) 100 100 rfl _ _ rfl rfl _ _ r4.out ?_)
        | (at_builtin; refine Lib.wpList_append_run _ rfl (.tmp 37) (.tmp 40) 100 100 rfl _ _ rfl rfl _ _ r5.out ?_)
        | fail)
    go_ret
    exact ⟨_, rfl, fin2.out.1, fin2.out.2⟩
   ·simp only [Value.slice.injEq] at ev
    obtain ⟨rfl, _, rfl⟩ := ev
    have HTr := HT.out
    rw [← hDN] at HTr
    have EF := Er.front HTr (k := k) (by omega)
    have ER := Er.rest HTr (k := k) (by omega)
    rw [hDN] at ER
    obtain ⟨v2, w2, r2, Q2, G2⟩ := run_appE (En.nil wr.heap.size wr) EF (by simp; omega) (Nat.le_refl _) 100
    rw [List.nil_append] at Q2
    have X2 : Below wr.heap.size wr w2 := (Below.refl _ _).grown G2 (Nat.le_refl _) (fun k hk => by simp [Value.ownBlock] at hk)
    have B3 := box_below w2 (.cells #[.string s, .int .i64 (p : Int)] 142)
    have X3 := X2.trans (B3.mono X2.size)
    obtain ⟨v4, w4, r4, Q4, G4⟩ := run_appE (Q2.below B3) (er_one w2 s p) (by simp; omega) X3.size 100
    have X4 : Below wr.heap.size wr w4 := X3.grown G4 X3.size (fun k hk => (Q2.lt k hk).1)
    clear HTr EF G2 Q2 X2 B3 X3 G4
    replace r2 := hide r2
    replace r4 := hide r4
    by_cases hkl : k < D.length
    ·obtain ⟨v5, w5, r5, Q5, G5⟩ := run_appE Q4 (ER.below (X4.mono (Nat.le_refl _))) (by simp; omega) X4.size 100
     have X5 : Below wr.heap.size wr w5 := X4.grown G5 X4.size (fun k hk => (Q4.lt k hk).1)
     have fin2 := hide (fin.out w5 v5 Q5 X5)
     clear Q4 X4 Q5 G5 X5 ER LQ fin
     replace r5 := hide r5
     have hlt : k < N := by omega
     have i1 : (k : Int) < (N : Int) := by omega
     obtain ⟨gb, off, e, c0, c1⟩ := q3.out k hkl
     simp only [Option.some.injEq, Addr.mk.injEq] at e
     obtain ⟨rfl, rfl, _⟩ := e
     rw [Nat.zero_add] at c0 c1
     have hq : Op.bytesLess (bsOf D[k].1).toList s.toList = false := by
      rw [ByteArray.toList_eq, ByteArray.toList_eq, less_before]
      by_cases c : bytesBefore D[k].1 s.data.toList = true
      ·exact absurd ⟨hkl, c⟩ hgo
      ·have c2 : bytesBefore D[k].1 s.data.toList = false := by simpa using c
       exact c2
     generalize bsOf D[k].1 = t at *
     go_wp2_with (first
      | (at_builtin; refine Lib.wpList_append_run _ rfl (.const (.slice none 0 0)) (.tmp 29) 100 100 rfl _ _ rfl rfl _ _ r2.out ?_)
      | (at_builtin; refine Lib.wpList_append_run _ rfl (.tmp 31) (.tmp 35) 100 100 rfl _ _ rfl rfl _ _ r4.out ?_)
      | (at_builtin; refine Lib.wpList_append_run _ rfl (.tmp 37) (.tmp 40) 100 100 rfl _ _ rfl rfl _ _ r5.out ?_)
      | fail)
     go_ret
     exact ⟨_, rfl, fin2.out.1, fin2.out.2⟩
    ·obtain rfl : k = N := by omega
     have i1 : ¬ ((k : Int) < (k : Int)) := by omega
     have hdr : D.drop k = [] := List.drop_of_length_le (by omega)
     have E5 : Er w4 (.slice (if cap = k then some ⟨g, 0, none⟩ else some ⟨g, k * 2, none⟩) 0 (cap - k)) (D.drop k) := by
      rw [hdr]
      split
      ·exact ⟨⟨_, _, rfl, Nat.zero_le _, by omega, fun i hi => by simp at hi⟩, fun n c e => by simp at e⟩
      ·exact ⟨⟨_, _, rfl, Nat.zero_le _, by omega, fun i hi => by simp at hi⟩, fun n c e => by simp at e⟩
     obtain ⟨v5, w5, r5, Q5, G5⟩ := run_appE Q4 E5 (by simp; omega) X4.size 100
     have X5 : Below wr.heap.size wr w5 := X4.grown G5 X4.size (fun k hk => (Q4.lt k hk).1)
     have fin2 := hide (fin.out w5 v5 Q5 X5)
     clear Q4 X4 Q5 G5 X5 ER LQ fin E5 hdr
     replace r5 := hide r5
     go_wp2_with (first
      | (at_builtin; refine Lib.wpList_append_run _ rfl (.const (.slice none 0 0)) (.tmp 29) 100 100 rfl _ _ rfl rfl _ _ r2.out ?_)
      | (at_builtin; refine Lib.wpList_append_run _ rfl (.tmp 31) (.tmp 35) 100 100 rfl _ _ rfl rfl _ _ r4.out ?_)
      | (at_builtin; refine Lib.wpList_append_run _ rfl (.tmp 37) (.tmp 40) 100 100 rfl _ _ rfl rfl _ _ r5.out ?_)
      | fail)
     all_goals
      go_ret
      exact ⟨_, rfl, fin2.out.1, fin2.out.2⟩
structure RC where
 tn : ByteArray
 fi : Int
 fr : ByteArray
def RC.v (c : RC) : Value := .agg #[.string c.tn, .int .i64 c.fi, .string c.fr]
def RC.one (c : RC) (L : Dr) : Dr := if c.fr.data.toList = [] then L else ddel L c.fr.data.toList
def RC.run (c : RC) (L : Dr) : Dr := if 0 ≤ c.fi then dput (c.one L) c.tn.data.toList c.fi.toNat else c.one L
theorem dput_len (L : Dr) (n : List UInt8) (p : Nat) : (dput L n p).length ≤ L.length + 1 := by
 unfold dput
 rw [dins_len]
 have := ddel_len L n
 omega
theorem RC.one_len (c : RC) (L : Dr) : (c.one L).length ≤ L.length := by
 unfold RC.one
 split
 ·exact Nat.le_refl _
 ·exact ddel_len _ _
theorem RC.run_len (c : RC) (L : Dr) : (c.run L).length ≤ L.length + 1 := by
 have := c.one_len L
 unfold RC.run
 split
 ·have := dput_len (c.one L) c.tn.data.toList c.fi.toNat; omega
 ·omega
theorem str_nil (s : ByteArray) (h : s.data.toList = []) : (s.toList == ([] : List UInt8)) = true := by rw [ByteArray.toList_eq, h]; rfl
theorem str_some (s : ByteArray) (h : s.data.toList ≠ []) : (s.toList == ([] : List UInt8)) = false := by rw [ByteArray.toList_eq]; simpa using h
def Ans (B : Nat) (w : World) (v0 v : Value) (L0 L : Dr) : Prop := En B w v L ∨ (v = v0 ∧ L = L0)
theorem owns_lower2 {w : World} {B B' : Nat} {v : Value} {L : Dr} (h : En B w v L) (hb : B' ≤ B) : En B' w v L :=
 ⟨h.1, h.2.imp id fun ⟨g, cap, cur, e, hg, r⟩ => ⟨g, cap, cur, e, Nat.le_trans hb hg, r⟩⟩
theorem changed_ref (w : World) (v : Value) (L : Dr) (c : RC) (hv : Er w v L) (hl : (L.length : Int) ≤ 1000000000) (h0 : -9223372036854775808 ≤ c.fi) (h1 : c.fi ≤ 9223372036854775807) :
    Calls Tryz.prog 114 #[v, c.v] w fun e w' => ∃ v', e = .returned v' ∧ Ans w.heap.size w' v v' L (c.run L) ∧ Below w.heap.size w w' := by
 obtain ⟨tn, fi, fr⟩ := c
 dsimp only [RC.v] at *
 have B0 := hide (box_below w (.cells #[.string tn, .int .i64 fi, .string fr] 155))
 have N0 := hide (heap_alloc_new w (.cells #[.string tn, .int .i64 fi, .string fr] 155))
 obtain ⟨u, hu⟩ : ∃ u, Hid (w.alloc (.cells #[.string tn, .int .i64 fi, .string fr] 155) = u) := ⟨_, rfl⟩
 rw [hu.out] at B0 N0
 have KC : Hid (∀ q, Below u.heap.size u q → q.cell? ⟨w.heap.size, 0, none⟩ = some (.string tn) ∧ q.cell? ⟨w.heap.size, 1, none⟩ = some (.int .i64 fi) ∧ q.cell? ⟨w.heap.size, 2, none⟩ = some (.string fr)) := fun q hq => by
  have z := (hq.block _ (heap_lt N0.out)).trans N0.out
  exact ⟨by simp [World.cell?, z], by simp [World.cell?, z], by simp [World.cell?, z]⟩
 obtain ⟨x0, x1, x2⟩ := KC.out u (Below.refl _ _)
 have V0 := hide (hv.below B0.out)
 -- behind without
 have KW : Hid (∀ q v1 L1, Below u.heap.size u q → Tr q v1 L1 → (L1.length : Int) ≤ 1000000000 → 0 ≤ fi → Calls Tryz.prog 123 #[v1, .string tn, .int .i64 fi] q fun e w' => ∃ v', e = .returned v' ∧ Hid (En w.heap.size w' v' (dput L1 tn.data.toList fi.toNat)) ∧ Hid (Below w.heap.size w w')) := fun q v1 L1 hq h1' hl1 hfi => by
  obtain ⟨p, hp⟩ := Int.eq_ofNat_of_zero_le hfi
  subst hp
  refine (with_ref q v1 L1 tn p h1' hl1 (by omega)).mono ?_
  rintro e w' ⟨v', rfl, hO, hb⟩
  rw [Int.toNat_natCast]
  have hz := Nat.le_trans B0.out.size hq.size
  exact ⟨v', rfl, owns_lower2 hO hz, (B0.out.trans (hq.mono B0.out.size)).trans (hb.mono hz)⟩
 by_cases hf : fr.data.toList = []
 ·have e1 : (⟨tn, fi, fr⟩ : RC).one L = L := by unfold RC.one; rw [if_pos hf]
  have hq : (fr.toList == ([] : List UInt8)) = true := str_nil fr hf
  by_cases hp : 0 ≤ fi
  ·have e2 : Hid ((⟨tn, fi, fr⟩ : RC).run L = dput L tn.data.toList fi.toNat) := by show _ = _; unfold RC.run; rw [e1, if_pos hp]
   have hW := KW.out u v L (Below.refl _ _) V0.out.tr hl hp
   clear hv e1
   go_enter Tryz.func114, Tryz.ntmps114
   go_upto_region 1 with fail
   rw [hu.out]
   go_wp2_with (first
    | (go_at_call 123; refine hW.mono ?_; rintro e w2 ⟨v2, rfl, O2, b2⟩)
    | fail)
   go_ret
   exact ⟨_, rfl, .inl (by rw [e2.out]; exact O2.out), b2.out⟩
  ·have e2 : Hid ((⟨tn, fi, fr⟩ : RC).run L = L) := by show _ = _; unfold RC.run; rw [e1, if_neg hp]
   have hp2 : ¬ (fi ≥ 0) := hp
   clear hv e1 hp
   go_enter Tryz.func114, Tryz.ntmps114
   go_upto_region 1 with fail
   rw [hu.out]
   go_wp2_with fail
   go_ret
   exact ⟨_, rfl, .inr ⟨rfl, e2.out⟩, B0.out⟩
 ·have e1 : (⟨tn, fi, fr⟩ : RC).one L = ddel L fr.data.toList := by unfold RC.one; rw [if_neg hf]
  have hq : (fr.toList == ([] : List UInt8)) = false := str_some fr hf
  have hWo : Calls Tryz.prog 122 #[v, .string fr] u fun e w' => ∃ v', e = .returned v' ∧ Hid (En w.heap.size w' v' (ddel L fr.data.toList)) ∧ Hid (Below u.heap.size u w') := by
   refine (without_ref u v L fr V0.out.tr hl).mono ?_
   rintro e w' ⟨v', rfl, hO, hb⟩
   exact ⟨v', rfl, owns_lower2 hO B0.out.size, hb⟩
  have hdl : ((ddel L fr.data.toList).length : Int) ≤ 1000000000 := by have := ddel_len L fr.data.toList; omega
  by_cases hp : 0 ≤ fi
  ·have e2 : Hid ((⟨tn, fi, fr⟩ : RC).run L = dput (ddel L fr.data.toList) tn.data.toList fi.toNat) := by show _ = _; unfold RC.run; rw [e1, if_pos hp]
   clear hv e1
   replace hdl := hide hdl
   go_enter Tryz.func114, Tryz.ntmps114
   go_upto_region 1 with fail
   rw [hu.out]
   go_wp2_with (first
    | (go_at_call 122; refine hWo.mono ?_; rintro e w1 ⟨v1, rfl, O1, b1⟩; obtain ⟨y0, y1, y2⟩ := KC.out w1 b1.out)
    | (go_at_call 123; refine (KW.out w1 v1 _ b1.out O1.out.tr hdl.out hp).mono ?_; rintro e w2 ⟨v2, rfl, O2, b2⟩)
    | fail)
   go_ret
   exact ⟨_, rfl, .inl (by rw [e2.out]; exact O2.out), b2.out⟩
  ·have e2 : Hid ((⟨tn, fi, fr⟩ : RC).run L = ddel L fr.data.toList) := by show _ = _; unfold RC.run; rw [e1, if_neg hp]
   have hp2 : ¬ (fi ≥ 0) := hp
   clear hv e1 hp
   go_enter Tryz.func114, Tryz.ntmps114
   go_upto_region 1 with fail
   rw [hu.out]
   go_wp2_with (first
    | (go_at_call 122; refine hWo.mono ?_; rintro e w1 ⟨v1, rfl, O1, b1⟩; obtain ⟨y0, y1, y2⟩ := KC.out w1 b1.out)
    | fail)
   go_ret
   exact ⟨_, rfl, .inl (by rw [e2.out]; exact O1.out), B0.out.trans (b1.out.mono B0.out.size)⟩
def toldN (k : Int) : Int := if k = 1 then 20 else if k = 2 then 21 else if k = 3 then 22 else 23
theorem told_ref (w : World) (k : Int) : Calls Tryz.prog 98 #[.int .i64 k] w fun e w' => e = .returned (.int .i64 (toldN k)) ∧ w' = w := by
 unfold toldN
 by_cases h1 : k = 1
 ·subst h1
  go_enter Tryz.func98, Tryz.ntmps98
  go_wp2_with fail
  go_ret
  exact ⟨rfl, rfl⟩
 by_cases h2 : k = 2
 ·subst h2
  go_enter Tryz.func98, Tryz.ntmps98
  go_wp2_with fail
  go_ret
  exact ⟨rfl, rfl⟩
 by_cases h3 : k = 3
 ·subst h3
  go_enter Tryz.func98, Tryz.ntmps98
  go_wp2_with fail
  go_ret
  exact ⟨rfl, rfl⟩
 rw [if_neg h1, if_neg h2, if_neg h3]
 go_enter Tryz.func98, Tryz.ntmps98
 go_wp2_with fail
 go_ret
 exact ⟨rfl, rfl⟩
end Go.Proofs.YtjehpijjneghpaaGreat.Re
