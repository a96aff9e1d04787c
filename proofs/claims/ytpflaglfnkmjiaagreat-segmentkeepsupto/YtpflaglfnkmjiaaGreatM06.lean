/-
  A segment takes in a frame: grow. (gen_SgD.py)
-/
import Derived.Test.YtpflaglfnkmjiaaGreatM05
import Derived.BigQuiet
import Derived.Deep.CutRange
import Derived.Test.YtpflaglfnkmjiaaGreatM03
import Derived.Test.YtpflaglfnkmjiaaGreatM01
import Derived.Test.YtpflaglfnkmjiaaGreatM02
import Derived.Defers
set_option maxRecDepth 100000
set_option maxHeartbeats 40000000
set_option linter.unusedVariables false
namespace Go.Proofs.YtpflaglfnkmjiaaGreat.Sg
open Go.RowKit Go.Maps Go.Sort Go.Shelf Go.Proofs.YtpflaglfnkmjiaaGreat.Nm Go.Proofs.YtpflaglfnkmjiaaGreat.Dk
open Ix (wp_region_T wpAnyT wpAnyT_take wpAnyT_one wpAnyT_done vac)
theorem wpAnyT_two {P : Program} {ops : Array Oper} {Q : Exit → Act → World → Prop} {md : Region.Mode} {S : World → Prop} {d : Nat} {i j : Nat} {oi oj : Oper} {fuel : Nat} {listed : Array Bool} {a : Act} {w : World} (hr : Region.ready md ops listed = [i, j]) (hoi : ops[i]? = some oi) (hoj : ops[j]? = some oj)
    (hI : ∀ K' : Act → World → Prop, Shut (∀ a w, ((listed.setIfInBounds i true).getD d false = false → S w) → wpAnyT P md ops Q S d fuel (listed.setIfInBounds i true) a w → K' a w) → if Region.wanted oi (yielded ops a.tmps) = true then Oper.wp P oi a w K' Q else K' (a.put oi.dst undef) w)
    (hJ : ∀ K' : Act → World → Prop, Shut (∀ a w, ((listed.setIfInBounds j true).getD d false = false → S w) → wpAnyT P md ops Q S d fuel (listed.setIfInBounds j true) a w → K' a w) → if Region.wanted oj (yielded ops a.tmps) = true then Oper.wp P oj a w K' Q else K' (a.put oj.dst undef) w) :
    wpAnyT P md ops Q S d (fuel + 1) listed a w := by
 refine ⟨fun h0 => (by rw [h0] at hr; cases hr), fun k hk => ?_⟩
 rw [hr] at hk
 simp only [List.mem_cons, List.not_mem_nil, or_false] at hk
 rcases hk with rfl | rfl
 ·exact wpOp_step hoi (fun K' hK => hI K' (fun a w hS hW => hK a w ⟨hS, hW⟩))
 ·exact wpOp_step hoj (fun K' hK => hJ K' (fun a w hS hW => hK a w ⟨hS, hW⟩))
theorem keepF {w u v : World} (h : Below w.heap.size w u) (q : Below u.heap.size u v) : Below w.heap.size w v := h.trans (q.mono h.size)
theorem cell_of {w : World} {b j : Nat} {cs : Array Value} {T : TypeId} {z : Nat × Nat} (h : w.heap[b]? = some (.cells cs T z)) : w.cell? ⟨b, j, none⟩ = cs[j]? := by simp [World.cell?, h]
def SOwn (sb xb mb : Nat) (v : Value) : Nat → Prop := fun k => k = sb ∨ k = xb ∨ k = mb ∨ v.ownBlock = some k
theorem Seg.cells {w : World} {sb : Nat} {s : SG} {xb mb : Nat} {v : Value} (h : Seg w sb s xb mb v) : w.cell? ⟨sb, 0, none⟩ = some (.pointer (some ⟨s.b, 0, none⟩)) ∧ w.cell? ⟨sb, 1, none⟩ = some (.string s.file) ∧ w.cell? ⟨sb, 2, none⟩ = some (.int .i64 s.num) ∧ w.cell? ⟨sb, 3, none⟩ = some (.int .i64 s.base) ∧ w.cell? ⟨sb, 4, none⟩ = some (.int .u32 s.hs) ∧ w.cell? ⟨sb, 5, none⟩ = some (.int .i64 s.next) ∧ w.cell? ⟨sb, 6, none⟩ = some (.int .i64 s.size) ∧ w.cell? ⟨sb, 7, none⟩ = some (.int .u32 s.seed) ∧ w.cell? ⟨sb, 8, none⟩ = some (.int .i64 s.cond) ∧ w.cell? ⟨sb, 9, none⟩ = some (.pointer (some ⟨xb, 0, none⟩)) ∧ w.cell? ⟨sb, 10, none⟩ = some (.map (some mb)) := by
 refine ⟨?_, ?_, ?_, ?_, ?_, ?_, ?_, ?_, ?_, ?_, ?_⟩ <;> (rw [cell_of h.box]; rfl)
theorem Seg.frozen {w : World} {sb : Nat} {s : SG} {xb mb : Nat} {v : Value} (h : Seg w sb s xb mb v) (j : Nat) : w.frozen? ⟨sb, j, none⟩ = false := by simp [World.frozen?, h.box]
theorem Seg.but {Y : Nat → Prop} {A B : World} {sb : Nat} {s : SG} {xb mb : Nat} {v : Value} (h : Seg A sb s xb mb v) (hb : But Y A B) (hx : ∀ k, SOwn sb xb mb v k → ¬ Y k) : Seg B sb s xb mb v :=
 ⟨hb.at h.box (hx sb (.inl rfl)), h.ix.but hb fun k hk => hx k (by rcases hk with hk | hk; exact .inr (.inl hk); exact .inr (.inr (.inr hk))), h.sm.heap (hb.block mb h.sm.lt (hx mb (.inr (.inr (.inl rfl))))), h.ap⟩
theorem Seg.below {A B : World} {sb : Nat} {s : SG} {xb mb : Nat} {v : Value} (h : Seg A sb s xb mb v) (hb : Below A.heap.size A B) : Seg B sb s xb mb v := h.but (But.of_below hb fun _ => False) fun _ _ c => c
theorem Seg.lt {w : World} {sb : Nat} {s : SG} {xb mb : Nat} {v : Value} (h : Seg w sb s xb mb v) : ∀ k, SOwn sb xb mb v k → k < w.heap.size := fun k hk => by
 rcases hk with rfl | rfl | rfl | hk
 ·exact heap_lt h.box
 ·exact h.ix.lt _ (.inl rfl)
 ·exact h.sm.lt
 ·exact h.ix.lt _ (.inr hk)
theorem Seg.add {w w' : World} {sb : Nat} {s : SG} {xb mb : Nat} {v v' : Value} {x' : Ix.X} (h : Seg w sb s xb mb v) (hx : Ix.At Ix.TI w' xb x' v') (hb : But (Ix.Own xb v) w w') (ho : ∀ k, v'.ownBlock = some k → v.ownBlock = some k ∨ w.heap.size ≤ k) : Seg w' sb { s with x := x' } xb mb v' := by
 obtain ⟨a1, a2, a3, a4⟩ := h.ap
 refine ⟨hb.at h.box ?_, hx, h.sm.heap (hb.block mb h.sm.lt ?_), a1, a2, a3, fun k hk => ?_⟩
 ·rintro (c | c)
  ·exact a2 c.symm
  ·exact (a4 _ c).1 rfl
 ·rintro (c | c)
  ·exact a1 c.symm
  ·exact (a4 _ c).2.2 rfl
 ·rcases ho k hk with c | c
  ·exact a4 k c
  ·have z1 := h.lt sb (.inl rfl)
   have z2 := h.lt xb (.inr (.inl rfl))
   have z3 := h.lt mb (.inr (.inr (.inl rfl)))
   omega
theorem Seg.seeds {w w' : World} {sb : Nat} {s : SG} {xb mb : Nat} {v : Value} {l : Sr} (h : Seg w sb s xb mb v) (hm : Sm w' mb l) (hb : But (fun k => k = mb) w w') : Seg w' sb { s with sd := l } xb mb v := by
 obtain ⟨a1, a2, a3, a4⟩ := h.ap
 refine ⟨hb.at h.box (fun c => a3 c.symm), h.ix.but hb ?_, hm, a1, a2, a3, a4⟩
 rintro k (rfl | hk) c
 ·exact a1 c
 ·exact (a4 k hk).2.2 c
theorem Seg.set5 {w : World} {sb : Nat} {s : SG} {xb mb : Nat} {v : Value} (h : Seg w sb s xb mb v) (n : Int) : Seg (w.setCell ⟨sb, 5, none⟩ (.int .i64 n)) sb { s with next := n } xb mb v := by
 have hb : But (fun k => k = sb) w (w.setCell ⟨sb, 5, none⟩ (.int .i64 n)) := But.of_grownBy (grown_setCell w sb 5 _) fun k e => by cases e; rfl
 obtain ⟨a1, a2, a3, a4⟩ := h.ap
 refine ⟨by rw [heap_setCell_same w sb 5 _ _ _ h.box]; rfl, h.ix.but hb ?_, h.sm.heap (hb.block mb h.sm.lt a3), a1, a2, a3, a4⟩
 rintro k (rfl | hk) c
 ·exact a2 c
 ·exact (a4 k hk).1 c
theorem Seg.set6 {w : World} {sb : Nat} {s : SG} {xb mb : Nat} {v : Value} (h : Seg w sb s xb mb v) (n : Int) : Seg (w.setCell ⟨sb, 6, none⟩ (.int .i64 n)) sb { s with size := n } xb mb v := by
 have hb : But (fun k => k = sb) w (w.setCell ⟨sb, 6, none⟩ (.int .i64 n)) := But.of_grownBy (grown_setCell w sb 6 _) fun k e => by cases e; rfl
 obtain ⟨a1, a2, a3, a4⟩ := h.ap
 refine ⟨by rw [heap_setCell_same w sb 6 _ _ _ h.box]; rfl, h.ix.but hb ?_, h.sm.heap (hb.block mb h.sm.lt a3), a1, a2, a3, a4⟩
 rintro k (rfl | hk) c
 ·exact a2 c
 ·exact (a4 k hk).1 c
theorem Seg.set7 {w : World} {sb : Nat} {s : SG} {xb mb : Nat} {v : Value} (h : Seg w sb s xb mb v) (n : Int) : Seg (w.setCell ⟨sb, 7, none⟩ (.int .u32 n)) sb { s with seed := n } xb mb v := by
 have hb : But (fun k => k = sb) w (w.setCell ⟨sb, 7, none⟩ (.int .u32 n)) := But.of_grownBy (grown_setCell w sb 7 _) fun k e => by cases e; rfl
 obtain ⟨a1, a2, a3, a4⟩ := h.ap
 refine ⟨by rw [heap_setCell_same w sb 7 _ _ _ h.box]; rfl, h.ix.but hb ?_, h.sm.heap (hb.block mb h.sm.lt a3), a1, a2, a3, a4⟩
 rintro k (rfl | hk) c
 ·exact a2 c
 ·exact (a4 k hk).1 c
theorem Seg.set8 {w : World} {sb : Nat} {s : SG} {xb mb : Nat} {v : Value} (h : Seg w sb s xb mb v) (n : Int) : Seg (w.setCell ⟨sb, 8, none⟩ (.int .i64 n)) sb { s with cond := n } xb mb v := by
 have hb : But (fun k => k = sb) w (w.setCell ⟨sb, 8, none⟩ (.int .i64 n)) := But.of_grownBy (grown_setCell w sb 8 _) fun k e => by cases e; rfl
 obtain ⟨a1, a2, a3, a4⟩ := h.ap
 refine ⟨by rw [heap_setCell_same w sb 8 _ _ _ h.box]; rfl, h.ix.but hb ?_, h.sm.heap (hb.block mb h.sm.lt a3), a1, a2, a3, a4⟩
 rintro k (rfl | hk) c
 ·exact a2 c
 ·exact (a4 k hk).1 c
theorem but_sb (w : World) (sb j : Nat) (x : Value) (Y : Nat → Prop) (hY : Y sb) : But Y w (w.setCell ⟨sb, j, none⟩ x) := But.of_grownBy (grown_setCell w sb j x) fun k e => by cases e; exact hY
def SG.grown (s : SG) (z sum : Int) : SG :=
 { s with next := s.next + 1, size := s.size + z, seed := sum, x := (Ix.addF s.x s.next s.size).2, sd := if (Ix.findF (Ix.addF s.x s.next s.size).2.l s.next).1.1 = s.next then sput s.sd s.next s.seed else s.sd }
structure SOk (s : SG) : Prop where
 x : Ix.Ok s.x
 n1 : 1 ≤ s.next
 n2 : s.next ≤ 9223372036854775807
 z1 : 32 ≤ s.size
 z2 : s.size ≤ 2147483647
 l : s.sd.length ≤ 1000000000
 e : 0 ≤ s.seed ∧ s.seed < 4294967296
 d : ∀ p ∈ s.sd, 0 ≤ p.2 ∧ p.2 < 4294967296
theorem sput_mem {l : Sr} {n f : Int} {p : Int × Int} (h : p ∈ sput l n f) : p = (n, f) ∨ p ∈ l := by
 have h1 : ∀ (x : Int × Int) (r : Sr), p ∈ sins x r → p = x ∨ p ∈ r := fun x r => by
  induction r with
  | nil => intro h; simp [sins] at h; exact .inl h
  | cons y r ih =>
   intro h
   unfold sins at h
   split at h
   ·simpa using h
   ·rcases List.mem_cons.1 h with h | h
    ·exact .inr (by simp [h])
    ·rcases ih h with h | h
     ·exact .inl h
     ·exact .inr (by simp [h])
 rcases h1 _ _ h with h | h
 ·exact .inl h
 ·exact .inr (List.mem_filter.1 h).1
theorem sput_len (l : Sr) (n f : Int) : (sput l n f).length ≤ l.length + 1 := by
 have h1 : ∀ (x : Int × Int) (r : Sr), (sins x r).length = r.length + 1 := fun x r => by
  induction r with
  | nil => rfl
  | cons y r ih =>
   unfold sins
   split
   ·simp
   ·simp [ih]
 unfold sput sdel
 rw [h1]
 have := List.length_filter_le (fun p : Int × Int => !(p.1 == n)) l
 omega
theorem grow_any {w : World} {sb : Nat} {s : SG} {xb mb : Nat} {v : Value} (h : Seg w sb s xb mb v) (ok : SOk s) (z sum : Int) (hn : s.next ≤ 9223372036854775806) (hz : 0 ≤ z) (hz2 : s.size + z ≤ 2147483647) :
    Calls Tryz.prog 60 #[.pointer (some ⟨sb, 0, none⟩), .int .i64 z, .int .u32 sum] w fun e w' => e = .returned (.tuple #[]) ∧ ∃ v', Seg w' sb (s.grown z sum) xb mb v' ∧ But (SOwn sb xb mb v) w w' ∧ (∀ k, v'.ownBlock = some k → v.ownBlock = some k ∨ w.heap.size ≤ k) := by
 have hz1 := ok.z1
 have hn1 := ok.n1
 have hll := ok.l
 have hA := hide (fun u (hu : Ix.At Ix.TI u xb s.x v) => Ix.add_any u xb s.x v s.next s.size hu ok.x (by omega) (by omega) (by omega) (by omega))
 have hXok := hide (ok.x.add s.next s.size (by omega))
 obtain ⟨X, hX⟩ : ∃ X, Hid ((Ix.addF s.x s.next s.size).2 = X) := ⟨_, rfl⟩
 rw [hX.out] at hA hXok
 generalize (Ix.addF s.x s.next s.size).1 = er at hA
 have H := hide h
 have hG : Hid (s.grown z sum = { s with next := s.next + 1, size := s.size + z, seed := sum, x := X, sd := if (Ix.findF X.l s.next).1.1 = s.next then sput s.sd s.next s.seed else s.sd }) := hide (by unfold SG.grown; rw [hX.out])
 rw [hG.out]
 obtain ⟨fe, hfe⟩ : ∃ fe, Hid (Ix.findF X.l s.next = fe) := ⟨_, rfl⟩
 rw [hfe.out]
 obtain ⟨⟨f1, f2⟩, f3⟩ := fe
 simp only
 obtain ⟨SL, hSL⟩ : ∃ SL, Hid ((if f1 = s.next then sput s.sd s.next s.seed else s.sd) = SL) := ⟨_, rfl⟩
 rw [hSL.out]
 clear h hG hX
 go_enter Tryz.func60, Tryz.ntmps60
 go_upto_region 0 with fail
 go_cut [20] from 8 to 19 (fun y wx => y = .int .i64 er ∧ Hid (∃ v', Seg wx sb { s with x := X } xb mb v' ∧ But (SOwn sb xb mb v) w wx ∧ (∀ k, v'.ownBlock = some k → v.ownBlock = some k ∨ w.heap.size ≤ k)))
 case first =>
  refine wp_region_T (fun q => Seg q sb s xb mb v) 12 (by kernel_rfl) ?_
  have KP : Hid (Seg w.drew sb s xb mb v) := H.out.below (Below.refl _ _).drew
  have KB : Hid (Below w.heap.size w w.drew) := hide (Below.refl _ _).drew
  generalize w.drew = q at *
  refine Ix.tk 0 ⟨some 8, .move (.tmp 0), _, _, _, _⟩ (.pointer (some ⟨sb, 0, none⟩)) [1,2,3,12] ?_ KP.out ?_
  ·intro wq hSw
   obtain ⟨y0, y1, y2, y3, y4, y5, y6, y7, y8, y9, y10⟩ := hSw.cells
   go_simp
  (try simp only [zzp, zzb, zzc])
  refine Ix.tk 1 ⟨some 9, .nilCheck (.tmp 8), _, _, _, _⟩ (.pointer (some ⟨sb, 0, none⟩)) [2,3,12] ?_ KP.out ?_
  ·intro wq hSw
   obtain ⟨y0, y1, y2, y3, y4, y5, y6, y7, y8, y9, y10⟩ := hSw.cells
   go_simp
  (try simp only [zzp, zzb, zzc])
  refine Ix.tk 2 ⟨some 10, .fieldAddr 130 (.tmp 9) 7, _, _, _, _⟩ (.pointer (some ⟨sb, 9, none⟩)) [3,12] ?_ KP.out ?_
  ·intro wq hSw
   obtain ⟨y0, y1, y2, y3, y4, y5, y6, y7, y8, y9, y10⟩ := hSw.cells
   go_simp
  (try simp only [zzp, zzb, zzc])
  refine Ix.tk 3 ⟨some 11, .load 127 (.tmp 10), _, _, _, _⟩ (.pointer (some ⟨xb, 0, none⟩)) [12] ?_ KP.out ?_
  ·intro wq hSw
   obtain ⟨y0, y1, y2, y3, y4, y5, y6, y7, y8, y9, y10⟩ := hSw.cells
   go_simp
  (try simp only [zzp, zzb, zzc])
  refine Ix.tk 4 ⟨some 12, .move (.tmp 0), _, _, _, _⟩ (.pointer (some ⟨sb, 0, none⟩)) [5,6,7,12] ?_ KP.out ?_
  ·intro wq hSw
   obtain ⟨y0, y1, y2, y3, y4, y5, y6, y7, y8, y9, y10⟩ := hSw.cells
   go_simp
  (try simp only [zzp, zzb, zzc])
  refine Ix.tk 5 ⟨some 13, .nilCheck (.tmp 12), _, _, _, _⟩ (.pointer (some ⟨sb, 0, none⟩)) [6,7,12] ?_ KP.out ?_
  ·intro wq hSw
   obtain ⟨y0, y1, y2, y3, y4, y5, y6, y7, y8, y9, y10⟩ := hSw.cells
   go_simp
  (try simp only [zzp, zzb, zzc])
  refine Ix.tk 6 ⟨some 14, .fieldAddr 130 (.tmp 13) 3, _, _, _, _⟩ (.pointer (some ⟨sb, 5, none⟩)) [7,12] ?_ KP.out ?_
  ·intro wq hSw
   obtain ⟨y0, y1, y2, y3, y4, y5, y6, y7, y8, y9, y10⟩ := hSw.cells
   go_simp
  (try simp only [zzp, zzb, zzc])
  refine Ix.tk 7 ⟨some 15, .load 2 (.tmp 14), _, _, _, _⟩ (.int .i64 s.next) [12] ?_ KP.out ?_
  ·intro wq hSw
   obtain ⟨y0, y1, y2, y3, y4, y5, y6, y7, y8, y9, y10⟩ := hSw.cells
   go_simp
  (try simp only [zzp, zzb, zzc])
  refine Ix.tk 8 ⟨some 16, .move (.tmp 0), _, _, _, _⟩ (.pointer (some ⟨sb, 0, none⟩)) [9,10,11,12] ?_ KP.out ?_
  ·intro wq hSw
   obtain ⟨y0, y1, y2, y3, y4, y5, y6, y7, y8, y9, y10⟩ := hSw.cells
   go_simp
  (try simp only [zzp, zzb, zzc])
  refine Ix.tk 9 ⟨some 17, .nilCheck (.tmp 16), _, _, _, _⟩ (.pointer (some ⟨sb, 0, none⟩)) [10,11,12] ?_ KP.out ?_
  ·intro wq hSw
   obtain ⟨y0, y1, y2, y3, y4, y5, y6, y7, y8, y9, y10⟩ := hSw.cells
   go_simp
  (try simp only [zzp, zzb, zzc])
  refine Ix.tk 10 ⟨some 18, .fieldAddr 130 (.tmp 17) 4, _, _, _, _⟩ (.pointer (some ⟨sb, 6, none⟩)) [11,12] ?_ KP.out ?_
  ·intro wq hSw
   obtain ⟨y0, y1, y2, y3, y4, y5, y6, y7, y8, y9, y10⟩ := hSw.cells
   go_simp
  (try simp only [zzp, zzb, zzc])
  refine Ix.tk 11 ⟨some 19, .load 3 (.tmp 18), _, _, _, _⟩ (.int .i64 s.size) [12] ?_ KP.out ?_
  ·intro wq hSw
   obtain ⟨y0, y1, y2, y3, y4, y5, y6, y7, y8, y9, y10⟩ := hSw.cells
   go_simp
  (try simp only [zzp, zzb, zzc])
  refine wpAnyT_one (i := 12) (o := ⟨some 20, .call { callee := .value (.func 124), args := #[.tmp 11, .tmp 15, .tmp 19], argTypes := #[127, 2, 3] }, _, _, _, _⟩) (by kernel_rfl) rfl (fun K hK => ?_)
  go_simp
  go_at_call 124
  refine (hA.out q KP.out.ix).mono ?_
  rintro e w1 ⟨rfl, v1, X1, b1, o1⟩
  have S1 := hide (KP.out.add X1 b1 o1)
  have B1 : Hid (But (SOwn sb xb mb v) w w1) := hide ((But.of_below KB.out _).trans (b1.mono fun k _ hk => by rcases hk with hk | hk; exact .inr (.inl hk); exact .inr (.inr (.inr hk))))
  have O1 : Hid (∀ k, v1.ownBlock = some k → v.ownBlock = some k ∨ w.heap.size ≤ k) := hide fun k hk => (o1 k hk).imp id fun c => Nat.le_trans KB.out.size c
  clear X1 b1 o1
  (try go_simp)
  refine hK.out _ _ (vac (by kernel_rfl)) ?_
  clear hK K
  (try simp only [zzp, zzb, zzc])
  refine wpAnyT_done (by kernel_rfl) ?_ _
  go_wp2_with fail
  go_meet
  case rel => exact ⟨rfl, v1, S1.out, B1.out, O1.out⟩
 case rest =>
  obtain ⟨rfl, hcu⟩ := hcut
  obtain ⟨v1, S1, B1, O1⟩ := hcu.out
  replace S1 := hide S1
  replace B1 := hide B1
  replace O1 := hide O1
  clear hcu H hA
  generalize hwc : wc = w1 at *
  clear hwc
  have hF := hide (fun u (hu : Ix.At Ix.TI u xb X v1) => Ix.find_any u xb X v1 s.next hu hXok.out (by omega) (by omega))
  rw [hfe.out] at hF
  unfold Ix.entv at hF
  simp only at hF
  go_upto_region 1 with fail
  go_cut [6, 7] from 21 to 32 (fun y6 y7 wx => ∃ eb, y6 = .pointer (some ⟨eb, 0, none⟩) ∧ y7 = .bool f3 ∧ Hid (Below w1.heap.size w1 wx ∧ wx.heap[eb]? = some (.cells #[.int .i64 f1, .int .i64 f2] 147 (0, 0))))
  case first =>
   refine wp_region_T (fun q => Seg q sb { s with x := X } xb mb v1) 14 (by kernel_rfl) ?_
   have KP : Hid (Seg w1.drew sb { s with x := X } xb mb v1) := S1.out.below (Below.refl _ _).drew
   have KB : Hid (Below w1.heap.size w1 w1.drew) := hide (Below.refl _ _).drew
   generalize w1.drew = q at *
   refine Ix.tk 0 ⟨some 22, .move (.tmp 0), _, _, _, _⟩ (.pointer (some ⟨sb, 0, none⟩)) [14] ?_ KP.out ?_
   ·intro wq hSw
    obtain ⟨y0, y1, y2, y3, y4, y5, y6, y7, y8, y9, y10⟩ := hSw.cells
    go_simp
   (try simp only [zzp, zzb, zzc])
   refine Ix.tk 1 ⟨some 23, .nilCheck (.tmp 22), _, _, _, _⟩ (.pointer (some ⟨sb, 0, none⟩)) [14] ?_ KP.out ?_
   ·intro wq hSw
    obtain ⟨y0, y1, y2, y3, y4, y5, y6, y7, y8, y9, y10⟩ := hSw.cells
    go_simp
   (try simp only [zzp, zzb, zzc])
   refine Ix.tk 2 ⟨some 24, .fieldAddr 130 (.tmp 23) 7, _, _, _, _⟩ (.pointer (some ⟨sb, 9, none⟩)) [14] ?_ KP.out ?_
   ·intro wq hSw
    obtain ⟨y0, y1, y2, y3, y4, y5, y6, y7, y8, y9, y10⟩ := hSw.cells
    go_simp
   (try simp only [zzp, zzb, zzc])
   refine Ix.tk 3 ⟨some 25, .load 127 (.tmp 24), _, _, _, _⟩ (.pointer (some ⟨xb, 0, none⟩)) [14] ?_ KP.out ?_
   ·intro wq hSw
    obtain ⟨y0, y1, y2, y3, y4, y5, y6, y7, y8, y9, y10⟩ := hSw.cells
    go_simp
   (try simp only [zzp, zzb, zzc])
   refine Ix.tk 4 ⟨some 26, .move (.tmp 0), _, _, _, _⟩ (.pointer (some ⟨sb, 0, none⟩)) [14] ?_ KP.out ?_
   ·intro wq hSw
    obtain ⟨y0, y1, y2, y3, y4, y5, y6, y7, y8, y9, y10⟩ := hSw.cells
    go_simp
   (try simp only [zzp, zzb, zzc])
   refine Ix.tk 5 ⟨some 27, .nilCheck (.tmp 26), _, _, _, _⟩ (.pointer (some ⟨sb, 0, none⟩)) [14] ?_ KP.out ?_
   ·intro wq hSw
    obtain ⟨y0, y1, y2, y3, y4, y5, y6, y7, y8, y9, y10⟩ := hSw.cells
    go_simp
   (try simp only [zzp, zzb, zzc])
   refine Ix.tk 6 ⟨some 28, .fieldAddr 130 (.tmp 27) 3, _, _, _, _⟩ (.pointer (some ⟨sb, 5, none⟩)) [14] ?_ KP.out ?_
   ·intro wq hSw
    obtain ⟨y0, y1, y2, y3, y4, y5, y6, y7, y8, y9, y10⟩ := hSw.cells
    go_simp
   (try simp only [zzp, zzb, zzc])
   refine Ix.tk 7 ⟨some 29, .load 2 (.tmp 28), _, _, _, _⟩ (.int .i64 s.next) [14] ?_ KP.out ?_
   ·intro wq hSw
    obtain ⟨y0, y1, y2, y3, y4, y5, y6, y7, y8, y9, y10⟩ := hSw.cells
    go_simp
   (try simp only [zzp, zzb, zzc])
   have N8 := hide (heap_alloc_new q (.cells #[.int .i64 0, .int .i64 0] 147))
   have B8 := hide (box_below q (.cells #[.int .i64 0, .int .i64 0] 147))
   have K8 := hide (KP.out.below B8.out)
   refine wpAnyT_two (i := 8) (j := 12) (oi := ⟨some 30, .call { callee := .value (.func 71), args := #[.tmp 25, .tmp 29], argTypes := #[127, 2] }, _, _, _, _⟩) (oj := ⟨some 6, .alloc 147, _, _, _, _⟩) (by kernel_rfl) rfl rfl ?_ ?_
   ·intro K hK
    go_simp
    go_at_call 71
    refine (hF.out q KP.out.ix).mono ?_
    rintro e w2 ⟨rfl, b2⟩
    have KU := hide (keepF KB.out b2)
    have K2 := hide (KP.out.below b2)
    (try go_simp)
    refine hK.out _ _ (fun _ => K2.out) ?_
    clear hK K
    (try simp only [zzp, zzb, zzc])
    refine Ix.tk 9 ⟨some 21, .move (.tmp 30), _, _, _, _⟩ (.tuple #[.agg #[.int .i64 f1, .int .i64 f2], .bool f3]) [14] ?_ K2.out ?_
    ·intro wq hSw; go_simp
    (try simp only [zzp, zzb, zzc])
    refine Ix.tk 10 ⟨some 31, .extract (.tmp 21) 0, _, _, _, _⟩ (.agg #[.int .i64 f1, .int .i64 f2]) [14] ?_ K2.out ?_
    ·intro wq hSw; go_simp
    (try simp only [zzp, zzb, zzc])
    refine Ix.tk 11 ⟨some 32, .extract (.tmp 21) 1, _, _, _, _⟩ (.bool f3) [14] ?_ K2.out ?_
    ·intro wq hSw; go_simp
    (try simp only [zzp, zzb, zzc])
    refine wpAnyT_one (i := 12) (o := ⟨some 6, .alloc 147, _, _, _, _⟩) (by kernel_rfl) rfl (fun K hK => ?_)
    go_simp
    refine hK.out _ _ (fun _ => K2.out.below (box_below w2 (.cells #[.int .i64 0, .int .i64 0] 147))) ?_
    clear hK K
    (try simp only [zzp, zzb, zzc])
    refine wpAnyT_one (i := 13) (o := ⟨none, .store 147 (.tmp 6) (.tmp 31), _, _, _, _⟩) (by kernel_rfl) rfl (fun K hK => ?_)
    go_simp
    refine hK.out _ _ (fun _ => K2.out.below (box_below w2 (.cells #[.int .i64 f1, .int .i64 f2] 147))) ?_
    clear hK K
    (try simp only [zzq])
    refine wpAnyT_one (i := 14) (o := ⟨some 7, .assign (.tmp 32), _, _, _, _⟩) (by kernel_rfl) rfl (fun K hK => ?_)
    go_simp
    refine hK.out _ _ (vac (by kernel_rfl)) ?_
    clear hK K
    (try simp only [zzp, zzb, zzc])
    refine wpAnyT_done (by kernel_rfl) ?_ _
    go_wp2_with fail
    go_meet
    case rel => exact ⟨w2.heap.size, rfl, rfl, keepF KU.out (box_below w2 (.cells #[.int .i64 f1, .int .i64 f2] 147)), heap_alloc_new w2 (.cells #[.int .i64 f1, .int .i64 f2] 147)⟩
   ·intro K hK
    go_simp
    refine hK.out _ _ (fun _ => K8.out) ?_
    clear hK K
    (try simp only [zzp, zzb, zzc])
    refine wpAnyT_one (i := 8) (o := ⟨some 30, .call { callee := .value (.func 71), args := #[.tmp 25, .tmp 29], argTypes := #[127, 2] }, _, _, _, _⟩) (by kernel_rfl) rfl (fun K hK => ?_)
    go_simp
    go_at_call 71
    refine (hF.out (q.alloc (.cells #[.int .i64 0, .int .i64 0] 147)) K8.out.ix).mono ?_
    rintro e w2 ⟨rfl, b2⟩
    have KU := hide (keepF (keepF KB.out B8.out) b2)
    have NU := (But.of_below b2 fun _ => False).at N8.out (fun c => c)
    have z0 : w2.frozen? ⟨q.heap.size, 0, none⟩ = false := by simp [World.frozen?, NU]
    have z1 : w2.frozen? ⟨q.heap.size, 1, none⟩ = false := by simp [World.frozen?, NU]
    have d0 : w2.cell? ⟨q.heap.size, 0, none⟩ = some (.int .i64 0) := by rw [cell_of NU]; rfl
    have d1 : w2.cell? ⟨q.heap.size, 1, none⟩ = some (.int .i64 0) := by rw [cell_of NU]; rfl
    replace NU := hide NU
    have K2 := hide (K8.out.below b2)
    (try go_simp)
    refine hK.out _ _ (fun _ => K2.out) ?_
    clear hK K
    (try simp only [zzp, zzb, zzc])
    refine Ix.tk 9 ⟨some 21, .move (.tmp 30), _, _, _, _⟩ (.tuple #[.agg #[.int .i64 f1, .int .i64 f2], .bool f3]) [14] ?_ K2.out ?_
    ·intro wq hSw; go_simp
    (try simp only [zzp, zzb, zzc])
    refine Ix.tk 10 ⟨some 31, .extract (.tmp 21) 0, _, _, _, _⟩ (.agg #[.int .i64 f1, .int .i64 f2]) [14] ?_ K2.out ?_
    ·intro wq hSw; go_simp
    (try simp only [zzp, zzb, zzc])
    refine Ix.tk 11 ⟨some 32, .extract (.tmp 21) 1, _, _, _, _⟩ (.bool f3) [14] ?_ K2.out ?_
    ·intro wq hSw; go_simp
    (try simp only [zzp, zzb, zzc])
    have hqs : w1.heap.size ≤ q.heap.size := KB.out.size
    have K3 : Hid (Seg ((w2.setCell ⟨q.heap.size, 0, none⟩ (.int .i64 f1)).setCell ⟨q.heap.size, 1, none⟩ (.int .i64 f2)) sb { s with x := X } xb mb v1) := hide (by
     refine K2.out.but (Y := fun k => k = q.heap.size) ((but_sb w2 _ 0 _ (fun k => k = q.heap.size) rfl).trans (but_sb _ _ 1 _ (fun k => k = q.heap.size) rfl)) fun k hk c => ?_
     have := KP.out.lt k hk
     omega)
    refine wpAnyT_one (i := 13) (o := ⟨none, .store 147 (.tmp 6) (.tmp 31), _, _, _, _⟩) (by kernel_rfl) rfl (fun K hK => ?_)
    go_simp
    refine hK.out _ _ (fun _ => K3.out) ?_
    clear hK K
    (try simp only [zzq])
    refine wpAnyT_one (i := 14) (o := ⟨some 7, .assign (.tmp 32), _, _, _, _⟩) (by kernel_rfl) rfl (fun K hK => ?_)
    go_simp
    refine hK.out _ _ (vac (by kernel_rfl)) ?_
    clear hK K
    (try simp only [zzp, zzb, zzc])
    refine wpAnyT_done (by kernel_rfl) ?_ _
    go_wp2_with fail
    go_meet
    case rel => exact ⟨q.heap.size, rfl, rfl, (KU.out.setCell hqs _).setCell hqs _, by rw [heap_setCell_same _ _ 1 _ _ _ (heap_setCell_same w2 q.heap.size 0 _ _ _ NU.out)]; rfl⟩
  case rest =>
   obtain ⟨eb, rfl, rfl, hcu⟩ := hcut
   obtain ⟨b2, n2⟩ := hcu.out
   have S2 := hide (S1.out.below b2)
   replace B1 : Hid (But (SOwn sb xb mb v) w wc) := hide (B1.out.trans (But.of_below b2 _))
   replace n2 := hide n2
   clear hcu b2 S1 hF
   generalize hwc : wc = w2 at *
   clear hwc
   have e0 : w2.cell? ⟨eb, 0, none⟩ = some (.int .i64 f1) := by rw [cell_of n2.out]; rfl
   obtain ⟨y0, y1, y2, y3, y4, y5, y6, y7, y8, y9, y10⟩ := S2.out.cells
   simp only at y5
   have kn : IntKind.i64.wrap (s.next + 1) = s.next + 1 := by simp [IntKind.wrap, IntKind.bits, IntKind.signed]; omega
   have kz : IntKind.i64.wrap (s.size + z) = s.size + z := by simp [IntKind.wrap, IntKind.bits, IntKind.signed]; omega
   have FIN : Hid (∀ (u : World) (l : Sr) (vx : Value), Seg u sb { s with x := X, sd := l } xb mb v1 → But (SOwn sb xb mb v) w u → ∃ v', Seg (((u.setCell ⟨sb, 5, none⟩ (.int .i64 (s.next + 1))).setCell ⟨sb, 6, none⟩ (.int .i64 (s.size + z))).setCell ⟨sb, 7, none⟩ (.int .u32 sum)) sb { s with next := s.next + 1, size := s.size + z, seed := sum, x := X, sd := l } xb mb v' ∧ But (SOwn sb xb mb v) w (((u.setCell ⟨sb, 5, none⟩ (.int .i64 (s.next + 1))).setCell ⟨sb, 6, none⟩ (.int .i64 (s.size + z))).setCell ⟨sb, 7, none⟩ (.int .u32 sum)) ∧ (∀ k, v'.ownBlock = some k → v.ownBlock = some k ∨ w.heap.size ≤ k)) := hide fun u l _ hs hb =>
    ⟨v1, ((hs.set5 _).set6 _).set7 _, ((hb.trans (but_sb _ sb 5 _ _ (.inl rfl))).trans (but_sb _ sb 6 _ _ (.inl rfl))).trans (but_sb _ sb 7 _ _ (.inl rfl)), O1.out⟩
   by_cases hf : f1 = s.next
   ·have kf : (f1 == s.next) = true := by simp [hf]
    have hSL2 : Hid (sput s.sd s.next s.seed = SL) := hide (by have := hSL.out; rwa [if_pos hf] at this)
    clear hSL
    replace hf := hide hf
    go_upto_region 2 with fail
    go_quiet (fail)
    have b3 : Below w2.heap.size w2 (w2.drewN nq) := below_drewN (Below.refl _ _) nq
    have S3 := hide (S2.out.below b3)
    replace B1 := hide (B1.out.trans (But.of_below b3 _))
    clear b3 e0 y0 y1 y2 y3 y4 y5 y6 y7 y8 y9 y10 S2 n2
    generalize w2.drewN nq = w3 at *
    go_upto_region 3 with fail
    refine wp_region_T (fun q => Seg q sb { s with x := X } xb mb v1) 12 (by kernel_rfl) ?_
    have KP : Hid (Seg w3.drew sb { s with x := X } xb mb v1) := S3.out.below (Below.refl _ _).drew
    replace B1 : Hid (But (SOwn sb xb mb v) w w3.drew) := hide (B1.out.trans (But.of_below (Below.refl _ _).drew _))
    generalize w3.drew = q at *
    refine Ix.tk 0 ⟨some 40, .move (.tmp 0), _, _, _, _⟩ (.pointer (some ⟨sb, 0, none⟩)) [12] ?_ KP.out ?_
    ·intro wq hSw
     obtain ⟨y0, y1, y2, y3, y4, y5, y6, y7, y8, y9, y10⟩ := hSw.cells
     go_simp
    (try simp only [zzp, zzb, zzc])
    refine Ix.tk 1 ⟨some 41, .nilCheck (.tmp 40), _, _, _, _⟩ (.pointer (some ⟨sb, 0, none⟩)) [12] ?_ KP.out ?_
    ·intro wq hSw
     obtain ⟨y0, y1, y2, y3, y4, y5, y6, y7, y8, y9, y10⟩ := hSw.cells
     go_simp
    (try simp only [zzp, zzb, zzc])
    refine Ix.tk 2 ⟨some 42, .fieldAddr 130 (.tmp 41) 8, _, _, _, _⟩ (.pointer (some ⟨sb, 10, none⟩)) [12] ?_ KP.out ?_
    ·intro wq hSw
     obtain ⟨y0, y1, y2, y3, y4, y5, y6, y7, y8, y9, y10⟩ := hSw.cells
     go_simp
    (try simp only [zzp, zzb, zzc])
    refine Ix.tk 3 ⟨some 43, .load 128 (.tmp 42), _, _, _, _⟩ (.map (some mb)) [12] ?_ KP.out ?_
    ·intro wq hSw
     obtain ⟨y0, y1, y2, y3, y4, y5, y6, y7, y8, y9, y10⟩ := hSw.cells
     go_simp
    (try simp only [zzp, zzb, zzc])
    refine Ix.tk 4 ⟨some 44, .move (.tmp 0), _, _, _, _⟩ (.pointer (some ⟨sb, 0, none⟩)) [12] ?_ KP.out ?_
    ·intro wq hSw
     obtain ⟨y0, y1, y2, y3, y4, y5, y6, y7, y8, y9, y10⟩ := hSw.cells
     go_simp
    (try simp only [zzp, zzb, zzc])
    refine Ix.tk 5 ⟨some 45, .nilCheck (.tmp 44), _, _, _, _⟩ (.pointer (some ⟨sb, 0, none⟩)) [12] ?_ KP.out ?_
    ·intro wq hSw
     obtain ⟨y0, y1, y2, y3, y4, y5, y6, y7, y8, y9, y10⟩ := hSw.cells
     go_simp
    (try simp only [zzp, zzb, zzc])
    refine Ix.tk 6 ⟨some 46, .fieldAddr 130 (.tmp 45) 3, _, _, _, _⟩ (.pointer (some ⟨sb, 5, none⟩)) [12] ?_ KP.out ?_
    ·intro wq hSw
     obtain ⟨y0, y1, y2, y3, y4, y5, y6, y7, y8, y9, y10⟩ := hSw.cells
     go_simp
    (try simp only [zzp, zzb, zzc])
    refine Ix.tk 7 ⟨some 47, .load 2 (.tmp 46), _, _, _, _⟩ (.int .i64 s.next) [12] ?_ KP.out ?_
    ·intro wq hSw
     obtain ⟨y0, y1, y2, y3, y4, y5, y6, y7, y8, y9, y10⟩ := hSw.cells
     go_simp
    (try simp only [zzp, zzb, zzc])
    refine Ix.tk 8 ⟨some 48, .move (.tmp 0), _, _, _, _⟩ (.pointer (some ⟨sb, 0, none⟩)) [12] ?_ KP.out ?_
    ·intro wq hSw
     obtain ⟨y0, y1, y2, y3, y4, y5, y6, y7, y8, y9, y10⟩ := hSw.cells
     go_simp
    (try simp only [zzp, zzb, zzc])
    refine Ix.tk 9 ⟨some 49, .nilCheck (.tmp 48), _, _, _, _⟩ (.pointer (some ⟨sb, 0, none⟩)) [12] ?_ KP.out ?_
    ·intro wq hSw
     obtain ⟨y0, y1, y2, y3, y4, y5, y6, y7, y8, y9, y10⟩ := hSw.cells
     go_simp
    (try simp only [zzp, zzb, zzc])
    refine Ix.tk 10 ⟨some 50, .fieldAddr 130 (.tmp 49) 5, _, _, _, _⟩ (.pointer (some ⟨sb, 7, none⟩)) [12] ?_ KP.out ?_
    ·intro wq hSw
     obtain ⟨y0, y1, y2, y3, y4, y5, y6, y7, y8, y9, y10⟩ := hSw.cells
     go_simp
    (try simp only [zzp, zzb, zzc])
    refine Ix.tk 11 ⟨some 51, .load 36 (.tmp 50), _, _, _, _⟩ (.int .u32 s.seed) [12] ?_ KP.out ?_
    ·intro wq hSw
     obtain ⟨y0, y1, y2, y3, y4, y5, y6, y7, y8, y9, y10⟩ := hSw.cells
     go_simp
    (try simp only [zzp, zzb, zzc])
    obtain ⟨w4, hr4, m4, t4⟩ := KP.out.sm.store (n := s.next) (f := s.seed) (by omega) (by omega) (by simp only; unfold maxLen; omega)
    unfold TS sv at hr4
    simp only at m4
    rw [hSL2.out] at m4
    have S4 := KP.out.seeds m4 (turned_but t4)
    have B4 : But (SOwn sb xb mb v) w w4 := B1.out.trans ((turned_but t4).mono fun k _ hk => .inr (.inr (.inl hk)))
    obtain ⟨v', FS, FB, FO⟩ := FIN.out w4 SL v1 S4 B4
    obtain ⟨y0, y1, y2, y3, y4, y5, y6, y7, y8, y9, y10⟩ := S4.cells
    have z5 := S4.frozen 5
    have z6 := S4.frozen 6
    have z7 := S4.frozen 7
    simp only at y5 y6 y7
    replace FS := hide FS
    replace FB := hide FB
    replace FO := hide FO
    clear S4 B4 m4 t4
    refine wpAnyT_one (i := 12) (o := ⟨none, .mapUpdate 128 (.tmp 43) (.tmp 47) (.tmp 51), _, _, _, _⟩) (by kernel_rfl) rfl (fun K hK => ?_)
    go_simp
    refine hK.out _ _ (vac (by kernel_rfl)) ?_
    clear hK K hr4
    (try simp only [zzq])
    refine wpAnyT_done (by kernel_rfl) ?_ _
    go_wp2_with fail
    go_returns
    exact ⟨rfl, v', FS.out, FB.out, FO.out⟩
   ·have kf : (f1 == s.next) = false := by simp [hf]
    have hSL2 : Hid (s.sd = SL) := hide (by have := hSL.out; rwa [if_neg hf] at this)
    clear hSL
    replace hf := hide hf
    go_upto_region 2 with fail
    go_quiet (fail)
    have b3 : Below w2.heap.size w2 (w2.drewN nq) := below_drewN (Below.refl _ _) nq
    have S3 : Seg (w2.drewN nq) sb { s with x := X, sd := SL } xb mb v1 := by have := S2.out.below b3; rwa [← hSL2.out]
    have B3 : But (SOwn sb xb mb v) w (w2.drewN nq) := B1.out.trans (But.of_below b3 _)
    obtain ⟨v', FS, FB, FO⟩ := FIN.out _ SL v1 S3 B3
    clear e0 y0 y1 y2 y3 y4 y5 y6 y7 y8 y9 y10
    obtain ⟨y0, y1, y2, y3, y4, y5, y6, y7, y8, y9, y10⟩ := S3.cells
    have z5 := S3.frozen 5
    have z6 := S3.frozen 6
    have z7 := S3.frozen 7
    simp only at y5 y6 y7
    replace FS := hide FS
    replace FB := hide FB
    replace FO := hide FO
    clear S3 B3 b3 S2
    generalize w2.drewN nq = w3 at *
    go_wp2_with fail
    go_returns
    exact ⟨rfl, v', FS.out, FB.out, FO.out⟩
theorem made_yes (w : World) (sb b : Nat) (h : w.cell? ⟨sb, 0, none⟩ = some (.pointer (some ⟨b, 0, none⟩))) : Calls Tryz.prog 61 #[.pointer (some ⟨sb, 0, none⟩)] w fun e w' => e = .returned (.bool true) ∧ w' = w := by
 go_enter Tryz.func61, Tryz.ntmps61
 go_wp2_with fail
 go_ret
 exact ⟨rfl, rfl⟩
theorem lookSize : (Tryz.prog.info? 77).map (·.size) = some 8 := by kernel_rfl
def lookZ : Array Value := #[.string ⟨#[]⟩, .int .i64 0, .int .i64 0, .int .u32 0, .int .i64 0, .int .i64 0, .int .u32 0, .bool false]
end Go.Proofs.YtpflaglfnkmjiaaGreat.Sg
namespace Go.Proofs.YtpflaglfnkmjiaaGreat
open Go.RowKit
def sg64 (n : Nat) : Int := if n < 9223372036854775808 then (n : Int) else (n : Int) - 18446744073709551616
theorem sg64_wrap (n : Nat) (h : n < 18446744073709551616) : IntKind.i64.wrap (n : Int) = sg64 n := by
 rw [IntKind.wrap_i64]; unfold sg64; split <;> omega
theorem number_any (w : World) (rb : Nat) (v : Value) (l : List UInt8) (s : Nat × Int) (h : RdrAt w rb l s.1 s.2) :
    Calls Tryz.prog 136 #[.agg #[.pointer (some ⟨rb, 0, none⟩), v]] w fun e w' => e = .returned (.int .i64 (sg64 (stv l 8 s))) ∧ RdrAt w' rb l (stp l 8 s).1 (stp l 8 s).2 ∧ w.grownBy w' (some rb) := by
 have hN := hide (stv_lt l 8 s)
 have hr := hide (h.below (box_below w (.cells #[.pointer (some ⟨rb, 0, none⟩), v] 212)))
 obtain ⟨N, hNe⟩ : ∃ N, Hid (stv l 8 s = N) := ⟨_, rfl⟩
 rw [hNe.out]
 rw [hNe.out] at hN
 have hW : IntKind.i64.wrap (N : Int) = sg64 N := sg64_wrap N (by simpa using hN.out)
 go_enter Tryz.func136, Tryz.ntmps136
 go_wp2_with fail
 refine (fixed64_tot _ rb l s hr.out).mono ?_
 rintro e w1 ⟨rfl, hr1, hg1⟩
 rw [hNe.out]
 replace hr1 := hide hr1
 have hg := hide (box_grown hg1)
 clear hg1
 go_wp2_with fail
 go_ret
 exact ⟨by first | rfl | (rw [← hW]) , hr1.out, hg.out⟩
theorem short_any (w : World) (rb : Nat) (v : Value) (l : List UInt8) (k : Nat) (er : Int) (h : RdrAt w rb l k er) :
    Calls Tryz.prog 133 #[.agg #[.pointer (some ⟨rb, 0, none⟩), v]] w fun e w' => e = .returned (.bool (er != 0)) ∧ Below w.heap.size w w' := by
 have hr := hide (h.below (box_below w (.cells #[.pointer (some ⟨rb, 0, none⟩), v] 212)))
 go_enter Tryz.func133, Tryz.ntmps133
 go_wp2_with fail
 refine (err_any _ rb l k er hr.out).mono ?_
 rintro e w1 ⟨rfl, hq⟩
 have hb := hide (keepF (box_below w (.cells #[.pointer (some ⟨rb, 0, none⟩), v] 212)) (hq.below _))
 clear hq
 generalize (if er = 0 then 0 else (k : Int)) = z
 go_wp2_with fail
 go_ret
 exact ⟨rfl, hb.out⟩
theorem behind_any (w : World) (rb : Nat) (v : Value) (l m : List UInt8) (k : Nat) (er : Int) (n : Nat) (hn : n ≤ 4096) (h : RdrAt w rb m k er) (hv : Sl w v l) (hk : k ≤ l.length) :
    Calls Tryz.prog 138 #[.agg #[.pointer (some ⟨rb, 0, none⟩), v], .int .i64 (n : Int)] w fun e w' =>
     (l.length - k < n ∧ e = .returned (.tuple #[.slice none 0 0, .bool false]) ∧ Below w.heap.size w w') ∨
     (n ≤ l.length - k ∧ ∃ v', e = .returned (.tuple #[v', .bool true]) ∧ w'.ownsRow w.heap.size 5 1 v' ((l.drop k).take n).length (bvals ((l.drop k).take n)) ∧ Below w.heap.size w w') := by
 have hr0 := hide (h.below (box_below w (.cells #[.pointer (some ⟨rb, 0, none⟩), v] 212)))
 obtain ⟨ao, ca, rfl, g2, g3, g4, g5⟩ := hv
 have HS := hide (sl_drop k hk g2 g3 g4 g5)
 have HL := hide hk
 obtain ⟨L, hL⟩ : ∃ L, Hid (l.length = L) := ⟨_, rfl⟩
 rw [hL.out] at hk g3 HS hr0
 rw [hL.out]
 have hm : ca ≤ 9223372036854775807 := by unfold maxLen at g4; omega
 have hkc : k ≤ ca := by omega
 generalize hz : (if ca = k then ao else Option.map (fun x : Addr => x.add k) ao) = zo at *
 clear g2 g4 g5 h
 go_enter Tryz.func138, Tryz.ntmps138
 go_wp2_with fail
 go_quiet ((go_at_call 182; exact Calls.quiet_of_same (at_any _ rb m k er (hr0.out.below (Qt.below ⟨_, rfl⟩ _)))))
 clear hz
 have HB : Hid (Below w.heap.size w ((w.alloc (.cells #[.pointer (some ⟨rb, 0, none⟩), .slice ao L ca] 212)).drewN nq)) := keepF (box_below _ _) (Qt.below ⟨_, rfl⟩ _)
 clear hr0
 generalize (w.alloc (.cells #[.pointer (some ⟨rb, 0, none⟩), .slice ao L ca] 212)).drewN nq = wq at *
 obtain ⟨J, hJ⟩ : ∃ J, J = L - k := ⟨_, rfl⟩
 have hcJ : J ≤ ca - k := by omega
 have hcm : ca - k ≤ 9223372036854775807 := by omega
 have HJ := hide hJ
 rw [← hJ] at HS ⊢
 generalize ca - k = cb at *
 clear hJ hkc hk g3 hm
 by_cases hlt : J < n
 ·go_wp2_with fail
  go_ret2
  exact Or.inl ⟨by rw [← HJ.out]; exact hlt, rfl, HB.out⟩
 ·have hle : n ≤ J := by omega
  have hnc : n ≤ cb := by omega
  have hlen : Hid ((l.drop k).length = J) := by show _ = _; rw [List.length_drop, hL.out, HJ.out]
  have s1 := hide (Below.sl HB.out (sl_take n (by rw [hlen.out]; exact hle) HS.out hlen.out))
  have hbl : Hid (((l.drop k).take n).length ≤ 140737488355328) := by show _ ≤ _; simp; omega
  go_wp2_with fail
  refine (clone_any _ _ _ s1.out hbl.out).mono ?_
  rintro e w2 ⟨v2, rfl, ho, hb⟩
  have ho2 := hide (owns_lower ho HB.out.size)
  have hb2 := hide (keepF HB.out hb)
  clear ho hb
  go_wp2_with fail
  go_ret2
  exact Or.inr ⟨by rw [← HJ.out]; exact hle, _, rfl, ho2.out, hb2.out⟩
def fN (l : List UInt8) : Nat := num (l.take 4)
def fL (l : List UInt8) : Nat := num ((l.drop 4).take 8)
def fM (l : List UInt8) : Nat := num ((l.drop 12).take 4)
def fD (l : List UInt8) : List UInt8 := (l.drop 16).take (fN l)
def rdE (seed : Crc.R) (l : List UInt8) : Int :=
 if l.length < 16 then 2 else if 4096 < fN l then 3 else if fL l < 1 ∨ 9223372036854775806 < fL l then 4 else if l.length - 16 < fN l then 2 else if (Crc.maskOf (fsum seed (fL l) (fD l))).toNat ≠ fM l then 5 else 0
def rdF (seed : Crc.R) (l : List UInt8) : Int × List UInt8 × Int × Crc.R × Int :=
 if rdE seed l = 0 then ((fL l : Int), fD l, 16 + (fN l : Int), fsum seed (fL l) (fD l), 0) else (0, [], 0, 0#32, rdE seed l)
def DoesRead (f : Nat) : Prop := ∀ (w : World) (seed : Crc.R) (v : Value) (l : List UInt8), Sl w v l →
 Calls Tryz.prog f #[.int .u32 (seed.toNat : Int), v] w fun e w' => ∃ v', e = .returned (.tuple #[.agg #[.int .i64 (rdF seed l).1, v'], .int .i64 (rdF seed l).2.2.1, .int .u32 ((rdF seed l).2.2.2.1.toNat : Int), .int .i64 (rdF seed l).2.2.2.2]) ∧ w'.ownsRow w.heap.size 5 1 v' (rdF seed l).2.1.length (bvals (rdF seed l).2.1) ∧ Below w.heap.size w w'
theorem read3_ok (l : List UInt8) (h : 16 ≤ l.length) : stp (l.take 16) 4 (stp (l.take 16) 8 (stp (l.take 16) 4 (0, 0))) = (16, 0) ∧ stv (l.take 16) 4 (0, 0) = fN l ∧ stv (l.take 16) 8 (stp (l.take 16) 4 (0, 0)) = fL l ∧ stv (l.take 16) 4 (stp (l.take 16) 8 (stp (l.take 16) 4 (0, 0))) = fM l := by
 have hl : (l.take 16).length = 16 := by simp; omega
 have e1 : stp (l.take 16) 4 (0, 0) = (4, 0) := by simp [stp, hl]
 have e2 : stp (l.take 16) 8 (4, 0) = (12, 0) := by simp [stp, hl]
 have e3 : stp (l.take 16) 4 (12, 0) = (16, 0) := by simp [stp, hl]
 rw [e1, e2, e3]
 refine ⟨rfl, ?_, ?_, ?_⟩
 ·simp [stv, hl, fN, List.take_take]
 ·simp [stv, hl, fL, List.drop_take, List.take_take]
 ·simp [stv, hl, fM, List.drop_take, List.take_take]
theorem read3_no (l : List UInt8) (h : l.length < 16) : ((stp (l.take 16) 4 (stp (l.take 16) 8 (stp (l.take 16) 4 (0, 0)))).2 != 0) = true := by
 have hl : (l.take 16).length = l.length := by simp; omega
 unfold stp
 rw [hl]
 simp only [Nat.zero_add, if_true]
 by_cases h4 : 4 ≤ l.length
 ·simp only [h4, if_true]
  by_cases h12 : 4 + 8 ≤ l.length
  ·simp only [h12, if_true]
   rw [if_neg (by omega)]; rfl
  ·simp [h12]
 ·simp [h4]
def RS (w0 q : World) (b0 b8 rb : Nat) (c0 : Array Value) (T0 : TypeId) (v : Value) (l : List UInt8) (s : Nat × Int) : Prop :=
 q.heap[b0]? = some (.cells c0 T0 (0, 0)) ∧ q.heap[b8]? = some (.cells #[.pointer (some ⟨rb, 0, none⟩), v] 212 (0, 0)) ∧ RdrAt q rb l s.1 s.2 ∧ Below w0.heap.size w0 q ∧ b0 ≠ rb ∧ b8 ≠ rb ∧ w0.heap.size ≤ rb
theorem RS.step {w0 q q' : World} {b0 b8 rb : Nat} {c0 : Array Value} {T0 : TypeId} {v : Value} {l : List UInt8} {s s' : Nat × Int} (h : RS w0 q b0 b8 rb c0 T0 v l s) (hg : q.grownBy q' (some rb)) (hr : RdrAt q' rb l s'.1 s'.2) : RS w0 q' b0 b8 rb c0 T0 v l s' := by
 obtain ⟨h1, h2, h3, h4, h5, h6, h7⟩ := h
 refine ⟨?_, ?_, hr, below_block h4 hg h7, h5, h6, h7⟩
 ·rw [hg.block b0 (heap_lt h1) (by simpa using h5)]; exact h1
 ·rw [hg.block b8 (heap_lt h2) (by simpa using h6)]; exact h2
theorem RS.below {w0 q q' : World} {b0 b8 rb : Nat} {c0 : Array Value} {T0 : TypeId} {v : Value} {l : List UInt8} {s : Nat × Int} (h : RS w0 q b0 b8 rb c0 T0 v l s) (hb : Below q.heap.size q q') : RS w0 q' b0 b8 rb c0 T0 v l s := by
 obtain ⟨h1, h2, h3, h4, h5, h6, h7⟩ := h
 exact ⟨by rw [hb.block b0 (heap_lt h1)]; exact h1, by rw [hb.block b8 (heap_lt h2)]; exact h2, h3.below hb, keepF h4 hb, h5, h6, h7⟩
theorem RS.cells {w0 q : World} {b0 b8 rb : Nat} {c0 : Array Value} {T0 : TypeId} {v : Value} {l : List UInt8} {s : Nat × Int} (h : RS w0 q b0 b8 rb c0 T0 v l s) : q.cell? ⟨b8, 0, none⟩ = some (.pointer (some ⟨rb, 0, none⟩)) ∧ q.cell? ⟨b8, 1, none⟩ = some v :=
 ⟨(two_cells h.2.1).1, (two_cells h.2.1).2.1⟩
theorem RS.f32 {w0 q : World} {b0 b8 rb : Nat} {c0 : Array Value} {T0 : TypeId} {v : Value} {l : List UInt8} {s : Nat × Int} (h : RS w0 q b0 b8 rb c0 T0 v l s) :
    Calls Tryz.prog 132 #[.pointer (some ⟨rb, 0, none⟩)] q fun e w' => e = .returned (.int .u32 (stv l 4 s : Int)) ∧ RS w0 w' b0 b8 rb c0 T0 v l (stp l 4 s) :=
 (fixed32_tot q rb l s h.2.2.1).mono fun _ _ ⟨e, r, g⟩ => ⟨e, h.step g r⟩
theorem RS.num {w0 q : World} {b0 b8 rb : Nat} {c0 : Array Value} {T0 : TypeId} {v : Value} {l : List UInt8} {s : Nat × Int} (h : RS w0 q b0 b8 rb c0 T0 v l s) :
    Calls Tryz.prog 136 #[.agg #[.pointer (some ⟨rb, 0, none⟩), v]] q fun e w' => e = .returned (.int .i64 (sg64 (stv l 8 s))) ∧ RS w0 w' b0 b8 rb c0 T0 v l (stp l 8 s) :=
 (number_any q rb v l s h.2.2.1).mono fun _ _ ⟨e, r, g⟩ => ⟨e, h.step g r⟩
theorem RS.short {w0 q : World} {b0 b8 rb : Nat} {c0 : Array Value} {T0 : TypeId} {v : Value} {l : List UInt8} {s : Nat × Int} (h : RS w0 q b0 b8 rb c0 T0 v l s) :
    Calls Tryz.prog 133 #[.agg #[.pointer (some ⟨rb, 0, none⟩), v]] q fun e w' => e = .returned (.bool (s.2 != 0)) ∧ RS w0 w' b0 b8 rb c0 T0 v l s :=
 (short_any q rb v l s.1 s.2 h.2.2.1).mono fun _ _ ⟨e, b⟩ => ⟨e, h.below b⟩
theorem inB_sg (X : Nat) (h : X < 18446744073709551616) : inB (sg64 X) 9223372036854775806 = decide (1 ≤ X ∧ X ≤ 9223372036854775806) := by
 rw [Bool.eq_iff_iff]
 unfold inB sg64
 simp only [Bool.and_eq_true, decide_eq_true_eq]
 split <;> omega
theorem put2_owns {w : World} {b base n : Nat} {v : Value} {xs : List Value} {z0 z1 : Value} {T : TypeId} (h : w.ownsRow base 5 1 v n xs) (hb : w.heap[b]? = some (.cells #[z0, z1] T (0, 0))) (hT : T ≠ 5 := by decide) {a0 a1 : Value} : (put2 w b a0 a1).ownsRow base 5 1 v n xs := by
 have hne : v.ownBlock ≠ some b := fun e => by
  obtain ⟨_, p⟩ := id h
  rcases p with ⟨rfl, _⟩ | ⟨g, cap, cur, rfl, _, hg, _⟩
  ·simp [Value.ownBlock] at e
  ·simp [Value.ownBlock] at e
   subst e
   rw [hb] at hg
   simp at hg
   exact hT hg.2
 exact ownsRow_setCell_other (ownsRow_setCell_other h hne _) hne _
theorem read_any : DoesRead 70 := by
 intro w seed v l hv
 have HV := hide hv
 obtain ⟨n, hn⟩ : ∃ n, Hid (l.length = n) := ⟨_, rfl⟩
 obtain ⟨ao, ca, rfl⟩ := hv.form hn.out
 have HV1 := hide (Below.sl (box_below w (.cells #[.int .i64 0, .slice none 0 0] 66)) hv)
 clear hv
 obtain ⟨F, hF⟩ : ∃ F, Hid (rdF seed l = F) := ⟨_, rfl⟩
 rw [hF.out]
 go_enter Tryz.func70, Tryz.ntmps70
 go_wp2_with fail
 refine (newR_any _ _ l 16 (by omega) HV1.out).mono ?_
 rintro e w1 ⟨rb, rfl, hr, hb, hrb⟩
 have hB : Hid (Below w.heap.size w w1) := keepF (box_below _ _) hb
 have hh := hb.block w.heap.size (by simp)
 rw [heap_alloc_new] at hh
 have hrb' : Hid (w.heap.size + 1 ≤ rb) := by simpa [Hid] using hrb
 replace hh := hide hh
 replace hr := hide hr
 clear hb hrb
 go_wp2_with fail
 have R0 : Hid (RS w (w1.alloc (.cells #[.pointer (some ⟨rb, 0, none⟩), .slice ao n ca] 212)).drew w.heap.size w1.heap.size rb #[.int .i64 0, .slice none 0 0] 66 (.slice ao n ca) (l.take 16) (0, 0)) := by
  have hlt := hr.out.lt
  have hbx := box_below w1 (.cells #[.pointer (some ⟨rb, 0, none⟩), .slice ao n ca] 212)
  refine ⟨?_, heap_alloc_new _ _, (hr.out.below hbx).drew, (keepF hB.out hbx).drew, by have := hrb'.out; omega, by omega, by have := hrb'.out; omega⟩
  show (w1.alloc _).heap[w.heap.size]? = _
  rw [hbx.block w.heap.size (heap_lt hh.out)]; exact hh.out
 have hS0 := R0.out.cells
 clear hh hr hB hrb'
 go_region_held3 (fun q => q.cell? ⟨w1.heap.size, 0, none⟩ = some (.pointer (some ⟨rb, 0, none⟩)) ∧ q.cell? ⟨w1.heap.size, 1, none⟩ = some (.slice ao n ca))
  (first | exact hS0 | assumption | exact RS.cells (by assumption))
  (first
   | (go_at_call 132; refine (RS.f32 R2).mono ?_; rintro e u3 ⟨rfl, R3⟩)
   | (go_at_call 136; refine (RS.num R1).mono ?_; rintro e u2 ⟨rfl, R2⟩)
   | (go_at_call 132; refine (RS.f32 R0.out).mono ?_; rintro e u1 ⟨rfl, R1⟩))
 clear R0 R1 R2 hS0 HV1
 have R3' := hide R3
 obtain ⟨hc8, hc9⟩ := R3.cells
 clear R3
 rename_i hold
 clear hold
 obtain ⟨N, hN⟩ : ∃ N, Hid (stv (l.take 16) 4 (0, 0) = N) := ⟨_, rfl⟩
 obtain ⟨X, hX⟩ : ∃ X, Hid (stv (l.take 16) 8 (stp (l.take 16) 4 (0, 0)) = X) := ⟨_, rfl⟩
 obtain ⟨M, hM⟩ : ∃ M, Hid (stv (l.take 16) 4 (stp (l.take 16) 8 (stp (l.take 16) 4 (0, 0))) = M) := ⟨_, rfl⟩
 obtain ⟨s3, hs3⟩ : ∃ s3, Hid (stp (l.take 16) 4 (stp (l.take 16) 8 (stp (l.take 16) 4 (0, 0))) = s3) := ⟨_, rfl⟩
 rw [hN.out, hX.out, hM.out]
 rw [hs3.out] at R3'
 have hNb : N < 4294967296 := by rw [← hN.out]; have := stv_lt (l.take 16) 4 (0, 0); simpa using this
 have hXb : X < 18446744073709551616 := by rw [← hX.out]; have := stv_lt (l.take 16) 8 (stp (l.take 16) 4 (0, 0)); simpa using this
 have hMb : M < 4294967296 := by rw [← hM.out]; have := stv_lt (l.take 16) 4 (stp (l.take 16) 8 (stp (l.take 16) 4 (0, 0))); simpa using this
 have HXb := hide hXb
 clear hXb
 go_wp2_with fail
 refine (RS.short R3'.out).mono ?_
 rintro e u4 ⟨rfl, R4⟩
 replace R4 := hide R4
 clear R3' hc8 hc9
 by_cases h16 : n < 16
 ·have hne : Hid ((s3.2 != 0) = true) := by rw [← hs3.out]; exact read3_no l (by rw [hn.out]; exact h16)
  rw [hne.out]
  obtain rfl : F = (0, [], 0, 0#32, 2) := by
   rw [← hF.out]
   have e : rdE seed l = 2 := by rw [rdE, if_pos (by rw [hn.out]; exact h16)]
   rw [rdF, e]; rfl
  have hP := hide (two_cells (put2_heap R4.out.1 (.int .i64 0) (.slice none 0 0)))
  have hB2 := hide (put2_below R4.out.2.2.2.1 (Nat.le_refl _) (.int .i64 0) (.slice none 0 0))
  obtain ⟨p0, p1, p2, p3⟩ := two_cells R4.out.1
  go_wp2_with fail
  show bodyPost _ _ _ _ _ (put2 u4 w.heap.size (.int .i64 0) (.slice none 0 0))
  obtain ⟨w9, hw9⟩ : ∃ w9, Hid (put2 u4 w.heap.size (.int .i64 0) (.slice none 0 0) = w9) := ⟨_, rfl⟩
  rw [hw9.out] at hP hB2 ⊢
  obtain ⟨k0, k1, _, _⟩ := hP.out
  refine bodyPost_ret (by simp [results, Tryz.results70, go_sem, k0, k1]; rfl) rfl ?_
  exact ⟨_, rfl, World.ownsRow_nil _ _ _ _, hB2.out⟩
 ·obtain ⟨e0, e1, e2, e3⟩ := read3_ok l (by rw [hn.out]; omega)
  rw [hN.out] at e1
  rw [hX.out] at e2
  rw [hM.out] at e3
  rw [hs3.out] at e0
  subst e0
  have E16 : Hid (¬ l.length < 16) := by show ¬ _; rw [hn.out]; exact h16
  replace e1 := hide e1
  replace e2 := hide e2
  replace e3 := hide e3
  have hz : (((16 : Nat), (0 : Int)).2 != 0) = false := rfl
  rw [hz]
  clear hz hN hX hM hs3
  by_cases h3 : 4096 < N
  ·obtain rfl : F = (0, [], 0, 0#32, 3) := by
     rw [← hF.out]
     have e : rdE seed l = 3 := by rw [rdE, if_neg E16.out, if_pos (by rw [← e1.out]; exact h3)]
     rw [rdF, e]; rfl
   have hP := hide (two_cells (put2_heap R4.out.1 (.int .i64 0) (.slice none 0 0)))
   have hB2 := hide (put2_below R4.out.2.2.2.1 (Nat.le_refl _) (.int .i64 0) (.slice none 0 0))
   obtain ⟨p0, p1, p2, p3⟩ := two_cells R4.out.1
   go_wp2_with fail
   show bodyPost _ _ _ _ _ (put2 u4 w.heap.size (.int .i64 0) (.slice none 0 0))
   obtain ⟨w9, hw9⟩ : ∃ w9, Hid (put2 u4 w.heap.size (.int .i64 0) (.slice none 0 0) = w9) := ⟨_, rfl⟩
   rw [hw9.out] at hP hB2 ⊢
   obtain ⟨k0, k1, _, _⟩ := hP.out
   refine bodyPost_ret (by simp [results, Tryz.results70, go_sem, k0, k1]; rfl) rfl ?_
   exact ⟨_, rfl, World.ownsRow_nil _ _ _ _, hB2.out⟩
  ·cases hin : inB (sg64 X) 9223372036854775806 with
   | false =>
    have hbad : fL l < 1 ∨ 9223372036854775806 < fL l := by
     rw [← e2.out]
     rw [inB_sg X HXb.out, decide_eq_false_iff_not] at hin
     omega
    obtain rfl : F = (0, [], 0, 0#32, 4) := by
     rw [← hF.out]
     have e : rdE seed l = 4 := by rw [rdE, if_neg E16.out, if_neg (by rw [← e1.out]; exact h3), if_pos hbad]
     rw [rdF, e]; rfl
    replace hin := hide hin
    clear hbad
    go_wp2_with fail
    refine (within_any _ (sg64 X) 9223372036854775806).mono ?_
    rintro e w0 ⟨rfl, hw⟩
    obtain rfl := hw.symm
    rw [hin.out]
    have hP := hide (two_cells (put2_heap R4.out.1 (.int .i64 0) (.slice none 0 0)))
    have hB2 := hide (put2_below R4.out.2.2.2.1 (Nat.le_refl _) (.int .i64 0) (.slice none 0 0))
    obtain ⟨p0, p1, p2, p3⟩ := two_cells R4.out.1
    go_wp2_with fail
    show bodyPost _ _ _ _ _ (put2 u4 w.heap.size (.int .i64 0) (.slice none 0 0))
    obtain ⟨w9, hw9⟩ : ∃ w9, Hid (put2 u4 w.heap.size (.int .i64 0) (.slice none 0 0) = w9) := ⟨_, rfl⟩
    rw [hw9.out] at hP hB2 ⊢
    obtain ⟨k0, k1, _, _⟩ := hP.out
    refine bodyPost_ret (by simp [results, Tryz.results70, go_sem, k0, k1]; rfl) rfl ?_
    exact ⟨_, rfl, World.ownsRow_nil _ _ _ _, hB2.out⟩
   | true =>
    have hgood : 1 ≤ X ∧ X ≤ 9223372036854775806 := by
     rw [inB_sg X HXb.out, decide_eq_true_eq] at hin
     exact hin
    have hsg : sg64 X = (X : Int) := by unfold sg64; rw [if_pos (by omega)]
    have Hgood := hide hgood
    have hnb : Hid (¬ (fL l < 1 ∨ 9223372036854775806 < fL l)) := by show ¬ _; rw [← e2.out]; omega
    rw [hsg] at hin ⊢
    replace hin := hide hin
    have hn3 := hide (show ¬ (4096 < fN l) by rw [← e1.out]; exact h3)
    clear hgood hsg
    go_wp2_with fail
    refine (within_any _ (X : Int) 9223372036854775806).mono ?_
    rintro e w0 ⟨rfl, hw⟩
    obtain rfl := hw.symm
    rw [hin.out]
    obtain ⟨hc8, hc9⟩ := R4.out.cells
    have hV4 := hide (Below.sl R4.out.2.2.2.1 HV.out)
    have hN4 : Hid (N ≤ 4096) := by show _ ≤ _; omega
    go_wp2_with fail
    refine (behind_any _ rb _ l (l.take 16) 16 0 N hN4.out R4.out.2.2.1 hV4.out (by rw [hn.out]; omega)).mono ?_
    rintro e u5 (⟨hs, rfl, hb⟩ | ⟨hs, vd, rfl, hod, hb⟩)
    ·have R5 := hide (R4.out.below hb)
     clear hc8 hc9 hb
     obtain rfl : F = (0, [], 0, 0#32, 2) := by
      rw [← hF.out]
      have e : rdE seed l = 2 := by rw [rdE, if_neg E16.out, if_neg hn3.out, if_neg hnb.out, if_pos (by rw [← e1.out]; exact hs)]
      rw [rdF, e]; rfl
     replace hs := hide hs
     have hP := hide (two_cells (put2_heap R5.out.1 (.int .i64 0) (.slice none 0 0)))
     have hB2 := hide (put2_below R5.out.2.2.2.1 (Nat.le_refl _) (.int .i64 0) (.slice none 0 0))
     obtain ⟨p0, p1, p2, p3⟩ := two_cells R5.out.1
     go_wp2_with fail
     show bodyPost _ _ _ _ _ (put2 u5 w.heap.size (.int .i64 0) (.slice none 0 0))
     obtain ⟨w9, hw9⟩ : ∃ w9, Hid (put2 u5 w.heap.size (.int .i64 0) (.slice none 0 0) = w9) := ⟨_, rfl⟩
     rw [hw9.out] at hP hB2 ⊢
     obtain ⟨k0, k1, _, _⟩ := hP.out
     refine bodyPost_ret (by simp [results, Tryz.results70, go_sem, k0, k1]; rfl) rfl ?_
     exact ⟨_, rfl, World.ownsRow_nil _ _ _ _, hB2.out⟩
    ·have R5 := hide (R4.out.below hb)
     have hD : Hid ((l.drop 16).take N = fD l) := by show _ = _; rw [e1.out]; rfl
     rw [hD.out] at hod
     have hDl : Hid ((fD l).length = N) := by show _ = _; rw [← hD.out]; simp; omega
     have E2 : Hid (¬ (l.length - 16 < fN l)) := by show ¬ _; rw [← e1.out]; omega
     have sd := hide (Sl.of_owns hod)
     obtain ⟨aod, cad, rfl⟩ := sd.out.form hDl.out
     have od := hide (owns_lower hod R4.out.2.2.2.1.size)
     replace hs := hide hs
     clear hc8 hc9 hb hod R4 hV4
     go_wp2_with fail
     refine (frameFields_any _ (X : Int) N (by have := Hgood.out; omega) (by have := Hgood.out; omega) hN4.out).mono ?_
     rintro e u6 ⟨vf, rfl, hof, hb6⟩
     rw [Int.toNat_natCast, ← hDl.out] at hof
     have sf := hide (Sl.of_owns hof)
     have R6 := hide (R5.out.below hb6)
     have sd6 := hide (Below.sl hb6 sd.out)
     have od6 := hide (ownsRow_below od.out hb6)
     clear hof hb6 R5 sd od
     go_wp2_with fail
     refine (frameSum_any _ seed X _ _ (fD l) sf.out sd6.out (by rw [hDl.out]; exact hN4.out)).mono ?_
     rintro e u7 ⟨rfl, hb7⟩
     obtain ⟨S, hS⟩ : ∃ S, Hid (fsum seed X (fD l) = S) := ⟨_, rfl⟩
     rw [hS.out]
     have R7 := hide (R6.out.below hb7)
     have od7 := hide (ownsRow_below od6.out hb7)
     clear hb7 R6 sd6 od6 sf
     go_wp2_with fail
     refine (Crc.mask_any _ S).mono ?_
     rintro e w0 ⟨rfl, hw⟩
     obtain rfl := hw.symm
     by_cases hm : (Crc.maskOf S).toNat = M
     ·have hmi : (((Crc.maskOf S).toNat : Int) != (M : Int)) = false := by simp; omega
      obtain rfl : F = ((X : Int), fD l, 16 + (N : Int), S, 0) := by
       rw [← hF.out]
       have e : rdE seed l = 0 := by rw [rdE, if_neg E16.out, if_neg hn3.out, if_neg hnb.out, if_neg E2.out, if_neg (by rw [← e2.out, ← e3.out, hS.out]; simpa using hm)]
       rw [rdF, e, if_pos rfl, ← e1.out, ← e2.out, hS.out]
      have hsz : Hid (szF (N : Int) = 16 + (N : Int)) := by show _ = _; have := hN4.out; rw [szF, if_pos (by omega)]
      clear hm
      go_wp2_with fail
      refine (size_any _ (N : Int)).mono ?_
      rintro e w0 ⟨rfl, hw⟩
      obtain rfl := hw.symm
      rw [hsz.out]
      have hP := hide (two_cells (put2_heap R7.out.1 (.int .i64 (X : Int)) (.slice aod N cad)))
      have hB2 := hide (put2_below R7.out.2.2.2.1 (Nat.le_refl _) (.int .i64 (X : Int)) (.slice aod N cad))
      have OWN7 : Hid ((put2 u7 w.heap.size (.int .i64 (X : Int)) (.slice aod N cad)).ownsRow w.heap.size 5 1 (.slice aod N cad) (fD l).length (bvals (fD l))) := put2_owns od7.out R7.out.1
      obtain ⟨p0, p1, p2, p3⟩ := two_cells R7.out.1
      go_wp2_with fail
      show bodyPost _ _ _ _ _ (put2 u7 w.heap.size (.int .i64 (X : Int)) (.slice aod N cad))
      obtain ⟨w9, hw9⟩ : ∃ w9, Hid (put2 u7 w.heap.size (.int .i64 (X : Int)) (.slice aod N cad) = w9) := ⟨_, rfl⟩
      rw [hw9.out] at hP hB2 OWN7 ⊢
      obtain ⟨k0, k1, _, _⟩ := hP.out
      refine bodyPost_ret (by simp [results, Tryz.results70, go_sem, k0, k1]; rfl) rfl ?_
      exact ⟨_, rfl, OWN7.out, hB2.out⟩
     ·have hmi : (((Crc.maskOf S).toNat : Int) != (M : Int)) = true := by simp; omega
      obtain rfl : F = (0, [], 0, 0#32, 5) := by
       rw [← hF.out]
       have e : rdE seed l = 5 := by rw [rdE, if_neg E16.out, if_neg hn3.out, if_neg hnb.out, if_neg E2.out, if_pos (by rw [← e2.out, ← e3.out, hS.out]; simpa using hm)]
       rw [rdF, e]; rfl
      clear hm
      have hP := hide (two_cells (put2_heap R7.out.1 (.int .i64 0) (.slice none 0 0)))
      have hB2 := hide (put2_below R7.out.2.2.2.1 (Nat.le_refl _) (.int .i64 0) (.slice none 0 0))
      obtain ⟨p0, p1, p2, p3⟩ := two_cells R7.out.1
      go_wp2_with fail
      show bodyPost _ _ _ _ _ (put2 u7 w.heap.size (.int .i64 0) (.slice none 0 0))
      obtain ⟨w9, hw9⟩ : ∃ w9, Hid (put2 u7 w.heap.size (.int .i64 0) (.slice none 0 0) = w9) := ⟨_, rfl⟩
      rw [hw9.out] at hP hB2 ⊢
      obtain ⟨k0, k1, _, _⟩ := hP.out
      refine bodyPost_ret (by simp [results, Tryz.results70, go_sem, k0, k1]; rfl) rfl ?_
      exact ⟨_, rfl, World.ownsRow_nil _ _ _ _, hB2.out⟩
end Go.Proofs.YtpflaglfnkmjiaaGreat
namespace Go.Proofs.YtpflaglfnkmjiaaGreat.Sg
open Go.RowKit Go.Maps Go.Sort Go.Shelf Go.Proofs.YtpflaglfnkmjiaaGreat.Nm Go.Proofs.YtpflaglfnkmjiaaGreat.Dk
def refF (s : SG) (ls : List (List UInt8)) : Int :=
 if s.cond ≠ 0 then 40 else if ls = [] then 1 else if ∃ d ∈ ls, 4096 < d.length then 3 else if 9223372036854775806 - s.next + 1 < (ls.length : Int) then 44 else 0
theorem sls_at {w : World} {vs : List Value} {ls : List (List UInt8)} (h : Sls w vs ls) {i : Nat} (hi : i < ls.length) : ∃ ao ca, vs[i]? = some (.slice ao (ls.getD i []).length ca) ∧ Sl w (.slice ao (ls.getD i []).length ca) (ls.getD i []) := by
 have h1 : i < vs.length := by rw [h.1]; exact hi
 have h2 := h.2 i h1 hi
 have e : ls.getD i [] = ls[i] := by simp [hi]
 rw [e]
 obtain ⟨ao, ca, e2, r⟩ := h2
 refine ⟨ao, ca, by rw [List.getElem?_eq_getElem h1, e2], ?_⟩
 exact ⟨ao, ca, rfl, r⟩
theorem row_at {w : World} {ao : Option Addr} {n ca : Nat} {vs : List Value} (h : Row w (.slice ao n ca) vs) {i : Nat} {u : Value} (hu : vs[i]? = some u) : ∃ b off, ao = some ⟨b, off, none⟩ ∧ w.cell? ⟨b, off + i, none⟩ = some u := by
 obtain ⟨ao', ca', e, _, _, _, h5⟩ := h
 simp at e
 obtain ⟨rfl, _, rfl⟩ := e
 obtain ⟨hi, he⟩ := List.getElem?_eq_some_iff.1 hu
 obtain ⟨b, off, e1, hc⟩ := h5 i hi
 exact ⟨b, off, e1, by rw [hc, he]⟩
theorem refuse_any {w : World} {sb : Nat} {s : SG} {xb mb : Nat} {v : Value} (h : Seg w sb s xb mb v) (ok : SOk s) (vd : Value) (vs : List Value) (ls : List (List UInt8)) (hr : Row w vd vs) (hs : Sls w vs ls) :
    Calls Tryz.prog 56 #[.pointer (some ⟨sb, 0, none⟩), vd] w fun e w' => e = .returned (.int .i64 (refF s ls)) ∧ w' = w := by
 obtain ⟨y0, y1, y2, y3, y4, y5, y6, y7, y8, y9, y10⟩ := h.cells
 have hM := made_yes w sb s.b y0
 have HS := hide hs
 have HR := hide hr
 obtain ⟨ao, ca, rfl, _, h2, h3, _⟩ := hr
 have hN : Hid (vs.length = ls.length) := hs.1
 rw [hN.out] at h2 HR ⊢
 have hnx := ok.n1
 have hnx2 := ok.n2
 have hle : ls.length ≤ 9223372036854775807 := by unfold maxLen at h3; omega
 obtain ⟨R, hR⟩ : ∃ R, Hid (refF s ls = R) := ⟨_, rfl⟩
 rw [hR.out]
 obtain ⟨N, hlN⟩ : ∃ N, Hid (ls.length = N) := ⟨_, rfl⟩
 rw [hlN.out] at HR hle ⊢
 clear h ok h2 h3 hs
 by_cases hc : s.cond = 0
 ·have kc : (s.cond != 0) = false := by simp [hc]
  rw [hc] at y8
  by_cases hn0 : N = 0
  ·subst hn0
   have hE := hide (show (1 : Int) = R by rw [← hR.out]; unfold refF; rw [if_neg (by simp [hc]), if_pos (List.length_eq_zero_iff.1 hlN.out)])
   clear hR
   go_enter Tryz.func56, Tryz.ntmps56
   go_wp2_with (first | (go_at_call 61; refine hM.mono ?_; rintro e w1 ⟨rfl, e1⟩; rw [e1]; clear e1 w1) | fail)
   go_ret
   exact ⟨congrArg (fun z : Int => Ending.returned (Value.int .i64 z)) hE.out, rfl⟩
  have kn : ((N : Int) == 0) = false := by simp; omega
  have hne : Hid (ls ≠ []) := hide fun c => by rw [c] at hlN; exact hn0 hlN.out.symm
  have i63 : IntKind.i64.wrap (9223372036854775806 - s.next) = 9223372036854775806 - s.next := by simp [IntKind.wrap, IntKind.bits, IntKind.signed]; omega
  have i64 : IntKind.i64.wrap (9223372036854775806 - s.next + 1) = 9223372036854775806 - s.next + 1 := by simp [IntKind.wrap, IntKind.bits, IntKind.signed]; omega
  go_enter Tryz.func56, Tryz.ntmps56
  go_wp2_with (first | (go_at_call 61; refine hM.mono ?_; rintro e w1 ⟨rfl, e1⟩; rw [e1]; clear e1 w1) | fail)
  go_loopw [22] (fun v22 wr => ∃ i : Nat, i ≤ N ∧ v22 = .int .i64 (i : Int) ∧ (∀ k, k < i → (ls.getD k []).length ≤ 4096) ∧ wr = w) (fun v _ => N - (intOf v).toNat)
  case atStart => exact ⟨0, by omega, rfl, fun k hk => absurd hk (by omega), rfl⟩
  case round =>
   obtain ⟨i, hi, rfl, hall, hwr⟩ := hrel
   subst hwr
   replace hall := hide hall
   by_cases hin : i = N
   ·subst hin
    have hno : Hid (¬ ∃ d ∈ ls, 4096 < d.length) := hide (by
     rintro ⟨d, hd, hl⟩
     obtain ⟨k, hk, rfl⟩ := List.mem_iff_getElem.1 hd
     have := hall.out k (by rw [← hlN.out]; exact hk)
     simp only [List.getD, List.getElem?_eq_getElem hk, Option.getD_some] at this
     omega)
    by_cases he : 9223372036854775806 - s.next + 1 < (i : Int)
    ·have hE := hide (show (44 : Int) = R by rw [← hR.out]; unfold refF; rw [if_neg (by simp [hc]), if_neg hne.out, if_neg hno.out, hlN.out, if_pos he])
     clear hR hno hall
     go_wp2_with fail
     go_ret
     exact ⟨congrArg (fun z : Int => Ending.returned (Value.int .i64 z)) hE.out, rfl⟩
    ·have hE := hide (show (0 : Int) = R by rw [← hR.out]; unfold refF; rw [if_neg (by simp [hc]), if_neg hne.out, if_neg hno.out, hlN.out, if_neg he])
     clear hR hno hall
     go_wp2_with fail
     go_ret
     exact ⟨congrArg (fun z : Int => Ending.returned (Value.int .i64 z)) hE.out, rfl⟩
   ·have hil : i < N := by omega
    have i1 : (i : Int) < (N : Int) := by omega
    have i0 : (0 : Int) ≤ (i : Int) := by omega
    obtain ⟨da, dc, hv, _⟩ := sls_at HS.out (i := i) (by rw [hlN.out]; exact hil)
    obtain ⟨rb, off, rfl, d0⟩ := row_at HR.out hv
    obtain ⟨M, hM2⟩ : ∃ M, Hid ((ls.getD i []).length = M) := ⟨_, rfl⟩
    rw [hM2.out] at d0
    by_cases hbig : 4096 < M
    ·have kb : (4096 : Int) < (M : Int) := by omega
     have hE := hide (show (3 : Int) = R by
      rw [← hR.out]; unfold refF
      rw [if_neg (by simp [hc]), if_neg hne.out, if_pos ⟨ls.getD i [], by simp [List.getD, hlN.out, hil], by rw [hM2.out]; exact hbig⟩])
     clear hR hall hv
     go_wp2_with fail
     go_ret
     exact ⟨congrArg (fun z : Int => Ending.returned (Value.int .i64 z)) hE.out, rfl⟩
    ·have kb : ¬ (4096 : Int) < (M : Int) := by omega
     have hall2 : Hid (∀ k, k < i + 1 → (ls.getD k []).length ≤ 4096) := hide fun k hk => by
      by_cases hki : k = i
      ·rw [hki, hM2.out]; omega
      ·exact hall.out k (by omega)
     clear hall hv
     go_wp2_with fail
     go_roundw
     case rel => exact ⟨i + 1, by omega, by go_num, hall2.out, by trivial⟩
     case measure => simp [intOf]; omega
 ·have kc : (s.cond != 0) = true := by simp [hc]
  have hE := hide (show (40 : Int) = R by rw [← hR.out]; unfold refF; rw [if_pos hc])
  clear hR
  go_enter Tryz.func56, Tryz.ntmps56
  go_wp2_with (first | (go_at_call 61; refine hM.mono ?_; rintro e w1 ⟨rfl, e1⟩; rw [e1]; clear e1 w1) | fail)
  go_ret
  exact ⟨congrArg (fun z : Int => Ending.returned (Value.int .i64 z)) hE.out, rfl⟩
def fcell (e : Int × Int) : List Value := [.int .i64 e.1, .int .u32 e.2]
def fcells (l : List (Int × Int)) : List Value := l.flatMap fcell
theorem fcells_snoc (l : List (Int × Int)) (e : Int × Int) : fcells (l ++ [e]) = fcells l ++ [.int .i64 e.1, .int .u32 e.2] := by simp [fcells, fcell]
theorem fcells_get (l : List (Int × Int)) : ∀ i (_ : i < l.length), (fcells l)[i * 2]? = some (.int .i64 (l.getD i (0, 0)).1) ∧ (fcells l)[i * 2 + 1]? = some (.int .u32 (l.getD i (0, 0)).2) := by
 induction l with
 | nil => intro i h; simp at h
 | cons p r ih =>
  intro i h
  rw [fcells, List.flatMap_cons, ← fcells]
  match i with
  | 0 => simp [fcell]
  | i + 1 =>
   have := ih i (by simpa using h)
   rw [show (i + 1) * 2 = i * 2 + 1 + 1 by omega]
   simpa [fcell] using this
def Frs (B : Nat) (w : World) (v : Value) (l : List (Int × Int)) : Prop := w.ownsRow B 132 2 v l.length (fcells l)
theorem Frs.but {X : Nat → Prop} {A B : World} {b : Nat} {v : Value} {l : List (Int × Int)} (h : Frs b A v l) (hb : But X A B) (hx : ∀ k, v.ownBlock = some k → ¬ X k) : Frs b B v l := by
 refine ⟨h.1, ?_⟩
 rcases h.2 with h | ⟨g, cap, cur, rfl, hg, hh, r⟩
 ·exact .inl h
 ·exact .inr ⟨g, cap, cur, rfl, hg, hb.at hh (hx g rfl), r⟩
theorem ob_but {X : Nat → Prop} {A B : World} {b : Nat} {v : Value} {l : List UInt8} (h : Ob b A v l) (hb : But X A B) (hx : ∀ k, v.ownBlock = some k → ¬ X k) : Ob b B v l := by
 refine ⟨h.1, ?_⟩
 rcases h.2 with h | ⟨g, cap, cur, rfl, hg, hh, r⟩
 ·exact .inl h
 ·exact .inr ⟨g, cap, cur, rfl, hg, hb.at hh (hx g rfl), r⟩
theorem rows_apart {w : World} {base e s n : Nat} {v : Value} {xs : List Value} {base' e' s' n' : Nat} {v' : Value} {xs' : List Value} (h : w.ownsRow base e s v n xs) (h' : w.ownsRow base' e' s' v' n' xs') (hT : e ≠ e') : ∀ k, v.ownBlock = some k → v'.ownBlock ≠ some k := fun k hk c => by
 rcases h.2 with ⟨rfl, _⟩ | ⟨g, cap, cur, rfl, hg, hh, r⟩
 ·simp [Value.ownBlock] at hk
 ·rcases h'.2 with ⟨rfl, _⟩ | ⟨g', cap', cur', rfl, hg', hh', r'⟩
  ·simp [Value.ownBlock] at c
  ·simp [Value.ownBlock] at hk c
   subst hk
   subst c
   rw [hh] at hh'
   simp at hh'
   exact hT hh'.2
theorem Frs.at {B : Nat} {w : World} {v : Value} {l : List (Int × Int)} (h : Frs B w v l) (hl : l ≠ []) : ∃ g ca, v = .slice (some ⟨g, 0, none⟩) l.length ca ∧ (∀ i, i < l.length → w.cell? ⟨g, i * 2, none⟩ = some (.int .i64 (l.getD i (0, 0)).1) ∧ w.cell? ⟨g, i * 2 + 1, none⟩ = some (.int .u32 (l.getD i (0, 0)).2)) ∧ l.length ≤ ca ∧ ca ≤ 9223372036854775807 ∧ g < w.heap.size ∧ B ≤ g := by
 rcases h.2 with ⟨rfl, e⟩ | ⟨g, cap, cur, rfl, hg, hh, a, b, c, d⟩
 ·exact absurd (List.length_eq_zero_iff.1 e) hl
 ·refine ⟨g, cap, rfl, fun i hi => ?_, a, by unfold maxLen at b; omega, heap_lt hh, hg⟩
  have hj : ∀ j, j < l.length * 2 → w.cell? ⟨g, j, none⟩ = (fcells l)[j]? := by
   intro j hj
   rw [cell_of hh, ← d, List.getElem?_take_of_lt hj]
   simp
  obtain ⟨e1, e2⟩ := fcells_get l i hi
  exact ⟨by rw [hj _ (by omega), e1], by rw [hj _ (by omega), e2]⟩
theorem infoWr : (Tryz.prog.info? 132).map (fun i => (i.zero, i.size, i.bytes)) = some (some (.agg #[.int .i64 0, .int .u32 0]), 2, 16) := by kernel_rfl
theorem run_appW {B : Nat} {w : World} {v : Value} {l : List (Int × Int)} (t : Int × Int) (gg : Nat) (h : Frs B w v l) (h0 : w.cell? ⟨gg, 0, none⟩ = some (.int .i64 t.1)) (h1 : w.cell? ⟨gg, 1, none⟩ = some (.int .u32 t.2)) (hl : l.length ≤ 34000000000) (hB : B ≤ w.heap.size) (ty : TypeId) :
    ∃ v' w', (Builtin.append_ #[122, 122] ty #[v, .slice (some ⟨gg, 0, none⟩) 1 1]).run Tryz.prog w = .ok v' w' ∧ Frs B w' v' (l ++ [t]) ∧ w.grownBy w' v.ownBlock ∧ (v'.ownBlock = v.ownBlock ∨ v'.ownBlock = some w.heap.size) := by
 obtain ⟨i0, hi, hz0, hz1, hz2⟩ := info_parts infoWr
 have hcells : ∀ j u, ([.int .i64 t.1, .int .u32 t.2] : List Value)[j]? = some u → w.cell? ((⟨gg, 0, none⟩ : Addr).add j) = some u := by
  intro j u hu
  rw [addr_add]
  match j with
  | 0 => simp at hu; subst hu; exact h0
  | 1 => simp at hu; subst hu; exact h1
  | j + 2 => simp at hu
 obtain ⟨v', w', hr, ho, hg, _, hat⟩ := run_append_own_at (P := Tryz.prog) w B 122 ty 132 i0 (.agg #[.int .i64 0, .int .u32 0]) 2 16 Tryz.underlying122 hi hz0 hz1 hz2 rfl (by decide) v l.length (fcells l) h ⟨gg, 0, none⟩ 1 1 [.int .i64 t.1, .int .u32 t.2] rfl hcells (by
     intro u hu
     simp at hu
     rcases hu with rfl | rfl <;> rfl) (by unfold maxLen; omega) (by omega) hB
 refine ⟨v', w', hr, ?_, hg, hat⟩
 unfold Frs
 rw [List.length_append, fcells_snoc]
 exact ho
def wk (seed : Crc.R) (n : Int) (ls : List (List UInt8)) : Nat → List UInt8 × List (Int × Int) × Crc.R
 | 0 => ([], [], seed)
 | i + 1 => ((wk seed n ls i).1 ++ (wrF (wk seed n ls i).2.2 (n + (i : Int)) (ls.getD i [])).1, (wk seed n ls i).2.1 ++ [(((wrF (wk seed n ls i).2.2 (n + (i : Int)) (ls.getD i [])).1.length : Int), ((wrF (wk seed n ls i).2.2 (n + (i : Int)) (ls.getD i [])).2.1.toNat : Int))], (wrF (wk seed n ls i).2.2 (n + (i : Int)) (ls.getD i [])).2.1)
theorem wr_len (seed : Crc.R) (n : Int) (d : List UInt8) : (wrF seed n d).1.length ≤ 4112 := by
 unfold wrF
 split
 ·simp
 ·split
  ·simp
  ·rw [frm_len]; omega
theorem wk_len (seed : Crc.R) (n : Int) (ls : List (List UInt8)) : ∀ i, (wk seed n ls i).1.length ≤ i * 4112 ∧ (wk seed n ls i).2.1.length = i
 | 0 => ⟨by simp [wk], by simp [wk]⟩
 | i + 1 => by
  obtain ⟨a, b⟩ := wk_len seed n ls i
  have := wr_len (wk seed n ls i).2.2 (n + (i : Int)) (ls.getD i [])
  refine ⟨?_, ?_⟩
  ·rw [wk, List.length_append]; omega
  ·rw [wk]; simp [b]
theorem writeS_any {w : World} {sb : Nat} {s : SG} {xb mb : Nat} {v : Value} (h : Seg w sb s xb mb v) (ok : SOk s) (seed : Crc.R) (hsd : s.seed = (seed.toNat : Int)) (vd : Value) (vs : List Value) (ls : List (List UInt8)) (hr : Row w vd vs) (hs : Sls w vs ls) (hl : ls.length ≤ 34000000000) (hn : s.next + (ls.length : Int) ≤ 9223372036854775807) :
    Calls Tryz.prog 57 #[.pointer (some ⟨sb, 0, none⟩), vd] w fun e w' => ∃ v1 v2, e = .returned (.tuple #[v1, v2]) ∧ Ob w.heap.size w' v1 (wk seed s.next ls ls.length).1 ∧ Frs w.heap.size w' v2 (wk seed s.next ls ls.length).2.1 ∧ Below w.heap.size w w' := by
 have H := hide h
 obtain ⟨y0, y1, y2, y3, y4, y5, y6, y7, y8, y9, y10⟩ := h.cells
 rw [hsd] at y7
 have HS := hide hs
 have HR := hide hr
 obtain ⟨ao, ca, rfl, _, h2, h3, _⟩ := hr
 have hNn : Hid (vs.length = ls.length) := hs.1
 rw [hNn.out] at h2 HR ⊢
 have hnx := ok.n1
 obtain ⟨N, hlN⟩ : ∃ N, Hid (ls.length = N) := ⟨_, rfl⟩
 rw [hlN.out] at HR hl hn ⊢
 obtain ⟨n, hnn⟩ : ∃ n, Hid (s.next = n) := ⟨_, rfl⟩
 rw [hnn.out] at hn hnx y5 ⊢
 have hWk := hide (wk_len seed n ls)
 clear h h2 h3 hs hsd
 go_enter Tryz.func57, Tryz.ntmps57
 go_wp2_with fail
 go_loopw [6, 7, 8, 20] (fun v6 v7 v8 v20 wr => ∃ i : Nat, i ≤ N ∧ v20 = .int .i64 (i : Int) ∧ v8 = .int .u32 ((wk seed n ls i).2.2.toNat : Int) ∧ Hid (Ob w.heap.size wr v6 (wk seed n ls i).1) ∧ Hid (Frs w.heap.size wr v7 (wk seed n ls i).2.1) ∧ Hid (Below w.heap.size w wr)) (fun _ _ _ v _ => N - (intOf v).toNat)
 case atStart => exact ⟨0, by omega, rfl, rfl, World.ownsRow_nil _ _ _ _, World.ownsRow_nil _ _ _ _, Below.refl _ _⟩
 case round =>
  obtain ⟨i, hi, rfl, rfl, O6, O7, BE⟩ := hrel
  by_cases hin : i = N
  ·subst hin
   go_wp2_with fail
   go_ret2
   exact ⟨_, _, rfl, O6.out, O7.out, BE.out⟩
  ·have hil : i < N := by omega
   have i1 : (i : Int) < (N : Int) := by omega
   have i0 : (0 : Int) ≤ (i : Int) := by omega
   obtain ⟨da, dc, hv, hsl⟩ := sls_at HS.out (i := i) (by rw [hlN.out]; exact hil)
   obtain ⟨rb, off, rfl, d0⟩ := row_at (Below.row BE.out HR.out) hv
   obtain ⟨z0, z1, z2, z3, z4, z5, z6, z7, z8, z9, z10⟩ := (H.out.below BE.out).cells
   rw [hnn.out] at z5
   have kw : IntKind.i64.wrap (n + (i : Int)) = n + (i : Int) := by simp [IntKind.wrap, IntKind.bits, IntKind.signed]; omega
   have hWr := hide (write_any wr (wk seed n ls i).2.2 (n + (i : Int)) _ _ (by omega) (by omega) (Below.sl BE.out hsl))
   have hst : Hid (wk seed n ls (i + 1) = ((wk seed n ls i).1 ++ (wrF (wk seed n ls i).2.2 (n + (i : Int)) (ls.getD i [])).1, (wk seed n ls i).2.1 ++ [(((wrF (wk seed n ls i).2.2 (n + (i : Int)) (ls.getD i [])).1.length : Int), ((wrF (wk seed n ls i).2.2 (n + (i : Int)) (ls.getD i [])).2.1.toNat : Int))], (wrF (wk seed n ls i).2.2 (n + (i : Int)) (ls.getD i [])).2.1)) := hide rfl
   obtain ⟨l1, l2⟩ := hWk.out i
   have l3 := wr_len (wk seed n ls i).2.2 (n + (i : Int)) (ls.getD i [])
   obtain ⟨F, hF⟩ : ∃ F, Hid (wrF (wk seed n ls i).2.2 (n + (i : Int)) (ls.getD i []) = F) := ⟨_, rfl⟩
   obtain ⟨P, hP⟩ : ∃ P, Hid (wk seed n ls i = P) := ⟨_, rfl⟩
   rw [hF.out] at hWr hst l3
   rw [hP.out] at hst O6 O7 l1 l2 hWr ⊢
   obtain ⟨fb, fs, fe⟩ := F
   obtain ⟨pb, pf, ps⟩ := P
   simp only at hWr hst l1 l2 l3 O6 O7 ⊢
   generalize (ls.getD i []).length = M at *
   clear hsl hv
   go_wp2_with fail
   go_at_call 122
   refine hWr.out.mono ?_
   rintro e w2 ⟨vb, rfl, ob, b2⟩
   have hsb := Sl.of_owns ob
   obtain ⟨ba, bc, hvb⟩ := Sl.form hsb rfl
   subst hvb
   have O62 := ob_but O6.out (But.of_below b2 fun _ => False) (fun _ _ c => c)
   have O72 := O7.out.but (But.of_below b2 fun _ => False) (fun _ _ c => c)
   have BE2 := keepF BE.out b2
   obtain ⟨v6', w3, r3, O63, g3, at3⟩ := run_app O62 hsb (by omega) BE2.size 39
   have ap67 := rows_apart O62 O72 (by decide)
   have O73 := O72.but (But.of_grownBy g3 (X := fun k => u6.ownBlock = some k) fun k e => e) (fun k hk c => ap67 k c hk)
   have BE3 : Below w.heap.size w w3 := Below.grown BE2 g3 BE2.size (fun k hk => (World.ownsRow.lt O62 k hk).1)
   have B4 := box_below w3 (.cells #[.int .i64 (fb.length : Int), .int .u32 (fs.toNat : Int)] 132)
   have N4 := heap_alloc_new w3 (.cells #[.int .i64 (fb.length : Int), .int .u32 (fs.toNat : Int)] 132)
   have O64 := ob_but O63 (But.of_below B4 fun _ => False) (fun _ _ c => c)
   have O74 := O73.but (But.of_below B4 fun _ => False) (fun _ _ c => c)
   have BE4 := keepF BE3 B4
   obtain ⟨v7', w5, r5, O75, g5, at5⟩ := run_appW ((fb.length : Int), (fs.toNat : Int)) w3.heap.size O74 (by rw [cell_of N4]; rfl) (by rw [cell_of N4]; rfl) (by omega) BE4.size 122
   have ap64 := rows_apart O64 O74 (by decide)
   have O65 : Hid (Ob w.heap.size w5 v6' (pb ++ fb)) := hide (ob_but O64 (But.of_grownBy g5 (X := fun k => u7.ownBlock = some k) fun k e => e) (fun k hk c => ap64 k hk c))
   have BE5 : Hid (Below w.heap.size w w5) := hide (Below.grown BE4 g5 BE4.size (fun k hk => (World.ownsRow.lt O74 k hk).1))
   replace O75 := hide O75
   replace r3 := hide r3
   replace r5 := hide r5
   obtain ⟨a6, n6, c6, h6⟩ : ∃ a n c, u6 = .slice a n c := by
    rcases O62.2 with ⟨rfl, _⟩ | ⟨_, _, _, rfl, _⟩
    ·exact ⟨_, _, _, rfl⟩
    ·exact ⟨_, _, _, rfl⟩
   obtain ⟨a7, n7, c7, h7⟩ : ∃ a n c, u7 = .slice a n c := by
    rcases O72.2 with ⟨rfl, _⟩ | ⟨_, _, _, rfl, _⟩
    ·exact ⟨_, _, _, rfl⟩
    ·exact ⟨_, _, _, rfl⟩
   subst h6
   subst h7
   clear O6 O7 BE O62 O72 BE2 O63 O73 O64 O74 BE3 BE4 B4 N4 g3 g5 at3 at5 ap67 ap64 hsb ob b2 hWr
   go_wp2_with (first
    | (at_builtin; refine Lib.wpList_append_run _ rfl (.tmp 38) (.tmp 39) 39 39 rfl _ _ rfl rfl _ _ r3.out ?_)
    | (at_builtin; refine Lib.wpList_append_run _ rfl (.tmp 41) (.tmp 46) 122 122 rfl _ _ rfl rfl _ _ r5.out ?_)
    | fail)
   go_roundw
   case rel => exact ⟨i + 1, by omega, by go_num, by rw [hst.out], by rw [hst.out]; exact O65.out, by rw [hst.out]; exact O75.out, BE5.out⟩
   case measure => simp [intOf]; omega
open Ix (wp_region_T wpAnyT wpAnyT_take wpAnyT_one wpAnyT_done vac)
theorem sync_dskE {w : World} {b : Nat} {S : DS} {O : Nat → Prop} (h : DskE w b S O) (s : ByteArray) (hs : s.size ≤ maxLen) (hc : S.c7 < 900000000) :
    Calls Tryz.prog 50 #[.pointer (some ⟨b, 0, none⟩), .string s] w fun e w' => e = .returned (.int .i64 (S.sync s).2) ∧ ∃ O', DskE w' b (S.sync s).1 O' ∧ Sgo w w' O O' := by
 obtain ⟨f, g, pd, am, VB, VL, hd⟩ := h
 exact syncF_any hd s hs hc
structure SW (w : World) (sb : Nat) (s : SG) (S : DS) (O : Nat → Prop) (xb mb : Nat) (v : Value) : Prop where
 sg : Seg w sb s xb mb v
 dk : DskE w s.b S O
 ap : ∀ k, SOwn sb xb mb v k → ¬ O k
theorem SW.below {A B : World} {sb : Nat} {s : SG} {S : DS} {O : Nat → Prop} {xb mb : Nat} {v : Value} (h : SW A sb s S O xb mb v) (hb : Below A.heap.size A B) : SW B sb s S O xb mb v := ⟨h.sg.below hb, h.dk.below hb, h.ap⟩
theorem SW.disk {w w' : World} {sb : Nat} {s : SG} {S S' : DS} {O O' : Nat → Prop} {xb mb : Nat} {v : Value} (h : SW w sb s S O xb mb v) (hd : DskE w' s.b S' O') (hg : Sgo w w' O O') : SW w' sb s S' O' xb mb v :=
 ⟨h.sg.but hg.but fun k hk => h.ap k hk, hd, fun k hk c => by
  rcases hg.own k c with c | c
  ·exact h.ap k hk c
  ·have := h.sg.lt k hk; omega⟩
def Bx1 (w : World) (p : Nat) (T : TypeId) (x : Value) : Prop := w.heap[p]? = some (.cells #[x] T (0, 0))
theorem Bx1.but {Y : Nat → Prop} {A B : World} {p : Nat} {T : TypeId} {x : Value} (h : Bx1 A p T x) (hb : But Y A B) (hx : ¬ Y p) : Bx1 B p T x := hb.at h hx
theorem Bx1.below {A B : World} {p : Nat} {T : TypeId} {x : Value} (h : Bx1 A p T x) (hb : Below A.heap.size A B) : Bx1 B p T x := h.but (But.of_below hb fun _ => False) fun c => c
theorem Bx1.cell {w : World} {p : Nat} {T : TypeId} {x : Value} (h : Bx1 w p T x) : w.cell? ⟨p, 0, none⟩ = some x := by rw [cell_of h]; rfl
theorem Bx1.frozen {w : World} {p : Nat} {T : TypeId} {x : Value} (h : Bx1 w p T x) : w.frozen? ⟨p, 0, none⟩ = false := by unfold Bx1 at h; simp [World.frozen?, h]
theorem Bx1.set {w : World} {p : Nat} {T : TypeId} {x : Value} (h : Bx1 w p T x) (y : Value) : Bx1 (w.setCell ⟨p, 0, none⟩ y) p T y := by unfold Bx1 at h ⊢; rw [heap_setCell_same w p 0 _ _ _ h]; rfl
theorem Bx1.lt {w : World} {p : Nat} {T : TypeId} {x : Value} (h : Bx1 w p T x) : p < w.heap.size := heap_lt h
theorem put1_any {w : World} {sb : Nat} {s : SG} {S : DS} {O : Nat → Prop} {xb mb : Nat} {v : Value} (h : SW w sb s S O xb mb v) {p2 p7 : Nat} {vb : Value} {D : List UInt8} (h2 : Bx1 w p2 31 (.pointer (some ⟨sb, 0, none⟩))) (h7 : Bx1 w p7 39 vb) (hb : Sl w vb D) (ho : SOff O vb) (n2 : ¬ O p2) (n7 : ¬ O p7) (hf : s.file.size ≤ maxLen) (hc : S.c7 < 900000000) :
    Calls Tryz.prog 59 #[.pointer (some ⟨p2, 0, none⟩), .pointer (some ⟨p7, 0, none⟩)] w fun e w' => e = .returned (.int .i64 (S.append s.file D).2.2) ∧ ∃ O', DskE w' s.b (S.append s.file D).1 O' ∧ Sgo w w' O O' := by
 obtain ⟨ao, ca, hvb⟩ := Sl.form hb rfl
 subst hvb
 have hA := hide (fun u (hu : Below w.heap.size w u) => append_dsk (h.below hu).dk s.file hf _ D (Below.sl hu hb) ho hc)
 have KS : Hid (Seg w sb s xb mb v ∧ Bx1 w p2 31 (.pointer (some ⟨sb, 0, none⟩)) ∧ Bx1 w p7 39 (.slice ao D.length ca)) := hide ⟨h.sg, h2, h7⟩
 have KN : Hid ((∀ k, SOwn sb xb mb v k → ¬ O k) ∧ ¬ O p2 ∧ ¬ O p7) := hide ⟨h.ap, n2, n7⟩
 obtain ⟨R, hR⟩ : ∃ R, Hid (S.append s.file D = R) := ⟨_, rfl⟩
 rw [hR.out] at hA ⊢
 obtain ⟨S', r1, r2⟩ := R
 simp only at hA ⊢
 generalize D.length = DL at *
 clear h h2 h7 hb ho n2 n7
 go_enter Tryz.func59, Tryz.ntmps59
 go_upto_region 1 with fail
 refine wp_region_T (fun q => Seg q sb s xb mb v ∧ Bx1 q p2 31 (.pointer (some ⟨sb, 0, none⟩)) ∧ Bx1 q p7 39 (.slice ao DL ca)) 14 (by kernel_rfl) ?_
 have DB : Hid (Below w.heap.size w w.drew) := hide (Below.refl _ _).drew
 have KP : Hid (Seg w.drew sb s xb mb v ∧ Bx1 w.drew p2 31 (.pointer (some ⟨sb, 0, none⟩)) ∧ Bx1 w.drew p7 39 (.slice ao DL ca)) := hide ⟨KS.out.1.below DB.out, KS.out.2.1.below DB.out, KS.out.2.2.below DB.out⟩
 generalize w.drew = q at *
 refine Ix.tk 0 ⟨some 6, .load 31 (.tmp 0), _, _, _, _⟩ (.pointer (some ⟨sb, 0, none⟩)) [14] ?_ KP.out ?_
 ·intro wq hSw
  obtain ⟨y0, y1, y2, y3, y4, y5, y6, y7, y8, y9, y10⟩ := hSw.1.cells
  have b0 := hSw.2.1.cell
  have b1 := hSw.2.2.cell
  go_simp
 (try simp only [zzp, zzb, zzc])
 refine Ix.tk 1 ⟨some 7, .nilCheck (.tmp 6), _, _, _, _⟩ (.pointer (some ⟨sb, 0, none⟩)) [14] ?_ KP.out ?_
 ·intro wq hSw
  obtain ⟨y0, y1, y2, y3, y4, y5, y6, y7, y8, y9, y10⟩ := hSw.1.cells
  go_simp
 (try simp only [zzp, zzb, zzc])
 refine Ix.tk 2 ⟨some 8, .fieldAddr 130 (.tmp 7) 0, _, _, _, _⟩ (.pointer (some ⟨sb, 0, none⟩)) [14] ?_ KP.out ?_
 ·intro wq hSw
  obtain ⟨y0, y1, y2, y3, y4, y5, y6, y7, y8, y9, y10⟩ := hSw.1.cells
  go_simp
 (try simp only [zzp, zzb, zzc])
 refine Ix.tk 3 ⟨some 9, .load 25 (.tmp 8), _, _, _, _⟩ (.pointer (some ⟨s.b, 0, none⟩)) [14] ?_ KP.out ?_
 ·intro wq hSw
  obtain ⟨y0, y1, y2, y3, y4, y5, y6, y7, y8, y9, y10⟩ := hSw.1.cells
  have b0 := hSw.2.1.cell
  have b1 := hSw.2.2.cell
  go_simp
 (try simp only [zzp, zzb, zzc])
 refine Ix.tk 4 ⟨some 10, .load 31 (.tmp 0), _, _, _, _⟩ (.pointer (some ⟨sb, 0, none⟩)) [14] ?_ KP.out ?_
 ·intro wq hSw
  obtain ⟨y0, y1, y2, y3, y4, y5, y6, y7, y8, y9, y10⟩ := hSw.1.cells
  have b0 := hSw.2.1.cell
  have b1 := hSw.2.2.cell
  go_simp
 (try simp only [zzp, zzb, zzc])
 refine Ix.tk 5 ⟨some 11, .nilCheck (.tmp 10), _, _, _, _⟩ (.pointer (some ⟨sb, 0, none⟩)) [14] ?_ KP.out ?_
 ·intro wq hSw
  obtain ⟨y0, y1, y2, y3, y4, y5, y6, y7, y8, y9, y10⟩ := hSw.1.cells
  go_simp
 (try simp only [zzp, zzb, zzc])
 refine Ix.tk 6 ⟨some 12, .fieldAddr 130 (.tmp 11) 1, _, _, _, _⟩ (.pointer (some ⟨sb, 1, none⟩)) [14] ?_ KP.out ?_
 ·intro wq hSw
  obtain ⟨y0, y1, y2, y3, y4, y5, y6, y7, y8, y9, y10⟩ := hSw.1.cells
  go_simp
 (try simp only [zzp, zzb, zzc])
 refine Ix.tk 7 ⟨some 13, .load 9 (.tmp 12), _, _, _, _⟩ (.string s.file) [14] ?_ KP.out ?_
 ·intro wq hSw
  obtain ⟨y0, y1, y2, y3, y4, y5, y6, y7, y8, y9, y10⟩ := hSw.1.cells
  have b0 := hSw.2.1.cell
  have b1 := hSw.2.2.cell
  go_simp
 (try simp only [zzp, zzb, zzc])
 refine Ix.tk 8 ⟨some 14, .load 39 (.tmp 1), _, _, _, _⟩ (.slice ao DL ca) [14] ?_ KP.out ?_
 ·intro wq hSw
  obtain ⟨y0, y1, y2, y3, y4, y5, y6, y7, y8, y9, y10⟩ := hSw.1.cells
  have b0 := hSw.2.1.cell
  have b1 := hSw.2.2.cell
  go_simp
 (try simp only [zzp, zzb, zzc])
 refine wpAnyT_one (i := 9) (o := ⟨some 15, .call { callee := .value (.func 49), args := #[.tmp 9, .tmp 13, .tmp 14], argTypes := #[25, 9, 39] }, _, _, _, _⟩) (by kernel_rfl) rfl (fun K hK => ?_)
 go_simp
 go_at_call 49
 refine (hA.out q DB.out).mono ?_
 rintro e w1 ⟨rfl, O1, D1, G1⟩
 have G2 : Hid (Sgo w w1 O O1) := hide ((Sgo.of_below DB.out).trans G1)
 have K1 : Hid (Seg w1 sb s xb mb v ∧ Bx1 w1 p2 31 (.pointer (some ⟨sb, 0, none⟩)) ∧ Bx1 w1 p7 39 (.slice ao DL ca)) := hide ⟨KP.out.1.but G1.but fun k hk => KN.out.1 k hk, KP.out.2.1.but G1.but KN.out.2.1, KP.out.2.2.but G1.but KN.out.2.2⟩
 replace D1 := hide D1
 clear G1
 (try go_simp)
 refine hK.out _ _ (fun _ => K1.out) ?_
 clear hK K
 (try simp only [zzp, zzb, zzc])
 refine Ix.tk 10 ⟨some 5, .move (.tmp 15), _, _, _, _⟩ (.tuple #[.int .i64 r1, .int .i64 r2]) [14] ?_ K1.out ?_
 ·intro wq hSw; go_simp
 (try simp only [zzp, zzb, zzc])
 refine Ix.tk 11 ⟨some 16, .extract (.tmp 5) 0, _, _, _, _⟩ (.int .i64 r1) [14] ?_ K1.out ?_
 ·intro wq hSw; go_simp
 (try simp only [zzp, zzb, zzc])
 refine Ix.tk 12 ⟨some 17, .extract (.tmp 5) 1, _, _, _, _⟩ (.int .i64 r2) [14] ?_ K1.out ?_
 ·intro wq hSw; go_simp
 (try simp only [zzp, zzb, zzc])
 refine wpAnyT_one (i := 13) (o := ⟨some 3, .assign (.tmp 16), _, _, _, _⟩) (by kernel_rfl) rfl (fun K hK => ?_)
 go_simp
 refine hK.out _ _ (fun _ => K1.out) ?_
 clear hK K
 (try simp only [zzp, zzb, zzc])
 refine wpAnyT_one (i := 14) (o := ⟨some 4, .assign (.tmp 17), _, _, _, _⟩) (by kernel_rfl) rfl (fun K hK => ?_)
 go_simp
 refine hK.out _ _ (vac (by kernel_rfl)) ?_
 clear hK K
 (try simp only [zzp, zzb, zzc])
 refine wpAnyT_done (by kernel_rfl) ?_ _
 go_wp2_with fail
 go_ret
 exact ⟨rfl, O1, D1.out, G2.out⟩
theorem sync1_any {w : World} {sb : Nat} {s : SG} {S : DS} {O : Nat → Prop} {xb mb : Nat} {v : Value} (h : SW w sb s S O xb mb v) {p2 : Nat} (h2 : Bx1 w p2 31 (.pointer (some ⟨sb, 0, none⟩))) (n2 : ¬ O p2) (hf : s.file.size ≤ maxLen) (hc : S.c7 < 900000000) :
    Calls Tryz.prog 62 #[.pointer (some ⟨p2, 0, none⟩)] w fun e w' => e = .returned (.int .i64 (S.sync s.file).2) ∧ ∃ O', DskE w' s.b (S.sync s.file).1 O' ∧ Sgo w w' O O' := by
 have hA := hide (fun u (hu : Below w.heap.size w u) => sync_dskE (h.below hu).dk s.file hf hc)
 have KS : Hid (Seg w sb s xb mb v ∧ Bx1 w p2 31 (.pointer (some ⟨sb, 0, none⟩)) ∧ True) := hide ⟨h.sg, h2, trivial⟩
 have KN : Hid ((∀ k, SOwn sb xb mb v k → ¬ O k) ∧ ¬ O p2) := hide ⟨h.ap, n2⟩
 obtain ⟨R, hR⟩ : ∃ R, Hid (S.sync s.file = R) := ⟨_, rfl⟩
 rw [hR.out] at hA ⊢
 obtain ⟨S', r2⟩ := R
 simp only at hA ⊢
 clear h h2 n2
 go_enter Tryz.func62, Tryz.ntmps62
 go_upto_region 1 with fail
 refine wp_region_T (fun q => Seg q sb s xb mb v ∧ Bx1 q p2 31 (.pointer (some ⟨sb, 0, none⟩)) ∧ True) 9 (by kernel_rfl) ?_
 have DB : Hid (Below w.heap.size w w.drew) := hide (Below.refl _ _).drew
 have KP : Hid (Seg w.drew sb s xb mb v ∧ Bx1 w.drew p2 31 (.pointer (some ⟨sb, 0, none⟩)) ∧ True) := hide ⟨KS.out.1.below DB.out, KS.out.2.1.below DB.out, trivial⟩
 generalize w.drew = q at *
 refine Ix.tk 0 ⟨some 2, .load 31 (.tmp 0), _, _, _, _⟩ (.pointer (some ⟨sb, 0, none⟩)) [9] ?_ KP.out ?_
 ·intro wq hSw
  obtain ⟨y0, y1, y2, y3, y4, y5, y6, y7, y8, y9, y10⟩ := hSw.1.cells
  have b0 := hSw.2.1.cell
  go_simp
 (try simp only [zzp, zzb, zzc])
 refine Ix.tk 1 ⟨some 3, .nilCheck (.tmp 2), _, _, _, _⟩ (.pointer (some ⟨sb, 0, none⟩)) [9] ?_ KP.out ?_
 ·intro wq hSw
  obtain ⟨y0, y1, y2, y3, y4, y5, y6, y7, y8, y9, y10⟩ := hSw.1.cells
  go_simp
 (try simp only [zzp, zzb, zzc])
 refine Ix.tk 2 ⟨some 4, .fieldAddr 130 (.tmp 3) 0, _, _, _, _⟩ (.pointer (some ⟨sb, 0, none⟩)) [9] ?_ KP.out ?_
 ·intro wq hSw
  obtain ⟨y0, y1, y2, y3, y4, y5, y6, y7, y8, y9, y10⟩ := hSw.1.cells
  go_simp
 (try simp only [zzp, zzb, zzc])
 refine Ix.tk 3 ⟨some 5, .load 25 (.tmp 4), _, _, _, _⟩ (.pointer (some ⟨s.b, 0, none⟩)) [9] ?_ KP.out ?_
 ·intro wq hSw
  obtain ⟨y0, y1, y2, y3, y4, y5, y6, y7, y8, y9, y10⟩ := hSw.1.cells
  have b0 := hSw.2.1.cell
  go_simp
 (try simp only [zzp, zzb, zzc])
 refine Ix.tk 4 ⟨some 6, .load 31 (.tmp 0), _, _, _, _⟩ (.pointer (some ⟨sb, 0, none⟩)) [9] ?_ KP.out ?_
 ·intro wq hSw
  obtain ⟨y0, y1, y2, y3, y4, y5, y6, y7, y8, y9, y10⟩ := hSw.1.cells
  have b0 := hSw.2.1.cell
  go_simp
 (try simp only [zzp, zzb, zzc])
 refine Ix.tk 5 ⟨some 7, .nilCheck (.tmp 6), _, _, _, _⟩ (.pointer (some ⟨sb, 0, none⟩)) [9] ?_ KP.out ?_
 ·intro wq hSw
  obtain ⟨y0, y1, y2, y3, y4, y5, y6, y7, y8, y9, y10⟩ := hSw.1.cells
  go_simp
 (try simp only [zzp, zzb, zzc])
 refine Ix.tk 6 ⟨some 8, .fieldAddr 130 (.tmp 7) 1, _, _, _, _⟩ (.pointer (some ⟨sb, 1, none⟩)) [9] ?_ KP.out ?_
 ·intro wq hSw
  obtain ⟨y0, y1, y2, y3, y4, y5, y6, y7, y8, y9, y10⟩ := hSw.1.cells
  go_simp
 (try simp only [zzp, zzb, zzc])
 refine Ix.tk 7 ⟨some 9, .load 9 (.tmp 8), _, _, _, _⟩ (.string s.file) [9] ?_ KP.out ?_
 ·intro wq hSw
  obtain ⟨y0, y1, y2, y3, y4, y5, y6, y7, y8, y9, y10⟩ := hSw.1.cells
  have b0 := hSw.2.1.cell
  go_simp
 (try simp only [zzp, zzb, zzc])
 refine wpAnyT_one (i := 8) (o := ⟨some 10, .call { callee := .value (.func 50), args := #[.tmp 5, .tmp 9], argTypes := #[25, 9] }, _, _, _, _⟩) (by kernel_rfl) rfl (fun K hK => ?_)
 go_simp
 go_at_call 50
 refine (hA.out q DB.out).mono ?_
 rintro e w1 ⟨rfl, O1, D1, G1⟩
 have G2 : Hid (Sgo w w1 O O1) := hide ((Sgo.of_below DB.out).trans G1)
 have K1 : Hid (Seg w1 sb s xb mb v ∧ Bx1 w1 p2 31 (.pointer (some ⟨sb, 0, none⟩)) ∧ True) := hide ⟨KP.out.1.but G1.but fun k hk => KN.out.1 k hk, KP.out.2.1.but G1.but KN.out.2, trivial⟩
 replace D1 := hide D1
 clear G1
 (try go_simp)
 refine hK.out _ _ (fun _ => K1.out) ?_
 clear hK K
 (try simp only [zzp, zzb, zzc])
 refine wpAnyT_one (i := 9) (o := ⟨some 1, .assign (.tmp 10), _, _, _, _⟩) (by kernel_rfl) rfl (fun K hK => ?_)
 go_simp
 refine hK.out _ _ (vac (by kernel_rfl)) ?_
 clear hK K
 (try simp only [zzp, zzb, zzc])
 refine wpAnyT_done (by kernel_rfl) ?_ _
 go_wp2_with fail
 go_ret
 exact ⟨rfl, O1, D1.out, G2.out⟩
end Go.Proofs.YtpflaglfnkmjiaaGreat.Sg
