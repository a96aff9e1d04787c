/-
  A region that draws its order, whose last call turns what the loads read: S is asked behind every operation but that one, for which all loads wait no more. (After the law of regions that hold loads beside calls: the same proof, but for the one operation.)
-/
import Derived.Deep.RegionHeld
import Derived.Test.YtjehpijjneghpaaGreatM08
namespace Go.Proofs.YtjehpijjneghpaaGreat.Ix
open Go
variable {P : Program} {ops : Array Oper} {Q : Exit → Act → World → Prop} {md : Region.Mode} {S : World → Prop} {d : Nat}
def pathB (md : Region.Mode) (ops : Array Oper) : Nat → List Nat → Bool
  | _, [] => true
  | p, m :: r => (match ops[m]? with | some o => o.after.any fun e => Region.binds md e && e.on == p | none => false) && pathB md ops m r
theorem not_ready {listed : Array Bool} : ∀ (ms : List Nat) (p : Nat), pathB md ops p ms = true → listed.getD p false = false → (∀ m ∈ ms, listed.getD m true = false) → ∀ m ∈ ms, m ∉ Region.ready md ops listed := by
  intro ms
  induction ms with
  | nil => intro p _ _ _ m hm; cases hm
  | cons a r ih =>
    intro p hp hl hu m hm
    rw [pathB, Bool.and_eq_true] at hp
    obtain ⟨h1, h2⟩ := hp
    have ha : a ∉ Region.ready md ops listed := fun hr => by
      obtain ⟨_, o, ho, hall⟩ := mem_ready.1 hr
      rw [ho] at h1
      simp only [Array.any_eq_true] at h1
      obtain ⟨i, hi, he⟩ := h1
      rw [Bool.and_eq_true] at he
      have := hall _ (Array.getElem_mem hi) he.1
      rw [show (o.after[i]).on = p by simpa using he.2, hl] at this
      cases this
    rcases List.mem_cons.1 hm with rfl | hm
    · exact ha
    · have hla : listed.getD a false = false := by
        have := hu a (by simp)
        by_cases hs : a < listed.size
        · simp [Array.getD, hs] at this ⊢; exact this
        · simp [Array.getD, hs]
      exact ih a h2 hla (fun m hm => hu m (by simp [hm])) m hm
def wpAnyT (P : Program) (md : Region.Mode) (ops : Array Oper) (Q : Exit → Act → World → Prop) (S : World → Prop) (d : Nat) : Nat → Array Bool → Act → World → Prop
  | 0, listed, a, w => Region.ready md ops listed = [] ∧ Q .normal a w
  | fuel + 1, listed, a, w =>
    (Region.ready md ops listed = [] → Q .normal a w) ∧
    ∀ i ∈ Region.ready md ops listed, wpOp P ops Q i (fun a' w' => ((listed.setIfInBounds i true).getD d false = false → S w') ∧ wpAnyT P md ops Q S d fuel (listed.setIfInBounds i true) a' w') a w
theorem wpAny_of_T : ∀ (fuel : Nat) (listed : Array Bool) (a : Act) (w : World), wpAnyT P md ops Q S d fuel listed a w → wpAny P md ops Q fuel listed a w
  | 0, _, _, _, h => h
  | fuel + 1, _, _, _, h => ⟨h.1, fun i hi => wpOp_mono (fun a' w' h' => wpAny_of_T fuel _ a' w' h'.2) (h.2 i hi)⟩
theorem getD_false {listed : Array Bool} {m : Nat} (h : listed.getD m true = false) : listed.getD m false = false := by
  by_cases hs : m < listed.size
  · simp [Array.getD, hs] at h ⊢; exact h
  · simp [Array.getD, hs]
theorem vac {b : Bool} {p : Prop} (hb : b = true) : b = false → p := fun h => by rw [hb] at h; cases h
theorem getD_unlisted {listed : Array Bool} {j m : Nat} (h : listed.getD m true = false) (hne : j ≠ m) : (listed.setIfInBounds j true).getD m true = false := by
  rw [getD_set_ne true hne]; exact h
theorem wpAnyT_first {i : Nat} {oi : Oper} {v : Value} {ms : List Nat} (hi : ops[i]? = some oi) (hsel : ∀ (j : Nat) (o : Oper) cs b, ops[j]? = some o → o.op ≠ .select cs b)
    (hQ : ∀ c a w, Q (.panic c) (a.put oi.dst v) w → Q (.panic c) a w) (hpath : pathB md ops i ms = true) (hdm : d ∈ ms) :
    ∀ (fuel : Nat) (listed : Array Bool) (a : Act) (w : World),
      (∀ j oj, ops[j]? = some oj → j ≠ i → listed.getD j true = false → (∀ e ∈ oj.after, Region.binds md e = true → e.on ≠ i) → oi.apart ops oj = true) →
      i ∈ Region.ready md ops listed → (∀ m ∈ ms, listed.getD m true = false) → YieldsIf P ops S oi v a → S w →
      wpAnyT P md ops Q S d fuel (listed.setIfInBounds i true) (a.put oi.dst v) w → wpAnyT P md ops Q S d (fuel + 1) listed a w := by
  intro fuel
  induction fuel with
  | zero =>
    intro listed a w _ hr _ hy hS H
    refine ⟨fun h => (by rw [h] at hr; cases hr), fun j hj => ?_⟩
    by_cases hji : j = i
    · subst hji; exact hy.wpOp hi hS ⟨fun _ => hS, H⟩
    · have := ready_mono hj hji
      rw [H.1] at this
      cases this
  | succ fuel ih =>
    intro listed a w hfree hr hms hy hS H
    refine ⟨fun h => (by rw [h] at hr; cases hr), fun j hj => ?_⟩
    by_cases hji : j = i
    · subst hji; exact hy.wpOp hi hS ⟨fun _ => hS, H⟩
    · have hil : listed.getD i false = false := by
        have := (mem_ready.1 hr).1
        by_cases hs : i < listed.size
        · simp [Array.getD, hs] at this ⊢; exact this
        · simp [Array.getD, hs]
      have hnm : j ∉ ms := fun h => not_ready ms i hpath hil hms j h hj
      have hjd : j ≠ d := fun e => hnm (by rw [e]; exact hdm)
      have hid : i ≠ d := fun e => not_ready ms i hpath hil hms d hdm (by rw [← e]; exact hr)
      have hdj : ((listed.setIfInBounds i true).setIfInBounds j true).getD d false = false := getD_false (getD_unlisted (getD_unlisted (hms d hdm) hid) hjd)
      have h1 := H.2 j (ready_mono hj hji)
      obtain ⟨hjun, oj, hoj, hall⟩ := mem_ready.1 hj
      have hnot : ∀ e ∈ oj.after, Region.binds md e = true → e.on ≠ i := fun e he hb heq => by
        have h1 := hall e he hb
        rw [heq, hil] at h1
        cases h1
      have h2 := wpOp_putIf hoj (hfree j oj hoj hji hjun hnot) (fun cs b => hsel i oi cs b hi) (fun cs b => hsel j oj cs b hoj) hQ hy h1
      have hfree' : ∀ k ok, ops[k]? = some ok → k ≠ i → (listed.setIfInBounds j true).getD k true = false →
          (∀ e ∈ ok.after, Region.binds md e = true → e.on ≠ i) → oi.apart ops ok = true := fun k ok hk hki hun hno => by
        refine hfree k ok hk hki ?_ hno
        by_cases hjk : j = k
        · subst hjk; exact hjun
        · rw [getD_set_ne true hjk] at hun; exact hun
      refine wpOp_mono (fun a' w' h3 => ⟨fun _ => h3.2.1 hdj, ih (listed.setIfInBounds j true) a' w' hfree' (ready_mono hr (Ne.symm hji)) (fun m hm => getD_unlisted (hms m hm) (fun e => hnm (by rw [e]; exact hm))) h3.1 (h3.2.1 hdj) ?_⟩) h2
      rw [Array.setIfInBounds_comm _ _ hji]
      exact h3.2.2
theorem wpAnyT_take {i : Nat} {oi : Oper} {v : Value} (ms : List Nat) {fuel : Nat} {listed : Array Bool} {a : Act} {w : World} (hi : ops[i]? = some oi)
    (hs : Region.noSelect ops = true) (hf : Region.free md ops listed i = true) (hr : (Region.ready md ops listed).contains i = true)
    (hp : (pathB md ops i ms && ms.contains d && ms.all fun m => listed.getD m true == false) = true)
    (hQ : ∀ c a w, Q (.panic c) (a.put oi.dst v) w → Q (.panic c) a w) (hy : YieldsIf P ops S oi v a) (hS : S w)
    (h : wpAnyT P md ops Q S d fuel (listed.setIfInBounds i true) (a.put oi.dst v) w) : wpAnyT P md ops Q S d (fuel + 1) listed a w := by
  simp only [Bool.and_eq_true, List.all_eq_true] at hp
  exact wpAnyT_first hi (Region.noSelect_spec hs) hQ hp.1.1 (by simpa using hp.1.2) fuel listed a w (Region.free_spec hi hf) (by simpa using hr) (fun m hm => by simpa using hp.2 m hm) hy hS h
theorem wpAnyT_one {i : Nat} {o : Oper} {fuel : Nat} {listed : Array Bool} {a : Act} {w : World} (hr : Region.ready md ops listed = [i]) (ho : ops[i]? = some o)
    (h : ∀ K' : Act → World → Prop, Shut (∀ a w, ((listed.setIfInBounds i true).getD d false = false → S w) → wpAnyT P md ops Q S d fuel (listed.setIfInBounds i true) a w → K' a w) → if Region.wanted o (yielded ops a.tmps) = true then Oper.wp P o a w K' Q else K' (a.put o.dst undef) w) :
    wpAnyT P md ops Q S d (fuel + 1) listed a w := by
  refine ⟨fun h0 => (by rw [h0] at hr; cases hr), fun j hj => ?_⟩
  rw [hr, List.mem_singleton] at hj
  subst hj
  exact wpOp_step ho (fun K' hK => h K' (fun a w hS hW => hK a w ⟨hS, hW⟩))
theorem _root_.Go.Proofs.YtjehpijjneghpaaGreat.zzp (a : Act) (t : Nat) (v : Value) : a.put (some t) v = { a with tmps := a.tmps.setIfInBounds t v } := rfl
theorem _root_.Go.Proofs.YtjehpijjneghpaaGreat.zzq (a : Act) (v : Value) : a.put none v = a := rfl
theorem _root_.Go.Proofs.YtjehpijjneghpaaGreat.zza {α : Type} (l : List α) (i : Nat) (x : α) : l.toArray.setIfInBounds i x = (l.set i x).toArray := List.setIfInBounds_toArray ..
theorem _root_.Go.Proofs.YtjehpijjneghpaaGreat.zzb {α : Type} (a b : α) (l : List α) : (a :: l).set 0 b = b :: l := rfl
theorem _root_.Go.Proofs.YtjehpijjneghpaaGreat.zzc {α : Type} (a b : α) (l : List α) (n : Nat) : (a :: l).set (n + 1) b = a :: l.set n b := rfl
theorem tk (i : Nat) (oi : Oper) (v : Value) (ms : List Nat) {fuel : Nat} {listed : Array Bool} {a : Act} {w : World} (hy : ∀ w, S w → (execOp a.eval oi).run P w = .ok (.value v) w) (hS : S w)
    (h : wpAnyT P md ops Q S d fuel (listed.setIfInBounds i true) (a.put oi.dst v) w) (hi : ops[i]? = some oi := by rfl) (hw : Region.wanted oi (yielded ops a.tmps) = true := by rfl)
    (hs : Region.noSelect ops = true := by kernel_rfl) (hf : Region.free md ops listed i = true := by kernel_rfl) (hr : (Region.ready md ops listed).contains i = true := by kernel_rfl)
    (hp : (pathB md ops i ms && ms.contains d && ms.all fun m => listed.getD m true == false) = true := by kernel_rfl) (hQ : ∀ c a w, Q (.panic c) (a.put oi.dst v) w → Q (.panic c) a w := by exact fun _ _ _ h => h) :
    wpAnyT P md ops Q S d (fuel + 1) listed a w := wpAnyT_take ms hi hs hf hr hp hQ (.inl ⟨hw, hy⟩) hS h
theorem wpAnyT_done {listed : Array Bool} {a : Act} {w : World} (hr : Region.ready md ops listed = []) (h : Q .normal a w) : ∀ fuel, wpAnyT P md ops Q S d fuel listed a w
  | 0 => ⟨hr, h⟩
  | _ + 1 => ⟨fun _ => h, by rw [hr]; simp⟩
theorem wp_region_T {id : Nat} {a : Act} {w : World} (S : World → Prop) (d : Nat) (hm : P.follows .mixedOrders = true)
    (h : wpAnyT P .any ops Q S d ops.size (Array.replicate ops.size false) a w.drew) : (Code.region id ops true).wp P Q a w :=
  wp_region_any hm (wpAny_of_T _ _ _ _ h)
end Go.Proofs.YtjehpijjneghpaaGreat.Ix
namespace Go.Proofs.YtjehpijjneghpaaGreat.Dk
open Go.RowKit Go.Maps Go.Proofs.YtjehpijjneghpaaGreat.Nm
open Ix (wp_region_T wpAnyT wpAnyT_take wpAnyT_one wpAnyT_done vac)
theorem step_app {w : World} {ops : Array Oper} {o : Oper} {a : Act} {K : Act → World → Prop} {Q : Exit → Act → World → Prop} {E : Prop} (hgd : o.guard = none) (x y : Operand)
    (ho : o.op = .call { callee := .builtin .append, args := #[x, y], argTypes := #[30, 30] }) (vx vy v' : Value) (w' : World) (hx : a.eval x = vx) (hy : a.eval y = vy) (hr : (Builtin.append_ #[30, 30] o.type #[vx, vy]).run Tryz.prog w = .ok v' w') (h : K (a.put o.dst v') w') :
    if Region.wanted o (yielded ops a.tmps) = true then Oper.wp Tryz.prog o a w K Q else E := by
  have hw : Region.wanted o (yielded ops a.tmps) = true := by simp [Region.wanted, hgd]
  rw [if_pos hw]
  unfold Oper.wp execOp
  simp only [ho, resolve, invoke, builtin, Sem.run_bind, Sem.run_pure, Result.andThen_ok, List.map_toArray, List.map_cons, List.map_nil, hx, hy, hr]
  exact h
theorem crF_len (f : Fl) (N : Int) (J : List UInt8) (h : f.la.length ≤ f.by_.length) : (crF f N J).length ≤ f.by_.length := by
  have hw : wthn N (f.by_.length - f.la.length) ≤ f.by_.length - f.la.length := by unfold wthn; omega
  unfold crF
  rw [List.length_append, List.length_append, svd_len f _ (by omega), List.length_take]
  unfold jnk
  omega
set_option maxRecDepth 100000 in
theorem crash_any (w : World) (p : Nat) (f : Fl) (vb vl vj : Value) (N : Int) (J : List UInt8) (h : FlAt w p f vb vl) (hj : Sl w vj J) (n0 : -9223372036854775808 ≤ N) (n1 : N ≤ 9223372036854775807) :
    Calls Tryz.prog 82 #[.pointer (some ⟨p, 0, none⟩), .agg #[.int .i64 N, vj]] w fun e w' => e = .returned (.tuple #[]) ∧ ∃ vb' vl', FlAt w' p ⟨crF f N J, crF f N J, 0⟩ vb' vl' ∧ But (fun k => k = p) w w' ∧ (∀ k, FOwn p vb' vl' k → k = p ∨ w.heap.size ≤ k) := by
  have hB := hide ((Below.refl _ w).alloc (Nat.le_refl _) (.cells #[.int .i64 N, vj] 88))
  have hN := hide (heap_alloc_new w (.cells #[.int .i64 N, vj] 88))
  obtain ⟨w1, hw1⟩ : ∃ w1, Hid (w.alloc (.cells #[.int .i64 N, vj] 88) = w1) := ⟨_, rfl⟩
  rw [hw1.out] at hB hN
  have H1 := hide (h.below hB.out)
  have J1 := hide (Below.sl hB.out hj)
  have k0 : w1.cell? ⟨w.heap.size, 0, none⟩ = some (.int .i64 N) := by simp [World.cell?, hN.out]
  have k1 : w1.cell? ⟨w.heap.size, 1, none⟩ = some vj := by simp [World.cell?, hN.out]
  obtain ⟨ta, hta⟩ : ∃ ta, Hid (f.by_.length - f.la.length = ta) := ⟨_, rfl⟩
  obtain ⟨n, hn⟩ : ∃ n, Hid (wthn N ta = n) := ⟨_, rfl⟩
  have hsz := h.sz
  have i1 : ta ≤ 1099511627776 := by have := hta.out; omega
  have i2 : n ≤ ta := by have := hn.out; unfold wthn at this; omega
  have hT : Hid (∀ q, FlAt q p f vb vl → Calls Tryz.prog 85 #[.pointer (some ⟨p, 0, none⟩)] q fun e w' => e = .returned (.int .i64 (ta : Int)) ∧ ∃ n, w' = q.drewN n) := fun q hq => by have := tail_any q p f vb vl hq; rw [hta.out] at this; exact this
  have hW : Hid (∀ q, Calls Tryz.prog 108 #[.int .i64 N, .int .i64 (ta : Int)] q fun e w' => e = .returned (.int .i64 (n : Int)) ∧ w' = q) := fun q => by have := within_any q N ta n0 n1 (by omega); rw [hn.out] at this; exact this
  clear h hj
  go_enter Tryz.func82, Tryz.ntmps82
  go_upto_region 1 with fail
  rw [hw1.out]
  go_quiet (first
    | (go_at_call 85; exact Calls.quiet_of (hT.out _ (H1.out.below (Qt.below ⟨_, rfl⟩ _))))
    | (go_at_call 108; exact Calls.quiet_of_same (hW.out _)))
  have B2 : Hid (Below w.heap.size w (w1.drewN nq)) := hB.out.trans (Qt.below ⟨nq, rfl⟩ _)
  have H2 : Hid (FlAt (w1.drewN nq) p f vb vl) := H1.out.below (Qt.below ⟨nq, rfl⟩ _)
  have J2 : Hid (Sl (w1.drewN nq) vj J) := Below.sl (Qt.below ⟨nq, rfl⟩ _) J1.out
  replace k1 : (w1.drewN nq).cell? ⟨w.heap.size, 1, none⟩ = some vj := k1
  generalize w1.drewN nq = w2 at *
  clear k0 H1 J1 hB hW hw1 hN
  obtain ⟨aj, cj, rfl, _, q3, q4, _⟩ := J2.out
  obtain ⟨j, hj⟩ : ∃ j, Hid (jnk f N J = j) := ⟨_, rfl⟩
  have hj2 : j = min J.length (min (ta - n) 512) := by rw [← hj.out, ← hn.out, ← hta.out]; rfl
  have hmin : min (min (J.length : Int) ((ta : Int) - (n : Int))) 512 = (j : Int) := by omega
  have hwr : IntKind.i64.wrap ((ta : Int) - (n : Int)) = (ta : Int) - (n : Int) := by rw [IntKind.wrap_i64]; omega
  have i3 : (j : Int) ≤ (cj : Int) := by omega
  have hjl : j ≤ J.length := by omega
  clear hj2
  go_wp2_with fail
  go_quiet ((go_at_call 85; exact Calls.quiet_of (hT.out _ (H2.out.below (Qt.below ⟨_, rfl⟩ _)))))
  have hif : (if (512 : Int) < (if (ta : Int) - (n : Int) < (J.length : Int) then (ta : Int) - (n : Int) else (J.length : Int)) then 512 else (if (ta : Int) - (n : Int) < (J.length : Int) then (ta : Int) - (n : Int) else (J.length : Int))) = (j : Int) := by
    by_cases c : (ta : Int) - (n : Int) < (J.length : Int)
    · rw [if_pos c]; split <;> omega
    · rw [if_neg c]; split <;> omega
  rw [hif, Int.toNat_natCast]
  have B3 : Hid (Below w.heap.size w (w2.drewN nq)) := B2.out.trans (Qt.below ⟨nq, rfl⟩ _)
  have H3 : Hid (FlAt (w2.drewN nq) p f vb vl) := H2.out.below (Qt.below ⟨nq, rfl⟩ _)
  have J3 : Hid (Sl (w2.drewN nq) (.slice aj j cj) (J.take j)) := sl_take (Below.sl (Qt.below ⟨nq, rfl⟩ _) J2.out) hjl
  generalize w2.drewN nq = w3 at *
  clear hif hmin hwr hT k1 H2 J2 B2 i3
  obtain ⟨al, cl, rfl, _, _⟩ := H3.out.l.form
  obtain ⟨ll, hll⟩ : ∃ ll, Hid (f.la.length = ll) := ⟨_, rfl⟩
  have c1 : w3.cell? ⟨p, 1, none⟩ = some (.slice al f.la.length cl) := (cells3 H3.out.box).2.1
  have hS : Hid (∀ q, Below w3.heap.size w3 q → Calls Tryz.prog 107 #[.pointer (some ⟨p, 0, none⟩), .int .i64 (n : Int)] q fun e w' => ∃ v, e = .returned v ∧ Ob q.heap.size w' v (svd f n) ∧ Below q.heap.size q w') := fun q hq => saved_any q p n f vb _ (H3.out.below hq) (by have := hta.out; have := H3.out.le; omega)
  have hQ : Hid (∀ q, Below w3.heap.size w3 q → q.cell? ⟨p, 1, none⟩ = some (.slice al f.la.length cl)) := fun q hq => by rw [hq.cell (p := ⟨p, 1, none⟩) (lt_of_cell c1)]; exact c1
  have hcl : Hid ([f.la, svd f n, J.take j].flatten.length ≤ 140737488355328) := by
    show _ ≤ _
    have q1 := hta.out
    have q2 := H3.out.le
    have q3' := svd_len f n (by omega)
    have q4' : j ≤ 512 := by rw [← hj.out]; unfold jnk; omega
    have q5 : (J.take j).length = j := by simp; omega
    simp only [List.flatten_cons, List.flatten_nil, List.append_nil, List.length_append, q3', q5]
    omega
  clear hQ hsz
  have KC : Hid (∀ q, Below w3.heap.size w3 q → q.cell? ⟨p, 1, none⟩ = some (.slice al f.la.length cl)) := fun q hq => by rw [hq.cell (p := ⟨p, 1, none⟩) (lt_of_cell c1)]; exact c1
  clear c1
  go_upto_region 3 with fail
  have KP : Hid (Below w3.heap.size w3 w3.drew) := (Below.refl _ _).drew
  refine wp_region_T (fun q => Below w3.heap.size w3 q) 13 (by kernel_rfl) ?_
  generalize w3.drew = q at *
  refine Ix.tk 0 ⟨some 22, .move (.tmp 0), 114, "file.go:52", #[], none⟩ (.pointer (some ⟨p, 0, none⟩)) [13] ?_ KP.out ?_
  · intro wq hSw
    have y2 := KC.out wq hSw
    go_simp
  (try simp only [zzp, zza, zzb, zzc])
  refine Ix.tk 1 ⟨some 23, .move (.tmp 0), 114, "file.go:52", #[], none⟩ (.pointer (some ⟨p, 0, none⟩)) [13] ?_ KP.out ?_
  · intro wq hSw
    have y2 := KC.out wq hSw
    go_simp
  (try simp only [zzp, zza, zzb, zzc])
  refine Ix.tk 2 ⟨some 24, .nilCheck (.tmp 23), 0, "file.go:52", #[⟨1,.data⟩], none⟩ (.pointer (some ⟨p, 0, none⟩)) [13] ?_ KP.out ?_
  · intro wq hSw
    have y2 := KC.out wq hSw
    go_simp
  (try simp only [zzp, zza, zzb, zzc])
  refine Ix.tk 3 ⟨some 25, .fieldAddr 124 (.tmp 24) 1, 0, "file.go:52", #[⟨2,.data⟩], none⟩ (.pointer (some ⟨p, 1, none⟩)) [13] ?_ KP.out ?_
  · intro wq hSw
    have y2 := KC.out wq hSw
    go_simp
  (try simp only [zzp, zza, zzb, zzc])
  refine Ix.tk 4 ⟨some 26, .load 30 (.tmp 25), 30, "file.go:52", #[⟨3,.data⟩], none⟩ (.slice al f.la.length cl) [13] ?_ KP.out ?_
  · intro wq hSw
    have y2 := KC.out wq hSw
    go_simp
  (try simp only [zzp, zza, zzb, zzc])
  refine Ix.tk 5 ⟨some 27, .move (.tmp 0), 114, "file.go:52", #[], none⟩ (.pointer (some ⟨p, 0, none⟩)) [13] ?_ KP.out ?_
  · intro wq hSw
    have y2 := KC.out wq hSw
    go_simp
  (try simp only [zzp, zza, zzb, zzc])
  refine Ix.tk 6 ⟨some 28, .move (.tmp 4), 3, "file.go:52", #[], none⟩ (.int .i64 (n : Int)) [13] ?_ KP.out ?_
  · intro wq hSw
    have y2 := KC.out wq hSw
    go_simp
  (try simp only [zzp, zza, zzb, zzc])
  refine Ix.tk 8 ⟨some 30, .move (.tmp 5), 30, "file.go:52", #[], none⟩ (.slice aj j cj) [13] ?_ KP.out ?_
  · intro wq hSw
    have y2 := KC.out wq hSw
    go_simp
  (try simp only [zzp, zza, zzb, zzc])
  refine wpAnyT_one (i := 7) (o := ⟨some 29, .call { callee := .value (.func 107), args := #[.tmp 27, .tmp 28], argTypes := #[114, 3] }, 30, "file.go:52", #[⟨5, .data⟩, ⟨6, .data⟩], none⟩) (by kernel_rfl) rfl (fun K hK => ?_)
  go_simp
  go_at_call 107
  refine (hS.out q KP.out).mono ?_
  rintro e w4 ⟨vs, rfl, O4, B4⟩
  obtain ⟨a4, c4, rfl, _, _⟩ := O4.form
  replace O4 := hide O4
  replace B4 : Hid (Below w3.heap.size w3 w4) := KP.out.trans (B4.mono KP.out.size)
  (try go_simp)
  refine hK.out _ _ (fun _ => B4.out) ?_
  clear hK K
  (try simp only [zzp, zza, zzb, zzc])
  refine wpAnyT_one (i := 9) (o := ⟨some 31, .buildSlice 54 3 #[(0, .tmp 26), (1, .tmp 29), (2, .tmp 30)], 54, "file.go:52", #[⟨4, .data⟩, ⟨7, .data⟩, ⟨8, .data⟩], none⟩) (by kernel_rfl) rfl (fun K hK => ?_)
  go_simp
  have B5 : Hid (Below w3.heap.size w3 (w4.alloc (.cells #[.slice al f.la.length cl, .slice a4 (svd f n).length c4, .slice aj j cj] 30))) := B4.out.trans ((box_below w4 _).mono B4.out.size)
  have hCon := concat_any (w4.alloc (.cells #[.slice al f.la.length cl, .slice a4 (svd f n).length c4, .slice aj j cj] 30)) _ _ [f.la, svd f n, J.take j] (Row.three _ _ _) (sls3 (Below.sl (box_below w4 _) (H3.out.l.sl.below4 B4.out)) (Below.sl (box_below w4 _) O4.out.sl) (Below.sl (box_below w4 _) (J3.out.below4 B4.out))) hcl.out
  refine hK.out _ _ (fun _ => B5.out) ?_
  clear hK K
  (try simp only [zzp, zza, zzb, zzc])
  generalize w4.heap.size = z4 at *
  generalize (w4.alloc (.cells #[.slice al f.la.length cl, .slice a4 (svd f n).length c4, .slice aj j cj] 30)) = w5 at *
  refine wpAnyT_one (i := 10) (o := ⟨some 32, .call { callee := .value (.func 111), args := #[.tmp 31], argTypes := #[54] }, 30, "file.go:52", #[⟨9, .data⟩, ⟨7, .chain⟩], none⟩) (by kernel_rfl) rfl (fun K hK => ?_)
  go_simp
  go_at_call 111
  refine hCon.mono ?_
  rintro e w6 ⟨v6, rfl, O6, B6⟩
  have hfl : [f.la, svd f n, J.take j].flatten = crF f N J := by unfold crF; rw [hta.out, hn.out, hj.out]; simp
  replace O6 : Ob w5.heap.size w6 v6 (crF f N J) := by rw [← hfl]; exact O6
  clear hfl
  obtain ⟨o6, k6, rfl, _, _⟩ := O6.form
  replace O6 := hide O6
  replace B6 : Hid (Below w3.heap.size w3 w6) := B5.out.trans (B6.mono B5.out.size)
  clear hCon
  (try go_simp)
  refine hK.out _ _ (fun _ => B6.out) ?_
  clear hK K
  (try simp only [zzp, zza, zzb, zzc])
  refine Ix.tk 11 ⟨some 33, .nilCheck (.tmp 22), 0, "file.go:52", #[⟨0,.data⟩,⟨0,.phase⟩,⟨1,.phase⟩,⟨2,.phase⟩,⟨3,.phase⟩,⟨4,.phase⟩,⟨5,.phase⟩,⟨6,.phase⟩,⟨7,.phase⟩,⟨8,.phase⟩,⟨9,.phase⟩,⟨10,.phase⟩], none⟩ (.pointer (some ⟨p, 0, none⟩)) [12,13] ?_ B6.out ?_
  · intro wq hSw
    have y2 := KC.out wq hSw
    go_simp
  (try simp only [zzp, zza, zzb, zzc])
  refine Ix.tk 12 ⟨some 34, .fieldAddr 124 (.tmp 33) 1, 0, "file.go:52", #[⟨11,.data⟩,⟨0,.phase⟩,⟨1,.phase⟩,⟨2,.phase⟩,⟨3,.phase⟩,⟨4,.phase⟩,⟨5,.phase⟩,⟨6,.phase⟩,⟨7,.phase⟩,⟨8,.phase⟩,⟨9,.phase⟩,⟨10,.phase⟩], none⟩ (.pointer (some ⟨p, 1, none⟩)) [13] ?_ B6.out ?_
  · intro wq hSw
    have y2 := KC.out wq hSw
    go_simp
  (try simp only [zzp, zza, zzb, zzc])
  have b6 : Hid (w6.heap[p]? = some (.cells #[vb, .slice al f.la.length cl, .int .i64 (f.sp : Int)] TFl (0, 0))) := (B6.out.block p (heap_lt H3.out.box)).trans H3.out.box
  have d1 := (cells3 b6.out).2.1
  have d2 := (frozen3 b6.out).2.1
  refine wpAnyT_one (i := 13) (o := ⟨none, .store 30 (.tmp 34) (.tmp 32), 0, "file.go:52", #[⟨12, .data⟩, ⟨10, .data⟩, ⟨10, .chain⟩, ⟨0, .phase⟩, ⟨1, .phase⟩, ⟨2, .phase⟩, ⟨3, .phase⟩, ⟨4, .phase⟩, ⟨5, .phase⟩, ⟨6, .phase⟩, ⟨7, .phase⟩, ⟨8, .phase⟩, ⟨9, .phase⟩, ⟨10, .phase⟩], none⟩) (by kernel_rfl) rfl (fun K hK => ?_)
  go_simp
  refine hK.out _ _ (vac (by kernel_rfl)) ?_
  clear hK K d1 d2 KC
  refine wpAnyT_done (by kernel_rfl) ?_ _
  have b7 : Hid ((w6.setCell ⟨p, 1, none⟩ (.slice o6 (crF f N J).length k6)).heap[p]? = some (.cells #[vb, .slice o6 (crF f N J).length k6, .int .i64 (f.sp : Int)] TFl (0, 0))) := by show _ = _; rw [heap_setCell_same _ _ _ _ _ _ b6.out]; simp
  have g7 := hide (But.of_grownBy (X := fun k => k = p) (grown_setCell w6 p 1 (.slice o6 (crF f N J).length k6)) fun k e => by cases e; rfl)
  have O7 : Hid (Ob w5.heap.size (w6.setCell ⟨p, 1, none⟩ (.slice o6 (crF f N J).length k6)) (.slice o6 (crF f N J).length k6) (crF f N J)) := O6.out.but g7.out (fun k hk e => O6.out.no b6.out (by decide) (by rw [← e]; exact hk))
  have B7 : Hid (But (fun k => k = p) w (w6.setCell ⟨p, 1, none⟩ (.slice o6 (crF f N J).length k6))) := (But.of_below (B3.out.trans (B6.out.mono B3.out.size)) _).trans g7.out
  have hz : Hid ((crF f N J).length ≤ 1099511627776) := Nat.le_trans (crF_len f N J H3.out.le) H3.out.sz
  have zw : Hid (w.heap.size ≤ w5.heap.size) := Nat.le_trans B3.out.size B5.out.size
  clear O6 B6 g7 b6 hS hcl O4 B4 KP J3 i1 i2
  generalize (w6.setCell ⟨p, 1, none⟩ (.slice o6 (crF f N J).length k6)) = w7 at *
  have hCl := clone_bytes w7 (.slice o6 (crF f N J).length k6) _ O7.out.sl (by have := hz.out; omega)
  obtain ⟨e1, e2, e3⟩ := cells3 b7.out
  generalize hL : crF f N J = L at *
  replace hL := hide hL
  have hF : Hid (∀ q, Below w7.heap.size w7 q → q.heap[p]? = some (.cells #[vb, .slice o6 L.length k6, .int .i64 (f.sp : Int)] TFl (0, 0))) := fun q hq => (hq.block p (heap_lt b7.out)).trans b7.out
  generalize hvb : vb = vb0 at *
  go_wp2_with (go_at_call 83; refine hCl.mono ?_; rintro e w8 ⟨v8, rfl, O8, B8⟩; obtain ⟨o8, k8, rfl, _, _⟩ := O8.form; replace O8 := hide O8; replace B8 := hide B8; have b8 := hide (hF.out _ B8.out); have x1 := (cells3 b8.out).1; have x2 := (frozen3 b8.out).1; have b9 : Hid ((w8.setCell ⟨p, 0, none⟩ (.slice o8 L.length k8)).heap[p]? = some (.cells #[.slice o8 L.length k8, .slice o6 L.length k6, .int .i64 (f.sp : Int)] TFl (0, 0))) := (by show _ = _; rw [heap_setCell_same _ _ _ _ _ _ b8.out]; simp); have y1 := (cells3 b9.out).2.2; have y2 := (frozen3 b9.out).2.2)
  go_end0
  have b10 : ((w8.setCell ⟨p, 0, none⟩ (.slice o8 L.length k8)).setCell ⟨p, 2, none⟩ (.int .i64 0)).heap[p]? = some (.cells #[.slice o8 L.length k8, .slice o6 L.length k6, .int .i64 0] TFl (0, 0)) := by rw [heap_setCell_same _ _ _ _ _ _ b9.out]; simp
  have g9 := (But.of_grownBy (X := fun k => k = p) (grown_setCell w8 p 0 (.slice o8 L.length k8)) fun k e => by cases e; rfl).trans (But.of_grownBy (X := fun k => k = p) (grown_setCell (w8.setCell ⟨p, 0, none⟩ (.slice o8 L.length k8)) p 2 (.int .i64 0)) fun k e => by cases e; rfl)
  have O7b := O7.out.below B8.out
  rw [hL.out]
  refine ⟨rfl, .slice o8 L.length k8, .slice o6 L.length k6, ⟨b10, ?_, ?_, ?_, Nat.le_refl _, Nat.zero_le _, hz.out⟩, ?_, ?_⟩
  · exact (O8.out.low (Nat.zero_le _)).but g9 (fun k hk e => O8.out.no b8.out (by decide) (by rw [← e]; exact hk))
  · exact (O7b.low (Nat.zero_le _)).but g9 (fun k hk e => O7b.no b8.out (by decide) (by rw [← e]; exact hk))
  · intro k hk c
    have q1 := (O8.out.lt k hk).1
    have q2 := (O7.out.lt k c).2
    omega
  · exact (B7.out.trans (But.of_below B8.out _)).trans g9
  · rintro k (q | q | q)
    · exact .inl q
    · have := (O8.out.lt k q).1
      have := B7.out.size
      exact .inr (by omega)
    · have := (O7.out.lt k q).1
      have := zw.out
      exact .inr (by omega)
def syF (f : Fl) : Fl := ⟨f.by_, f.la ++ svd f (f.by_.length - f.la.length), 0⟩
set_option maxRecDepth 100000 in
theorem sync_any (w : World) (p : Nat) (f : Fl) (vb vl : Value) (h : FlAt w p f vb vl) :
    Calls Tryz.prog 78 #[.pointer (some ⟨p, 0, none⟩)] w fun e w' => e = .returned (.tuple #[]) ∧ ∃ vl', FlAt w' p (syF f) vb vl' ∧ But (FOwn p vb vl) w w' ∧ (∀ k, FOwn p vb vl' k → FOwn p vb vl k ∨ w.heap.size ≤ k) := by
  have H := hide h
  obtain ⟨ta, hta⟩ : ∃ ta, Hid (f.by_.length - f.la.length = ta) := ⟨_, rfl⟩
  obtain ⟨al, cl, rfl, q1, q2⟩ := h.l.form
  have hT : Hid (∀ q, Below w.heap.size w q → Calls Tryz.prog 85 #[.pointer (some ⟨p, 0, none⟩)] q fun e w' => e = .returned (.int .i64 (ta : Int)) ∧ ∃ n, w' = q.drewN n) := fun q hq => by have := tail_any q p f vb _ (h.below hq); rw [hta.out] at this; exact this
  have hS : Hid (∀ q, Below w.heap.size w q → Calls Tryz.prog 107 #[.pointer (some ⟨p, 0, none⟩), .int .i64 (ta : Int)] q fun e w' => ∃ v, e = .returned v ∧ Ob q.heap.size w' v (svd f ta) ∧ Below q.heap.size q w') := fun q hq => saved_any q p ta f vb _ (h.below hq) (by have := hta.out; have := h.le; omega)
  have hsl : (svd f ta).length = ta := svd_len f ta (by have := hta.out; have := h.le; omega)
  have hz : f.la.length + ta ≤ 1099511627776 := by have := hta.out; have := h.le; have := h.sz; omega
  replace hsl := hide hsl
  have KC : Hid (∀ q : World, q.heap[p]? = some (.cells #[vb, .slice al f.la.length cl, .int .i64 (f.sp : Int)] TFl (0, 0)) → q.cell? ⟨p, 1, none⟩ = some (.slice al f.la.length cl)) := fun q hq => (cells3 hq).2.1
  have KB : Hid (∀ q : World, Below w.heap.size w q → q.heap[p]? = some (.cells #[vb, .slice al f.la.length cl, .int .i64 (f.sp : Int)] TFl (0, 0))) := fun q hq => (hq.block p (heap_lt H.out.box)).trans H.out.box
  clear h
  go_enter Tryz.func78, Tryz.ntmps78
  go_upto_region 0 with fail
  have B0 : Hid (Below w.heap.size w w.drew) := (Below.refl _ _).drew
  refine wp_region_T (fun q => q.heap[p]? = some (.cells #[vb, .slice al f.la.length cl, .int .i64 (f.sp : Int)] TFl (0, 0))) 12 (by kernel_rfl) ?_
  generalize w.drew = q at *
  have KP := hide (KB.out _ B0.out)
  refine Ix.tk 0 ⟨some 2, .move (.tmp 0), 114, "file.go:38", #[], none⟩ (.pointer (some ⟨p, 0, none⟩)) [12] ?_ KP.out ?_
  · intro wq hSw
    have y2 := KC.out wq hSw
    go_simp
  (try simp only [zzp, zza, zzb, zzc])
  refine Ix.tk 1 ⟨some 3, .move (.tmp 0), 114, "file.go:38", #[], none⟩ (.pointer (some ⟨p, 0, none⟩)) [12] ?_ KP.out ?_
  · intro wq hSw
    have y2 := KC.out wq hSw
    go_simp
  (try simp only [zzp, zza, zzb, zzc])
  refine Ix.tk 2 ⟨some 4, .nilCheck (.tmp 3), 0, "file.go:38", #[⟨1,.data⟩], none⟩ (.pointer (some ⟨p, 0, none⟩)) [12] ?_ KP.out ?_
  · intro wq hSw
    have y2 := KC.out wq hSw
    go_simp
  (try simp only [zzp, zza, zzb, zzc])
  refine Ix.tk 3 ⟨some 5, .fieldAddr 124 (.tmp 4) 1, 0, "file.go:38", #[⟨2,.data⟩], none⟩ (.pointer (some ⟨p, 1, none⟩)) [12] ?_ KP.out ?_
  · intro wq hSw
    have y2 := KC.out wq hSw
    go_simp
  (try simp only [zzp, zza, zzb, zzc])
  refine Ix.tk 4 ⟨some 6, .load 30 (.tmp 5), 30, "file.go:38", #[⟨3,.data⟩], none⟩ (.slice al f.la.length cl) [12] ?_ KP.out ?_
  · intro wq hSw
    have y2 := KC.out wq hSw
    go_simp
  (try simp only [zzp, zza, zzb, zzc])
  refine Ix.tk 5 ⟨some 7, .move (.tmp 0), 114, "file.go:38", #[], none⟩ (.pointer (some ⟨p, 0, none⟩)) [12] ?_ KP.out ?_
  · intro wq hSw
    have y2 := KC.out wq hSw
    go_simp
  (try simp only [zzp, zza, zzb, zzc])
  refine Ix.tk 6 ⟨some 8, .move (.tmp 0), 114, "file.go:38", #[], none⟩ (.pointer (some ⟨p, 0, none⟩)) [12] ?_ KP.out ?_
  · intro wq hSw
    have y2 := KC.out wq hSw
    go_simp
  (try simp only [zzp, zza, zzb, zzc])
  refine wpAnyT_one (i := 7) (o := ⟨some 9, .call { callee := .value (.func 85), args := #[.tmp 8], argTypes := #[114] }, 3, "file.go:38", #[⟨6, .data⟩], none⟩) (by kernel_rfl) rfl (fun K hK => ?_)
  go_simp
  go_at_call 85
  refine (hT.out q B0.out).mono ?_
  rintro e w1 ⟨rfl, nq, rfl⟩
  have B1 : Hid (Below w.heap.size w (q.drewN nq)) := B0.out.trans (Qt.below ⟨nq, rfl⟩ _)
  have K1 := hide (KB.out _ B1.out)
  (try go_simp)
  refine hK.out _ _ (fun _ => K1.out) ?_
  clear hK K
  (try simp only [zzp, zza, zzb, zzc])
  generalize q.drewN nq = q1 at *
  refine wpAnyT_one (i := 8) (o := ⟨some 10, .call { callee := .value (.func 107), args := #[.tmp 7, .tmp 9], argTypes := #[114, 3] }, 30, "file.go:38", #[⟨5, .data⟩, ⟨7, .data⟩, ⟨7, .chain⟩], none⟩) (by kernel_rfl) rfl (fun K hK => ?_)
  go_simp
  go_at_call 107
  refine (hS.out q1 B1.out).mono ?_
  rintro e w4 ⟨vs, rfl, O4, B4⟩
  obtain ⟨a4, c4, rfl, _, _⟩ := O4.form
  replace O4 := hide O4
  replace B4 : Hid (Below w.heap.size w w4) := B1.out.trans (B4.mono B1.out.size)
  have K4 := hide (KB.out _ B4.out)
  (try go_simp)
  refine hK.out _ _ (fun _ => K4.out) ?_
  clear hK K
  (try simp only [zzp, zza, zzb, zzc])
  have H4 := hide (H.out.below B4.out)
  obtain ⟨v5, w5, hr, O5, G5, A5⟩ := run_app (B := 0) H4.out.l O4.out.sl (by have := hsl.out; omega) (Nat.zero_le _) 30
  have hL : Hid (f.la ++ svd f ta = (syF f).la) := by show _ = _; unfold syF; rw [hta.out]
  rw [hL.out] at O5
  replace O5 := hide O5
  replace G5 := hide G5
  replace A5 := hide A5
  have K5 : Hid (w5.heap[p]? = some (.cells #[vb, .slice al f.la.length cl, .int .i64 (f.sp : Int)] TFl (0, 0))) := (But.of_grownBy (X := fun k => Value.ownBlock (.slice al f.la.length cl) = some k) G5.out fun k e => e).at K4.out (H4.out.l.no H4.out.box (by decide))
  obtain ⟨a5, c5, e5, _, _⟩ := O5.out.form
  subst e5
  refine wpAnyT_one (i := 9) (o := ⟨some 11, .call { callee := .builtin .append, args := #[.tmp 6, .tmp 10], argTypes := #[30, 30] }, 30, "file.go:38", #[⟨4, .data⟩, ⟨8, .data⟩, ⟨8, .chain⟩], none⟩) (by kernel_rfl) rfl (fun K hK => ?_)
  refine step_app rfl (.tmp 6) (.tmp 10) rfl _ _ _ w5 (by simp [Act.eval]) (by simp [Act.eval]) hr ?_
  refine hK.out _ _ (fun _ => K5.out) ?_
  clear hK K hr
  (try simp only [zzp, zza, zzb, zzc])
  refine Ix.tk 10 ⟨some 12, .nilCheck (.tmp 2), 0, "file.go:38", #[⟨0,.data⟩,⟨0,.phase⟩,⟨1,.phase⟩,⟨2,.phase⟩,⟨3,.phase⟩,⟨4,.phase⟩,⟨5,.phase⟩,⟨6,.phase⟩,⟨7,.phase⟩,⟨8,.phase⟩,⟨9,.phase⟩], none⟩ (.pointer (some ⟨p, 0, none⟩)) [11,12] ?_ K5.out ?_
  · intro wq hSw
    have y2 := KC.out wq hSw
    go_simp
  (try simp only [zzp, zza, zzb, zzc])
  refine Ix.tk 11 ⟨some 13, .fieldAddr 124 (.tmp 12) 1, 0, "file.go:38", #[⟨10,.data⟩,⟨0,.phase⟩,⟨1,.phase⟩,⟨2,.phase⟩,⟨3,.phase⟩,⟨4,.phase⟩,⟨5,.phase⟩,⟨6,.phase⟩,⟨7,.phase⟩,⟨8,.phase⟩,⟨9,.phase⟩], none⟩ (.pointer (some ⟨p, 1, none⟩)) [12] ?_ K5.out ?_
  · intro wq hSw
    have y2 := KC.out wq hSw
    go_simp
  (try simp only [zzp, zza, zzb, zzc])
  have d1 := (cells3 K5.out).2.1
  have d2 := (frozen3 K5.out).2.1
  refine wpAnyT_one (i := 12) (o := ⟨none, .store 30 (.tmp 13) (.tmp 11), 0, "file.go:38", #[⟨11, .data⟩, ⟨9, .data⟩, ⟨9, .chain⟩, ⟨0, .phase⟩, ⟨1, .phase⟩, ⟨2, .phase⟩, ⟨3, .phase⟩, ⟨4, .phase⟩, ⟨5, .phase⟩, ⟨6, .phase⟩, ⟨7, .phase⟩, ⟨8, .phase⟩, ⟨9, .phase⟩], none⟩) (by kernel_rfl) rfl (fun K hK => ?_)
  go_simp
  refine hK.out _ _ (vac (by kernel_rfl)) ?_
  clear hK K d1 d2 KC KB hT hS
  refine wpAnyT_done (by kernel_rfl) ?_ _
  have b7 : Hid ((w5.setCell ⟨p, 1, none⟩ (.slice a5 (syF f).la.length c5)).heap[p]? = some (.cells #[vb, .slice a5 (syF f).la.length c5, .int .i64 (f.sp : Int)] TFl (0, 0))) := by show _ = _; rw [heap_setCell_same _ _ _ _ _ _ K5.out]; simp
  have g7 := hide (But.of_grownBy (X := fun k => k = p) (grown_setCell w5 p 1 (.slice a5 (syF f).la.length c5)) fun k e => by cases e; rfl)
  have x1 := (cells3 b7.out).2.2
  have x2 := (frozen3 b7.out).2.2
  generalize hw7 : (w5.setCell ⟨p, 1, none⟩ (.slice a5 (syF f).la.length c5)) = w7 at *
  replace hw7 := hide hw7
  go_wp2_with fail
  go_end0
  have b8 : (w7.setCell ⟨p, 2, none⟩ (.int .i64 0)).heap[p]? = some (.cells #[vb, .slice a5 (syF f).la.length c5, .int .i64 0] TFl (0, 0)) := by rw [heap_setCell_same _ _ _ _ _ _ b7.out]; simp
  have g8 := g7.out.trans (But.of_grownBy (X := fun k => k = p) (grown_setCell w7 p 2 (.int .i64 0)) fun k e => by cases e; rfl)
  have G5b := But.of_grownBy (X := fun k => Value.ownBlock (.slice al f.la.length cl) = some k) G5.out fun k e => e
  have Ob5 : Ob 0 w5 vb f.by_ := H4.out.b.but G5b (fun k hk c => H4.out.ne k hk c)
  refine ⟨rfl, .slice a5 (syF f).la.length c5, ⟨b8, ?_, ?_, ?_, ?_, Nat.zero_le _, H.out.sz⟩, ?_, ?_⟩
  · exact Ob5.but g8 (fun k hk e => Ob5.no K5.out (by decide) (by rw [← e]; exact hk))
  · exact O5.out.but g8 (fun k hk e => O5.out.no K5.out (by decide) (by rw [← e]; exact hk))
  · intro k hk c
    rcases A5.out with e | e
    · rw [e] at c
      exact H.out.ne k hk c
    · rw [e] at c
      have := (H4.out.b.lt k hk).2
      simp at c
      omega
  · show (syF f).la.length ≤ f.by_.length
    rw [← hL.out, List.length_append, hsl.out]
    have := hta.out
    have := H.out.le
    omega
  · exact (((But.of_below B4.out _).trans (G5b.mono fun k _ e => .inr (.inr e))).trans (g8.mono fun k _ e => .inl e))
  · rintro k (q | q | q)
    · exact .inl (.inl q)
    · exact .inl (.inr (.inl q))
    · rcases A5.out with e | e
      · rw [e] at q
        exact .inl (.inr (.inr q))
      · rw [e] at q
        have := B4.out.size
        simp at q
        exact .inr (by omega)
end Go.Proofs.YtjehpijjneghpaaGreat.Dk
