/-
  Package crash, by data: how many ways, the digits of a number, the number of digits.
-/
import Derived.Test.YtjehpijjneghpaaGreatK12
import Derived.Test.YtjehpijjneghpaaGreatK16
namespace Go.Proofs.YtjehpijjneghpaaGreat.Dk
open Go.RowKit Go.Maps Go.Sort Go.Shelf Go.Proofs.YtjehpijjneghpaaGreat.Nm
set_option linter.unusedVariables false
def M40 : Nat := 1099511627776
def prodT : Tls → Nat
  | [] => 1
  | e :: r => (e.2 + 1) * prodT r
theorem prodT_pos (L : Tls) : 1 ≤ prodT L := by
  induction L with
  | nil => exact Nat.le_refl _
  | cons e r ih => unfold prodT; exact Nat.mul_pos (by omega) ih
theorem prodT_append (A B : Tls) : prodT (A ++ B) = prodT A * prodT B := by
  induction A with
  | nil => simp [prodT]
  | cons e r ih => simp only [List.cons_append, prodT, ih, Nat.mul_assoc]
theorem prodT_snoc (A : Tls) (e : List UInt8 × Nat) : prodT (A ++ [e]) = prodT A * (e.2 + 1) := by rw [prodT_append]; simp [prodT]
theorem prodT_take (L : Tls) (k : Nat) : prodT (L.take k) ≤ prodT L := by
  have h := prodT_append (L.take k) (L.drop k)
  rw [List.take_append_drop] at h
  rw [h]
  exact Nat.le_mul_of_pos_right _ (prodT_pos _)
theorem over_iff (n m : Nat) (hm : 1 ≤ m) : M40 / m < n ↔ M40 < n * m := by
  rw [Nat.div_lt_iff_lt_mul (by omega)]
def DS.cnts (S : DS) (k : Nat) : List Nat := (List.range k).map fun (d : Nat) => prodT (S.tails (d : Int))
def DS.ways (S : DS) : Nat := (S.cnts (S.P.length + 1)).sum
theorem cnts_snoc (S : DS) (k : Nat) : S.cnts (k + 1) = S.cnts k ++ [prodT (S.tails (k : Int))] := by unfold DS.cnts; rw [List.range_succ, List.map_append]; rfl
theorem cnts_len (S : DS) (k : Nat) : (S.cnts k).length = k := by unfold DS.cnts; simp
theorem cnts_sum (S : DS) (k : Nat) : (S.cnts (k + 1)).sum = (S.cnts k).sum + prodT (S.tails (k : Int)) := by rw [cnts_snoc, List.sum_append]; simp
theorem cnts_mono (S : DS) {k m : Nat} (h : k ≤ m) : (S.cnts k).sum ≤ (S.cnts m).sum := by
  induction m with
  | zero => obtain rfl : k = 0 := Nat.le_zero.1 h
            exact Nat.le_refl _
  | succ m ih =>
    by_cases e : k = m + 1
    · rw [e]; exact Nat.le_refl _
    · rw [cnts_sum]; have := ih (by omega); omega
theorem cnts_get (S : DS) (k i : Nat) (h : i < k) : (S.cnts k)[i]? = some (prodT (S.tails (i : Int))) := by
  unfold DS.cnts
  rw [List.getElem?_map, List.getElem?_range h]
  rfl
def digs : Tls → Nat → List Nat
  | [], _ => []
  | e :: r, i => (i / prodT r) % (e.2 + 1) :: digs r (i % prodT r)
theorem digs_len (L : Tls) (i : Nat) : (digs L i).length = L.length := by
  induction L generalizing i with
  | nil => rfl
  | cons e r ih => simp [digs, ih]
def numb : Tls → List Nat → Nat
  | [], _ => 0
  | e :: r, ds => ds.headD 0 * prodT r + numb r ds.tail
theorem digs_at (L : Tls) (i k : Nat) (hi : i < prodT L) (hk : k < L.length) : (digs L i)[k]? = some (i / prodT (L.drop (k + 1)) % (L[k].2 + 1)) := by
  induction L generalizing i k with
  | nil => simp at hk
  | cons e r ih =>
    cases k with
    | zero => simp [digs]
    | succ k =>
      simp only [digs, List.getElem?_cons_succ, List.drop_succ_cons, List.getElem_cons_succ]
      have hp := prodT_pos r
      rw [ih (i % prodT r) k (Nat.mod_lt _ (by omega)) (by simpa using hk)]
      congr 1
      have hk' : k < r.length := by simpa using hk
      have e1 : r = r.take k ++ (r[k] :: r.drop (k + 1)) := by rw [← List.drop_eq_getElem_cons hk', List.take_append_drop]
      have e2 : prodT r = prodT (r.drop (k + 1)) * ((r[k].2 + 1) * prodT (r.take k)) := by
        conv => lhs; rw [e1, prodT_append, prodT]
        generalize prodT (r.take k) = x, r[k].2 + 1 = y, prodT (r.drop (k + 1)) = z
        rw [Nat.mul_comm z, Nat.mul_comm x, Nat.mul_right_comm]
      rw [e2, Nat.mod_mul_right_div_self, Nat.mod_mul_right_mod]
theorem numb_snoc (A : Tls) (e : List UInt8 × Nat) (ds : List Nat) : numb (A ++ [e]) ds = numb A ds * (e.2 + 1) + ds.getD A.length 0 := by
  induction A generalizing ds with
  | nil => cases ds <;> simp [numb, prodT]
  | cons a r ih =>
    simp only [List.cons_append, numb, ih, prodT_snoc, List.length_cons]
    rw [Nat.add_mul, Nat.mul_assoc]
    cases ds with
    | nil => simp
    | cons x y => simp [Nat.add_assoc]
theorem numb_lt (L : Tls) (ds : List Nat) (h : ∀ k (hk : k < L.length), ds.getD k 0 ≤ L[k].2) : numb L ds < prodT L := by
  induction L generalizing ds with
  | nil => simp [numb, prodT]
  | cons e r ih =>
    simp only [numb, prodT]
    have h0 := h 0 (by simp)
    have h1 := ih ds.tail (fun k hk => by
      have := h (k + 1) (by simp; omega)
      cases ds with
      | nil => simp
      | cons x y => simpa using this)
    have h2 : ds.headD 0 ≤ e.2 := by cases ds <;> simp_all
    have h3 : ds.headD 0 * prodT r ≤ e.2 * prodT r := Nat.mul_le_mul_right _ h2
    rw [Nat.add_mul]
    omega
theorem numb_digs (L : Tls) (i : Nat) (h : i < prodT L) : numb L (digs L i) = i := by
  induction L generalizing i with
  | nil => simp [prodT] at h; simp [numb, h]
  | cons e r ih =>
    simp only [digs, numb, List.headD_cons, List.tail_cons]
    have hp := prodT_pos r
    rw [ih _ (Nat.mod_lt _ (by omega))]
    have h1 : i / prodT r < e.2 + 1 := by rw [Nat.div_lt_iff_lt_mul (by omega)]; exact h
    rw [Nat.mod_eq_of_lt h1, Nat.mul_comm]
    exact Nat.div_add_mod i _
theorem digs_le (L : Tls) (i k : Nat) (hi : i < prodT L) (hk : k < L.length) : (digs L i).getD k 0 ≤ L[k].2 := by
  rw [List.getD_eq_getElem?_getD, digs_at L i k hi hk]
  simp only [Option.getD_some]
  have := Nat.mod_lt (i / prodT (L.drop (k + 1))) (show 0 < L[k].2 + 1 by omega)
  omega
end Go.Proofs.YtjehpijjneghpaaGreat.Dk
namespace Go.Proofs.YtjehpijjneghpaaGreat.Dk
open Go.RowKit Go.Maps Go.Sort Go.Shelf Go.Proofs.YtjehpijjneghpaaGreat.Nm
variable {σ : Nat → Nat} {S S' : DS}
theorem Alike.beg (h : Alike σ S S') (j : Nat) : Alike σ (S.beg j) (S'.beg j) := by
  have e := beg_ps S j
  have eF := (beg_rest S j).2.2.2.2.2.2.2
  have eF' := (beg_rest S' j).2.2.2.2.2.2.2
  refine ⟨?_, ?_, ?_, ?_, ?_, ?_, ?_, ?_, ?_, ?_, ?_, ?_, ?_, ?_, by rw [e, eF, eF']; exact h.F, by rw [e]; exact h.inj⟩
  all_goals (unfold DS.beg; split <;> simp only [h.most, h.up, h.al, h.c0, h.c1, h.c2, h.c3, h.c4, h.c5, h.c6, h.c7, h.c8, h.l2, h.P])
theorem Alike.str (h : Alike σ S S') (k : Int) : Alike σ (S.str k) (S'.str k) := by
  unfold DS.str
  split
  · exact ⟨h.most, rfl, h.al, h.c0, h.c1, h.c2, h.c3, h.c4, h.c5, h.c6, h.c7, h.c8, h.l2, h.P, h.F, h.inj⟩
  · exact h
theorem Alike.hit (h : Alike σ S S') (j : Nat) : Alike σ (S.hit j) (S'.hit j) := by
  unfold DS.hit
  rw [h.flt]
  exact (h.beg j).str _
theorem Alike.one (h : Alike σ S S') {p : Nat} (hp : p ∈ S.ps) (t : Fl) : Alike σ { S with F := upd S.F p t } { S' with F := upd S'.F (σ p) t } := by
  refine ⟨h.most, h.up, h.al, h.c0, h.c1, h.c2, h.c3, h.c4, h.c5, h.c6, h.c7, h.c8, h.l2, h.P, fun q hq => ?_, h.inj⟩
  show upd S'.F (σ p) t (σ q) = upd S.F p t q
  by_cases e : q = p
  · subst e; rw [upd_same, upd_same]
  · rw [upd_ne _ _ e, upd_ne _ _ (fun c => e (h.inj q hq p hp c)), h.F q hq]
theorem Alike.more (h : Alike σ S S') (c : Ch) (hc : c.ptr = none) : Alike σ { S with P := S.P ++ [c] } { S' with P := S'.P ++ [c] } := by
  have e : ({ S with P := S.P ++ [c] } : DS).ps = S.ps := by
    show S.l2.map (·.2) ++ (S.P ++ [c]).filterMap Ch.ptr = _
    rw [List.filterMap_append]; simp [hc, DS.ps]
  have hm : c.mv σ = c := by cases c with
    | cr n p => cases hc
    | rn f t => rfl
    | rm n => rfl
  refine ⟨h.most, h.up, h.al, h.c0, h.c1, h.c2, h.c3, h.c4, h.c5, h.c6, h.c7, h.c8, h.l2, ?_, by rw [e]; exact h.F, by rw [e]; exact h.inj⟩
  show S'.P ++ [c] = (S.P ++ [c]).map (Ch.mv σ)
  rw [List.map_append, h.P]
  simp [hm]
theorem Alike.new (h : Alike σ S S') (s : ByteArray) {p p' : Nat} (hp : p ∉ S.ps) (hp' : p' ∉ S'.ps) (t : Fl) : Alike (upd σ p p') { S with P := S.P ++ [.cr s p], F := upd S.F p t } { S' with P := S'.P ++ [.cr s p'], F := upd S'.F p' t } := by
  have e : ({ S with P := S.P ++ [.cr s p], F := upd S.F p t } : DS).ps = S.ps ++ [p] := by
    show S.l2.map (·.2) ++ (S.P ++ [Ch.cr s p]).filterMap Ch.ptr = _
    rw [List.filterMap_append]; simp [Ch.ptr, DS.ps]
  have hne : ∀ q ∈ S.ps, q ≠ p := fun q hq c => hp (by rw [← c]; exact hq)
  have hs : ∀ q ∈ S.ps, upd σ p p' q = σ q := fun q hq => upd_ne _ _ (hne q hq)
  have hno : ∀ q ∈ S.ps, σ q ≠ p' := fun q hq c => hp' (by rw [h.ps, ← c]; exact List.mem_map.2 ⟨q, hq, rfl⟩)
  refine ⟨h.most, h.up, h.al, h.c0, h.c1, h.c2, h.c3, h.c4, h.c5, h.c6, h.c7, h.c8, ?_, ?_, ?_, ?_⟩
  · show S'.l2 = mvD (upd σ p p') S.l2
    rw [h.l2]
    exact (mvD_congr fun x hx => hs x (List.mem_append_left _ hx)).symm
  · show S'.P ++ [.cr s p'] = (S.P ++ [Ch.cr s p]).map (Ch.mv (upd σ p p'))
    rw [List.map_append, mvP_congr (σ := σ) (fun x hx => hs x (List.mem_append_right _ hx)), h.P]
    simp [Ch.mv, upd_same]
  · rw [e]
    intro q hq
    show upd S'.F p' t (upd σ p p' q) = upd S.F p t q
    rcases List.mem_append.1 hq with z | z
    · rw [hs q z, upd_ne _ _ (hno q z), upd_ne _ _ (hne q z), h.F q z]
    · simp at z
      subst z
      rw [upd_same, upd_same, upd_same]
  · rw [e]
    intro a ha b hb hab
    rcases List.mem_append.1 ha with z | z <;> rcases List.mem_append.1 hb with y | y
    · rw [hs a z, hs b y] at hab; exact h.inj a z b y hab
    · simp at y; subst y
      rw [hs a z, upd_same] at hab; exact (hno a z hab).elim
    · simp at z; subst z
      rw [hs b y, upd_same] at hab; exact (hno b y hab.symm).elim
    · simp at z y; rw [z, y]
theorem Alike.remove (h : Alike σ S S') (s : ByteArray) : Alike σ (S.remove s).1 (S'.remove s).1 ∧ (S'.remove s).2 = (S.remove s).2 := by
  have e1 : (S'.find s).2 = (S.find s).2 := by rw [h.find]
  unfold DS.remove
  rw [e1, h.flt]
  split
  · exact ⟨h, rfl⟩
  split
  · exact ⟨h.hit 5, rfl⟩
  · have q := (h.hit 5).more (.rm s) rfl
    rw [(hit_rest S 5).2.2.1, (hit_rest S' 5).2.2.1] at q
    exact ⟨q, rfl⟩
theorem Alike.rename (h : Alike σ S S') (s t : ByteArray) : Alike σ (S.rename s t).1 (S'.rename s t).1 ∧ (S'.rename s t).2 = (S.rename s t).2 := by
  have e1 : (S'.find s).2 = (S.find s).2 := by rw [h.find]
  unfold DS.rename
  rw [h.ref, e1, h.flt]
  split
  · exact ⟨h, rfl⟩
  split
  · exact ⟨h, rfl⟩
  split
  · exact ⟨h.hit 4, rfl⟩
  split
  · exact ⟨h.hit 4, rfl⟩
  · have q := (h.hit 4).more (.rn s t) rfl
    rw [(hit_rest S 4).2.2.1, (hit_rest S' 4).2.2.1] at q
    exact ⟨q, rfl⟩
theorem Alike.syncDir (h : Alike σ S S') : Alike σ S.syncDir.1 S'.syncDir.1 ∧ S'.syncDir.2 = S.syncDir.2 := by
  have q := h.hit 6
  have hps : ∀ p ∈ ({ S.hit 6 with l2 := S.dir, P := [] } : DS).ps, p ∈ S.ps := fun p hp => by
    have : p ∈ S.dir.map (·.2) := by simpa [DS.ps] using hp
    obtain ⟨e, he, rfl⟩ := List.mem_map.1 this
    exact mem_ps_dir he
  unfold DS.syncDir
  rw [h.ref, h.flt]
  split
  · exact ⟨h, rfl⟩
  split
  · exact ⟨q, rfl⟩
  · refine ⟨⟨q.most, q.up, q.al, q.c0, q.c1, q.c2, q.c3, q.c4, q.c5, q.c6, q.c7, q.c8, h.dir, rfl, fun p hp => ?_, fun p hp r hr => h.inj p (hps p hp) r (hps r hr)⟩, rfl⟩
    show (S'.hit 6).F (σ p) = (S.hit 6).F p
    rw [(hit_rest S 6).2.2.2.2.2.2, (hit_rest S' 6).2.2.2.2.2.2]
    exact h.F p (hps p hp)
theorem Alike.create (h : Alike σ S S') (s : ByteArray) {p p' : Nat} (hp : p ∉ S.ps) (hp' : p' ∉ S'.ps) : (∃ τ, Alike τ (S.create s p).1 (S'.create s p').1) ∧ (S'.create s p').2 = (S.create s p).2 := by
  have e1 : S'.dir.length = S.dir.length := by rw [h.dir]; unfold mvD; rw [List.length_map]
  have e2 : (get S'.dir s.data.toList).isSome = (get S.dir s.data.toList).isSome := by rw [h.dir, get_mv, Option.isSome_map]
  unfold DS.create
  rw [h.ref, h.flt, e1, e2]
  split
  · exact ⟨⟨σ, h⟩, rfl⟩
  split
  · exact ⟨⟨σ, h⟩, rfl⟩
  split
  · exact ⟨⟨σ, h⟩, rfl⟩
  have q := (h.beg 0).str S.flt.2.1
  split
  · exact ⟨⟨σ, q⟩, rfl⟩
  · have e3 : ((S.beg 0).str S.flt.2.1).ps = S.ps := (str_ps _ _).trans (beg_ps S 0)
    have e4 : ((S'.beg 0).str S.flt.2.1).ps = S'.ps := (str_ps _ _).trans (beg_ps S' 0)
    have z := q.new s (p := p) (p' := p') (by rw [e3]; exact hp) (by rw [e4]; exact hp') ⟨[], [], 0⟩
    have hS := str_rest (S.beg 0) S.flt.2.1
    have hS' := str_rest (S'.beg 0) S.flt.2.1
    rw [hS.2.2.1, hS'.2.2.1, hS.2.2.2.2.2.2, hS'.2.2.2.2.2.2] at z
    exact ⟨⟨_, z⟩, rfl⟩
end Go.Proofs.YtjehpijjneghpaaGreat.Dk
namespace Go.Proofs.YtjehpijjneghpaaGreat.Dk
open Go.RowKit Go.Maps Go.Sort Go.Shelf Go.Proofs.YtjehpijjneghpaaGreat.Nm
variable {σ : Nat → Nat} {S S' : DS}
theorem Alike.c8s (h : Alike σ S S') (n : Int) : Alike σ { S with c8 := n } { S' with c8 := n } :=
  ⟨h.most, h.up, h.al, h.c0, h.c1, h.c2, h.c3, h.c4, h.c5, h.c6, h.c7, rfl, h.l2, h.P, h.F, h.inj⟩
theorem Alike.apN (h : Alike σ S S') (n : Nat) : S'.apN n = S.apN n := by
  unfold DS.apN
  rw [h.flt, h.room]
theorem find_mem {S : DS} {s : ByteArray} {p : Nat} {e : Int} (h : S.find s = (some p, e)) : p ∈ S.ps := by
  by_cases h0 : (S.find s).2 = 0
  · obtain ⟨q, e1, _, _, hq⟩ := find_ok h0
    rw [h] at e1
    cases e1
    exact hq
  · have := find_no h0
    rw [h] at this
    cases this
theorem Alike.append (h : Alike σ S S') (s : ByteArray) (b : List UInt8) : Alike σ (S.append s b).1 (S'.append s b).1 ∧ (S'.append s b).2 = (S.append s b).2 := by
  have hf := h.find s
  unfold DS.append
  cases hq : S.find s with
  | mk a e =>
    rw [hq] at hf
    cases a with
    | none => rw [hf]; exact ⟨h, rfl⟩
    | some p =>
      have hp := find_mem hq
      rw [hf]
      simp only [Option.map_some]
      rw [h.apN, h.flt, h.F p hp, h.c8]
      refine ⟨?_, rfl⟩
      have e3 : ((S.beg 1).str S.flt.2.1).ps = S.ps := (str_ps _ _).trans (beg_ps S 1)
      have z := (((h.beg 1).str S.flt.2.1).one (p := p) (by rw [e3]; exact hp) (apF (S.F p) (b.take (S.apN b.length)))).c8s (S.c8 + (S.apN b.length : Int))
      have hS := str_rest (S.beg 1) S.flt.2.1
      have hS' := str_rest (S'.beg 1) S.flt.2.1
      rw [hS.2.2.2.2.2.2, hS'.2.2.2.2.2.2] at z
      exact z
theorem Alike.sync (h : Alike σ S S') (s : ByteArray) : Alike σ (S.sync s).1 (S'.sync s).1 ∧ (S'.sync s).2 = (S.sync s).2 := by
  have hf := h.find s
  unfold DS.sync
  cases hq : S.find s with
  | mk a e =>
    rw [hq] at hf
    cases a with
    | none => rw [hf]; exact ⟨h, rfl⟩
    | some p =>
      have hp := find_mem hq
      rw [hf]
      simp only [Option.map_some]
      rw [h.flt, h.F p hp]
      have one := fun t => (h.beg 2).one (p := p) (by rw [beg_ps]; exact hp) t
      split
      · exact ⟨one _, rfl⟩
      split
      · exact ⟨(h.beg 2).str 3, rfl⟩
      · exact ⟨one _, rfl⟩
theorem Alike.cut (h : Alike σ S S') (s : ByteArray) (n : Int) : Alike σ (S.cut s n).1 (S'.cut s n).1 ∧ (S'.cut s n).2 = (S.cut s n).2 := by
  have hf := h.find s
  unfold DS.cut
  cases hq : S.find s with
  | mk a e =>
    rw [hq] at hf
    cases a with
    | none => rw [hf]; exact ⟨h, rfl⟩
    | some p =>
      have hp := find_mem hq
      rw [hf]
      simp only [Option.map_some]
      rw [h.flt, h.F p hp]
      have one := fun t => (h.beg 3).one (p := p) (by rw [beg_ps]; exact hp) t
      split
      · exact ⟨h, rfl⟩
      split
      · exact ⟨(h.beg 3).str _, rfl⟩
      · exact ⟨one _, rfl⟩
end Go.Proofs.YtjehpijjneghpaaGreat.Dk
namespace Go.Proofs.YtjehpijjneghpaaGreat.Dk
open Go.RowKit Go.Maps Go.Sort Go.Shelf Go.Proofs.YtjehpijjneghpaaGreat.Nm
set_option linter.unusedVariables false
variable {σ : Nat → Nat} {S S' : DS} in
theorem Alike.size (h : Alike σ S S') (s : ByteArray) : S'.size s = S.size s := by
  have hf := h.find s
  unfold DS.size
  rw [hf]
  by_cases h0 : (S.find s).2 = 0
  · obtain ⟨p, e, _, _, hp⟩ := find_ok h0
    rw [e]
    dsimp only [Option.map_some]
    rw [h.F p hp]
  · have e : S.find s = (none, (S.find s).2) := Prod.ext (find_no h0) rfl
    rw [e]
    rfl
variable {σ : Nat → Nat} {S S' : DS} in
theorem Alike.read (h : Alike σ S S') (s : ByteArray) (o n : Int) : S'.read s o n = S.read s o n := by
  have hf := h.find s
  unfold DS.read
  rw [hf]
  by_cases h0 : (S.find s).2 = 0
  · obtain ⟨p, e, _, _, hp⟩ := find_ok h0
    rw [e]
    dsimp only [Option.map_some]
    rw [h.F p hp]
  · have e : S.find s = (none, (S.find s).2) := Prod.ext (find_no h0) rfl
    rw [e]
    rfl
structure FateOf (S : DS) (i d j : Nat) : Prop where
  dl : d ≤ S.P.length
  eq : i = (S.cnts d).sum + j
  lt : j < prodT (S.tails (d : Int))
theorem FateOf.less {S : DS} {i d j d' j' : Nat} (h : FateOf S i d j) (h' : FateOf S i d' j') : ¬ d < d' := fun c => by
  have h1 := cnts_mono S (show d + 1 ≤ d' by omega)
  have h2 := cnts_sum S d
  have := h.eq; have := h'.eq; have := h.lt
  omega
theorem FateOf.uniq {S : DS} {i d j d' j' : Nat} (h : FateOf S i d j) (h' : FateOf S i d' j') : d = d' ∧ j = j' := by
  have a := h.less h'
  have b := h'.less h
  obtain rfl : d = d' := by omega
  have := h.eq; have := h'.eq
  exact ⟨rfl, by omega⟩
theorem FateOf.below {S : DS} {i d j : Nat} (h : FateOf S i d j) : i < S.ways := by
  have h1 := cnts_mono S (show d + 1 ≤ S.P.length + 1 by have := h.dl; omega)
  have h2 := cnts_sum S d
  have := h.eq; have := h.lt
  unfold DS.ways
  omega
def keps (ds : List Nat) : List Kep := ds.map fun (n : Nat) => ((n : Int), ([] : List UInt8))
def DS.after (S : DS) (d j : Nat) : DS := S.crash (d : Int) (keps (digs (S.tails (d : Int)) j))
def sM (m : UInt8) : ByteArray := ⟨#[m]⟩
theorem may_m {m : UInt8} (h : m = 98 ∨ m = 110) : may (sM m).data.toList = true := by rcases h with rfl | rfl <;> decide
theorem nms_two (p q : Nat) {m : UInt8} (h : m = 98 ∨ m = 110) : nms [([97], p), ([m], q)] = [[97], [m]] := by
  unfold nms
  simp [List.mergeSort, List.MergeSort.Internal.splitInTwo, List.merge]
  rcases h with rfl | rfl <;> decide
structure EachD (S : DS) (m : UInt8) (A B C : List UInt8) (p q : Nat) : Prop where
  hm : m = 98 ∨ m = 110
  up : S.up = true
  l2 : S.l2 = [([97], p)]
  P : S.P = [.cr (sM m) q]
  Fp : S.F p = ⟨A ++ B, A, 0⟩
  Fq : S.F q = ⟨C, [], 0⟩
  ne : p ≠ q
section
variable {S : DS} {m : UInt8} {A B C : List UInt8} {p q : Nat}
theorem EachD.front0 (h : EachD S m A B C p q) : S.front 0 = [([97], p)] := by
  unfold DS.front
  rw [h.l2, h.P]
  rfl
theorem EachD.front1 (h : EachD S m A B C p q) : S.front 1 = [([97], p), ([m], q)] := by
  unfold DS.front
  rw [h.l2, h.P]
  rcases h.hm with rfl | rfl <;> rfl
theorem EachD.tails0 (h : EachD S m A B C p q) : S.tails 0 = [([97], B.length)] := by
  unfold DS.tails
  rw [h.front0, nms_one]
  have : tlOf S.F [([97], p)] [97] = B.length := by
    show (S.F p).by_.length - (S.F p).la.length = _
    rw [h.Fp]; simp
  simp [this]
theorem EachD.tails1 (h : EachD S m A B C p q) : S.tails 1 = [([97], B.length), ([m], C.length)] := by
  unfold DS.tails
  rw [h.front1, nms_two p q h.hm]
  have h1 : tlOf S.F [([97], p), ([m], q)] [97] = B.length := by
    show (S.F p).by_.length - (S.F p).la.length = _
    rw [h.Fp]; simp
  have h2 : tlOf S.F [([97], p), ([m], q)] [m] = C.length := by
    have : tlOf S.F [([97], p), ([m], q)] [m] = (S.F q).by_.length - (S.F q).la.length := by rcases h.hm with rfl | rfl <;> rfl
    rw [this, h.Fq]; simp
  simp [h1, h2]
theorem EachD.cnt1 (h : EachD S m A B C p q) : (S.cnts 1).sum = B.length + 1 := by
  have := cnts_sum S 0
  rw [show ((0 : Nat) : Int) = 0 from rfl, h.tails0] at this
  simpa [DS.cnts, prodT] using this
theorem EachD.cnt2 (h : EachD S m A B C p q) : (S.cnts 2).sum = (B.length + 1) * (C.length + 2) := by
  have := cnts_sum S 1
  rw [show ((1 : Nat) : Int) = 1 from rfl, h.tails1, h.cnt1] at this
  rw [this]
  simp only [prodT, Nat.mul_one]
  rw [Nat.mul_add (B.length + 1) (C.length + 1) 1, Nat.mul_one, Nat.add_comm]
theorem EachD.ways (h : EachD S m A B C p q) : S.ways = (B.length + 1) * (C.length + 2) := by
  unfold DS.ways
  rw [h.P]
  exact h.cnt2
theorem EachD.uq (h : EachD S m A B C p q) : S.uq := by
  unfold DS.uq
  rw [h.l2, h.P]
  refine ⟨fun e he e' he' _ => ?_, fun e he c => ?_, ?_⟩
  · simp at he he'; rw [he, he']
  · simp at he; subst he; simp [ptrs, Ch.ptr] at c; exact h.ne c
  · simp [ptrs, Ch.ptr]
end
end Go.Proofs.YtjehpijjneghpaaGreat.Dk
namespace Go.Proofs.YtjehpijjneghpaaGreat.Dk
open Go.RowKit Go.Maps Go.Sort Go.Shelf Go.Proofs.YtjehpijjneghpaaGreat.Nm
set_option linter.unusedVariables false
def Tr (w : World) (v : Value) (L : Tls) : Prop := ∃ ao ca, v = .slice ao L.length ca ∧ L.length ≤ ca ∧ ca ≤ 9223372036854775807 ∧ ∀ i (h : i < L.length), ∃ b off, ao = some ⟨b, off, none⟩ ∧ w.cell? ⟨b, off + i * 2, none⟩ = some (.string (bsOf L[i].1)) ∧ w.cell? ⟨b, off + i * 2 + 1, none⟩ = some (.int .i64 (L[i].2 : Int))
theorem tcells_at (L : Tls) : ∀ i (h : i < L.length), (tcells L)[i * 2]? = some (.string (bsOf L[i].1)) ∧ (tcells L)[i * 2 + 1]? = some (.int .i64 (L[i].2 : Int)) := by
  induction L with
  | nil => intro i h; simp at h
  | cons e r ih =>
    intro i h
    have : tcells (e :: r) = [encStr e.1, .int .i64 (e.2 : Int)] ++ tcells r := by simp [tcells]
    rw [this]
    cases i with
    | zero => exact ⟨rfl, rfl⟩
    | succ i =>
      have h' : i < r.length := by simpa using h
      obtain ⟨a, b⟩ := ih i h'
      refine ⟨?_, ?_⟩
      · rw [List.getElem?_append_right (by simp; omega)]
        simp only [List.length_cons, List.length_nil, List.getElem_cons_succ]
        rw [show (i + 1) * 2 - (0 + 1 + 1) = i * 2 by omega]
        exact a
      · rw [List.getElem?_append_right (by simp; omega)]
        simp only [List.length_cons, List.length_nil, List.getElem_cons_succ]
        rw [show (i + 1) * 2 + 1 - (0 + 1 + 1) = i * 2 + 1 by omega]
        exact b
theorem Tl.tr {B : Nat} {w : World} {v : Value} {L : Tls} (h : Tl B w v L) : Tr w v L := by
  have h0 := h
  rcases h.2 with ⟨rfl, e⟩ | ⟨g, cap, cur, rfl, _, _, a, b, _⟩
  · have : L = [] := List.length_eq_zero_iff.1 e
    subst this
    exact ⟨none, 0, rfl, Nat.le_refl _, by omega, fun i hi => by simp at hi⟩
  · refine ⟨_, _, rfl, a, by unfold maxLen at b; omega, fun i hi => ⟨g, 0, rfl, ?_, ?_⟩⟩
    · have := World.ownsRow.cells h0 (g := g) rfl (i * 2) _ (tcells_at L i hi).1
      rw [addr_add] at this
      exact this
    · have := World.ownsRow.cells h0 (g := g) rfl (i * 2 + 1) _ (tcells_at L i hi).2
      rw [addr_add] at this
      exact this
theorem Tr.below {w w' : World} {v : Value} {L : Tls} (h : Tr w v L) (hb : Below w.heap.size w w') : Tr w' v L := by
  obtain ⟨ao, ca, e, h1, h2, h3⟩ := h
  refine ⟨ao, ca, e, h1, h2, fun i hi => ?_⟩
  obtain ⟨b, off, e1, c1, c2⟩ := h3 i hi
  exact ⟨b, off, e1, by rw [hb.cell (lt_of_cell c1)]; exact c1, by rw [hb.cell (lt_of_cell c2)]; exact c2⟩
set_option maxRecDepth 100000 in
theorem base_any (w : World) (s : ByteArray) (n : Nat) (hn : n ≤ 16777216) :
    Calls Tryz.prog 113 #[.agg #[.string s, .int .i64 (n : Int)]] w fun e w' => e = .returned (.int .i64 ((n : Int) + 1)) ∧ Below w.heap.size w w' := by
  have hB := hide (box_below w (.cells #[.string s, .int .i64 (n : Int)] 68))
  go_enter Tryz.func113, Tryz.ntmps113
  go_wp2_with fail
  go_ret
  exact ⟨by go_num, hB.out⟩
def chA (L : Tls) : Int × Bool := if prodT L ≤ M40 then ((prodT L : Int), true) else (0, false)
set_option maxRecDepth 100000 in
set_option maxHeartbeats 1000000 in
theorem choices_any (w : World) (v : Value) (L : Tls) (hv : Tr w v L) (hs : ∀ e ∈ L, e.2 ≤ 16777216) :
    Calls Tryz.prog 112 #[v] w fun e w' => e = .returned (.tuple #[.int .i64 (chA L).1, .bool (chA L).2]) ∧ Below w.heap.size w w' := by
  obtain ⟨R, hR⟩ : ∃ R, Hid (chA L = R) := ⟨_, rfl⟩
  rw [hR.out]
  obtain ⟨ao, ca, rfl, q1, q2, q3⟩ := hv
  obtain ⟨N, hN⟩ : ∃ N, Hid (L.length = N) := ⟨_, rfl⟩
  rw [hN.out] at q1 ⊢
  replace q3 := hide q3
  replace hs := hide hs
  go_enter Tryz.func112, Tryz.ntmps112
  go_wp2_with fail
  go_loopw [4, 9] (fun v4 i wr => ∃ k x : Nat, i = .int .i64 k ∧ k ≤ N ∧ v4 = .int .i64 x ∧ x ≤ 1099511627776 ∧ Hid (x = prodT (L.take k)) ∧ Hid (Below w.heap.size w wr)) (fun _ i _ => N - (intOf i).toNat)
  case atStart => exact ⟨0, 1, rfl, Nat.zero_le _, rfl, by omega, rfl, Below.refl _ _⟩
  case round =>
    obtain ⟨k, x, rfl, hk, rfl, hx, ex, hB⟩ := hrel
    by_cases hlt : k < N
    · have i1 : (k : Int) < (N : Int) := by omega
      have hkl : k < L.length := by rw [hN.out]; exact hlt
      obtain ⟨gb, off, rfl, c0, c1⟩ := q3.out k hkl
      rw [← hB.out.cell (p := ⟨gb, off + k * 2, none⟩) (lt_of_cell c0)] at c0
      rw [← hB.out.cell (p := ⟨gb, off + k * 2 + 1, none⟩) (lt_of_cell c1)] at c1
      have hn := hs.out L[k] (List.getElem_mem hkl)
      have ey : Hid (prodT (L.take (k + 1)) = x * (L[k].2 + 1)) := by show _ = _; rw [List.take_succ_eq_append_getElem hkl, prodT_snoc, ex.out]
      have ez : Hid (prodT (L.take (k + 1)) ≤ prodT L) := prodT_take _ _
      obtain ⟨y, ey2⟩ : ∃ y, Hid (y = prodT (L.take (k + 1))) := ⟨_, rfl⟩
      rw [← ey2.out] at ey ez
      generalize L[k].2 = n at *
      generalize bsOf L[k].1 = s at *
      obtain ⟨X, hX⟩ : ∃ X, Hid (wr.alloc (.cells #[.string s, .int .i64 (n : Int)] 68) = X) := ⟨_, rfl⟩
      have B0 : Hid (Below w.heap.size w X) := by
        rw [← hX.out]
        exact hB.out.trans ((box_below wr (.cells #[.string s, .int .i64 (n : Int)] 68)).mono hB.out.size)
      have z0 := heap_alloc_new wr (.cells #[.string s, .int .i64 (n : Int)] 68)
      rw [hX.out] at z0
      have KB : Hid (∀ q, Below X.heap.size X q → Calls Tryz.prog 113 #[.agg #[.string s, .int .i64 (n : Int)]] q fun e q' => e = .returned (.int .i64 ((n : Int) + 1)) ∧ Below X.heap.size X q' ∧ q'.cell? ⟨wr.heap.size, 0, none⟩ = some (.string s) ∧ q'.cell? ⟨wr.heap.size, 1, none⟩ = some (.int .i64 (n : Int))) := fun q hq => by
        refine (base_any q s n hn).mono ?_
        rintro e q' ⟨rfl, hb⟩
        have hb' := hq.trans (hb.mono hq.size)
        have hz := (hb'.block wr.heap.size (heap_lt z0)).trans z0
        exact ⟨rfl, hb', by simp [World.cell?, hz], by simp [World.cell?, hz]⟩
      have x0 : X.cell? ⟨wr.heap.size, 0, none⟩ = some (.string s) := by simp [World.cell?, z0]
      have x1 : X.cell? ⟨wr.heap.size, 1, none⟩ = some (.int .i64 (n : Int)) := by simp [World.cell?, z0]
      have bX := Below.refl X.heap.size X
      clear z0
      obtain ⟨Q, hQ⟩ : ∃ Q, Hid (Q = M40 / (n + 1)) := ⟨_, rfl⟩
      have t1 : (1099511627776 : Int).tdiv ((n : Int) + 1) = (Q : Int) := by
        rw [Int.tdiv_eq_ediv_of_nonneg (by omega), hQ.out]
        exact (Int.natCast_ediv 1099511627776 (n + 1)).symm
      have t2 : Q ≤ 1099511627776 := by rw [hQ.out]; exact Nat.div_le_self _ _
      have t3 := over_iff x (n + 1) (by omega)
      rw [← hQ.out, ← ey.out] at t3
      by_cases ho : y ≤ 1099511627776
      · have t4 : ¬ ((x : Int) > (Q : Int)) := by unfold M40 at t3; omega
        have t5 : (x : Int) * ((n : Int) + 1) = (y : Int) := by rw [ey.out]; norm_cast
        clear t3
        have t6 : (y : Int) ≤ 9223372036854775807 := by omega
        replace ho := hide ho
        replace hx := hide hx
        go_upto_region 5 with fail
        rw [hX.out]
        go_wp2_with (first
          | (go_at_call 113; refine (KB.out _ (by assumption)).mono ?_; rintro e w1 ⟨rfl, b1, c2, c3⟩)
          | fail)
        go_roundw
        case rel => exact ⟨k + 1, y, by go_num, by omega, rfl, ho.out, ey2, B0.out.trans (b1.mono B0.out.size)⟩
        case measure => simp [intOf]; omega
      · have t4 : (x : Int) > (Q : Int) := by unfold M40 at t3; omega
        clear t3
        go_upto_region 5 with fail
        rw [hX.out]
        go_wp2_with (first
          | (go_at_call 113; refine (KB.out _ (by assumption)).mono ?_; rintro e w1 ⟨rfl, b1, c2, c3⟩)
          | fail)
        go_ret2
        refine ⟨?_, B0.out.trans (b1.mono B0.out.size)⟩
        rw [← hR.out, chA, if_neg (by have := ez.out; unfold M40; omega)]
        rfl
    · obtain rfl : k = N := by omega
      rw [List.take_of_length_le (by rw [hN.out]; omega)] at ex
      go_wp2_with fail
      go_ret2
      refine ⟨?_, hB.out⟩
      rw [← hR.out, chA, ← ex.out, if_pos (by unfold M40; exact hx)]
      rfl
end Go.Proofs.YtjehpijjneghpaaGreat.Dk
namespace Go.Proofs.YtjehpijjneghpaaGreat.Dk
open Go.RowKit Go.Maps Go.Sort Go.Shelf Go.Proofs.YtjehpijjneghpaaGreat.Nm
set_option linter.unusedVariables false
theorem infoKeep : (Tryz.prog.info? 88).map (fun i => (i.zero, i.size, i.bytes)) = some (some (.agg #[.int .i64 0, .slice none 0 0]), 2, 32) := by kernel_rfl
def kcells (ds : List Nat) : List Value := (ds.map fun (n : Nat) => [Value.int .i64 (n : Int), .slice none 0 0]).flatten
theorem kcells_cons (d : Nat) (ds : List Nat) : kcells (d :: ds) = [.int .i64 (d : Int), .slice none 0 0] ++ kcells ds := by simp [kcells]
theorem kcells_len (ds : List Nat) : (kcells ds).length = ds.length * 2 := by
  induction ds with
  | nil => rfl
  | cons d r ih => rw [kcells_cons, List.length_append, ih, List.length_cons]; simp; omega
theorem kcells_set (ds : List Nat) (k d : Nat) : (kcells ds).set (k * 2) (.int .i64 (d : Int)) = kcells (ds.set k d) := by
  induction ds generalizing k with
  | nil => simp [kcells]
  | cons x r ih =>
    cases k with
    | zero => simp [kcells_cons]
    | succ k =>
      rw [kcells_cons, List.set_cons_succ, kcells_cons, ← ih k]
      rw [show (k + 1) * 2 = k * 2 + 1 + 1 by omega]
      simp
theorem kcells_at (ds : List Nat) : ∀ k (h : k < ds.length), (kcells ds)[k * 2]? = some (.int .i64 (ds[k] : Int)) ∧ (kcells ds)[k * 2 + 1]? = some (.slice none 0 0) := by
  induction ds with
  | nil => intro k h; simp at h
  | cons x r ih =>
    intro k h
    cases k with
    | zero => exact ⟨rfl, rfl⟩
    | succ k =>
      obtain ⟨a, b⟩ := ih k (by simpa using h)
      rw [kcells_cons, show (k + 1) * 2 = k * 2 + 1 + 1 by omega, show k * 2 + 1 + 1 + 1 = (k * 2 + 1) + 1 + 1 by omega]
      simp only [List.cons_append, List.nil_append, List.getElem?_cons_succ, List.getElem_cons_succ]
      exact ⟨a, b⟩
theorem made_keeps (n : Nat) : (madeCells #[.int .i64 0, .slice none 0 0] (n * 2)).toList = kcells (List.replicate n 0) := by
  refine List.ext_getElem? fun j => ?_
  have hl : (kcells (List.replicate n 0)).length = n * 2 := by rw [kcells_len]; simp
  by_cases hj : j < n * 2
  · have e1 : (madeCells #[.int .i64 0, .slice none 0 0] (n * 2)).toList[j]? = some (#[Value.int .i64 0, .slice none 0 0][j % 2]!) := by
      unfold madeCells
      simp [hj]
    rw [e1]
    obtain ⟨a, b⟩ := kcells_at (List.replicate n 0) (j / 2) (by simp; omega)
    rcases Nat.mod_two_eq_zero_or_one j with h | h
    · rw [h, show j = j / 2 * 2 by omega, a]; simp
    · rw [h]
      conv => rhs; rw [show j = j / 2 * 2 + 1 by omega]
      rw [b]; simp
  · rw [List.getElem?_eq_none (by rw [Array.length_toList, size_madeCells]; omega), List.getElem?_eq_none (by omega)]
def Ks (B : Nat) (w : World) (v : Value) (ds : List Nat) : Prop := w.ownsRow B 88 2 v ds.length (kcells ds)
theorem Ks.kp {B : Nat} {w : World} {v : Value} {ds : List Nat} (h : Ks B w v ds) (hd : ∀ d ∈ ds, d ≤ 16777216) : Kp (fun k => B ≤ k ∧ k < w.heap.size) w v (keps ds) := by
  have h0 := h
  have hl : (keps ds).length = ds.length := by simp [keps]
  rcases h.2 with ⟨rfl, e⟩ | ⟨g, cap, cur, rfl, hg, hh, a, b, _⟩
  · have : ds = [] := List.length_eq_zero_iff.1 e
    subst this
    exact ⟨none, 0, rfl, Nat.le_refl _, by decide, fun i hi => by simp [keps] at hi⟩
  · refine ⟨_, cap, by rw [hl], by rw [hl]; exact a, b, fun i hi => ?_⟩
    rw [hl] at hi
    have e1 : (keps ds)[i]'(by rw [hl]; exact hi) = ((ds[i] : Int), []) := by simp [keps]
    rw [e1]
    obtain ⟨c0, c1⟩ := kcells_at ds i hi
    have q0 := World.ownsRow.cells h0 (g := g) rfl (i * 2) _ c0
    have q1 := World.ownsRow.cells h0 (g := g) rfl (i * 2 + 1) _ c1
    rw [addr_add] at q0 q1
    have := hd ds[i] (List.getElem_mem hi)
    exact ⟨g, 0, .slice none 0 0, rfl, ⟨hg, heap_lt hh⟩, q0, q1, Sl.nil _, fun b off n c e => by simp at e, by dsimp only; omega, by dsimp only; omega⟩
theorem kp_mono {Z Z' : Nat → Prop} {w : World} {v : Value} {ks : List Kep} (h : Kp Z w v ks) (hz : ∀ k, Z k → Z' k) : Kp Z' w v ks := by
  obtain ⟨ao, cap, e, h1, h2, h3⟩ := h
  refine ⟨ao, cap, e, h1, h2, fun i hi => ?_⟩
  obtain ⟨b, off, vj, e1, z, c1, c2, sl, si, m0, m1⟩ := h3 i hi
  exact ⟨b, off, vj, e1, hz b z, c1, c2, sl, fun b' o n c e z => hz b' (si b' o n c e z), m0, m1⟩
theorem owns_belowN {w w' : World} {B : Nat} {T : TypeId} {size : Nat} {v : Value} {n : Nat} {xs : List Value} (h : w.ownsRow B T size v n xs) (hb : Below w.heap.size w w') : w'.ownsRow B T size v n xs :=
  ⟨h.1, h.2.imp id fun ⟨g, cap, cur, e, hg, hh, r⟩ => ⟨g, cap, cur, e, hg, (hb.block g (heap_lt hh)).trans hh, r⟩⟩
theorem rest_set (D : List Nat) (k : Nat) (h : k < D.length) : (List.replicate (k + 1) 0 ++ D.drop (k + 1)).set k D[k] = List.replicate k 0 ++ D.drop k := by
  rw [List.replicate_succ', List.append_assoc, List.set_append_right _ _ (by simp)]
  rw [List.length_replicate, Nat.sub_self, List.singleton_append, List.set_cons_zero, ← List.drop_eq_getElem_cons h]
set_option maxRecDepth 100000 in
set_option maxHeartbeats 1000000 in
theorem apart_any (w : World) (v : Value) (L : Tls) (i : Nat) (hv : Tr w v L) (hs : ∀ e ∈ L, e.2 ≤ 16777216) (hi : i < prodT L) (hm : i < 1099511627776) (hl : L.length ≤ 1000000000) :
    Calls Tryz.prog 88 #[v, .int .i64 (i : Int)] w fun e w' => ∃ v', e = .returned v' ∧ Ks w.heap.size w' v' (digs L i) ∧ Below w.heap.size w w' := by
  obtain ⟨ao, ca, rfl, q1, q2, q3⟩ := hv
  obtain ⟨N, hN⟩ : ∃ N, Hid (L.length = N) := ⟨_, rfl⟩
  rw [hN.out] at q1 hl ⊢
  replace q3 := hide q3
  replace hs := hide hs
  have hD : Hid ((digs L i).length = N) := by show _ = _; rw [digs_len, hN.out]
  obtain ⟨i0, hi0, hz0, hz1, hz2⟩ := info_parts infoKeep
  go_enter Tryz.func88, Tryz.ntmps88
  go_wp2_with (at_make; refine wpList_make_full w rfl _ _ 32 rfl w.heap.size 88 i0 (.agg #[.int .i64 0, .slice none 0 0]) 2 Tryz.underlying32 hi0 hz0 hz1 .i64 .i64 _ _ N rfl rfl rfl rfl (by rw [hz2]; omega) (by unfold maxLen; omega) (Nat.le_refl _) ?_)
  intro w1 ho1 hg1
  have hb1 : Hid (Below w.heap.size w w1) := (Below.refl _ _).grown hg1 (Nat.le_refl _) (fun k hk => by simp at hk)
  rw [made_keeps] at ho1
  replace ho1 := hide ho1
  clear hg1 hi0 hz0 hz1 hz2
  go_wp2_with fail
  go_loopw [1, 6] (fun vi v6 wr => ∃ k x : Nat, k ≤ N ∧ v6 = .int .i64 ((k : Int) - 1) ∧ vi = .int .i64 (x : Int) ∧ x < 1099511627776 ∧ Hid (x = i / prodT (L.drop k)) ∧ Hid (wr.ownsRow w.heap.size 88 2 (.slice (some ⟨w.heap.size, 0, none⟩) N N) N (kcells (List.replicate k 0 ++ (digs L i).drop k))) ∧ Hid (Below w.heap.size w wr)) (fun _ v6 _ => ((intOf v6) + 1).toNat)
  case atStart =>
    refine ⟨N, i, Nat.le_refl _, by go_num, rfl, hm, ?_, ?_, hb1⟩
    · show _ = _
      rw [List.drop_of_length_le (by rw [hN.out]; exact Nat.le_refl _)]; simp [prodT]
    · rw [List.drop_of_length_le (by rw [hD.out]; exact Nat.le_refl _), List.append_nil]; exact ho1
  case round =>
    obtain ⟨k1, x, hk, rfl, rfl, hx, ex, hO, hB⟩ := hrel
    cases k1 with
    | zero =>
      go_wp2_with fail
      go_ret
      refine ⟨_, rfl, ?_, hB.out⟩
      have := hO.out
      simp only [List.replicate_zero, List.nil_append, List.drop_zero] at this
      unfold Ks
      rw [hD.out]
      exact this
    | succ k =>
      have i1 : ((k + 1 : Nat) : Int) - 1 = (k : Int) := by omega
      rw [i1]
      have i2 : (k : Int) < (N : Int) := by omega
      have hkl : k < L.length := by rw [hN.out]; omega
      obtain ⟨gb, off, rfl, c0, c1⟩ := q3.out k hkl
      have KC : Hid (∀ q, Below w.heap.size w q → q.cell? ⟨gb, off + k * 2, none⟩ = some (.string (bsOf L[k].1)) ∧ q.cell? ⟨gb, off + k * 2 + 1, none⟩ = some (.int .i64 (L[k].2 : Int))) := fun q hq => ⟨by rw [hq.cell (lt_of_cell c0)]; exact c0, by rw [hq.cell (lt_of_cell c1)]; exact c1⟩
      clear c0 c1
      obtain ⟨c0, c1⟩ := KC.out wr hB.out
      have hn := hs.out L[k] (List.getElem_mem hkl)
      have hdk : Hid (∀ h, (digs L i)[k]'h = x % (L[k].2 + 1)) := fun h => by
        have := digs_at L i k hi hkl
        rw [List.getElem?_eq_getElem (by rw [hD.out]; omega)] at this
        rw [ex.out]
        exact Option.some.inj this
      have hnx : Hid (x / (L[k].2 + 1) = i / prodT (L.drop k)) := by
        show _ = _
        rw [ex.out, List.drop_eq_getElem_cons hkl, prodT, Nat.div_div_eq_div_mul, Nat.mul_comm]
      generalize L[k].2 = n at *
      generalize bsOf L[k].1 = s at *
      obtain ⟨d, hd⟩ : ∃ d, Hid (x % (n + 1) = d) := ⟨_, rfl⟩
      obtain ⟨y, hy⟩ : ∃ y, Hid (x / (n + 1) = y) := ⟨_, rfl⟩
      rw [hd.out] at hdk
      rw [hy.out] at hnx
      have t1 : (x : Int).tmod ((n : Int) + 1) = (d : Int) := by rw [Int.tmod_eq_emod_of_nonneg (by omega), ← hd.out]; exact (Int.natCast_emod x (n + 1)).symm
      have t2 : (x : Int).tdiv ((n : Int) + 1) = (y : Int) := by rw [Int.tdiv_eq_ediv_of_nonneg (by omega), ← hy.out]; exact (Int.natCast_ediv x (n + 1)).symm
      have t3 : d ≤ 16777216 := by have := Nat.mod_lt x (show 0 < n + 1 by omega); rw [hd.out] at this; omega
      have t4 : y < 1099511627776 := by have := Nat.div_le_self x (n + 1); rw [hy.out] at this; omega
      have hst : Hid (kcells (List.replicate k 0 ++ (digs L i).drop k) = (kcells (List.replicate (k + 1) 0 ++ (digs L i).drop (k + 1))).set (k * 2) (.int .i64 (d : Int))) := by
        show _ = _
        rw [kcells_set, ← hdk.out (by rw [hD.out]; omega), rest_set]
      have KO : Hid (∀ q, Below wr.heap.size wr q → (∃ v0, q.cell? ⟨w.heap.size, k * 2, none⟩ = some v0) ∧ q.frozen? ⟨w.heap.size, k * 2, none⟩ = false ∧ (q.setCell ⟨w.heap.size, k * 2, none⟩ (.int .i64 (d : Int))).ownsRow w.heap.size 88 2 (.slice (some ⟨w.heap.size, 0, none⟩) N N) N (kcells (List.replicate k 0 ++ (digs L i).drop k)) ∧ Below w.heap.size w (q.setCell ⟨w.heap.size, k * 2, none⟩ (.int .i64 (d : Int)))) := fun q hq => by
        have o1 := owns_belowN hO.out hq
        refine ⟨?_, o1.frozenAt _, ?_, (hB.out.trans (hq.mono hB.out.size)).setCell (Nat.le_refl _) _⟩
        · refine Option.isSome_iff_exists.1 ?_
          rw [o1.cellAt (k * 2) (by omega)]
          have := kcells_len (List.replicate (k + 1) 0 ++ (digs L i).drop (k + 1))
          have h2 := hD.out
          simp at this
          simp; omega
        · rw [hst.out]
          exact (o1.stored (k * 2) _).1
      clear hO hk
      go_wp2_with (first
        | (go_at_call 113; refine (base_any wr s n hn).mono ?_; rintro e w2 ⟨rfl, b2⟩; obtain ⟨⟨v0, k0⟩, k1, k2, k3⟩ := KO.out w2 b2; obtain ⟨d0, d1⟩ := KC.out _ k3; replace k2 := hide k2; replace k3 := hide k3; replace b2 := hide b2)
        | (go_at_call 113; refine (base_any _ s n hn).mono ?_; rintro e w3 ⟨rfl, b3⟩; replace b3 := hide b3)
        | fail)
      go_roundw
      case rel => exact ⟨k, y, by omega, by go_num, rfl, t4, hnx.out.symm ▸ rfl, hide (owns_belowN k2.out b3.out), k3.out.trans (b3.out.mono k3.out.size)⟩
      case measure => simp [intOf]
end Go.Proofs.YtjehpijjneghpaaGreat.Dk
