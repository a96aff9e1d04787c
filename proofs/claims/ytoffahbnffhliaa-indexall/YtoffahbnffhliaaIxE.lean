/-
  Find and Entries: the program's and the document's Find.
-/
import Derived.Test.YtoffahbnffhliaaIxD
namespace Go.Proofs.Ytoffahbnffhliaa.Ix
open Go.RowKit

def entv (e : Int × Int) : Value := .agg #[.int .i64 e.1, .int .i64 e.2]
/-- What Find owes. -/
def DoesFind (T : TypeId) (f : Nat) : Prop := ∀ (w : World) (b : Nat) (x : X) (v : Value) (n : Int), At T w b x v → Ok x → -9223372036854775808 ≤ n → n ≤ 9223372036854775807 →
  Calls Try.prog f #[.pointer (some ⟨b, 0, none⟩), .int .i64 n] w fun e w' => e = .returned (.tuple #[entv (findF x.l n).1, .bool (findF x.l n).2]) ∧ Below w.heap.size w w'
theorem find_prog {st : Nat} {l : List (Int × Int)} (h : Srt st l) (n : Int) :
    (∀ hk : cnt l n < l.length, isAt l n = true → findF l n = (l[cnt l n], true)) ∧ (isAt l n = false → ∀ hk : 0 < cnt l n, findF l n = (l[cnt l n - 1]'(by have := cnt_le l n; omega), true)) ∧ (isAt l n = false → cnt l n = 0 → findF l n = ((0, 0), false)) ∧ (isAt l n = true → cnt l n < l.length) := by
  obtain ⟨h1, h2⟩ := cnt_split h n
  have hc := cnt_le l n
  have key : ∀ hk : cnt l n < l.length, isAt l n = decide (l[cnt l n].1 = n) := fun hk => by unfold isAt; rw [List.getElem?_eq_getElem hk]
  refine ⟨fun hk hi => ?_, fun hi hk => ?_, fun hi hk => ?_, fun hi => ?_⟩
  · rw [key hk] at hi
    have hi' : l[cnt l n].1 = n := of_decide_eq_true hi
    refine find_at hk (by omega) fun j hj hij => ?_
    have := (h.lt hk hj hij).1
    omega
  · refine find_at (by omega) (by have := h1 (cnt l n - 1) (by omega) (by omega); omega) fun j hj hij => ?_
    have g := h2 j hj (by omega)
    have hk2 : cnt l n < l.length := by omega
    rw [key hk2] at hi
    have hi' : ¬ l[cnt l n].1 = n := of_decide_eq_false hi
    have g2 := h2 (cnt l n) hk2 (Nat.le_refl _)
    have g3 := h.le hk2 hj (by omega)
    omega
  · refine find_no fun j hj => ?_
    have hk2 : cnt l n < l.length := by omega
    rw [key hk2] at hi
    have hi' : ¬ l[cnt l n].1 = n := of_decide_eq_false hi
    have g2 := h2 (cnt l n) hk2 (Nat.le_refl _)
    have g3 := h.le hk2 hj (by omega)
    omega
  · refine Classical.byContradiction fun c => ?_
    have : isAt l n = false := by unfold isAt; rw [List.getElem?_eq_none (by omega)]
    rw [this] at hi; cases hi
set_option maxHeartbeats 1000000 in
theorem find_any : DoesFind TI 13 := by
  intro w b x v n h hk n0 n1
  obtain ⟨ao, ca, rfl, _, _⟩ := h.row.form
  obtain ⟨P1, P2, P3, P4⟩ := find_prog hk.srt n
  have H1 := hide (h.below (box_below w (.cells #[.int .i64 0, .int .i64 0] 35)))
  have HK := hide hk
  have hcl := cnt_le x.l n
  have hlen := hk.srt.len
  replace P1 := hide P1
  replace P2 := hide P2
  replace P3 := hide P3
  replace P4 := hide P4
  clear h hk
  go_enter Try.func13, Try.ntmps13
  go_wp2_with fail
  refine (below_any _ b x _ n H1.out HK.out).mono ?_
  rintro e w2 ⟨rfl, b2⟩
  have hh := b2.block w.heap.size (by simp)
  rw [heap_alloc_new] at hh
  have hB : Hid (Below w.heap.size w w2) := keepF (box_below _ _) b2
  have H2 := hide (H1.out.below b2)
  obtain ⟨x0, x1, y0, y1⟩ := two_cells hh
  replace hh := hide hh
  clear b2
  obtain ⟨d0, d1, _, _⟩ := H2.out.cells
  have fin : ∀ (tm : Array Value) (F : (Int × Int) × Bool), Hid (findF x.l n = F) → tm[4]? = some (.pointer (some ⟨w.heap.size, 0, none⟩)) → tm[5]? = some (.bool F.2) →
      bodyPost Try.prog Try.f13 (fun e w' => e = .returned (.tuple #[entv (findF x.l n).1, .bool (findF x.l n).2]) ∧ Below w.heap.size w w') .ret ⟨tm, []⟩ (put2 w2 w.heap.size (.int .i64 F.1.1) (.int .i64 F.1.2)) := by
    intro tm F hF t4 t5
    obtain ⟨k0, k1, _, _⟩ := two_cells (put2_heap hh.out (.int .i64 F.1.1) (.int .i64 F.1.2))
    refine bodyPost_ret (by simp [results, Try.results13, go_sem, k0, k1, t4, t5]; rfl) rfl ?_
    rw [hF.out]
    exact ⟨rfl, put2_below hB.out (Nat.le_refl _) _ _⟩
  replace fin := hide fin
  by_cases hi : isAt x.l n = true
  · have hlt := P4.out hi
    have hF := hide (P1.out hlt hi)
    obtain ⟨g, ca', ev, hc, q1, q2, _⟩ := H2.out.row.at (fun c => by rw [c] at hlt; simp at hlt)
    simp only [Value.slice.injEq] at ev
    obtain ⟨rfl, _, rfl⟩ := ev
    obtain ⟨k0, k1⟩ := hc _ hlt
    rw [hi]
    clear hc P1 P2 P3 P4 hi
    generalize x.l[cnt x.l n] = en at *
    generalize cnt x.l n = C at *
    generalize hN : x.l.length = N at *
    replace hN := hide hN
    go_wp2_with fail
    exact fin.out _ (en, true) hF.out (by simp) (by simp)
  · have hi' : isAt x.l n = false := by simpa using hi
    rw [hi']
    by_cases hz : cnt x.l n = 0
    · have hF := hide (P3.out hi' hz)
      rw [hz]
      clear P1 P2 P3 P4 hi hi'
      go_wp2_with fail
      exact fin.out _ ((0, 0), false) hF.out (by simp) (by simp)
    · obtain ⟨M, hM⟩ : ∃ M, cnt x.l n = M + 1 := ⟨cnt x.l n - 1, by omega⟩
      have hlt : M < x.l.length := by omega
      have hF : Hid (findF x.l n = (x.l[M], true)) := by
        show _ = _
        rw [P2.out hi' (by omega)]
        simp only [hM, Nat.add_sub_cancel]
      obtain ⟨g, ca', ev, hc, q1, q2, _⟩ := H2.out.row.at (fun c => by rw [c] at hlt; simp at hlt)
      simp only [Value.slice.injEq] at ev
      obtain ⟨rfl, _, rfl⟩ := ev
      obtain ⟨k0, k1⟩ := hc _ hlt
      rw [hM]
      rw [hM] at hcl
      clear hc P1 P2 P3 P4 hi hi' hz hM
      generalize x.l[M] = en at *
      generalize hN : x.l.length = N at *
      replace hN := hide hN
      have hw2 : IntKind.i64.wrap (M : Int) = (M : Int) := by rw [IntKind.wrap_i64]; omega
      go_wp2_with fail
      exact fin.out _ (en, true) hF.out (by simp) (by simp)
#print axioms find_any
end Go.Proofs.Ytoffahbnffhliaa.Ix
