/-
  The document's Read; ValueReads returns true, and writes nothing that was there.
-/
import Derived.Test.YtpfnkkkfekhngaaGreatDoorYr5
import Derived.Test.YtpfnkkkfekhngaaGreatDoorWg
import Derived.Test.YtpfnkkkfekhngaaGreatDoorYa
import Derived.Test.YtpfnkkkfekhngaaGreatDoorRws
import Derived.Test.YtpfnkkkfekhngaaGreatDoorLent
import Derived.Test.YtpfnkkkfekhngaaGreatDoorVg
import Derived.Test.YtpfnkkkfekhngaaGreatDoorVi
import Derived.Test.YtpfnkkkfekhngaaGreatDoorVe
namespace Go.Proofs.YtpfnkkkfekhngaaGreatDoor.Va
open Go.RowKit Go.Proofs.YtpfnkkkfekhngaaGreatDoor.Rl
set_option maxRecDepth 100000
set_option linter.unusedVariables false
set_option maxHeartbeats 4000000 in
theorem refRead_any (w : World) (v : Value) (b : List UInt8) (hv : Sl w v b) (hb47 : b.length ≤ 140737488355328) : Calls Tryz.prog 29 #[v] w fun e w' => ∃ rv, e = .returned (.tuple #[rv, .int .i64 (readO b).2.1, .int .i64 (readO b).2.2]) ∧ IsV w' rv (readO b).1 ∧ Below w.heap.size w w' := by
  have ksf : ∀ (w : World) (a : Addr) (x : Nat) (m : Mode), (store a (.float .f64 x) m).run Tryz.prog w = stored Tryz.prog w a (.float .f64 x) m := fun w a x m => run_store Tryz.prog w a _ m rfl
  obtain ⟨ao, cap, rfl, h1, h2, h3, h4⟩ := hv
  obtain ⟨r, hrr⟩ : ∃ r, Hid (w.heap.size = r) := ⟨_, rfl⟩
  obtain ⟨q, hqq⟩ : ∃ q, Hid (r + 1 = q) := ⟨_, rfl⟩
  have hqr : q ≠ r := by have := hqq.out; omega
  have hqr2 : r ≠ q := fun e => hqr e.symm
  have hrs : w.heap.size ≤ r := by have := hrr.out; omega
  have hR : Hid (Rg ((w.alloc (.cells #[.int .i64 0, .int .i64 0, .float .f64 0, .string ⟨#[]⟩, .slice none 0 0] 35)).alloc (.cells #[.slice ao b.length cap, .int .i64 0, .int .i64 65536, .int .i64 0] 72)) w.heap.size q b 0 65536 0) := by
    refine ⟨ao, cap, ?_, fun i hi => ?_, by omega, by omega, hb47, by omega, by omega, by have := hrr.out; have := hqq.out; omega⟩
    · rw [← hqq.out, ← hrr.out]
      have := heap_alloc_new (w.alloc (.cells #[.int .i64 0, .int .i64 0, .float .f64 0, .string ⟨#[]⟩, .slice none 0 0] 35)) (.cells #[.slice ao b.length cap, .int .i64 0, .int .i64 65536, .int .i64 0] 72)
      rw [show (w.alloc (.cells #[.int .i64 0, .int .i64 0, .float .f64 0, .string ⟨#[]⟩, .slice none 0 0] 35)).heap.size = w.heap.size + 1 by simp] at this
      exact this
    · obtain ⟨bb, off, e, hc⟩ := h4 i hi
      have hl := lt_of_cell hc
      exact ⟨bb, off, e, hl, by rw [World.cell?_of_block (w := w) (a := ⟨bb, off + i, none⟩) ((heap_alloc_old _ _ (by simp; simp at hl; omega)).trans (heap_alloc_old _ _ hl))]; exact hc⟩
  have hZ : Hid (Z5 ((w.alloc (.cells #[.int .i64 0, .int .i64 0, .float .f64 0, .string ⟨#[]⟩, .slice none 0 0] 35)).alloc (.cells #[.slice ao b.length cap, .int .i64 0, .int .i64 65536, .int .i64 0] 72)) r) := by
    show _ = _
    rw [heap_alloc_old _ _ (by have := hrr.out; simp; omega), ← hrr.out]
    exact heap_alloc_new _ _
  have hG : Hid (w.grownBy ((w.alloc (.cells #[.int .i64 0, .int .i64 0, .float .f64 0, .string ⟨#[]⟩, .slice none 0 0] 35)).alloc (.cells #[.slice ao b.length cap, .int .i64 0, .int .i64 65536, .int .i64 0] 72)) (some q)) := ygrown_alloc (ygrown_alloc (ygrown_refl _ _) _) _
  obtain ⟨V, hV⟩ : ∃ V, Hid (rdV (2 * b.length + 2) 0 65536 0 b = V) := ⟨_, rfl⟩
  have hcall : Hid (Calls Tryz.prog 41 #[.pointer (some ⟨q, 0, none⟩), .int .i64 0] ((w.alloc (.cells #[.int .i64 0, .int .i64 0, .float .f64 0, .string ⟨#[]⟩, .slice none 0 0] 35)).alloc (.cells #[.slice ao b.length cap, .int .i64 0, .int .i64 65536, .int .i64 0] 72)) fun e w' => ∃ v, e = .returned v ∧ ResP w.heap.size q b ((w.alloc (.cells #[.int .i64 0, .int .i64 0, .float .f64 0, .string ⟨#[]⟩, .slice none 0 0] 35)).alloc (.cells #[.slice ao b.length cap, .int .i64 0, .int .i64 65536, .int .i64 0] 72)).heap.size V v w' ∧ ((w.alloc (.cells #[.int .i64 0, .int .i64 0, .float .f64 0, .string ⟨#[]⟩, .slice none 0 0] 35)).alloc (.cells #[.slice ao b.length cap, .int .i64 0, .int .i64 65536, .int .i64 0] 72)).grownBy w' (some q)) := by
    rw [← hV.out]
    have := (yread_all (2 * b.length + 2)).1 _ w.heap.size q b 0 65536 0 hR.out (by omega) (by omega)
    rw [List.drop_zero] at this
    exact this
  clear h1 h2 h3 h4
  obtain ⟨RO, hRO⟩ : ∃ RO, Hid (readO b = RO) := ⟨_, rfl⟩
  rw [hRO.out]
  go_enter Tryz.func29, Tryz.ntmps29
  go_wp2_with fail
  rw [hrr.out, hqq.out]
  refine hcall.out.mono ?_
  rintro e w1 ⟨vv, rfl, hP, hg1⟩
  have hgr : Hid (w.grownBy w1 (some q)) := grown_trans hG.out hg1
  have hz1 : Z5 w1 r := Z5.grown hZ.out hg1 (by simpa using hqr)
  clear hcall hR hZ hG
  cases V with
  | bad z er =>
    obtain ⟨rfl, l9, hr1⟩ := hP
    unfold zeroA
    have her : er ≠ 0 := bad_ne _ _ _ _ _ _ _ hV.out
    have hRO2 : Hid (RO = (zeroV, (z : Int), er)) := by show _ = _; rw [← hRO.out]; exact readO_bad_is hV.out
    have er0 : (er == 0) = false := by simpa using her
    replace her : Hid (er ≠ 0) := her
    have hr4 : Rg (w1.alloc (.cells #[.int .i64 0, .int .i64 0, .float .f64 0, .string ⟨#[]⟩, .slice none 0 0] 35)) w.heap.size q b z l9 er := hr1.below (box_below _ _)
    have hgr4 : Hid (w.grownBy (w1.alloc (.cells #[.int .i64 0, .int .i64 0, .float .f64 0, .string ⟨#[]⟩, .slice none 0 0] 35)) (some q)) := ygrown_alloc hgr.out _
    have hz4 : Z5 (w1.alloc (.cells #[.int .i64 0, .int .i64 0, .float .f64 0, .string ⟨#[]⟩, .slice none 0 0] 35)) r := Z5.grown hz1 (World.grownBy_alloc _ _ none) (by simp)
    obtain ⟨_, _, _, y1, _, y3, _⟩ := hr1.c
    have hq1 := hr1.lt
    replace hr1 := hide hr1
    replace hr4 := hide hr4
    replace hz4' := hide hz4
    clear hz1 hz4 hg1
    go_wp2_with fail
    clear y1 y3 hq1 hr1
    obtain ⟨_, _, _, y1, _, y3, _⟩ := hr4.out.c
    have hz4 := hz4'.out
    generalize w1.alloc (.cells #[.int .i64 0, .int .i64 0, .float .f64 0, .string ⟨#[]⟩, .slice none 0 0] 35) = w4 at *
    obtain ⟨c0, c1, c2, c3, c4⟩ := hz4.c
    have f0 := hz4.f 0
    have f1 := hz4.f 1
    have f2 := hz4.f 2
    have f3 := hz4.f 3
    have f4 := hz4.f 4
    have hrd := ypt_reads hz4 (.int .i64 0) (.int .i64 0) (.float .f64 0) (.string ⟨#[]⟩) (.slice none 0 0)
    have hbf : Hid (Below w.heap.size w (World.drew (ypt w4 r (.int .i64 0) (.int .i64 0) (.float .f64 0) (.string ⟨#[]⟩) (.slice none 0 0)))) := by
      have hg := ygrown_drew (ypt_grown hgr4.out hrs (.int .i64 0) (.int .i64 0) (.float .f64 0) (.string ⟨#[]⟩) (.slice none 0 0))
      exact ⟨hg.os, hg.tape, hg.output, hg.size, fun k hk => hg.block k hk (by have := hrr.out; have := hqq.out; simp; omega)⟩
    replace hrd : Hid _ := hrd
    go_region
    go_wp2_with fail
    show bodyPost _ _ _ _ _ (World.drew (ypt w4 r (.int .i64 0) (.int .i64 0) (.float .f64 0) (.string ⟨#[]⟩) (.slice none 0 0)))
    obtain ⟨w5, hw5⟩ : ∃ w5, Hid ((ypt w4 r (.int .i64 0) (.int .i64 0) (.float .f64 0) (.string ⟨#[]⟩) (.slice none 0 0)) = w5) := ⟨_, rfl⟩
    rw [hw5.out] at hrd hbf ⊢
    obtain ⟨k0, k1, k2, k3, k4⟩ := hrd.out
    refine bodyPost_ret (by simp [results, Tryz.results29, go_sem, k0, k1, k2, k3, k4]; rfl) rfl ?_
    rw [hRO2.out]
    exact ⟨zeroA, rfl, isV_zero _, hbf.out⟩
  | ok x z l9 s9 =>
    obtain ⟨hF, hr1, hs9⟩ := hP
    have hRO2 : Hid (RO = (x, (z : Int), 0)) := by show _ = _; rw [← hRO.out]; exact readO_ok_is hV.out
    obtain ⟨xk, xn, xr, xt, xl⟩ := x
    have hX := hF.isV
    rw [IsV] at hX
    obtain ⟨xo, xc, rfl, _⟩ := hX
    have hr4 : Rg (w1.alloc (.cells #[.int .i64 xk, .int .i64 xn, .float .f64 xr, .string (bstr xt), .slice xo xl.length xc] 35)) w.heap.size q b z l9 0 := hr1.below (box_below _ _)
    have hgr4 : Hid (w.grownBy (w1.alloc (.cells #[.int .i64 xk, .int .i64 xn, .float .f64 xr, .string (bstr xt), .slice xo xl.length xc] 35)) (some q)) := ygrown_alloc hgr.out _
    have hz4 : Z5 (w1.alloc (.cells #[.int .i64 xk, .int .i64 xn, .float .f64 xr, .string (bstr xt), .slice xo xl.length xc] 35)) r := Z5.grown hz1 (World.grownBy_alloc _ _ none) (by simp)
    have hW1 : Hid (r + 2 ≤ w1.heap.size) := by have := hg1.size; simp at this; have := hrr.out; show _ ≤ _; omega
    have hF4 : Hid (Far (w1.alloc (.cells #[.int .i64 xk, .int .i64 xn, .float .f64 xr, .string (bstr xt), .slice xo xl.length xc] 35)) (r + 2) (.agg #[.int .i64 xk, .int .i64 xn, .float .f64 xr, .string (bstr xt), .slice xo xl.length xc]) (.mk xk xn xr xt xl)) :=
      Far.grow hF (fun k _ k2 => heap_alloc_old _ _ k2) (by simp) (by have := hrr.out; simp; omega)
    have hm : Hid ((w1.alloc (.cells #[.int .i64 xk, .int .i64 xn, .float .f64 xr, .string (bstr xt), .slice xo xl.length xc] 35)).heap[w1.heap.size]? = some (.cells #[.int .i64 xk, .int .i64 xn, .float .f64 xr, .string (bstr xt), .slice xo xl.length xc] 35 (0, 0))) := heap_alloc_new _ _
    obtain ⟨_, _, _, y1, _, y3, _⟩ := hr1.c
    have hq1 := hr1.lt
    replace hr1 := hide hr1
    replace hr4 := hide hr4
    replace hz4' := hide hz4
    replace hF := hide hF
    clear hz1 hz4 hg1
    go_wp2_with fail
    clear y1 y3 hq1 hr1 hF
    obtain ⟨_, _, _, y1, _, y3, _⟩ := hr4.out.c
    have hz4 := hz4'.out
    obtain ⟨m6, hm6⟩ : ∃ m6, Hid (w1.heap.size = m6) := ⟨_, rfl⟩
    rw [hm6.out] at hm hW1 ⊢
    generalize w1.alloc (.cells #[.int .i64 xk, .int .i64 xn, .float .f64 xr, .string (bstr xt), .slice xo xl.length xc] 35) = w4 at *
    have n0 : w4.cell? ⟨m6, 0, none⟩ = some (.int .i64 xk) := by unfold World.cell?; simp only [hm.out]; rfl
    have n1 : w4.cell? ⟨m6, 1, none⟩ = some (.int .i64 xn) := by unfold World.cell?; simp only [hm.out]; rfl
    have n2 : w4.cell? ⟨m6, 2, none⟩ = some (.float .f64 xr) := by unfold World.cell?; simp only [hm.out]; rfl
    have n3 : w4.cell? ⟨m6, 3, none⟩ = some (.string (bstr xt)) := by unfold World.cell?; simp only [hm.out]; rfl
    have n4 : w4.cell? ⟨m6, 4, none⟩ = some (.slice xo xl.length xc) := by unfold World.cell?; simp only [hm.out]; rfl
    have hmr : m6 ≠ r := by have := hW1.out; omega
    have hrm : r ≠ m6 := fun e => hmr e.symm
    obtain ⟨c0, c1, c2, c3, c4⟩ := hz4.c
    have f0 := hz4.f 0
    have f1 := hz4.f 1
    have f2 := hz4.f 2
    have f3 := hz4.f 3
    have f4 := hz4.f 4
    have hrd := ypt_reads hz4 (.int .i64 xk) (.int .i64 xn) (.float .f64 xr) (.string (bstr xt)) (.slice xo xl.length xc)
    have hbf : Hid (Below w.heap.size w (World.drew (ypt w4 r (.int .i64 xk) (.int .i64 xn) (.float .f64 xr) (.string (bstr xt)) (.slice xo xl.length xc)))) := by
      have hg := ygrown_drew (ypt_grown hgr4.out hrs (.int .i64 xk) (.int .i64 xn) (.float .f64 xr) (.string (bstr xt)) (.slice xo xl.length xc))
      exact ⟨hg.os, hg.tape, hg.output, hg.size, fun k hk => hg.block k hk (by have := hrr.out; have := hqq.out; simp; omega)⟩
    have hfa : Hid (IsV (World.drew (ypt w4 r (.int .i64 xk) (.int .i64 xn) (.float .f64 xr) (.string (bstr xt)) (.slice xo xl.length xc))) (.agg #[.int .i64 xk, .int .i64 xn, .float .f64 xr, .string (bstr xt), .slice xo xl.length xc]) (.mk xk xn xr xt xl)) := hF4.out _ fun k k1 k2 => (ypt_block w4 r _ _ _ _ _).block k k2 (by simp; omega)
    replace hrd : Hid _ := hrd
    go_region
    go_wp2_with fail
    show bodyPost _ _ _ _ _ (World.drew (ypt w4 r (.int .i64 xk) (.int .i64 xn) (.float .f64 xr) (.string (bstr xt)) (.slice xo xl.length xc)))
    obtain ⟨w5, hw5⟩ : ∃ w5, Hid ((ypt w4 r (.int .i64 xk) (.int .i64 xn) (.float .f64 xr) (.string (bstr xt)) (.slice xo xl.length xc)) = w5) := ⟨_, rfl⟩
    rw [hw5.out] at hrd hbf hfa ⊢
    obtain ⟨k0, k1, k2, k3, k4⟩ := hrd.out
    refine bodyPost_ret (by simp [results, Tryz.results29, go_sem, k0, k1, k2, k3, k4]; rfl) rfl ?_
    rw [hRO2.out]
    exact ⟨_, rfl, hfa.out, hbf.out⟩
#print axioms refRead_any
end Go.Proofs.YtpfnkkkfekhngaaGreatDoor.Va
namespace Go.Proofs.YtpfnkkkfekhngaaGreatDoor.Va
open Go.RowKit Go.Proofs.YtpfnkkkfekhngaaGreatDoor.Rl
set_option maxRecDepth 100000
set_option linter.unusedVariables false

/-- The Book so far. -/
def YB (w wr : World) (kb H : Nat) : Prop := Below w.heap.size w wr ∧ w.heap.size ≤ kb ∧ ∃ its, Bk wr w.heap.size kb its ∧ (∀ t ∈ its, Item wr t) ∧ (its.map Prod.fst).Nodup ∧ (∀ t ∈ its, w.heap.size ≤ t.1 ∧ t.1 < H)
theorem YB.below {w wr w' : World} {kb H : Nat} (h : YB w wr kb H) (hb : Below wr.heap.size wr w') : YB w w' kb H := by
  obtain ⟨h1, h2, its, h3, h4, h5, h6⟩ := h
  exact ⟨h1.trans (hb.mono h1.size), h2, its, h3.below hb, fun t ht => (h4 t ht).fr (Fr.of_below hb), h5, h6⟩
theorem YB.here {w wr : World} {kb H : Nat} (h : YB w wr kb H) : YB w wr kb wr.heap.size := by
  obtain ⟨h1, h2, its, h3, h4, h5, h6⟩ := h
  exact ⟨h1, h2, its, h3, h4, h5, fun t ht => ⟨(h6 t ht).1, by obtain ⟨_, g, _⟩ := h4 t ht; exact heap_lt g⟩⟩
theorem YB.keeps {w u : World} {kb H lo hi : Nat} {v : Value} {x : Val} (h : YB w u kb H) (hn : NewV u lo hi v x) (hlo : H ≤ lo) (hwl : w.heap.size ≤ lo) (hhi : lo ≤ hi) :
    Calls Tryz.prog 19 #[.pointer (some ⟨kb, 0, none⟩), v] u fun e w' => e = .returned (.tuple #[]) ∧ YB w w' kb hi ∧ Fr u w' := by
  obtain ⟨h1, h2, its, h3, h4, h5, h6⟩ := h
  refine (bkeep_any x u v w.heap.size kb lo hi its h3 h2 hn).mono ?_
  rintro e w' ⟨he, new, k1, k2, k3, k4, k5⟩
  refine ⟨he, ⟨h1.trans k5, h2, its ++ new, k1, fun t ht => ?_, ?_, fun t ht => ?_⟩, k4⟩
  · rcases List.mem_append.1 ht with h | h
    · exact (h4 t h).fr k4
    · exact (k2 t h).2.2
  · rw [List.map_append, List.nodup_append]
    refine ⟨h5, k3, fun a ha b hb => ?_⟩
    obtain ⟨s, hs, rfl⟩ := List.mem_map.1 ha
    obtain ⟨t, ht, rfl⟩ := List.mem_map.1 hb
    have := (h6 s hs).2
    have := (k2 t ht).1
    omega
  · rcases List.mem_append.1 ht with h | h
    · have := h6 t h; exact ⟨this.1, by omega⟩
    · have := k2 t h; exact ⟨by omega, this.2.1⟩
theorem YB.apart {w u : World} {kb H : Nat} (h : YB w u kb H) : Calls Tryz.prog 25 #[.pointer (some ⟨kb, 0, none⟩)] u fun e w' => e = .returned (.bool true) ∧ Below w.heap.size w w' := by
  obtain ⟨h1, h2, its, h3, h4, h5, h6⟩ := h
  refine (bapart_any u w.heap.size kb w.heap.size its h3 h4 h5 (fun t ht => (h6 t ht).1) h1.size).mono ?_
  rintro e w' ⟨he, hb⟩
  exact ⟨he, h1.trans hb⟩
theorem grown_below {u v : World} {row : Option Nat} (hb : Below u.heap.size u v) : u.grownBy v row := ⟨hb.os, hb.tape, hb.output, hb.size, fun k hk _ => hb.block k hk⟩
theorem below_grown {n g : Nat} {u v : World} (hg : u.grownBy v (some g)) (hn : n ≤ u.heap.size) (h : n ≤ g) : Below n u v := ⟨hg.os, hg.tape, hg.output, hg.size, fun k hk => hg.block k (by omega) (by simp; omega)⟩
theorem isV_shape {w : World} {v : Value} : ∀ {x : Val}, IsV w v x → ∃ k n r t ao m c, v = .agg #[.int .i64 k, .int .i64 n, .float .f64 r, .string t, .slice ao m c]
  | .mk k n r t l, h => by
    rw [IsV] at h
    obtain ⟨ao, cap, e, _⟩ := h
    exact ⟨k, n, r, _, ao, _, cap, e⟩
theorem newV_blocks {u v : World} {g lo hi : Nat} {x : Val} {e : Value} (h : NewV u lo hi e x) (hg : u.grownBy v (some g)) (hs : hi ≤ u.heap.size) (hgl : g < lo) : NewV v lo hi e x :=
  NewV.keep x lo hi e (fun b h1 h2 => hg.block b (by omega) (by simp; omega)) h
/-- Five cells lie at block b. -/
def C5 (w : World) (b : Nat) (a0 a1 a2 a3 a4 : Value) : Prop := w.heap[b]? = some (.cells #[a0, a1, a2, a3, a4] 35 (0, 0))
theorem C5.c {w : World} {b : Nat} {a0 a1 a2 a3 a4 : Value} (h : C5 w b a0 a1 a2 a3 a4) : w.cell? ⟨b, 0, none⟩ = some a0 ∧ w.cell? ⟨b, 1, none⟩ = some a1 ∧ w.cell? ⟨b, 2, none⟩ = some a2 ∧ w.cell? ⟨b, 3, none⟩ = some a3 ∧ w.cell? ⟨b, 4, none⟩ = some a4 := by
  unfold C5 at h
  refine ⟨?_, ?_, ?_, ?_, ?_⟩ <;> (unfold World.cell?; simp only [h]; rfl)
theorem C5.new (w : World) (a0 a1 a2 a3 a4 : Value) : C5 (w.alloc (.cells #[a0, a1, a2, a3, a4] 35)) w.heap.size a0 a1 a2 a3 a4 := heap_alloc_new _ _
theorem C5.grown {w w' : World} {b g : Nat} {a0 a1 a2 a3 a4 : Value} (h : C5 w b a0 a1 a2 a3 a4) (hg : w.grownBy w' (some g)) (hne : b ≠ g) : C5 w' b a0 a1 a2 a3 a4 := by
  show _ = _
  rw [hg.block b (heap_lt h) (by simpa using hne)]; exact h
theorem C5.fr {w w' : World} {b : Nat} {a0 a1 a2 a3 a4 : Value} (h : C5 w b a0 a1 a2 a3 a4) (hf : Fr w w') : C5 w' b a0 a1 a2 a3 a4 := hf _ _ _ _ (by decide) (by decide) h
end Go.Proofs.YtpfnkkkfekhngaaGreatDoor.Va
namespace Go.Proofs.YtpfnkkkfekhngaaGreatDoor.Va
open Go.RowKit Go.Proofs.YtpfnkkkfekhngaaGreatDoor.Rl
set_option maxRecDepth 100000
set_option linter.unusedVariables false
set_option maxHeartbeats 8000000 in
theorem reads4_walk (hbeg : Does0 5) (w : World) (x : Value) (vs : List Value) (ls : List (List UInt8)) (hx : Row w x vs) (hs : Sls w vs ls) (hM : Mx w) :
    Calls Tryz.prog 4 #[x] w fun e w' => e = .returned (.bool true) ∧ Below w.heap.size w w' := by
  have ksf : ∀ (w : World) (a : Addr) (x : Nat) (m : Mode), (store a (.float .f64 x) m).run Tryz.prog w = stored Tryz.prog w a (.float .f64 x) m := fun w a x m => run_store Tryz.prog w a _ m rfl
  obtain ⟨a1, c1, rfl, _, m1, m2, g1⟩ := hx
  obtain ⟨n, hn⟩ : ∃ n, Hid (vs.length = n) := ⟨_, rfl⟩
  rw [hn.out] at m1 ⊢
  have hv : n ≤ 9223372036854775807 := by unfold maxLen at m2; omega
  replace hs := hide hs
  replace g1 := hide g1
  replace hbeg := hide hbeg
  replace hM := hide hM
  clear m1 m2
  go_enter Tryz.func4, Tryz.ntmps4
  go_wp2_with fail
  refine (hbeg.out _ hM.out).mono ?_
  rintro e w1 ⟨rfl, b1⟩
  obtain ⟨kb, hkb⟩ : ∃ kb, Hid (w1.heap.size = kb) := ⟨_, rfl⟩
  have h0 : Hid (YB w (w1.alloc (.cells #[.slice none 0 0] 27)) kb 0) := by
    refine ⟨b1.trans ((box_below _ _).mono b1.size), by have := hkb.out; have := b1.size; omega, [], ⟨.slice none 0 0, ?_, World.ownsRow_nil _ _ _ _, by simp⟩, fun t h => by simp at h, by simp, fun t h => by simp at h⟩
    rw [← hkb.out]; exact heap_alloc_new _ _
  clear b1
  go_wp2_with fail
  rw [hkb.out]
  go_loopw [4] (fun v4 wr => ∃ (k : Nat), k ≤ n ∧ v4 = .int .i64 (k : Int) ∧ Hid (∃ H, YB w wr kb H)) (fun v _ => n - (intOf v).toNat)
  case atStart => exact ⟨0, Nat.zero_le _, rfl, _, h0.out⟩
  case round =>
    clear h0 hkb
    obtain ⟨k, hk, rfl, hY0⟩ := hrel
    have hY : Hid (YB w wr kb wr.heap.size) := by obtain ⟨H, h⟩ := hY0.out; exact h.here
    clear hY0
    have i2 : (0 : Int) ≤ (k : Int) := by omega
    by_cases hgo : k < n ∧ k < 30
    · have i1 : (k : Int) < (n : Int) := by omega
      have i3 : (k : Int) < 30 := by omega
      have hlt : k < vs.length := by rw [hn.out]; omega
      have hlt2 : k < ls.length := by have := hs.out.1; omega
      have hSk := hs.out.2 k hlt hlt2
      obtain ⟨x1, o1, rfl, d1⟩ := g1.out k hlt
      have l1 := lt_of_cell d1
      generalize vs[k] = vv at *
      generalize ls[k] = ll at *
      obtain ⟨ao, cp, rfl, q1, q2, q3, q4⟩ := id hSk
      replace hSk := hide hSk
      obtain ⟨L, hL⟩ : ∃ L, Hid (ll.length = L) := ⟨_, rfl⟩
      rw [hL.out] at hSk d1 q2
      replace hgo := hide hgo
      have hL2 : L ≤ 9223372036854775807 := by unfold maxLen at q3; omega
      have bel := hY.out.1
      have e1 := (bel.cell l1).trans d1
      have l1' := hide l1
      have d1' := hide d1
      clear q1 q2 q3 q4 d1 l1 hlt hlt2
      by_cases hbig : 131072 < L
      · have j1 : (131072 : Int) < (L : Int) := by omega
        go_wp2_with fail
        go_roundw
        case rel => exact ⟨k + 1, by have := hgo.out; omega, by go_num, _, hY.out⟩
        case measure => simp [intOf]; omega
      · have j1 : ¬ (131072 : Int) < (L : Int) := by omega
        obtain ⟨X, hX⟩ : ∃ X, Hid ((readO ll).1 = X) := ⟨_, rfl⟩
        obtain ⟨M, hMM⟩ : ∃ M, Hid ((readO ll).2.1 = M) := ⟨_, rfl⟩
        obtain ⟨E, hE⟩ : ∃ E, Hid ((readO ll).2.2 = E) := ⟨_, rfl⟩
        have cl := hide (lent_any wr _ ll (Below.sl bel hSk.out) (by have := hL.out; omega))
        replace bel := hide bel
        go_wp2_with fail
        refine cl.out.mono ?_
        rintro e w2 ⟨g, v2, rfl, t2, b2, hg2⟩
        clear cl
        have B2 : Hid (Below w.heap.size w w2) := bel.out.trans (b2.mono bel.out.size)
        have hgw : Hid (wr.heap.size ≤ g) := hg2
        have hg2' : Hid (g < w2.heap.size) := t2.lt
        have hws : Hid (w.heap.size ≤ wr.heap.size) := bel.out.size
        have T2 := hide t2
        have BB2 := hide b2
        have cr := hide (Read_new w2 v2 ll t2.sl (hM.out.below B2.out))
        rw [hX.out, hMM.out, hE.out] at cr
        clear t2 b2 hg2 e1
        go_wp2_with fail
        refine cr.out.mono ?_
        rintro e w3 ⟨rv, rfl, hN3, hb3⟩
        clear cr
        obtain ⟨xk, xn, xr, xt, xo, xm, xc, rfl⟩ := hN3.cells
        have N3 := hide hN3
        have BB3 := hide hb3
        have B3 : Hid (Below w.heap.size w w3) := B2.out.trans (hb3.mono B2.out.size)
        have B4 : Hid (Below w.heap.size w (w3.alloc (.cells #[.int .i64 xk, .int .i64 xn, .float .f64 xr, .string xt, .slice xo xm xc] 35))) := B3.out.trans ((box_below _ _).mono B3.out.size)
        have BL4 : Hid (Below w2.heap.size w2 (w3.alloc (.cells #[.int .i64 xk, .int .i64 xn, .float .f64 xr, .string xt, .slice xo xm xc] 35))) := hb3.trans ((box_below _ _).mono hb3.size)
        have A4 : Hid (w2.grownBy (w3.alloc (.cells #[.int .i64 xk, .int .i64 xn, .float .f64 xr, .string xt, .slice xo xm xc] 35)) (some g)) := ygrown_alloc (grown_below hb3) _
        have N4 : Hid (NewV (w3.alloc (.cells #[.int .i64 xk, .int .i64 xn, .float .f64 xr, .string xt, .slice xo xm xc] 35)) w2.heap.size w3.heap.size (.agg #[.int .i64 xk, .int .i64 xn, .float .f64 xr, .string xt, .slice xo xm xc]) X) := newV_blocks hN3 (World.grownBy_alloc _ _ (some g)) (Nat.le_refl _) hg2'.out
        have S23 : Hid (w2.heap.size ≤ w3.heap.size) := hb3.size
        have F4 : Hid (C5 (w3.alloc (.cells #[.int .i64 xk, .int .i64 xn, .float .f64 xr, .string xt, .slice xo xm xc] 35)) w3.heap.size (.int .i64 xk) (.int .i64 xn) (.float .f64 xr) (.string xt) (.slice xo xm xc)) := C5.new _ _ _ _ _ _
        have e4 : (w3.alloc (.cells #[.int .i64 xk, .int .i64 xn, .float .f64 xr, .string xt, .slice xo xm xc] 35)).cell? ⟨x1, o1 + k, none⟩ = some (.slice ao L cp) := (B4.out.cell l1'.out).trans d1'.out
        have cr := hide (refRead_any (w3.alloc (.cells #[.int .i64 xk, .int .i64 xn, .float .f64 xr, .string xt, .slice xo xm xc] 35)) (.slice ao L cp) ll (Below.sl B4.out hSk.out) (by have := hL.out; omega))
        rw [hX.out, hMM.out, hE.out] at cr
        clear hN3 hb3
        go_wp2_with fail
        obtain ⟨m3, hm3⟩ : ∃ m3, Hid (w3.heap.size = m3) := ⟨_, rfl⟩
        have hL4 : Hid ((w3.alloc (.cells #[.int .i64 xk, .int .i64 xn, .float .f64 xr, .string xt, .slice xo xm xc] 35)).heap.size = m3 + 1) := by show _ = _; rw [World.size_alloc, hm3.out]
        rw [hm3.out] at F4 N4 S23 ⊢
        refine cr.out.mono ?_
        clear e4 cr N3 BB3 B3
        generalize (w3.alloc (.cells #[.int .i64 xk, .int .i64 xn, .float .f64 xr, .string xt, .slice xo xm xc] 35)) = w4 at *
        rintro e w5 ⟨rv2, rfl, hI5, hb5⟩
        obtain ⟨yk, yn, yr, yt, yo, ym, yc, rfl⟩ := isV_shape hI5
        have B6 : Hid (Below w.heap.size w (w5.alloc (.cells #[.int .i64 yk, .int .i64 yn, .float .f64 yr, .string yt, .slice yo ym yc] 35))) := (B4.out.trans (hb5.mono B4.out.size)).trans ((box_below _ _).mono (by have := B4.out.size; have := hb5.size; omega))
        have BL6 : Hid (Below w2.heap.size w2 (w5.alloc (.cells #[.int .i64 yk, .int .i64 yn, .float .f64 yr, .string yt, .slice yo ym yc] 35))) := (BL4.out.trans (hb5.mono BL4.out.size)).trans ((box_below _ _).mono (by have := BL4.out.size; have := hb5.size; omega))
        have A46 : w4.grownBy (w5.alloc (.cells #[.int .i64 yk, .int .i64 yn, .float .f64 yr, .string yt, .slice yo ym yc] 35)) (some g) := ygrown_alloc (grown_below hb5) _
        have A6 : Hid (w2.grownBy (w5.alloc (.cells #[.int .i64 yk, .int .i64 yn, .float .f64 yr, .string yt, .slice yo ym yc] 35)) (some g)) := grown_trans A4.out A46
        have hgm : Hid (g < m3) := by have := hg2'.out; have := S23.out; show _ < _; omega
        have N6 : Hid (NewV (w5.alloc (.cells #[.int .i64 yk, .int .i64 yn, .float .f64 yr, .string yt, .slice yo ym yc] 35)) w2.heap.size m3 (.agg #[.int .i64 xk, .int .i64 xn, .float .f64 xr, .string xt, .slice xo xm xc]) X) := newV_blocks N4.out A46 (by have := hL4.out; omega) hg2'.out
        have F6 : Hid (C5 (w5.alloc (.cells #[.int .i64 yk, .int .i64 yn, .float .f64 yr, .string yt, .slice yo ym yc] 35)) m3 (.int .i64 xk) (.int .i64 xn) (.float .f64 xr) (.string xt) (.slice xo xm xc)) := F4.out.grown A46 (by have := hgm.out; omega)
        obtain ⟨q0, q1, q2, q3, q4⟩ := F6.out.c
        obtain ⟨r0, r1, r2, r3, r4⟩ := (C5.new w5 (.int .i64 yk) (.int .i64 yn) (.float .f64 yr) (.string yt) (.slice yo ym yc)).c
        have hlt5 : Hid (m3 + 1 ≤ (w5.alloc (.cells #[.int .i64 yk, .int .i64 yn, .float .f64 yr, .string yt, .slice yo ym yc] 35)).heap.size) := by have := hL4.out; have := A46.size; show _ ≤ _; omega
        have ceq := hide (eq_any X X (w5.alloc (.cells #[.int .i64 yk, .int .i64 yn, .float .f64 yr, .string yt, .slice yo ym yc] 35)) _ _ (N6.out.isV _ _ _ _) (hI5.below (box_below _ _)))
        rw [(eqV_iff X X).2 rfl] at ceq
        clear hI5 hb5 A46 A4 N4 F4 B4 hL4 hm3
        go_wp2_with fail
        refine ceq.out.mono ?_
        clear q0 q1 q2 q3 q4 r0 r1 r2 r3 r4 ceq
        generalize (w5.alloc (.cells #[.int .i64 yk, .int .i64 yn, .float .f64 yr, .string yt, .slice yo ym yc] 35)) = w6 at *
        rintro e w7 ⟨rfl, hb7⟩
        have A67 : w6.grownBy w7 (some g) := grown_below hb7
        have A7 : Hid (w2.grownBy w7 (some g)) := grown_trans A6.out A67
        have B7 : Hid (Below w.heap.size w w7) := B6.out.trans (hb7.mono B6.out.size)
        have N7 : Hid (NewV w7 w2.heap.size m3 (.agg #[.int .i64 xk, .int .i64 xn, .float .f64 xr, .string xt, .slice xo xm xc]) X) := newV_blocks N6.out A67 (by have := hlt5.out; omega) hg2'.out
        have F7 : Hid (C5 w7 m3 (.int .i64 xk) (.int .i64 xn) (.float .f64 xr) (.string xt) (.slice xo xm xc)) := F6.out.grown A67 (by have := hgm.out; omega)
        have BL7 : Hid (Below w2.heap.size w2 w7) := BL6.out.trans (hb7.mono BL6.out.size)
        have T7 : Hid (LentAt w7 g v2 ll) := T2.out.below BL7.out
        have e7 : w7.cell? ⟨x1, o1 + k, none⟩ = some (.slice ao L cp) := (B7.out.cell l1'.out).trans d1'.out
        have hs7 : Hid (m3 + 1 ≤ w7.heap.size) := by have := hlt5.out; have := A67.size; show _ ≤ _; omega
        have cb := hide (back_any w w7 g v2 (.slice ao L cp) ll B7.out hSk.out T7.out (by have := hgw.out; have := hws.out; omega) (by have := hL.out; omega))
        clear A67 hb7 N6 F6 B6 A6 hlt5 BL4 BL6
        go_wp2_with fail
        refine cb.out.mono ?_
        rintro e w8 ⟨rfl, hg8⟩
        clear cb e7
        have A8 : Hid (w2.grownBy w8 (some g)) := grown_trans A7.out hg8
        have B8 : Hid (Below w.heap.size w w8) := B7.out.trans (below_grown hg8 B7.out.size (by have := hgw.out; have := hws.out; omega))
        have N8 : Hid (NewV w8 w2.heap.size m3 (.agg #[.int .i64 xk, .int .i64 xn, .float .f64 xr, .string xt, .slice xo xm xc]) X) := newV_blocks N7.out hg8 (by have := hs7.out; omega) hg2'.out
        have F8 : Hid (C5 w8 m3 (.int .i64 xk) (.int .i64 xn) (.float .f64 xr) (.string xt) (.slice xo xm xc)) := F7.out.grown hg8 (by have := hgm.out; omega)
        have hs8 : Hid (m3 + 1 ≤ w8.heap.size) := by have := hs7.out; have := hg8.size; show _ ≤ _; omega
        have Y8 : Hid (YB w w8 kb wr.heap.size) := hY.out.below (BB2.out.trans (below_grown A8.out BB2.out.size hgw.out))
        have hw2 : Hid (wr.heap.size ≤ w2.heap.size) := BB2.out.size
        obtain ⟨q0, q1, q2, q3, q4⟩ := F8.out.c
        have cl := hide (isLight_any w8 _ X (N8.out.isV _ _ _ _))
        obtain ⟨LT, hLT⟩ : ∃ LT, Hid (isLight X = LT) := ⟨_, rfl⟩
        rw [hLT.out] at cl
        clear hg8 N7 F7 B7 A7 BL7 T7 hs7 T2 BB2 hY bel
        go_wp2_with fail
        refine cl.out.mono ?_
        rintro e w9 ⟨rfl, hb9⟩
        have G9 : w8.grownBy w9 (some g) := grown_below hb9
        have B9 : Hid (Below w.heap.size w w9) := B8.out.trans (hb9.mono B8.out.size)
        have N9 : Hid (NewV w9 w2.heap.size m3 (.agg #[.int .i64 xk, .int .i64 xn, .float .f64 xr, .string xt, .slice xo xm xc]) X) := newV_blocks N8.out G9 (by have := hs8.out; omega) hg2'.out
        have F9 : Hid (C5 w9 m3 (.int .i64 xk) (.int .i64 xn) (.float .f64 xr) (.string xt) (.slice xo xm xc)) := F8.out.grown G9 (by have := hgm.out; omega)
        have Y9 : Hid (YB w w9 kb wr.heap.size) := Y8.out.below hb9
        have hs9 : Hid (m3 + 1 ≤ w9.heap.size) := by have := hs8.out; have := G9.size; show _ ≤ _; omega
        clear cl q0 q1 q2 q3 q4 N8 F8 B8 Y8 hs8 A8 G9 hb9
        cases LT
        · go_wp2_with fail
          go_roundw
          case rel => exact ⟨k + 1, by have := hgo.out; omega, by go_num, _, Y9.out⟩
          case measure => simp [intOf]; omega
        · have e9 : w9.cell? ⟨x1, o1 + k, none⟩ = some (.slice ao L cp) := (B9.out.cell l1'.out).trans d1'.out
          have cr := hide (Read_new w9 (.slice ao L cp) ll (Below.sl B9.out hSk.out) (hM.out.below B9.out))
          rw [hX.out, hMM.out, hE.out] at cr
          go_wp2_with fail
          refine cr.out.mono ?_
          rintro e w10 ⟨av, rfl, hN10, hb10⟩
          clear cr e9
          obtain ⟨zk, zn, zr, zt, zo, zm, zc, rfl⟩ := hN10.cells
          have BL11 : Below w9.heap.size w9 (w10.alloc (.cells #[.int .i64 zk, .int .i64 zn, .float .f64 zr, .string zt, .slice zo zm zc] 35)) := hb10.trans ((box_below _ _).mono hb10.size)
          have G11 : w9.grownBy (w10.alloc (.cells #[.int .i64 zk, .int .i64 zn, .float .f64 zr, .string zt, .slice zo zm zc] 35)) (some g) := grown_below BL11
          have N11 : Hid (NewV (w10.alloc (.cells #[.int .i64 zk, .int .i64 zn, .float .f64 zr, .string zt, .slice zo zm zc] 35)) w2.heap.size m3 (.agg #[.int .i64 xk, .int .i64 xn, .float .f64 xr, .string xt, .slice xo xm xc]) X) := newV_blocks N9.out G11 (by have := hs9.out; omega) hg2'.out
          have NA11 : Hid (NewV (w10.alloc (.cells #[.int .i64 zk, .int .i64 zn, .float .f64 zr, .string zt, .slice zo zm zc] 35)) w9.heap.size w10.heap.size (.agg #[.int .i64 zk, .int .i64 zn, .float .f64 zr, .string zt, .slice zo zm zc]) X) := newV_blocks hN10 (World.grownBy_alloc _ _ (some g)) (Nat.le_refl _) (by have := hgm.out; have := hs9.out; omega)
          have F11 : Hid (C5 (w10.alloc (.cells #[.int .i64 zk, .int .i64 zn, .float .f64 zr, .string zt, .slice zo zm zc] 35)) m3 (.int .i64 xk) (.int .i64 xn) (.float .f64 xr) (.string xt) (.slice xo xm xc)) := F9.out.grown G11 (by have := hgm.out; omega)
          have FA11 : Hid (C5 (w10.alloc (.cells #[.int .i64 zk, .int .i64 zn, .float .f64 zr, .string zt, .slice zo zm zc] 35)) w10.heap.size (.int .i64 zk) (.int .i64 zn) (.float .f64 zr) (.string zt) (.slice zo zm zc)) := C5.new _ _ _ _ _ _
          have Y11 : Hid (YB w (w10.alloc (.cells #[.int .i64 zk, .int .i64 zn, .float .f64 zr, .string zt, .slice zo zm zc] 35)) kb wr.heap.size) := Y9.out.below BL11
          have S910 : Hid (w9.heap.size ≤ w10.heap.size) := hb10.size
          obtain ⟨q0, q1, q2, q3, q4⟩ := F11.out.c
          have ck := hide (Y11.out.keeps N11.out hw2.out (by have := hw2.out; have := hws.out; omega) S23.out)
          clear hN10 hb10 BL11 G11 N9 F9 B9 Y9
          go_wp2_with fail
          obtain ⟨m10, hm10⟩ : ∃ m10, Hid (w10.heap.size = m10) := ⟨_, rfl⟩
          rw [hm10.out] at FA11 NA11 S910 ⊢
          refine ck.out.mono ?_
          clear q0 q1 q2 q3 q4 ck
          generalize (w10.alloc (.cells #[.int .i64 zk, .int .i64 zn, .float .f64 zr, .string zt, .slice zo zm zc] 35)) = w11 at *
          rintro e w12 ⟨rfl, Y12, f12⟩
          have NA12 : Hid (NewV w12 w9.heap.size m10 (.agg #[.int .i64 zk, .int .i64 zn, .float .f64 zr, .string zt, .slice zo zm zc]) X) := NewV.fr f12 _ _ _ _ NA11.out
          have FA12 : Hid (C5 w12 m10 (.int .i64 zk) (.int .i64 zn) (.float .f64 zr) (.string zt) (.slice zo zm zc)) := FA11.out.fr f12
          obtain ⟨q0, q1, q2, q3, q4⟩ := FA12.out.c
          have ck := hide (YB.keeps Y12 NA12.out (by have := hs9.out; omega) (by have := hs9.out; have := hws.out; have := hw2.out; have := S23.out; omega) S910.out)
          clear f12 Y12 NA11 FA11 F11 N11 Y11
          go_wp2_with fail
          refine ck.out.mono ?_
          rintro e w13 ⟨rfl, Y13, f13⟩
          have Y13' : Hid (YB w w13 kb m10) := Y13
          clear q0 q1 q2 q3 q4 ck Y13 f13
          go_wp2_with fail
          go_roundw
          case rel => exact ⟨k + 1, by have := hgo.out; omega, by go_num, _, Y13'.out⟩
          case measure => simp [intOf]; omega
    · have ca := hide hY.out.apart
      by_cases hkn : k < n
      · have i1 : (k : Int) < (n : Int) := by omega
        have i3 : ¬ (k : Int) < 30 := by omega
        clear hgo hkn
        go_wp2_with fail
        refine ca.out.mono ?_
        rintro e w2 ⟨rfl, hb⟩
        have hb' := hide hb
        clear hb
        go_wp2_with fail
        go_returns
        exact ⟨rfl, hb'.out⟩
      · have i1 : ¬ (k : Int) < (n : Int) := by omega
        clear hgo hkn
        go_wp2_with fail
        refine ca.out.mono ?_
        rintro e w2 ⟨rfl, hb⟩
        have hb' := hide hb
        clear hb
        go_wp2_with fail
        go_returns
        exact ⟨rfl, hb'.out⟩
#print axioms reads4_walk
end Go.Proofs.YtpfnkkkfekhngaaGreatDoor.Va
