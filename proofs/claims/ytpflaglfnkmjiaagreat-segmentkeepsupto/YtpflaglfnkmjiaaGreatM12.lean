/-
  The statement SegmentKeepsUptoSaid: whatever the arguments, the call returns true, and each argument reads as it did (where they are of bulk at most the bound).
-/
import Derived.Test.YtpflaglfnkmjiaaGreatM01
import Derived.Test.YtpflaglfnkmjiaaGreatM11
import Derived.ChangeOld
import Derived.Below
import Derived.JoinedCond
set_option maxRecDepth 100000
set_option maxHeartbeats 40000000
set_option linter.unusedVariables false
namespace Go.Proofs.YtpflaglfnkmjiaaGreat.segmentKeepsUpto
open Go.ChangeShapes Go.WideShapes Go.ChangeAt Go.RowKit
open Go.ChangeMaps (open_string shut_string)
theorem own : ownKnob Tryz.prog.godebug = none := by kernel_rfl
theorem laidOut : laidOutB Tryz.prog = true := by kernel_rfl
theorem contract (H : Type) (enc : TypeId × Value → H) (W : World) (base : Nat) (args : Array Value) (ds gs : List (DataW H)) (before : List MemPlace)
    (hval : ∀ (j : Nat) t v, Tryz.f4.params[j]? = some t → args[j]? = some v → Value.okWide Tryz.prog W .any base t v)
    (hW : DataW.Whole enc Tryz.prog Tryz.f4.params.toList Rows.segmentKeepsSpec.vars false W args.toList ds gs before) (hk : Rows.uptoSmall H (ds ++ gs) = true) :
    Calls Tryz.prog 4 args W fun e W' => ∃ v, e = .returned v ∧ Rows.segmentKeepsSpec.post enc Tryz.prog Tryz.f4 false true false false W args v W' := by
 have hW' := hW
 obtain ⟨p, q, hA0, hV, rfl, hfz, hnd⟩ := hW
 have hA : DataW.TrodAll enc Tryz.prog W 0 (fun _ => true) true Tryz.f4.params.toList args.toList ds p := hA0
 rw [Tryz.params4] at hA hval
 obtain ⟨v0, vs0, d0, ds0, p0, q0, hargs, rfl, rfl, h0, r0⟩ := trodAll_cons hA
 obtain ⟨v1, vs1, d1, ds1, p1, q1, rfl, rfl, rfl, h1, r1⟩ := trodAll_cons r0
 obtain ⟨v2, vs2, d2, ds2, p2, q2, rfl, rfl, rfl, h2, r2⟩ := trodAll_cons r1
 obtain ⟨v3, vs3, d3, ds3, p3, q3, rfl, rfl, rfl, h3, r3⟩ := trodAll_cons r2
 obtain ⟨v4, vs4, d4, ds4, p4, q4, rfl, rfl, rfl, h4, r4⟩ := trodAll_cons r3
 obtain ⟨rfl, rfl, rfl⟩ := trodAll_nil r4
 obtain rfl : args = #[v0, v1, v2, v3, v4] := by cases args; simp_all
 obtain ⟨rfl, rfl⟩ := trodVars_none hV
 have hkb : Rows.uptoBulkAll (d0 :: d1 :: d2 :: d3 :: d4 :: ([] : List (DataW H))) ≤ 1048576 := by simpa using (show Rows.uptoBulkAll _ ≤ 1048576 from of_decide_eq_true hk)
 have e0 := h0
 obtain ⟨a0, rfl, rfl, rfl, w0⟩ := open_int Tryz.underlying2 (hval 0 2 v0 rfl rfl) h0
 have k1 := h1
 have lt1 : ∀ x ∈ p1, x.block < W.heap.size := by obtain ⟨m, hm⟩ := k1; exact DataW.trod_lt m _ _ _ hm
 obtain ⟨a1, len1, cap1, rfl⟩ := okWide_slice Tryz.underlying35 (hval 1 35 v1 rfl rfl)
 obtain ⟨fuel1, hf1⟩ := h1
 obtain ⟨vs1, ls1, rw1, sl1, hd1⟩ := open_byteses (by simpa [Value.cells] using hf1)
 have k2 := h2
 have lt2 : ∀ x ∈ p2, x.block < W.heap.size := by obtain ⟨m, hm⟩ := k2; exact DataW.trod_lt m _ _ _ hm
 obtain ⟨a2, len2, cap2, rfl⟩ := okWide_slice Tryz.underlying35 (hval 2 35 v2 rfl rfl)
 obtain ⟨fuel2, hf2⟩ := h2
 obtain ⟨vs2, ls2, rw2, sl2, hd2⟩ := open_byteses (by simpa [Value.cells] using hf2)
 have e3 := h3
 obtain ⟨a3, rfl, rfl, rfl, w3⟩ := open_int Tryz.underlying3 (hval 3 3 v3 rfl rfl) h3
 have k4 := h4
 have lt4 : ∀ x ∈ p4, x.block < W.heap.size := by obtain ⟨m, hm⟩ := k4; exact DataW.trod_lt m _ _ _ hm
 obtain ⟨a4, len4, cap4, rfl⟩ := okWide_slice Tryz.underlying39 (hval 4 39 v4 rfl rfl)
 obtain ⟨fuel4, hf4⟩ := h4
 obtain ⟨l4, sl4, hd4⟩ := open_bytes (by simpa [Value.cells] using hf4)
 have hl4 : l4.length ≤ 1048576 := by have h : l4.length ≤ Rows.uptoBulk d4 := bytes_bulk hd4; simp only [Rows.uptoBulkAll] at hkb; omega
 have hsum1 : (ls1.map List.length).sum ≤ 1048576 := by have h : (ls1.map List.length).sum ≤ Rows.uptoBulk d1 := byteses_bulk hd1; simp only [Rows.uptoBulkAll] at hkb; omega
 have hc1 : ls1.length ≤ 1048576 := by have h : ls1.length ≤ Rows.uptoBulk d1 := Sg.byteses_count hd1; simp only [Rows.uptoBulkAll] at hkb; omega
 have hsum2 : (ls2.map List.length).sum ≤ 1048576 := by have h : (ls2.map List.length).sum ≤ Rows.uptoBulk d2 := byteses_bulk hd2; simp only [Rows.uptoBulkAll] at hkb; omega
 have hc2 : ls2.length ≤ 1048576 := by have h : ls2.length ≤ Rows.uptoBulk d2 := Sg.byteses_count hd2; simp only [Rows.uptoBulkAll] at hkb; omega
 clear hA0 hval
 refine (Sg.keeps_walk W a0 (i64_bounds w0).1 (i64_bounds w0).2 _ vs1 ls1 rw1 sl1 hsum1 hc1 _ vs2 ls2 rw2 sl2 hsum2 hc2 a3 (i64_bounds w3).1 (i64_bounds w3).2 _ l4 sl4).mono fun e W' ⟨he, bel⟩ => ?_
 subst he
 exact ⟨_, rfl, _, _, _, [], _, [], hW', trodAll_mk1 (shut_bool Tryz.underlying4 _), (trodAll_cons_mk (shut_int Tryz.underlying2 w0) (trodAll_cons_mk (Below.trod laidOut (by kernel_rfl) (of_decide_eq_true (by kernel_rfl)) k1 bel lt1) (trodAll_cons_mk (Below.trod laidOut (by kernel_rfl) (of_decide_eq_true (by kernel_rfl)) k2 bel lt2) (trodAll_cons_mk (shut_int Tryz.underlying3 w3) (trodAll_cons_mk (Below.trod laidOut (by kernel_rfl) (of_decide_eq_true (by kernel_rfl)) k4 bel lt4) trodAll_mk0))))), rfl, bel.frame _, fun h => by cases h⟩
theorem lifted (os : Os) (started : os.Started) (H : Type) (enc : TypeId × Value → H) (F : Stop.Interp) :
    ReturnsInHanded {} Tryz.checked os 4 .any ((Rows.OpenSpec.upto Rows.segmentKeepsSpec).pre6 enc Tryz.prog Tryz.f4 Rows.segmentKeepsUptoRow.domain false) (((Rows.OpenSpec.upto Rows.segmentKeepsSpec).at F).post enc Tryz.prog Tryz.f4 false true false false) := by
 refine returnsInHanded_of_cond (C := Tryz.checked) (s := Rows.OpenSpec.upto Rows.segmentKeepsSpec) (k := Rows.uptoSmall) rfl own started (by kernel_rfl) Tryz.func4
  (OpenSpec.witness (enc := enc) (C := Tryz.checked) (s := Rows.OpenSpec.upto Rows.segmentKeepsSpec) (k := Rows.uptoSmall) rfl false ⟨#[], #[.int .i64 0, .slice none 0 0, .slice none 0 0, .int .i64 0, .slice none 0 0], []⟩ 8 (by kernel_rfl) (by kernel_rfl) (by kernel_rfl)
   (x := ([.lit (.int .i64 0), .nil, .nil, .lit (.int .i64 0), .nil], [], [])) (by kernel_rfl) rfl (by kernel_rfl)) ?_
 intro W base args ds gs before hval hW _ hk _
 exact contract H enc W base args ds gs before hval hW hk
theorem over : Rows.segmentKeepsUptoRow.holds Tryz.pinned (Rows.OpenSpec.upto Rows.segmentKeepsSpec) :=
 OpenClaim.holds_of_cond 4 Tryz.f4 rfl rfl rfl rfl rfl rfl rfl ⟨rfl, rfl, rfl, rfl, rfl⟩ rfl rfl rfl rfl rfl (by kernel_rfl) Tryz.func4 (by kernel_rfl)
  (of_decide_eq_true (by kernel_rfl)) (by unfold Func.isWrapper; first | (rw [if_pos (by decide +kernel)]; kernel_rfl) | (rw [if_neg (by decide +kernel)]; exact ⟨rfl, rfl⟩))
  (fun os started H enc _ F => lifted os started H enc F)
end Go.Proofs.YtpflaglfnkmjiaaGreat.segmentKeepsUpto
namespace Go.Proofs.YtpflaglfnkmjiaaGreat
theorem segmentKeeps_proved : Rows.SegmentKeepsUptoSaid := segmentKeepsUpto.over
end Go.Proofs.YtpflaglfnkmjiaaGreat
