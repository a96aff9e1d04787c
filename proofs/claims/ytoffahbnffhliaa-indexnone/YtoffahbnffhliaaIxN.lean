/-
  A nil index, and a zero one; the walk of IndexNone.
-/
import Derived.Test.YtoffahbnffhliaaIxK
import Derived.Test.YtoffahbnffhliaaIxM
namespace Go.Proofs.Ytoffahbnffhliaa.Ix
open Go.RowKit

/-- A nil index, or a zero one. -/
def Zp (w : World) (p : Option Addr) : Prop := p = none ∨ ∃ b, p = some ⟨b, 0, none⟩ ∧ At TI w b zX (.slice none 0 0)
theorem Zp.below {w w' : World} {p : Option Addr} (h : Zp w p) (hb : Below w.heap.size w w') : Zp w' p := by
  rcases h with h | ⟨b, h1, h2⟩
  · exact .inl h
  · exact .inr ⟨b, h1, h2.below hb⟩
theorem srt0 : Srt 1 [] := ⟨by decide, by decide, List.Pairwise.nil, fun e he => by simp at he⟩
theorem belowZ (w : World) (b : Nat) (n : Int) (h : At TI w b zX (.slice none 0 0)) :
    Calls Try.prog 29 #[.pointer (some ⟨b, 0, none⟩), .int .i64 n] w fun e w' => e = .returned (.tuple #[.int .i64 0, .bool false]) ∧ Below w.heap.size w w' := by
  obtain ⟨c0, c1, _, _⟩ := h.cells
  go_enter Try.func29, Try.ntmps29
  go_wp2_with fail
  refine (bsf_any _ _ 1 [] n (Ents.nil _) srt0).mono ?_
  rintro e w1 ⟨rfl, hb⟩
  replace hb := hide hb
  rw [show ((cnt [] n : Nat) : Int) = 0 from rfl, show isAt [] n = false from rfl]
  go_wp2_with fail
  go_ret2
  exact ⟨rfl, hb.out⟩
theorem findZ (w : World) (p : Option Addr) (n : Int) (h : Zp w p) : Calls Try.prog 13 #[.pointer p, .int .i64 n] w fun e w' => e = .returned (.tuple #[entv (0, 0), .bool false]) ∧ Below w.heap.size w w' := by
  have hB1 := hide (box_below w (.cells #[.int .i64 0, .int .i64 0] 35))
  rcases h with rfl | ⟨b, rfl, hb⟩
  · go_enter Try.func13, Try.ntmps13
    go_wp2_with fail
    refine bodyPost_ret (by simp [results, Try.results13, go_sem]; rfl) rfl ?_
    exact ⟨rfl, hB1.out⟩
  · have H1 := hide (hb.below hB1.out)
    clear hb
    go_enter Try.func13, Try.ntmps13
    go_wp2_with fail
    refine (belowZ _ b n H1.out).mono ?_
    rintro e w2 ⟨rfl, b2⟩
    have hh := b2.block w.heap.size (by simp)
    rw [heap_alloc_new] at hh
    have hB : Hid (Below w.heap.size w w2) := keepF hB1.out b2
    obtain ⟨x0, x1, y0, y1⟩ := two_cells hh
    have hP := hide (put2_heap hh (.int .i64 0) (.int .i64 0))
    have hB2 := hide (put2_below hB.out (Nat.le_refl _) (.int .i64 0) (.int .i64 0))
    clear hh b2
    go_wp2_with fail
    obtain ⟨k0, k1, _, _⟩ := two_cells hP.out
    refine bodyPost_ret (w := put2 w2 w.heap.size (.int .i64 0) (.int .i64 0)) (by simp [results, Try.results13, go_sem, k0, k1]; rfl) rfl ?_
    exact ⟨rfl, hB2.out⟩
theorem addZ (w : World) (p : Option Addr) (n o : Int) (h : Zp w p) : Calls Try.prog 11 #[.pointer p, .int .i64 n, .int .i64 o] w fun e w' => e = .returned (.int .i64 1) ∧ w' = w := by
  rcases h with rfl | ⟨b, rfl, hb⟩
  · go_enter Try.func11, Try.ntmps11
    go_wp2_with fail
    go_ret
    exact ⟨rfl, rfl⟩
  · obtain ⟨c0, c1, c2, c3⟩ := hb.cells
    simp only [zX] at c0 c2 c3
    clear hb
    go_enter Try.func11, Try.ntmps11
    go_wp2_with fail
    go_ret
    exact ⟨rfl, rfl⟩
theorem cutZ (w : World) (p : Option Addr) (n : Int) (h : Zp w p) : Calls Try.prog 15 #[.pointer p, .int .i64 n] w fun e w' => e = .returned (.int .i64 0) ∧ w' = w := by
  rcases h with rfl | ⟨b, rfl, hb⟩
  · go_enter Try.func15, Try.ntmps15
    go_wp2_with fail
    go_ret
    exact ⟨rfl, rfl⟩
  · obtain ⟨c0, c1, c2, c3⟩ := hb.cells
    clear hb
    go_enter Try.func15, Try.ntmps15
    go_wp2_with fail
    go_ret
    exact ⟨rfl, rfl⟩
theorem entriesZ (w : World) (p : Option Addr) (h : Zp w p) : Calls Try.prog 22 #[.pointer p] w fun e w' => (∃ ao ca, e = .returned (.slice ao 0 ca)) ∧ Below w.heap.size w w' := by
  rcases h with rfl | ⟨b, rfl, hb⟩
  · go_enter Try.func22, Try.ntmps22
    go_wp2_with fail
    go_ret
    exact ⟨⟨_, _, rfl⟩, Below.refl _ _⟩
  · obtain ⟨c0, c1, c2, c3⟩ := hb.cells
    have H := hide hb
    clear hb
    go_enter Try.func22, Try.ntmps22
    go_wp2_with fail
    refine (clone_any _ _ [] (Ents.nil _) (by simp)).mono ?_
    rintro e w1 ⟨v', rfl, h1, h2, _⟩
    obtain ⟨ao, ca, rfl, _, _⟩ := h1.form
    replace h2 := hide h2
    clear h1
    go_wp2_with fail
    go_ret
    exact ⟨⟨_, _, rfl⟩, h2.out⟩
def x1 : X := ⟨1, [], (0, 0)⟩
theorem ok1x : Ok x1 := Ok.new (by decide) (by decide)
set_option maxHeartbeats 2000000 in
theorem bytesZ (w : World) (p : Option Addr) (h : Zp w p) : Calls Try.prog 18 #[.pointer p] w fun e w' => ∃ v', e = .returned v' ∧ Bs w.heap.size w' v' (bytesF x1) ∧ Below w.heap.size w w' := by
  have hB0 := hide (box_below w (.cells #[.int .i64 1, .slice none 0 0, .int .i64 0, .int .i64 0] 58))
  have A0 : Hid (At TI (w.alloc (.cells #[.int .i64 1, .slice none 0 0, .int .i64 0, .int .i64 0] 58)) w.heap.size x1 (.slice none 0 0)) := ⟨heap_alloc_new _ _, Ents.nil _⟩
  rcases h with rfl | ⟨b, rfl, hb⟩
  case' inr =>
    obtain ⟨c0, c1, c2, c3⟩ := hb.cells
    simp only [zX] at c0 c2 c3
    clear hb
    go_enter Try.func18, Try.ntmps18
    go_wp2_with fail
    clear c0 c1 c2 c3
  case' inl =>
    go_enter Try.func18, Try.ntmps18
    go_wp2_with fail
  all_goals
    generalize w.alloc (.cells #[.int .i64 1, .slice none 0 0, .int .i64 0, .int .i64 0] 58) = W0 at *
    refine (varint_any _ 1 (by omega) (by omega)).mono ?_
    rintro e w1 ⟨v1, rfl, o1, b1⟩
    have o1' : Hid (Bs w.heap.size w1 v1 (enc 1)) := owns_lower o1 hB0.out.size
    have A1 := hide (A0.out.below b1)
    replace b1 := hide (keepF hB0.out b1)
    obtain ⟨_, c1, _, _⟩ := A1.out.cells
    obtain ⟨ao1, ca1, rfl⟩ := o1'.out.form
    clear o1 A0 hB0
    go_wp2_with fail
    refine (varint_any _ 0 (by omega) (by omega)).mono ?_
    rintro e w2 ⟨v2, rfl, o2, b2⟩
    have s2 : Hid (Sl w2 v2 (enc 0)) := Sl.of_owns o2
    have o12 := hide (o1'.out.below b2)
    have A2 := hide (A1.out.below b2)
    obtain ⟨_, c2, _, _⟩ := A2.out.cells
    have b12 := hide (keepF b1.out b2)
    have hsz2 := b12.out.size
    have hl1 := enc_len 1
    have hl2 := enc_len 0
    clear o2 b2 o1' c1 b1
    obtain ⟨O, hO⟩ : ∃ O, Hid (enc 1 ++ enc 0 = O) := ⟨_, rfl⟩
    have hOl : O.length ≤ 20 := by rw [← hO.out, List.length_append]; omega
    go_wp2_with (at_builtin; refine wpList_append_bytesG rfl (.tmp 24) (.tmp 31) 43 rfl w.heap.size 5 Try.infoU8 Try.underlying43 (.slice ao1 (enc 1).length ca1) v2 (enc 1) (enc 0) rfl o12.out rfl s2.out (by omega) hsz2 ?_; intro v3 w3 o3 g3; rw [hO.out] at o3; obtain ⟨ao3, ca3, rfl⟩ := Bs.form (B := w.heap.size) o3; have c3 := g3.cell c2 (fun e => (Bs.no (B := w.heap.size) o12.out A2.out.box (by decide)) e.symm); have hb3 := lt_of_cell c3; replace o3 := hide o3; replace g3 := hide g3)
    have B3 : Hid (Below w.heap.size w w3) := Below.grown b12.out g3.out hsz2 (fun k hk => (World.ownsRow.lt o12.out k hk).1)
    have Q3 : Hid (Bs w.heap.size (w3.alloc (.cells #[.int .i64 0, .int .i64 0] 35)) (.slice ao3 O.length ca3) O) := Bs.below (B := w.heap.size) o3.out (box_below _ _)
    have B4 : Hid (Below w.heap.size w (w3.alloc (.cells #[.int .i64 0, .int .i64 0] 35))) := keepF B3.out (box_below _ _)
    generalize w3.alloc (.cells #[.int .i64 0, .int .i64 0] 35) = w4 at *
    clear c3 c2 o3 g3 B3 s2 o12 b12 hl1 hl2 A1 A2
    go_loopw [3, 38] (fun vb vi wr => vb = .slice ao3 O.length ca3 ∧ vi = .int .i64 0 ∧ w4 = wr) (fun _ _ _ => 0)
    case atStart => exact ⟨rfl, rfl, rfl⟩
    case round =>
      obtain ⟨rfl, rfl, rfl⟩ := hrel
      have sl0 : Hid (Sl w4 (.slice ao3 O.length ca3) O) := Sl.of_owns Q3.out
      go_wp2_with fail
      refine (Crc.sum_any _ _ O sl0.out).mono ?_
      rintro e w5 ⟨rfl, b5⟩
      have Q5 := hide (Q3.out.below b5)
      have B5 := hide (keepF B4.out b5)
      have hcr := (Crc.more 0#32 O).isLt
      obtain ⟨cr, hcre⟩ : ∃ cr, Hid ((Crc.more 0#32 O).toNat = cr) := ⟨_, rfl⟩
      rw [hcre.out] at hcr ⊢
      clear b5 sl0
      go_wp2_with fail
      refine (fixed32_any _ (cr : Int) (by omega) (by omega)).mono ?_
      rintro e w7 ⟨v7, rfl, o7, b7⟩
      rw [Int.toNat_natCast] at o7
      have s7 := hide (Sl.of_owns o7)
      have Q7 := hide (Q5.out.below b7)
      have B7 := hide (keepF B5.out b7)
      have hz7 := B7.out.size
      have hn1 := fx_len 4 cr
      clear o7 b7 Q5 B5
      obtain ⟨O2, hO2⟩ : ∃ O2, Hid (O ++ fx 4 cr = O2) := ⟨_, rfl⟩
      go_wp2_with (at_builtin; refine wpList_append_bytesG rfl (.tmp 62) (.tmp 65) 43 rfl w.heap.size 5 Try.infoU8 Try.underlying43 (.slice ao3 O.length ca3) v7 O (fx 4 cr) rfl Q7.out rfl s7.out (by omega) hz7 ?_; intro v8 w8 o8 g8; rw [hO2.out] at o8; obtain ⟨ao8, ca8, rfl⟩ := Bs.form (B := w.heap.size) o8; have B8 := hide (Below.grown B7.out g8 hz7 (fun k hk => (World.ownsRow.lt Q7.out k hk).1)); replace o8 := hide o8; clear g8)
      go_ret
      have hfin : bytesF x1 = O2 := by
        have hf : front x1 = O := by rw [← hO.out]; simp [front, x1, body]
        rw [bytesF, hf, hcre.out, hO2.out]
      rw [hfin]
      exact ⟨_, rfl, o8.out, B8.out⟩
#print axioms bytesZ
/-- What IndexNone's rounds leave: the list of the two indexes. -/
structure NZ (w wr : World) (sb zb : Nat) : Prop where
  bel : Below w.heap.size w wr
  sl : wr.heap[sb]? = some (.cells #[.pointer none, .pointer (some ⟨zb, 0, none⟩)] 24 (0, 0))
  z : At TI wr zb zX (.slice none 0 0)
theorem NZ.below {w wr w' : World} {sb zb : Nat} (h : NZ w wr sb zb) (hb : Below wr.heap.size wr w') : NZ w w' sb zb :=
  ⟨keepF h.bel hb, by rw [hb.block sb (heap_lt h.sl)]; exact h.sl, h.z.below hb⟩
/-- A round of IndexNone: what Find gave, in tb, and the document's index, at yb. -/
structure Rn (w wr : World) (sb zb tb yb : Nat) : Prop where
  nz : NZ w wr sb zb
  t : wr.heap[tb]? = some (.cells #[.int .i64 0, .int .i64 0] 35 (0, 0))
  y : At TR wr yb x1 (.slice none 0 0)
theorem Rn.below {w wr w' : World} {sb zb tb yb : Nat} (h : Rn w wr sb zb tb yb) (hb : Below wr.heap.size wr w') : Rn w w' sb zb tb yb :=
  ⟨h.nz.below hb, by rw [hb.block tb (heap_lt h.t)]; exact h.t, h.y.below hb⟩
theorem NZ.get {w wr : World} {sb zb : Nat} (h : NZ w wr sb zb) {i : Nat} (hi : i < 2) : wr.cell? ⟨sb, i, none⟩ = some (.pointer (if i = 0 then none else some ⟨zb, 0, none⟩)) ∧ Zp wr (if i = 0 then none else some ⟨zb, 0, none⟩) := by
  match i, hi with
  | 0, _ => exact ⟨by simp [World.cell?, h.sl], .inl rfl⟩
  | 1, _ => exact ⟨by simp [World.cell?, h.sl], .inr ⟨zb, rfl, h.z⟩⟩
set_option maxHeartbeats 4000000 in
theorem none_walk (w : World) (n o : Int) : Calls Try.prog 6 #[.int .i64 n, .int .i64 o] w fun e w' => e = .returned (.bool true) ∧ Below w.heap.size w w' := by
  have hq : ∀ (a b c d : Int) (u : World), (binOp .neq 35 (.agg #[.int .i64 a, .int .i64 b]) (.agg #[.int .i64 c, .int .i64 d])).run Try.prog u = .ok (.bool (!decide (a = c ∧ b = d))) u := fun a b c d u => entNeq u a b c d
  have hd0 : decide ((0 : Int) = 0 ∧ (0 : Int) = 0) = true := by simp
  go_enter Try.func6, Try.ntmps6
  go_wp2_with fail
  refine (begun_any w).mono ?_
  rintro e w0 ⟨rfl, b0⟩
  replace b0 := hide b0
  go_wp2_with fail
  have Z0 : Hid (NZ w ((w0.alloc (.cells #[.int .i64 0, .slice none 0 0, .int .i64 0, .int .i64 0] 58)).alloc (.cells #[.pointer none, .pointer (some ⟨w0.heap.size, 0, none⟩)] 24)) (w0.heap.size + 1) w0.heap.size) := by
    refine ⟨keepF b0.out ((box_below w0 _).alloc (by simp) _), ?_, ⟨?_, Ents.nil _⟩⟩
    · have := heap_alloc_new (w0.alloc (.cells #[.int .i64 0, .slice none 0 0, .int .i64 0, .int .i64 0] 58)) (.cells #[.pointer none, .pointer (some ⟨w0.heap.size, 0, none⟩)] 24)
      rwa [World.size_alloc] at this
    · rw [Below.heap_alloc _ _ _ (by simp)]; exact heap_alloc_new _ _
  generalize (w0.alloc (.cells #[.int .i64 0, .slice none 0 0, .int .i64 0, .int .i64 0] 58)).alloc (.cells #[.pointer none, .pointer (some ⟨w0.heap.size, 0, none⟩)] 24) = w1 at *
  generalize w0.heap.size = zb at *
  obtain ⟨sb, hsb⟩ : ∃ sb, sb = zb + 1 := ⟨_, rfl⟩
  rw [← hsb] at Z0 ⊢
  clear hsb b0
  go_loopg [7] 2 (fun kx vi wr => ∃ i : Nat, i ≤ 2 ∧ 2 - i ≤ kx ∧ vi = .int .i64 (i : Int) ∧ Hid (NZ w wr sb zb))
  case atStart => exact ⟨0, by omega, by omega, rfl, Z0.out⟩
  case round =>
    obtain ⟨i, hi, hik, rfl, hZ⟩ := hrel
    by_cases hlt : i < 2
    · obtain ⟨p, hp⟩ : ∃ p, Hid ((if i = 0 then none else some (⟨zb, 0, none⟩ : Addr)) = p) := ⟨_, rfl⟩
      have G := hide fun (u : World) (h : NZ w u sb zb) => h.get hlt
      rw [hp.out] at G
      obtain ⟨g0, gz⟩ := G.out wr hZ.out
      have hli : (i : Int) < 2 := by omega
      go_wp2_with fail
      refine (findZ wr p n gz).mono ?_
      rintro e w2 ⟨rfl, b2⟩
      simp only [entv]
      have Z2 := hide ((hZ.out.below b2).below (box_below w2 (.cells #[.int .i64 0, .int .i64 0] 35)))
      have T2 : Hid ((w2.alloc (.cells #[.int .i64 0, .int .i64 0] 35)).heap[w2.heap.size]? = some (.cells #[.int .i64 0, .int .i64 0] 35 (0, 0))) := heap_alloc_new _ _
      clear b2 g0 gz
      go_wp2_with fail
      generalize w2.alloc (.cells #[.int .i64 0, .int .i64 0] 35) = w3 at *
      generalize w2.heap.size = tb at *
      refine (refNew_any w3 1 (by decide) (by decide)).mono ?_
      rintro e w4 ⟨B4, ⟨h, _⟩ | ⟨_, _, yb, _, rfl, A4⟩⟩
      · exact absurd ⟨by decide, by decide⟩ h
      have R4 : Hid (Rn w w4 sb zb tb yb) := ⟨Z2.out.below B4, by rw [B4.block tb (heap_lt T2.out)]; exact T2.out, A4⟩
      clear B4 A4 Z2 T2
      obtain ⟨g0, gz⟩ := G.out w4 R4.out.nz
      obtain ⟨t0, t1, _, _⟩ := two_cells R4.out.t
      replace gz := hide gz
      go_wp2_with fail
      refine (addZ w4 p n o gz.out).mono ?_
      rintro e w5 ⟨rfl, rfl⟩
      go_wp2_with fail
      refine (entriesZ _ p gz.out).mono ?_
      rintro e w6 ⟨⟨ao6, ca6, rfl⟩, b6⟩
      have R6 := hide (R4.out.below b6)
      clear b6 g0 gz t0 t1 R4
      obtain ⟨g0, gz⟩ := G.out w6 R6.out.nz
      replace gz := hide gz
      go_wp2_with fail
      refine (cutZ w6 p n gz.out).mono ?_
      rintro e w7 ⟨rfl, rfl⟩
      go_wp2_with fail
      refine (bytesZ _ p gz.out).mono ?_
      rintro e w8 ⟨v8, rfl, s8, b8⟩
      have R8 := hide (R6.out.below b8)
      replace s8 := hide s8
      clear b8 g0 gz R6
      go_wp2_with fail
      refine (refBytes_any w8 yb x1 _ R8.out.y ok1x).mono ?_
      rintro e w9 ⟨v9, rfl, s9, b9⟩
      have R9 := hide (R8.out.below b9)
      have S8 := hide (Sl.of_owns (s8.out.below b9))
      have S9 := hide (Sl.of_owns s9)
      clear b9 s8 s9 R8
      go_wp2_with fail
      refine (eq_sl w9 _ _ _ _ S8.out S9.out).mono ?_
      rintro e w10 ⟨rfl, q10⟩
      rw [decide_eq_true rfl]
      have Z10 := hide (R9.out.nz.below (q10.below _))
      clear q10 R9 S8 S9
      go_wp2_with fail
      go_roundg (2 - (i + 1))
      case measure => omega
      case rel => exact ⟨i + 1, by omega, Nat.le_refl _, by go_num, Z10.out⟩
    · have hli : ¬ (i : Int) < 2 := by omega
      go_wp2_with fail
      go_ret
      exact ⟨rfl, hZ.out.bel⟩
#print axioms none_walk
end Go.Proofs.Ytoffahbnffhliaa.Ix
