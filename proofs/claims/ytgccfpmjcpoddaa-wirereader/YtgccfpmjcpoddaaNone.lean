/-
  WireNone returns true, and writes nothing that was there.
-/
import Derived.Test.YtgccfpmjcpoddaaOneN
import Derived.Test.YtgccfpmjcpoddaaRws
namespace Go.Proofs.Ytgccfpmjcpoddaa
open Go.RowKit
set_option linter.unusedVariables false

/-- Calls os lie from address ao on, three cells each. -/
def AtOps (w : World) (ao : Option Addr) (os : List (Int × Int × Int)) : Prop :=
  ∀ i (h : i < os.length), ∃ b off, ao = some ⟨b, off, none⟩ ∧ w.cell? ⟨b, off + i * 3, none⟩ = some (.int .i64 os[i].1) ∧ w.cell? ⟨b, off + i * 3 + 1, none⟩ = some (.int .u64 os[i].2.1) ∧ w.cell? ⟨b, off + i * 3 + 2, none⟩ = some (.int .i64 os[i].2.2)
/-- A call's numbers are within their kinds. -/
def OpOk (o : Int × Int × Int) : Prop := (0 ≤ o.2.1 ∧ o.2.1 < 18446744073709551616) ∧ -9223372036854775808 ≤ o.2.2 ∧ o.2.2 ≤ 9223372036854775807

theorem RdrAt.two {w w' : World} {r a b : Nat} {l la lb : List UInt8} {k ka kb : Nat} {er ea eb : Int} (h : RdrAt w r l k er) (t : Two a b w w') (ha : RdrAt w a la ka ea) (hb : RefAt w b lb kb eb) (h1 : r ≠ a) (h2 : r ≠ b) : RdrAt w' r l k er := by
  obtain ⟨v, hr, ho, rest⟩ := h
  refine ⟨v, by rw [t.block r (heap_lt hr) h1 h2]; exact hr, ?_, rest⟩
  obtain ⟨o1, o2⟩ := ho
  refine ⟨o1, ?_⟩
  rcases o2 with o2 | ⟨g, cap, cur, hv, hg, hh, r2⟩
  · exact Or.inl o2
  · refine Or.inr ⟨g, cap, cur, hv, hg, ?_, r2⟩
    rw [t.block g (heap_lt hh) ?_ ?_]; exact hh
    · rintro rfl
      obtain ⟨_, hx, _⟩ := ha
      rw [hx] at hh; simp at hh
    · rintro rfl
      obtain ⟨_, hx, _⟩ := hb
      rw [hx] at hh; simp at hh
theorem RdrAt.oneKept {w w' : World} {r b : Nat} {l lb : List UInt8} {k kb : Nat} {er eb : Int} (h : RdrAt w r l k er) (t : w.grownBy w' (some b)) (hb : RefAt w b lb kb eb) (h2 : r ≠ b) : RdrAt w' r l k er := h.kept hb h2 t

theorem left_none (w : World) (rb : Nat) (er : Int) (h : RdrAt w rb [] 0 er) :
    Calls Try.prog 33 #[.pointer (some ⟨rb, 0, none⟩)] w fun e w' => e = .returned (.int .i64 0) ∧ Qt w w' := (left_any w rb [] 0 er h).mono fun _ _ h => h
theorem at_none (w : World) (rb : Nat) (er : Int) (h : RdrAt w rb [] 0 er) :
    Calls Try.prog 32 #[.pointer (some ⟨rb, 0, none⟩)] w fun e w' => e = .returned (.int .i64 0) ∧ Qt w w' := (at_any w rb [] 0 er h).mono fun _ _ h => ⟨h.1, by rw [h.2]; exact Qt.refl _⟩

/-- The four cells that a round reads. -/
structure C4 (u : World) (p0 p1 p2 p3 : Addr) (v0 v1 v2 v3 : Value) : Prop where
  c0 : u.cell? p0 = some v0
  c1 : u.cell? p1 = some v1
  c2 : u.cell? p2 = some v2
  c3 : u.cell? p3 = some v3
theorem keepT {u u' : World} {a b : Nat} {p0 p1 p2 p3 : Addr} {v0 v1 v2 v3 : Value} (h : u.cell? p0 = some v0 ∧ u.cell? p1 = some v1 ∧ u.cell? p2 = some v2 ∧ u.cell? p3 = some v3) (t : Two a b u u')
    (h0 : p0.block ≠ a ∧ p0.block ≠ b) (h1 : p1.block ≠ a ∧ p1.block ≠ b) (h2 : p2.block = p1.block) (h3 : p3.block = p1.block) :
    u'.cell? p0 = some v0 ∧ u'.cell? p1 = some v1 ∧ u'.cell? p2 = some v2 ∧ u'.cell? p3 = some v3 :=
  ⟨t.cell h.1 h0.1 h0.2, t.cell h.2.1 h1.1 h1.2, t.cell h.2.2.1 (by rw [h2]; exact h1.1) (by rw [h2]; exact h1.2), t.cell h.2.2.2 (by rw [h3]; exact h1.1) (by rw [h3]; exact h1.2)⟩

set_option maxRecDepth 100000 in
set_option maxHeartbeats 4000000 in
theorem none_walk (w : World) (ao : Option Addr) (c : Nat) (os : List (Int × Int × Int)) (hl : os.length ≤ 9223372036854775807) (ho : AtOps w ao os) (hok : ∀ o ∈ os, OpOk o) :
    Calls Try.prog 7 #[.slice ao os.length c] w fun e w' => e = .returned (.bool true) ∧ Below w.heap.size w w' := by
  have HO : Hid (∀ o ∈ os, OpOk o) := hok
  clear hok
  go_enter Try.func7, Try.ntmps7
  go_wp2_with fail
  refine (begun_any w).mono ?_
  rintro e w1 ⟨rfl, b1⟩
  go_wp2_with fail
  refine (newReader_any (w1.alloc (.cells #[.slice none 0 0, .int .i64 0, .int .i64 0] 62)) _ [] (Sl.nil _) (by decide)).mono ?_
  rintro e w2 ⟨rb2, rfl, hr2, b2, hrb2⟩
  have hx1 : RdrAt (w1.alloc (.cells #[.slice none 0 0, .int .i64 0, .int .i64 0] 62)) w1.heap.size [] 0 0 := ⟨.slice none 0 0, heap_alloc_new _ _, World.ownsRow_nil _ _ _ _, Nat.le_refl _, by decide⟩
  have hr1 := hx1.below b2
  have bb : Below w.heap.size w w2 := (b1.trans ((box_below w1 _).mono b1.size)).trans (b2.mono (by have := b1.size; simp; omega))
  have hz1 := b1.size
  have hz2 : w1.heap.size + 1 ≤ rb2 := by simpa using hrb2
  obtain ⟨rb1, hrb1⟩ : ∃ rb1, rb1 = w1.heap.size := ⟨_, rfl⟩
  rw [← hrb1] at hr1 hz2 ⊢
  have hz3 : w.heap.size ≤ rb1 := by omega
  clear b1 b2 hx1 hrb2 hz1 hrb1
  go_wp2_with fail
  obtain ⟨sb, hsb⟩ : ∃ sb, sb = w2.heap.size := ⟨_, rfl⟩
  have hrl1 := hr1.lt
  have hrl2 := hr2.lt
  have bA := box_below w2 (.cells #[.pointer none, .pointer (some ⟨rb1, 0, none⟩), .pointer (some ⟨rb2, 0, none⟩)] 46)
  have s0 : (w2.alloc (.cells #[.pointer none, .pointer (some ⟨rb1, 0, none⟩), .pointer (some ⟨rb2, 0, none⟩)] 46)).cell? ⟨sb, 0, none⟩ = some (.pointer none) := by rw [hsb]; simp [go_sem]
  have s1 : (w2.alloc (.cells #[.pointer none, .pointer (some ⟨rb1, 0, none⟩), .pointer (some ⟨rb2, 0, none⟩)] 46)).cell? ⟨sb, 1, none⟩ = some (.pointer (some ⟨rb1, 0, none⟩)) := by rw [hsb]; simp [go_sem]
  have s2 : (w2.alloc (.cells #[.pointer none, .pointer (some ⟨rb1, 0, none⟩), .pointer (some ⟨rb2, 0, none⟩)] 46)).cell? ⟨sb, 2, none⟩ = some (.pointer (some ⟨rb2, 0, none⟩)) := by rw [hsb]; simp [go_sem]
  have r1A := hr1.below bA
  have r2A := hr2.below bA
  have bbA := bb.trans (bA.mono bb.size)
  rw [← hsb]
  have hx1 : rb1 ≠ sb := by omega
  have hx2 : rb2 ≠ sb := by omega
  have hx3 : w.heap.size ≤ sb := by have := bb.size; omega
  clear hr1 hr2 bA bb hsb hrl1 hrl2
  go_loopw [5] (fun i wr => ∃ k : Nat, k ≤ 3 ∧ i = .int .i64 k ∧ Below w.heap.size w wr ∧ wr.cell? ⟨sb, 0, none⟩ = some (.pointer none) ∧ wr.cell? ⟨sb, 1, none⟩ = some (.pointer (some ⟨rb1, 0, none⟩)) ∧ wr.cell? ⟨sb, 2, none⟩ = some (.pointer (some ⟨rb2, 0, none⟩)) ∧ (k ≤ 1 → RdrAt wr rb1 [] 0 0) ∧ (k ≤ 2 → RdrAt wr rb2 [] 0 0)) (fun i _ => 3 - (intOf i).toNat)
  case atStart => exact ⟨0, by omega, rfl, bbA, s0, s1, s2, fun _ => r1A, fun _ => r2A⟩
  case round =>
    clear s0 s1 s2 r1A r2A bbA
    obtain ⟨k, hk, rfl, hb, s0, s1, s2, hr1, hr2⟩ := hrel
    by_cases hk0 : k = 0
    · subst hk0
      rw [show (((0 : Nat) : Int)) = (0 : Int) from rfl]
      have r1 := hr1 (by omega)
      have r2 := hr2 (by omega)
      have hsl : sb < wr.heap.size := lt_of_cell s0
      clear hr1 hr2
      go_wp2_with fail
      have bA : Below wr.heap.size wr ((wr.alloc (.cells #[.slice none 0 0, .int .i64 0, .int .i64 0] 50)).alloc (.cells #[.slice none 0 0, .int .i64 0] 53)) := (box_below wr _).alloc (by simp) _
      have bbA := hb.trans (bA.mono hb.size)
      have r1A := r1.below bA
      have r2A := r2.below bA
      have t0 := (bA.cell (p := ⟨sb, 0, none⟩) hsl).trans s0
      have t1 := (bA.cell (p := ⟨sb, 1, none⟩) hsl).trans s1
      have t2 := (bA.cell (p := ⟨sb, 2, none⟩) hsl).trans s2
      generalize (.pointer (some ⟨wr.heap.size + 1, 0, none⟩) : Value) = kp
      clear bA r1 r2 s0 s1 s2 hb hsl
      go_loopw [6, 9] (fun q j ws => ∃ (j' q' : Nat), j' ≤ os.length ∧ q = .pointer (some ⟨q', 0, none⟩) ∧ j = .int .i64 j' ∧ Below w.heap.size w ws ∧ ws.cell? ⟨sb, 0, none⟩ = some (.pointer none) ∧ ws.cell? ⟨sb, 1, none⟩ = some (.pointer (some ⟨rb1, 0, none⟩)) ∧ ws.cell? ⟨sb, 2, none⟩ = some (.pointer (some ⟨rb2, 0, none⟩)) ∧ RdrAt ws rb1 [] 0 0 ∧ RdrAt ws rb2 [] 0 0) (fun _ j _ => os.length - (intOf j).toNat)
      case atStart => exact ⟨0, _, Nat.zero_le _, rfl, rfl, bbA, t0, t1, t2, r1A, r2A⟩
      case round =>
        clear bbA t0 t1 t2 r1A r2A
        obtain ⟨j, q', hj, rfl, rfl, hb, s0, s1, s2, r1, r2⟩ := hrel
        rename World => wi
        by_cases hlt : j < os.length
        · obtain ⟨x1, o1, rfl, d1, d2, d3⟩ := ho j hlt
          obtain ⟨om, oz1, oz2⟩ := HO.out os[j] (List.getElem_mem hlt)
          have l1 := lt_of_cell d1
          generalize os[j].1 = kd at *
          generalize os[j].2.1 = ms at *
          generalize os[j].2.2 = sz at *
          have e1 := (hb.cell (p := ⟨x1, o1 + j * 3, none⟩) l1).trans d1
          have e2 := (hb.cell (p := ⟨x1, o1 + j * 3 + 1, none⟩) l1).trans d2
          have e3 := (hb.cell (p := ⟨x1, o1 + j * 3 + 2, none⟩) l1).trans d3
          have hsl : sb < wi.heap.size := lt_of_cell s0
          have bX : Below wi.heap.size wi (wi.alloc (.cells #[.slice none 0 0, .int .i64 0, .int .i64 0] 50)).drew := (box_below wi _).drew
          have hq : RefAt (wi.alloc (.cells #[.slice none 0 0, .int .i64 0, .int .i64 0] 50)).drew wi.heap.size [] 0 0 := ⟨.slice none 0 0, heap_alloc_new _ _, Sl.nil _, Nat.le_refl _, by decide, VB.nil _ _ _⟩
          have hS0 : (wi.alloc (.cells #[.slice none 0 0, .int .i64 0, .int .i64 0] 50)).drew.cell? ⟨sb, 0, none⟩ = some (.pointer none) ∧ (wi.alloc (.cells #[.slice none 0 0, .int .i64 0, .int .i64 0] 50)).drew.cell? ⟨x1, o1 + j * 3, none⟩ = some (.int .i64 kd) ∧ (wi.alloc (.cells #[.slice none 0 0, .int .i64 0, .int .i64 0] 50)).drew.cell? ⟨x1, o1 + j * 3 + 1, none⟩ = some (.int .u64 ms) ∧ (wi.alloc (.cells #[.slice none 0 0, .int .i64 0, .int .i64 0] 50)).drew.cell? ⟨x1, o1 + j * 3 + 2, none⟩ = some (.int .i64 sz) :=
            ⟨(bX.cell (p := ⟨sb, 0, none⟩) hsl).trans s0, (bX.cell (p := ⟨x1, o1 + j * 3, none⟩) (lt_of_cell e1)).trans e1, (bX.cell (p := ⟨x1, o1 + j * 3 + 1, none⟩) (lt_of_cell e2)).trans e2, (bX.cell (p := ⟨x1, o1 + j * 3 + 2, none⟩) (lt_of_cell e3)).trans e3⟩
          have n0 : sb ≠ wi.heap.size := by omega
          have n1 : x1 ≠ wi.heap.size := by have : x1 < wi.heap.size := lt_of_cell e1; omega
          have hjj : (0 : Int) ≤ (j : Int) := by omega
          have hjn : (j : Int) < (os.length : Int) := by omega
          clear d1 d2 d3 e1 e2 e3 l1
          go_wp2_with fail
          go_region_held3 (fun q => q.cell? ⟨sb, 0, none⟩ = some (.pointer none) ∧ q.cell? ⟨x1, o1 + j * 3, none⟩ = some (.int .i64 kd) ∧ q.cell? ⟨x1, o1 + j * 3 + 1, none⟩ = some (.int .u64 ms) ∧ q.cell? ⟨x1, o1 + j * 3 + 2, none⟩ = some (.int .i64 sz)) (first | exact hS0 | exact keepT (a := wi.heap.size) (b := wi.heap.size) hS0 (Two.left (by assumption)) ⟨n0, n0⟩ ⟨n1, n1⟩ rfl rfl | assumption)
            (first
              | (go_at_call 29; refine (one_nil _ wi.heap.size kp kd ms sz hq om oz1 oz2).mono ?_; rintro e u1 ⟨rfl, g1⟩)
              | (go_at_call 33; refine (left_nil _).mono ?_; rintro e u2 ⟨rfl, rfl⟩)
              | (go_at_call 32; refine (at_nil _).mono ?_; rintro e u2 ⟨rfl, rfl⟩))
          have hrl1 := r1.lt
          have hrl2 := r2.lt
          have hbz := hb.size
          have r1x := r1.below bX
          have r2x := r2.below bX
          have hbx := hb.trans (bX.mono hb.size)
          have s1x := (bX.cell (p := ⟨sb, 1, none⟩) hsl).trans s1
          have s2x := (bX.cell (p := ⟨sb, 2, none⟩) hsl).trans s2
          have s0x := hS0.1
          clear bX hS0 s0 s1 s2 r1 r2
          go_wp2
          go_roundw
          case rel => exact ⟨j + 1, wi.heap.size, by omega, rfl, by go_num, below_rdr hbx (by assumption) (by omega), World.grownBy.cell (by assumption) s0x (by simp; omega), World.grownBy.cell (by assumption) s1x (by simp; omega), World.grownBy.cell (by assumption) s2x (by simp; omega), r1x.oneKept (by assumption) hq (by omega), r2x.oneKept (by assumption) hq (by omega)⟩
          case measure => simp [intOf]; omega
        · go_wp2_with fail
          go_roundw
          case rel => exact ⟨1, by omega, by go_num, hb, s0, s1, s2, fun _ => r1, fun _ => r2⟩
          case measure => simp [intOf]
    · by_cases hk1 : k = 1
      · subst hk1
        rw [show (((1 : Nat) : Int)) = (1 : Int) from rfl]
        have r1 := hr1 (by omega)
        have r2 := hr2 (by omega)
        have hsl : sb < wr.heap.size := lt_of_cell s0
        clear hr1 hr2
        go_wp2_with fail
        have bA : Below wr.heap.size wr ((wr.alloc (.cells #[.slice none 0 0, .int .i64 0, .int .i64 0] 50)).alloc (.cells #[.slice none 0 0, .int .i64 0] 53)) := (box_below wr _).alloc (by simp) _
        have bbA := hb.trans (bA.mono hb.size)
        have r1A := r1.below bA
        have r2A := r2.below bA
        have t0 := (bA.cell (p := ⟨sb, 0, none⟩) hsl).trans s0
        have t1 := (bA.cell (p := ⟨sb, 1, none⟩) hsl).trans s1
        have t2 := (bA.cell (p := ⟨sb, 2, none⟩) hsl).trans s2
        have qA : RefAt ((wr.alloc (.cells #[.slice none 0 0, .int .i64 0, .int .i64 0] 50)).alloc (.cells #[.slice none 0 0, .int .i64 0] 53)) wr.heap.size [] 0 0 :=
          RefAt.below ⟨.slice none 0 0, heap_alloc_new _ _, Sl.nil _, Nat.le_refl _, by decide, VB.nil _ _ _⟩ (box_below _ _)
        generalize (.pointer (some ⟨wr.heap.size + 1, 0, none⟩) : Value) = kp
        have hq0 : w.heap.size ≤ wr.heap.size := hb.size
        obtain ⟨qb, hqb⟩ : ∃ qb, qb = wr.heap.size := ⟨_, rfl⟩
        rw [← hqb] at qA hsl hq0 ⊢
        have hrq : rb1 ≠ qb := by have := r1.lt; omega
        have hrq2 : rb2 ≠ qb := by have := r2.lt; omega
        have hsq : sb ≠ qb := by omega
        clear bA r1 r2 s0 s1 s2 hb hsl hqb
        go_loopw [6, 9] (fun q j ws => ∃ (j' : Nat) (er : Int), j' ≤ os.length ∧ q = .pointer (some ⟨qb, 0, none⟩) ∧ j = .int .i64 j' ∧ Below w.heap.size w ws ∧ ws.cell? ⟨sb, 0, none⟩ = some (.pointer none) ∧ ws.cell? ⟨sb, 1, none⟩ = some (.pointer (some ⟨rb1, 0, none⟩)) ∧ ws.cell? ⟨sb, 2, none⟩ = some (.pointer (some ⟨rb2, 0, none⟩)) ∧ RdrAt ws rb1 [] 0 er ∧ RefAt ws qb [] 0 er ∧ RdrAt ws rb2 [] 0 0) (fun _ j _ => os.length - (intOf j).toNat)
        case atStart => exact ⟨0, 0, Nat.zero_le _, rfl, rfl, bbA, t0, t1, t2, r1A, qA, r2A⟩
        case round =>
          clear bbA t0 t1 t2 r1A qA r2A
          obtain ⟨j, er, hj, rfl, rfl, hb, s0, s1, s2, r1, hq, r2⟩ := hrel
          rename World => wi
          by_cases hlt : j < os.length
          · obtain ⟨x1, o1, rfl, d1, d2, d3⟩ := ho j hlt
            obtain ⟨om, oz1, oz2⟩ := HO.out os[j] (List.getElem_mem hlt)
            have l1 := lt_of_cell d1
            generalize os[j].1 = kd at *
            generalize os[j].2.1 = ms at *
            generalize os[j].2.2 = sz at *
            have bX : Below wi.heap.size wi wi.drew := (Below.refl _ _).drew
            have hS0 : wi.drew.cell? ⟨sb, 1, none⟩ = some (.pointer (some ⟨rb1, 0, none⟩)) ∧ wi.drew.cell? ⟨x1, o1 + j * 3, none⟩ = some (.int .i64 kd) ∧ wi.drew.cell? ⟨x1, o1 + j * 3 + 1, none⟩ = some (.int .u64 ms) ∧ wi.drew.cell? ⟨x1, o1 + j * 3 + 2, none⟩ = some (.int .i64 sz) :=
              ⟨s1, (hb.cell (p := ⟨x1, o1 + j * 3, none⟩) l1).trans d1, (hb.cell (p := ⟨x1, o1 + j * 3 + 1, none⟩) l1).trans d2, (hb.cell (p := ⟨x1, o1 + j * 3 + 2, none⟩) l1).trans d3⟩
            have hq0' : w.heap.size ≤ qb := hq0
            have n0 : sb ≠ rb1 ∧ sb ≠ qb := ⟨by omega, hsq⟩
            have n1 : x1 ≠ rb1 ∧ x1 ≠ qb := by have : x1 < w.heap.size := l1; omega
            have hjj : (0 : Int) ≤ (j : Int) := by omega
            have hjn : (j : Int) < (os.length : Int) := by omega
            have r1x := r1.below bX
            have qx := hq.below bX
            clear d1 d2 d3 l1
            go_wp2_with fail
            go_region_held3 (fun q => q.cell? ⟨sb, 1, none⟩ = some (.pointer (some ⟨rb1, 0, none⟩)) ∧ q.cell? ⟨x1, o1 + j * 3, none⟩ = some (.int .i64 kd) ∧ q.cell? ⟨x1, o1 + j * 3 + 1, none⟩ = some (.int .u64 ms) ∧ q.cell? ⟨x1, o1 + j * 3 + 2, none⟩ = some (.int .i64 sz)) (first | exact hS0 | exact keepT hS0 (t2'.trans ((Two.of_below (qt2.below _)).trans (Two.of_below (qt3.below _)))) n0 n1 rfl rfl | exact keepT hS0 (t2'.trans (Two.of_below (qt2.below _))) n0 n1 rfl rfl | exact keepT hS0 t2' n0 n1 rfl rfl)
              (first
                | (go_at_call 29; refine (one_none _ rb1 qb kp kd ms sz er r1x qx om oz1 oz2).mono ?_; rintro e u1 ⟨rfl, er', r2', q2', t2'⟩)
                | (go_at_call 33; refine (left_none _ rb1 er' r2').mono ?_; rintro e u2 ⟨rfl, qt2⟩)
                | (go_at_call 32; refine (at_none _ rb1 er' (r2'.below (qt2.below _))).mono ?_; rintro e u3 ⟨rfl, qt3⟩))
            have T := t2'.trans ((Two.of_below (a := rb1) (b := qb) (qt2.below _)).trans (Two.of_below (qt3.below _)))
            have r3' := (r2'.below (qt2.below _)).below (qt3.below _)
            have q3' := (q2'.below (qt2.below _)).below (qt3.below _)
            have r23' := (r2.below bX).two T r1x qx (by omega) hrq2
            have hb3' := Two.below hb.drew T (by omega) hq0
            have z0 := T.cell (p := ⟨sb, 0, none⟩) s0 n0.1 n0.2
            have z1 := T.cell (p := ⟨sb, 1, none⟩) s1 n0.1 n0.2
            have z2 := T.cell (p := ⟨sb, 2, none⟩) s2 n0.1 n0.2
            clear hS0 s0 s1 s2 T bX r1x qx r2' q2' t2' qt2 qt3 r1 hq r2
            go_wp2
            go_roundw
            case rel => exact ⟨j + 1, er', by omega, rfl, by go_num, hb3', z0, z1, z2, r3', q3', r23'⟩
            case measure => simp [intOf]; omega
          · go_wp2_with fail
            go_roundw
            case rel => exact ⟨2, by omega, by go_num, hb, s0, s1, s2, fun h => by omega, fun _ => r2⟩
            case measure => simp [intOf]
      · by_cases hk2 : k = 2
        · subst hk2
          rw [show (((2 : Nat) : Int)) = (2 : Int) from rfl]
          have r1 := hr2 (by omega)
          have hsl : sb < wr.heap.size := lt_of_cell s0
          clear hr1 hr2
          go_wp2_with fail
          have bA : Below wr.heap.size wr ((wr.alloc (.cells #[.slice none 0 0, .int .i64 0, .int .i64 0] 50)).alloc (.cells #[.slice none 0 0, .int .i64 0] 53)) := (box_below wr _).alloc (by simp) _
          have bbA := hb.trans (bA.mono hb.size)
          have r1A := r1.below bA
          have t0 := (bA.cell (p := ⟨sb, 0, none⟩) hsl).trans s0
          have t1 := (bA.cell (p := ⟨sb, 1, none⟩) hsl).trans s1
          have t2 := (bA.cell (p := ⟨sb, 2, none⟩) hsl).trans s2
          have qA : RefAt ((wr.alloc (.cells #[.slice none 0 0, .int .i64 0, .int .i64 0] 50)).alloc (.cells #[.slice none 0 0, .int .i64 0] 53)) wr.heap.size [] 0 0 :=
            RefAt.below ⟨.slice none 0 0, heap_alloc_new _ _, Sl.nil _, Nat.le_refl _, by decide, VB.nil _ _ _⟩ (box_below _ _)
          generalize (.pointer (some ⟨wr.heap.size + 1, 0, none⟩) : Value) = kp
          have hq0 : w.heap.size ≤ wr.heap.size := hb.size
          obtain ⟨qb, hqb⟩ : ∃ qb, qb = wr.heap.size := ⟨_, rfl⟩
          rw [← hqb] at qA hsl hq0 ⊢
          have hrq : rb2 ≠ qb := by have := r1.lt; omega
          have hsq : sb ≠ qb := by omega
          clear bA r1 s0 s1 s2 hb hsl hqb
          go_loopw [6, 9] (fun q j ws => ∃ (j' : Nat) (er : Int), j' ≤ os.length ∧ q = .pointer (some ⟨qb, 0, none⟩) ∧ j = .int .i64 j' ∧ Below w.heap.size w ws ∧ ws.cell? ⟨sb, 0, none⟩ = some (.pointer none) ∧ ws.cell? ⟨sb, 1, none⟩ = some (.pointer (some ⟨rb1, 0, none⟩)) ∧ ws.cell? ⟨sb, 2, none⟩ = some (.pointer (some ⟨rb2, 0, none⟩)) ∧ RdrAt ws rb2 [] 0 er ∧ RefAt ws qb [] 0 er) (fun _ j _ => os.length - (intOf j).toNat)
          case atStart => exact ⟨0, 0, Nat.zero_le _, rfl, rfl, bbA, t0, t1, t2, r1A, qA⟩
          case round =>
            clear bbA t0 t1 t2 r1A qA
            obtain ⟨j, er, hj, rfl, rfl, hb, s0, s1, s2, r1, hq⟩ := hrel
            rename World => wi
            by_cases hlt : j < os.length
            · obtain ⟨x1, o1, rfl, d1, d2, d3⟩ := ho j hlt
              obtain ⟨om, oz1, oz2⟩ := HO.out os[j] (List.getElem_mem hlt)
              have l1 := lt_of_cell d1
              generalize os[j].1 = kd at *
              generalize os[j].2.1 = ms at *
              generalize os[j].2.2 = sz at *
              have bX : Below wi.heap.size wi wi.drew := (Below.refl _ _).drew
              have hS0 : wi.drew.cell? ⟨sb, 2, none⟩ = some (.pointer (some ⟨rb2, 0, none⟩)) ∧ wi.drew.cell? ⟨x1, o1 + j * 3, none⟩ = some (.int .i64 kd) ∧ wi.drew.cell? ⟨x1, o1 + j * 3 + 1, none⟩ = some (.int .u64 ms) ∧ wi.drew.cell? ⟨x1, o1 + j * 3 + 2, none⟩ = some (.int .i64 sz) :=
                ⟨s2, (hb.cell (p := ⟨x1, o1 + j * 3, none⟩) l1).trans d1, (hb.cell (p := ⟨x1, o1 + j * 3 + 1, none⟩) l1).trans d2, (hb.cell (p := ⟨x1, o1 + j * 3 + 2, none⟩) l1).trans d3⟩
              have hq0' : w.heap.size ≤ qb := hq0
              have n0 : sb ≠ rb2 ∧ sb ≠ qb := ⟨by omega, hsq⟩
              have n1 : x1 ≠ rb2 ∧ x1 ≠ qb := by have : x1 < w.heap.size := l1; omega
              have hjj : (0 : Int) ≤ (j : Int) := by omega
              have hjn : (j : Int) < (os.length : Int) := by omega
              have r1x := r1.below bX
              have qx := hq.below bX
              clear d1 d2 d3 l1
              go_wp2_with fail
              go_region_held3 (fun q => q.cell? ⟨sb, 2, none⟩ = some (.pointer (some ⟨rb2, 0, none⟩)) ∧ q.cell? ⟨x1, o1 + j * 3, none⟩ = some (.int .i64 kd) ∧ q.cell? ⟨x1, o1 + j * 3 + 1, none⟩ = some (.int .u64 ms) ∧ q.cell? ⟨x1, o1 + j * 3 + 2, none⟩ = some (.int .i64 sz)) (first | exact hS0 | exact keepT hS0 (t2'.trans ((Two.of_below (qt2.below _)).trans (Two.of_below (qt3.below _)))) n0 n1 rfl rfl | exact keepT hS0 (t2'.trans (Two.of_below (qt2.below _))) n0 n1 rfl rfl | exact keepT hS0 t2' n0 n1 rfl rfl)
                (first
                  | (go_at_call 29; refine (one_none _ rb2 qb kp kd ms sz er r1x qx om oz1 oz2).mono ?_; rintro e u1 ⟨rfl, er', r2', q2', t2'⟩)
                  | (go_at_call 33; refine (left_none _ rb2 er' r2').mono ?_; rintro e u2 ⟨rfl, qt2⟩)
                  | (go_at_call 32; refine (at_none _ rb2 er' (r2'.below (qt2.below _))).mono ?_; rintro e u3 ⟨rfl, qt3⟩))
              have T := t2'.trans ((Two.of_below (a := rb2) (b := qb) (qt2.below _)).trans (Two.of_below (qt3.below _)))
              have r3' := (r2'.below (qt2.below _)).below (qt3.below _)
              have q3' := (q2'.below (qt2.below _)).below (qt3.below _)
              have hb3' := Two.below hb.drew T (by omega) hq0
              have z0 := T.cell (p := ⟨sb, 0, none⟩) s0 n0.1 n0.2
              have z1 := T.cell (p := ⟨sb, 1, none⟩) s1 n0.1 n0.2
              have z2 := T.cell (p := ⟨sb, 2, none⟩) s2 n0.1 n0.2
              clear hS0 s0 s1 s2 T bX r1x qx r2' q2' t2' qt2 qt3 r1 hq
              go_wp2
              go_roundw
              case rel => exact ⟨j + 1, er', by omega, rfl, by go_num, hb3', z0, z1, z2, r3', q3'⟩
              case measure => simp [intOf]; omega
            · go_wp2_with fail
              go_roundw
              case rel => exact ⟨3, by omega, by go_num, hb, s0, s1, s2, fun h => by omega, fun h => by omega⟩
              case measure => simp [intOf]
        · obtain rfl : k = 3 := by omega
          go_wp2
          go_ret
          exact ⟨rfl, hb⟩
#print axioms none_walk
end Go.Proofs.Ytgccfpmjcpoddaa
