/-
  New; what begun's calls come to, by data.
-/
import Derived.Test.YtdelknejmapeaaaDlK
namespace Go.Proofs.Ytdelknejmapeaaa.Dk
open Go.RowKit Go.Maps Go.Sort Go.Shelf Go.Proofs.Ytdelknejmapeaaa.Nm

def noF : Nat → Fl := fun _ => ⟨[], [], 0⟩
def DS.new (most : Int) : DS := ⟨most, true, [], [], [], 0, 0, 0, 0, 0, 0, 0, 0, 0, noF⟩
theorem new_dsk (w : World) (most : Int) (h0 : 0 ≤ most) (h1 : most ≤ 16777216) :
    Calls Try.prog 26 #[.int .i64 most] w fun e w' => ∃ b O, e = .returned (.pointer (some ⟨b, 0, none⟩)) ∧ DskE w' b (DS.new most) O ∧ Below w.heap.size w w' ∧ (∀ k, O k → w.heap.size ≤ k) := by
  refine (new_any w most (by omega) (by omega)).mono ?_
  rintro e w' ⟨hB, ⟨hn, _⟩ | ⟨_, _, rfl, hb, m1, m2⟩⟩
  · exact absurd ⟨h0, h1⟩ hn
  · refine ⟨w.heap.size + 2, fun k => w.heap.size ≤ k ∧ k < w'.heap.size, rfl, ⟨w.heap.size, w.heap.size + 1, .slice none 0 0, none, fun _ => undef, fun _ => undef, ⟨?_, ⟨fun p hp => by simp [DS.ps, DS.new] at hp, fun p hp => by simp [DS.ps, DS.new] at hp, fun p hp => by simp [DS.ps, DS.new] at hp⟩, ?_, fun p hp => by simp [DS.ps, DS.new] at hp, fun k hk => hk.2, ?_⟩⟩, hB, fun k hk => hk.1⟩
    · exact ⟨hb, rfl, rfl, m1, m2, by omega, Pd.nil _, (fun _ e => by cases e), fun _ => rfl, rfl, trivial, (by simp [DS.new]), ⟨Int.le_refl _, Int.le_refl _, Int.le_refl _, Int.le_refl _, Int.le_refl _, Int.le_refl _, Int.le_refl _, Int.le_refl _⟩, ⟨Int.le_refl _, Int.le_refl _, Int.le_refl _, Int.le_refl _, Int.le_refl _, Int.le_refl _, Int.le_refl _⟩⟩
    · have z := heap_lt hb
      intro k hk
      rcases hk with c | c | c | c | c
      · rw [c]; exact ⟨by omega, z⟩
      · simp only [DS.dc, Option.some.injEq] at c; subst c; exact ⟨by omega, by omega⟩
      · simp only [DS.dc, Option.some.injEq] at c; subst c; exact ⟨by omega, by omega⟩
      · simp [DS.dc, Value.ownBlock] at c
      · simp [DS.dc] at c
    · exact ⟨⟨h0, h1⟩, fun p hp => by simp [DS.ps, DS.new] at hp, Int.le_refl _, (fun e he => by simp [DS.new] at he), ⟨Int.le_refl _, Int.le_refl _⟩⟩
#print axioms new_dsk
theorem new_no (w : World) (most : Int) (g0 : -9223372036854775808 ≤ most) (g1 : most ≤ 9223372036854775807) (h : ¬ (0 ≤ most ∧ most ≤ 16777216)) : Calls Try.prog 26 #[.int .i64 most] w fun e w' => e = .returned (.pointer none) ∧ w' = w := by
  refine (new_any w most g0 g1).mono ?_
  rintro e w' ⟨_, ⟨_, rfl, rfl⟩ | ⟨a, b, _⟩⟩
  · exact ⟨rfl, rfl⟩
  · exact absurd ⟨a, b⟩ h
def sA : ByteArray := ⟨#[97]⟩
theorem upd_noF (p : Nat) : upd noF p ⟨[], [], 0⟩ = noF := by
  funext q
  unfold upd
  split <;> rfl
def bg1 (p : Nat) : DS := ⟨100, true, [], [.cr sA p], [], 1, 0, 0, 0, 0, 0, 0, 1, 0, noF⟩
def bg2 (p : Nat) : DS := ⟨100, true, [([97], p)], [], [], 1, 0, 0, 0, 0, 0, 1, 2, 0, noF⟩
def bg3 (p : Nat) : DS := ⟨100, true, [([97], p)], [], [], 1, 1, 0, 0, 0, 0, 1, 3, 3, upd noF p ⟨[97, 98, 99], [], 0⟩⟩
def bg4 (p : Nat) : DS := ⟨100, true, [([97], p)], [], [], 1, 1, 0, 0, 0, 0, 1, 3, 3, upd (upd noF p ⟨[97, 98, 99], [], 0⟩) p ⟨[97, 120, 121], [97, 120, 121], 0⟩⟩
theorem bg_create (p : Nat) : (DS.new 100).create sA p = (bg1 p, 0) := by
  have e : (DS.new 100).create sA p = (⟨100, true, [], [.cr sA p], [], 1, 0, 0, 0, 0, 0, 0, 1, 0, upd noF p ⟨[], [], 0⟩⟩, 0) := by kernel_rfl
  rw [e, upd_noF]
  rfl
theorem bg_sync (p : Nat) : (bg1 p).syncDir = (bg2 p, 0) := by kernel_rfl
theorem bg_append (p : Nat) : (bg2 p).append sA [97, 98, 99] = (bg3 p, 3, 0) := by kernel_rfl
theorem nms_one (n : List UInt8) (p : Nat) : nms [(n, p)] = [n] := by simp [nms]
theorem bg_front (p : Nat) : (bg3 p).front 0 = [([97], p)] := by kernel_rfl
theorem bg_tails (p : Nat) : (bg3 p).tails 0 = [([97], 3)] := by
  unfold DS.tails
  rw [bg_front, nms_one]
  have : tlOf (bg3 p).F [([97], p)] [97] = 3 := by
    have e : tlOf (bg3 p).F [([97], p)] [97] = ((bg3 p).F p).by_.length - ((bg3 p).F p).la.length := by kernel_rfl
    rw [e]
    show (upd noF p ⟨[97, 98, 99], [], 0⟩ p).by_.length - (upd noF p ⟨[97, 98, 99], [], 0⟩ p).la.length = 3
    rw [upd_same]
    rfl
  simp [this]
theorem bg_crash (p : Nat) : (bg3 p).crash 0 [(1, [120, 121, 122])] = bg4 p := by
  unfold DS.crash
  rw [bg_front, nms_one]
  have : crashL [([97], p)] [[97]] [(1, [120, 121, 122])] (bg3 p).F = upd (upd noF p ⟨[97, 98, 99], [], 0⟩) p ⟨[97, 120, 121], [97, 120, 121], 0⟩ := by
    have e : crashL [([97], p)] [[97]] [(1, [120, 121, 122])] (bg3 p).F = upd (upd noF p ⟨[97, 98, 99], [], 0⟩) p (crFl (upd noF p ⟨[97, 98, 99], [], 0⟩ p) (1, [120, 121, 122])) := by kernel_rfl
    rw [e, upd_same]
    rfl
  rw [this]
  rfl
theorem bg_read (p : Nat) : (bg4 p).read sA 0 3 = ([97, 120, 121], 0) := by
  have e : (bg4 p).find sA = (some p, 0) := by kernel_rfl
  unfold DS.read
  rw [e]
  have : (bg4 p).F p = ⟨[97, 120, 121], [97, 120, 121], 0⟩ := upd_same _ _ _
  simp [this]
end Go.Proofs.Ytdelknejmapeaaa.Dk
