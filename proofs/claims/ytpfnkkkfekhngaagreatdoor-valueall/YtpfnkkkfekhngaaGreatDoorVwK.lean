/-
  The walk of ValueKeys, over what May, Compare and Key answer.
-/
import Derived.Test.YtpfnkkkfekhngaaGreatDoorVb
namespace Go.Proofs.YtpfnkkkfekhngaaGreatDoor.Va
open Go.RowKit Go.Proofs.YtpfnkkkfekhngaaGreatDoor.Rl
set_option maxRecDepth 100000

def keyO (x : Val) : List UInt8 := if mayV x then keyV x else []
def errO (x : Val) : Int := if mayV x then 0 else 1
/-- What Key owes. -/
def DoesKey (f : Nat) : Prop := ∀ (w : World) (v : Value) (x : Val), IsV w v x → wtV x → Calls Tryz.prog f #[v] w fun e w' => ∃ kv, e = .returned (.tuple #[kv, .int .i64 (errO x)]) ∧ Sl w' kv (keyO x) ∧ Below w.heap.size w w'
def Two (w q : World) (xk xn : Int) (xr : Nat) (xt : List UInt8) (xo : Option Addr) (xl : List Val) (xc : Nat) (yk yn : Int) (yr : Nat) (yt : List UInt8) (yo : Option Addr) (yl : List Val) (yc : Nat) : Prop := Below w.heap.size w q ∧ q.cell? ⟨w.heap.size, 0, none⟩ = some (.int .i64 xk) ∧ q.cell? ⟨w.heap.size, 1, none⟩ = some (.int .i64 xn) ∧ q.cell? ⟨w.heap.size, 2, none⟩ = some (.float .f64 xr) ∧ q.cell? ⟨w.heap.size, 3, none⟩ = some (.string (bstr xt)) ∧ q.cell? ⟨w.heap.size, 4, none⟩ = some (.slice xo xl.length xc) ∧ q.cell? ⟨w.heap.size + 1, 0, none⟩ = some (.int .i64 yk) ∧ q.cell? ⟨w.heap.size + 1, 1, none⟩ = some (.int .i64 yn) ∧ q.cell? ⟨w.heap.size + 1, 2, none⟩ = some (.float .f64 yr) ∧ q.cell? ⟨w.heap.size + 1, 3, none⟩ = some (.string (bstr yt)) ∧ q.cell? ⟨w.heap.size + 1, 4, none⟩ = some (.slice yo yl.length yc)
theorem Two.below {w q q' : World} {xk xn : Int} {xr : Nat} {xt : List UInt8} {xo : Option Addr} {xl : List Val} {xc : Nat} {yk yn : Int} {yr : Nat} {yt : List UInt8} {yo : Option Addr} {yl : List Val} {yc : Nat} (h : Two w q xk xn xr xt xo xl xc yk yn yr yt yo yl yc) (hb : Below q.heap.size q q') : Two w q' xk xn xr xt xo xl xc yk yn yr yt yo yl yc := by
  unfold Two at *
  obtain ⟨h0, c0, c1, c2, c3, c4, c5, c6, c7, c8, c9⟩ := h
  exact ⟨h0.trans (hb.mono h0.size), (hb.cell (lt_of_cell c0)).trans c0, (hb.cell (lt_of_cell c1)).trans c1, (hb.cell (lt_of_cell c2)).trans c2, (hb.cell (lt_of_cell c3)).trans c3, (hb.cell (lt_of_cell c4)).trans c4, (hb.cell (lt_of_cell c5)).trans c5, (hb.cell (lt_of_cell c6)).trans c6, (hb.cell (lt_of_cell c7)).trans c7, (hb.cell (lt_of_cell c8)).trans c8, (hb.cell (lt_of_cell c9)).trans c9⟩
theorem may_ok {x : Val} (h : mayV x = true) : okV 0 x = true := by
  unfold mayV at h
  rw [Bool.and_eq_true] at h
  exact h.1
/-- Where two keys part, and what that says. -/
theorem keys_part {x y : Val} (hx : wtV x) (hy : wtV y) (mx : mayV x = true) (my : mayV y = true) :
    ∃ m c, compV x y = c ∧ m ≤ (keyV x).length ∧ m ≤ (keyV y).length ∧ (keyV x).take m = (keyV y).take m ∧
      ((c = 0 ∧ m = (keyV x).length ∧ m = (keyV y).length) ∨ ∃ (h1 : m < (keyV x).length) (h2 : m < (keyV y).length), (c = -1 ∧ (keyV x)[m].toNat < (keyV y)[m].toNat) ∨ (c = 1 ∧ (keyV y)[m].toNat < (keyV x)[m].toNat)) := by
  have hg := goes_val x y 0 0 hx hy (may_ok mx) (may_ok my)
  have hr := (cmpV_two x y).1
  have hc : compV x y = cmpV x y := by unfold compV; rw [mx, my]; rfl
  rcases hr with h | h | h
  · obtain ⟨m, h1, h2, h3, h4⟩ := (hg.lt h).place
    exact ⟨m, -1, hc.trans h, by omega, by omega, h3, Or.inr ⟨h1, h2, Or.inl ⟨rfl, h4⟩⟩⟩
  · have e := hg.eq h
    exact ⟨(keyV x).length, 0, hc.trans h, Nat.le_refl _, by rw [e]; exact Nat.le_refl _, by rw [e], Or.inl ⟨rfl, rfl, by rw [e]⟩⟩
  · obtain ⟨m, h1, h2, h3, h4⟩ := (hg.gt h).place
    exact ⟨m, 1, hc.trans h, by omega, by omega, h3.symm, Or.inr ⟨h2, h1, Or.inr ⟨rfl, h4⟩⟩⟩
end Go.Proofs.YtpfnkkkfekhngaaGreatDoor.Va
