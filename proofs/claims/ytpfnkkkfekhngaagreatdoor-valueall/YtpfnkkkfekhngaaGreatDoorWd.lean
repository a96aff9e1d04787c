/-
  Lists of things, read; over what reading a thing does.
-/
import Derived.Test.YtpfnkkkfekhngaaGreatDoorWc
import Derived.Deep.AppendLies
namespace Go.Proofs.YtpfnkkkfekhngaaGreatDoor.Va
open Go.RowKit Go.Proofs.YtpfnkkkfekhngaaGreatDoor.Rl
set_option maxRecDepth 100000

def atOf (rb : Nat) (w : World) : Nat := match w.cell? ⟨rb, 1, none⟩ with
  | some (.int _ x) => x.toNat
  | _ => 0
theorem atOf_is {w : World} {rb : Nat} {bv : Value} {q : Nat} {e L : Int} (h : Rst w rb bv q e L) : atOf rb w = q := by
  unfold atOf
  rw [h.cells.2.1]
  simp
/-- What reading a thing owes, within so much fuel. -/
def DoesR (f : Nat) : Prop := ∀ (w0 w : World) (rb : Nat) (ao : Option Addr) (B : List UInt8) (c p left d : Nat), Src w0 w rb ao B → B.length ≤ c → c ≤ maxLen → Rst w rb (.slice ao B.length c) p 0 left → p ≤ B.length → left ≤ 65536 → d ≤ 8 → Mx w → 1 < rb → 2 * (B.length - p) + 1 ≤ f →
  Calls Tryz.prog 40 #[.pointer (some ⟨rb, 0, none⟩), .int .i64 (d : Int)] w (RdRes rb (.slice ao B.length c) w (rdV f d left p (B.drop p)))
/-- Where the reading of a list stands. -/
structure LstAt (w wr : World) (rb : Nat) (ao : Option Addr) (B : List UInt8) (c left d F : Nat) (R : Res) (v8 : Value) (q lf g : Nat) (acc : List Val) (tvs : List Value) : Prop where
  res : R = rdL g d lf q (B.drop q) acc
  fuel : g ≤ F
  room : 2 * (B.length - q) + 2 ≤ g
  le : q ≤ B.length
  st : Rst wr rb (.slice ao B.length c) q 0 lf
  but : But rb w wr
  own : wr.ownsRow w.heap.size 56 1 v8 tvs.length tvs
  len : tvs.length = acc.length
  sum : acc.length + lf ≤ left
  each : ∀ j (h : j < tvs.length) (h' : j < acc.length), IsT (fun b => w.heap.size ≤ b ∧ v8.ownBlock ≠ some b) wr tvs[j] acc[j]
theorem owns_but {w w' : World} {base rb e k : Nat} {v : Value} {n : Nat} {xs : List Value} (h : w.ownsRow base e k v n xs) (hb : But rb w w') (hr : rb < base) : w'.ownsRow base e k v n xs := by
  obtain ⟨h1, h2⟩ := h
  rcases h2 with h | ⟨g, cap, cur, a1, a2, a3, a4⟩
  · exact ⟨h1, Or.inl h⟩
  · exact ⟨h1, Or.inr ⟨g, cap, cur, a1, a2, (hb.block g (heap_lt a3) (by omega)).trans a3, a4⟩⟩
theorem own_lt {w : World} {base e k : Nat} {v : Value} {n : Nat} {xs : List Value} (h : w.ownsRow base e k v n xs) {b : Nat} (hb : v.ownBlock = some b) : base ≤ b ∧ b < w.heap.size := by
  obtain ⟨h1, h2⟩ := h
  rcases h2 with ⟨rfl, _⟩ | ⟨g, cap, cur, rfl, a2, a3, a4⟩
  · simp [Value.ownBlock] at hb
  · simp only [Value.ownBlock, Option.some.injEq] at hb
    subst hb
    exact ⟨a2, heap_lt a3⟩
theorem LstAt.move {w wr w' : World} {rb : Nat} {ao : Option Addr} {B : List UInt8} {c left d F : Nat} {R : Res} {v8 : Value} {q lf g : Nat} {acc : List Val} {tvs : List Value} (h : LstAt w wr rb ao B c left d F R v8 q lf g acc tvs) (hrb : rb < w.heap.size) (hb : But rb wr w') :
    w'.ownsRow w.heap.size 56 1 v8 tvs.length tvs ∧ ∀ j (h : j < tvs.length) (h' : j < acc.length), IsT (fun b => w.heap.size ≤ b ∧ v8.ownBlock ≠ some b) w' tvs[j] acc[j] :=
  ⟨owns_but h.own hb hrb, fun j h1 h2 => (h.each j h1 h2).but hb (by omega)⟩
/-- One more. -/
theorem LstAt.more {w wr w1 w2 : World} {rb : Nat} {ao : Option Addr} {B : List UInt8} {c left d F : Nat} {R : Res} {v8 : Value} {q lf g : Nat} {acc : List Val} {tvs : List Value} (h : LstAt w wr rb ao B c left d F R v8 q lf (g + 1) acc tvs) (hrb : rb < w.heap.size) (hb : But rb wr w1)
    {tv : Value} {x : Val} {q' lf' : Nat} {s : List UInt8} (hx : rdV g d lf q (B.drop q) = .ok x q' lf' s) (hd : d ≤ 8) (hne : ∀ k r, B.drop q = k :: r → k ≠ 0) (ht : IsT (fun b => wr.heap.size ≤ b) w1 tv x) (hr : Rst w1 rb (.slice ao B.length c) q' 0 lf')
    {T : TypeId} {gb cap : Nat} (hown : w2.ownsRow w.heap.size 56 1 (.slice (some ⟨gb, 0, none⟩) (tvs.length + 1) cap) (tvs.length + 1) (tvs ++ [tv])) (hgr : (w1.alloc (.cells #[tv] T)).grownBy w2 v8.ownBlock) (hat : v8.ownBlock = some gb ∨ gb = w1.heap.size + 1) :
    LstAt w w2 rb ao B c left d F R (.slice (some ⟨gb, 0, none⟩) (tvs.length + 1) cap) q' lf' g (acc ++ [x]) (tvs ++ [tv]) ∧ q < q' := by
  obtain ⟨s1, s2, s3, s4, s5, s6⟩ := read_sound g d lf q (B.drop q) x q' lf' s hd hx
  have hkp := key_pos x
  have hlen := congrArg List.length s4
  rw [List.length_drop, List.length_append] at hlen
  have hle := h.le
  have hroom := h.room
  have hsp := szV_pos x
  have hbs := hb.size
  have hstep : R = rdL g d lf' q' (B.drop q') (acc ++ [x]) := by
    rw [h.res]
    cases hdq : B.drop q with
    | nil => rw [hdq] at hx; cases g <;> simp [rdV] at hx
    | cons k r =>
      rw [rdL_cons, if_neg (hne k r hdq), ← hdq, hx]
      simp only
      congr 1
      have h1 : B.drop q' = (B.drop q).drop (keyV x).length := by rw [List.drop_drop, s5]
      rw [h1, s4, List.drop_left]
  have blk : ∀ b, b < w1.heap.size → v8.ownBlock ≠ some b → w2.heap[b]? = w1.heap[b]? := fun b hb1 hb2 => by
    rw [hgr.block b (by simp; omega) (fun e => hb2 e.symm)]
    exact Below.heap_alloc _ _ _ hb1
  have hob : ∀ b, v8.ownBlock = some b → w.heap.size ≤ b ∧ b < wr.heap.size := fun b e => own_lt h.own e
  have hrl := hr.lt
  refine ⟨⟨hstep, by have := h.fuel; omega, by omega, by omega, hr.same (blk rb hrl (fun e => by have := (hob rb e).1; omega)), ?_, by rw [List.length_append]; exact hown, by simp [h.len], by have := h.sum; simp; omega, ?_⟩, by omega⟩
  · have h1 := h.but.trans hb
    have hgs := hgr.size
    simp at hgs
    refine ⟨?_, ?_, ?_, by have := h1.size; omega, fun k hk hkm => ?_⟩
    · rw [hgr.os]; exact h1.os
    · rw [hgr.tape]; exact h1.tape
    · rw [hgr.output]; exact h1.output
    · have := h1.size
      rw [blk k (by omega) (fun e => by have := (hob k e).1; omega)]
      exact h1.block k hk hkm
  · intro j hj hj'
    have hgb : ∀ b, b < w1.heap.size → v8.ownBlock ≠ some b → gb ≠ b := fun b h1 h2 e => by
      rcases hat with h3 | h3
      · exact h2 (e ▸ h3)
      · omega
    by_cases hjl : j < tvs.length
    · rw [List.getElem_append_left hjl, List.getElem_append_left (by rw [← h.len]; exact hjl)]
      have h1 := (h.each j hjl (by rw [← h.len]; exact hjl)).but hb (show ¬ (w.heap.size ≤ rb ∧ v8.ownBlock ≠ some rb) by omega)
      exact IsT.keep (fun b hS hlt => ⟨blk b hlt hS.2, hS.1, by simp only [Value.ownBlock, ne_eq, Option.some.injEq]; exact hgb b hlt hS.2⟩) _ _ h1
    · have e1 : j = tvs.length := by simp at hj; omega
      subst e1
      have e2 : (tvs ++ [tv])[tvs.length] = tv := by simp
      have e3 : (acc ++ [x])[tvs.length]'hj' = x := by simp [h.len]
      rw [e2, e3]
      refine IsT.keep (fun b hS hlt => ?_) _ _ ht
      have hS' : wr.heap.size ≤ b := hS
      have hnb : v8.ownBlock ≠ some b := fun e => by have := (hob b e).2; omega
      exact ⟨blk b hlt hnb, by have := h.but.size; omega, by simp only [Value.ownBlock, ne_eq, Option.some.injEq]; exact hgb b hlt hnb⟩
end Go.Proofs.YtpfnkkkfekhngaaGreatDoor.Va
