/-
  Package name, and the document's: which bytes are letters or digits, which texts may be names.
-/
import Derived.Test.YtjehpijjneghpaaGreatM02
import Derived.Test.YtjehpijjneghpaaGreatProg
import Derived.Test.YtjehpijjneghpaaGreatM01
import Derived.BigQuiet
import Derived.WalkSpells
namespace Go.Proofs.YtjehpijjneghpaaGreat.Nm
open Go.RowKit
set_option maxRecDepth 100000
set_option linter.unusedVariables false
theorem hide {p : Prop} (h : p) : Hid p := h
theorem plain_any (c : UInt8) (w : World) : Calls Tryz.prog 117 #[.int .u8 (c.toNat : Int)] w fun e w' => e = .returned (.bool (plc c)) ∧ w' = w := by
  by_cases h1 : 97 ≤ (c.toNat : Int) <;> by_cases h2 : (c.toNat : Int) ≤ 122 <;> by_cases h3 : 48 ≤ (c.toNat : Int) <;> by_cases h4 : (c.toNat : Int) ≤ 57
  all_goals
    go_enter Tryz.func117, Tryz.ntmps117
    go_wp2
    go_ret
    exact ⟨ret_bool (by simp [plc, h1, h2, h3, h4]), rfl⟩
theorem alnum_any (c : UInt8) (w : World) : Calls Tryz.prog 124 #[.int .u8 (c.toNat : Int)] w fun e w' => e = .returned (.bool (plc c)) ∧ w' = w := by
  by_cases h1 : 97 ≤ (c.toNat : Int) <;> by_cases h2 : (c.toNat : Int) ≤ 122 <;> by_cases h3 : 48 ≤ (c.toNat : Int) <;> by_cases h4 : (c.toNat : Int) ≤ 57
  all_goals
    go_enter Tryz.func124, Tryz.ntmps124
    go_wp2
    go_ret
    exact ⟨ret_bool (by simp [plc, h1, h2, h3, h4]), rfl⟩
theorem all_snoc (s : ByteArray) (k : Nat) (h : k < s.size) (ha : (s.data.toList.take k).all okc = true) (hc : okc s[k] = true) : (s.data.toList.take (k + 1)).all okc = true := by
  rw [List.take_succ_eq_append_getElem (by simpa using h), List.all_append, ha]
  simp only [Bool.true_and, List.all_cons, List.all_nil, Bool.and_true]
  exact hc
theorem all_not (s : ByteArray) (k : Nat) (h : k < s.size) (hc : okc s[k] = false) : may s.data.toList = false := by
  have : s.data.toList.all okc = false := by
    rw [List.all_eq_false]
    exact ⟨s[k], by simp [ByteArray.getElem_eq_getElem_data], by simp [hc]⟩
  unfold may
  rw [this]
  simp
theorem get0 (s : ByteArray) (h : 0 < s.size) : s.data.toList.getD 0 0 = s[0] := by
  rw [List.getD_eq_getElem?_getD, List.getElem?_eq_getElem (by simpa using h)]
  rfl
theorem getE (s : ByteArray) (h : 0 < s.size) : s.data.toList.getD (s.data.toList.length - 1) 0 = s[s.size - 1] := by
  rw [List.getD_eq_getElem?_getD, List.getElem?_eq_getElem (by simp; omega)]
  rfl
theorem may_all (s : ByteArray) (h1 : 0 < s.size) (h2 : s.size ≤ 64) (ha : s.data.toList.all okc = true) : may s.data.toList = (plc s[0] && plc (s[s.size - 1])) := by
  unfold may
  rw [ha, get0 s h1, getE s h1]
  have e : s.data.toList.length = s.size := by simp
  rw [e]
  simp [show 1 ≤ s.size by omega, h2]
theorem may_size (s : ByteArray) (h : s.size < 1 ∨ 64 < s.size) : may s.data.toList = false := by
  unfold may
  have e : s.data.toList.length = s.size := by simp
  rw [e]
  rcases h with h | h
  · simp [show ¬ 1 ≤ s.size by omega]
  · simp [show ¬ s.size ≤ 64 by omega]
set_option maxHeartbeats 2000000 in
theorem may_any (s : ByteArray) (w : World) (hs : s.size ≤ maxLen) : Calls Tryz.prog 104 #[.string s] w fun e w' => e = .returned (.bool (may s.data.toList)) ∧ w' = w := by
  unfold maxLen at hs
  by_cases h0 : s.size < 1
  · have i0 : (s.size : Int) < 1 := by omega
    go_enter Tryz.func104, Tryz.ntmps104
    go_wp2
    go_ret
    exact ⟨ret_bool (may_size s (.inl h0)).symm, rfl⟩
  by_cases h1 : 64 < s.size
  · have i0 : ¬ (s.size : Int) < 1 := by omega
    have i1 : (s.size : Int) > 64 := by omega
    go_enter Tryz.func104, Tryz.ntmps104
    go_wp2
    go_ret
    exact ⟨ret_bool (may_size s (.inr h1)).symm, rfl⟩
  have i0 : ¬ (s.size : Int) < 1 := by omega
  have i1 : ¬ (s.size : Int) > 64 := by omega
  go_enter Tryz.func104, Tryz.ntmps104
  go_wp2
  go_loop [14] (fun i => ∃ k : Nat, k ≤ s.size ∧ i = .int .i64 k ∧ Hid ((s.data.toList.take k).all okc = true)) (fun i => s.size - (intOf i).toNat)
  case atStart => exact ⟨0, Nat.zero_le _, rfl, rfl⟩
  case round =>
    obtain ⟨k, hk, rfl, ha⟩ := hrel
    by_cases hlt : k < s.size
    · by_cases hp : plc s[k] = true
      · go_wp2_with (go_at_call 117; refine (plain_any _ _).mono ?_; rintro e w' ⟨rfl, rfl⟩)
        go_round
        case rel => exact ⟨k + 1, by omega, by go_num, all_snoc s k hlt ha.out (by simp [okc, hp])⟩
        case measure => simp [intOf]; omega
      · replace hp : plc s[k] = false := by simpa using hp
        by_cases hd1 : (s[k].toNat : Int) = 46
        · have hd1' : ((s[k].toNat : Int) != 46) = false := by simp [hd1]
          have hok : Hid (okc s[k] = true) := by show _ = _; simp [okc, hd1]
          clear hd1
          go_wp2_with (go_at_call 117; refine (plain_any _ _).mono ?_; rintro e w' ⟨rfl, rfl⟩)
          go_round
          case rel => exact ⟨k + 1, by omega, by go_num, all_snoc s k hlt ha.out hok.out⟩
          case measure => simp [intOf]; omega
        · have hd1' : ((s[k].toNat : Int) != 46) = true := by simpa using hd1
          by_cases hd2 : (s[k].toNat : Int) = 45
          · have hd2' : ((s[k].toNat : Int) != 45) = false := by simp [hd2]
            have hok : Hid (okc s[k] = true) := by show _ = _; simp [okc, hd2]
            clear hd2 hd1
            go_wp2_with (go_at_call 117; refine (plain_any _ _).mono ?_; rintro e w' ⟨rfl, rfl⟩)
            go_round
            case rel => exact ⟨k + 1, by omega, by go_num, all_snoc s k hlt ha.out hok.out⟩
            case measure => simp [intOf]; omega
          · have hd2' : ((s[k].toNat : Int) != 45) = true := by simpa using hd2
            have hok : Hid (okc s[k] = false) := by show _ = _; simp [okc, hd2, hd1, hp]
            clear hd2 hd1
            go_wp2_with (go_at_call 117; refine (plain_any _ _).mono ?_; rintro e w' ⟨rfl, rfl⟩)
            go_ret
            exact ⟨ret_bool (all_not s k hlt hok.out).symm, rfl⟩
    · obtain rfl : k = s.size := by omega
      have hm := may_all s (by omega) (by omega) (by have := ha.out; rwa [List.take_of_length_le (by simp)] at this)
      have z0 : 0 < s.size := by omega
      cases hp0 : plc s[0] with
      | false =>
        have hm' : Hid (may s.data.toList = false) := by show _ = _; rw [hm, hp0]; rfl
        clear hm
        go_wp2_with (go_at_call 117; refine (plain_any _ _).mono ?_; rintro e w' ⟨rfl, rfl⟩)
        go_ret
        exact ⟨ret_bool (by first | exact hm'.out.symm | (rw [hm'.out])), rfl⟩
      | true =>
        have hm' : Hid (may s.data.toList = plc (s[s.size - 1])) := by show _ = _; rw [hm, hp0]; rfl
        clear hm
        go_wp2_with (go_at_call 117; refine (plain_any _ _).mono ?_; rintro e w' ⟨rfl, rfl⟩)
        go_ret
        exact ⟨ret_bool (by first | exact hm'.out.symm | (rw [hm'.out]; simp)), rfl⟩
set_option maxHeartbeats 2000000 in
theorem refMay_any (s : ByteArray) (w : World) (hs : s.size ≤ maxLen) : Calls Tryz.prog 116 #[.string s] w fun e w' => e = .returned (.bool (may s.data.toList)) ∧ w' = w := by
  unfold maxLen at hs
  by_cases h0 : s.size < 1
  · have i0 : (s.size : Int) < 1 := by omega
    go_enter Tryz.func116, Tryz.ntmps116
    go_wp2
    go_ret
    exact ⟨ret_bool (may_size s (.inl h0)).symm, rfl⟩
  by_cases h1 : 64 < s.size
  · have i0 : ¬ (s.size : Int) < 1 := by omega
    have i1 : (s.size : Int) > 64 := by omega
    go_enter Tryz.func116, Tryz.ntmps116
    go_wp2
    go_ret
    exact ⟨ret_bool (may_size s (.inr h1)).symm, rfl⟩
  have i0 : ¬ (s.size : Int) < 1 := by omega
  have i1 : ¬ (s.size : Int) > 64 := by omega
  have z0 : 0 < s.size := by omega
  have hfl : (plc s[0] && plc (s[s.size - 1])) = false → may s.data.toList = false := fun h => by
    unfold may
    rw [get0 s z0, getE s z0, Bool.and_assoc, h, Bool.and_false]
  cases hp0 : plc s[0] with
  | false =>
    have hm' : Hid (may s.data.toList = false) := hfl (by rw [hp0]; rfl)
    clear hfl
    go_enter Tryz.func116, Tryz.ntmps116
    go_wp2_with (go_at_call 124; refine (alnum_any _ _).mono ?_; rintro e w' ⟨rfl, rfl⟩)
    go_ret
    exact ⟨ret_bool hm'.out.symm, rfl⟩
  | true =>
    have hE : s[((s.size : Int) - 1).toNat]'(by omega) = s[s.size - 1] := by congr 1; omega
    cases hp1 : plc (s[s.size - 1]) with
    | false =>
      have hm' : Hid (may s.data.toList = false) := hfl (by rw [hp1]; simp)
      clear hfl
      go_enter Tryz.func116, Tryz.ntmps116
      go_wp2_with (go_at_call 124; refine (alnum_any _ _).mono ?_; rintro e w' ⟨rfl, rfl⟩)
      go_ret
      exact ⟨ret_bool hm'.out.symm, rfl⟩
    | true =>
      clear hfl
      go_enter Tryz.func116, Tryz.ntmps116
      go_wp2_with (go_at_call 124; refine (alnum_any _ _).mono ?_; rintro e w' ⟨rfl, rfl⟩)
      have hm2 : Hid (s.data.toList.all okc = true → may s.data.toList = true) := fun h => by rw [may_all s z0 (by omega) h, hp0, hp1]; rfl
      go_loop [3] (fun i => ∃ k : Nat, k ≤ s.size ∧ i = .int .i64 k ∧ Hid ((s.data.toList.take k).all okc = true)) (fun i => s.size - (intOf i).toNat)
      case atStart => exact ⟨0, Nat.zero_le _, rfl, rfl⟩
      case round =>
        obtain ⟨k, hk, rfl, ha⟩ := hrel
        clear hE hp0 hp1
        by_cases hlt : k < s.size
        · by_cases hp : plc s[k] = true
          · go_wp2_with (go_at_call 124; refine (alnum_any _ _).mono ?_; rintro e w' ⟨rfl, rfl⟩)
            go_round
            case rel => exact ⟨k + 1, by omega, by go_num, all_snoc s k hlt ha.out (by simp [okc, hp])⟩
            case measure => simp [intOf]; omega
          · replace hp : plc s[k] = false := by simpa using hp
            by_cases hd1 : (s[k].toNat : Int) = 46
            · have hd1' : ((s[k].toNat : Int) != 46) = false := by simp [hd1]
              have hok : Hid (okc s[k] = true) := by show _ = _; simp [okc, hd1]
              clear hd1
              go_wp2_with (go_at_call 124; refine (alnum_any _ _).mono ?_; rintro e w' ⟨rfl, rfl⟩)
              go_round
              case rel => exact ⟨k + 1, by omega, by go_num, all_snoc s k hlt ha.out hok.out⟩
              case measure => simp [intOf]; omega
            · have hd1' : ((s[k].toNat : Int) != 46) = true := by simpa using hd1
              by_cases hd2 : (s[k].toNat : Int) = 45
              · have hd2' : ((s[k].toNat : Int) != 45) = false := by simp [hd2]
                have hok : Hid (okc s[k] = true) := by show _ = _; simp [okc, hd2]
                clear hd2 hd1
                go_wp2_with (go_at_call 124; refine (alnum_any _ _).mono ?_; rintro e w' ⟨rfl, rfl⟩)
                go_round
                case rel => exact ⟨k + 1, by omega, by go_num, all_snoc s k hlt ha.out hok.out⟩
                case measure => simp [intOf]; omega
              · have hd2' : ((s[k].toNat : Int) != 45) = true := by simpa using hd2
                have hok : Hid (okc s[k] = false) := by show _ = _; simp [okc, hd2, hd1, hp]
                clear hd2 hd1
                go_wp2_with (go_at_call 124; refine (alnum_any _ _).mono ?_; rintro e w' ⟨rfl, rfl⟩)
                go_ret
                exact ⟨ret_bool (all_not s k hlt hok.out).symm, rfl⟩
        · obtain rfl : k = s.size := by omega
          go_wp2
          go_ret
          exact ⟨ret_bool (hm2.out (by have := ha.out; rwa [List.take_of_length_le (by simp)] at this)).symm, rfl⟩
end Go.Proofs.YtjehpijjneghpaaGreat.Nm
namespace Go.Proofs.YtjehpijjneghpaaGreat.Dk
open Go.RowKit Go.Maps
def TM : TypeId := 92
def TF : TypeId := 114
def TS : TypeId := 9
theorem keyS : Keyed Tryz.prog TS := string_keyed Tryz.underlying9
theorem undM : Tryz.prog.underlying TM = some (.map TS TF) := Tryz.underlying92
theorem zeroF (w : World) : (zeroValue TF).run Tryz.prog w = .ok (.pointer none) w := by kernel_rfl
theorem keyN {s : ByteArray} (hs : s.size ≤ maxLen) : keyOf Tryz.prog TS (.string s) = some (.string s.data.toList) 
    := WideMaps.keyOf_string_mk Tryz.underlying9 hs
def Mp (w : World) (b : Nat) (l : Dr) : Prop := w.ownsMap Tryz.prog TS ptrR b l.length (dirD l)
theorem Mp.of {w : World} {b n : Nat} {l : Dr} (h : w.ownsMap Tryz.prog TS ptrR b n (dirD l)) : Mp w b l := by
  obtain ⟨es, clock, hb, F, _, hD⟩ := h
  refine ⟨es, clock, hb, F, ?_, hD⟩
  have e1 : Maps.size (dirD l) = l.length := dirD_size l
  rw [hD] at e1
  have e2 := length_read (P := Tryz.prog) (k := TS) (R0 := ptrR) es
  simp only [Maps.size] at e1
  omega
theorem Mp.lt {w : World} {b : Nat} {l : Dr} (h : Mp w b l) : b < w.heap.size := World.ownsMap.lt h
theorem Mp.heap {w w' : World} {b : Nat} {l : Dr} (h : Mp w b l) (e : w'.heap[b]? = w.heap[b]?) : Mp w' b l := by
  obtain ⟨es, clock, hb, r⟩ := h
  exact ⟨es, clock, e.trans hb, r⟩
theorem Mp.look_some {w : World} {b p : Nat} {l : Dr} {s : ByteArray} (h : Mp w b l) (hs : s.size ≤ maxLen) (hg : get l s.data.toList = some p) : (Instr.lookup TM (.map (some b)) (.string s) true).run Tryz.prog w = .ok (.tuple #[.pointer (some ⟨p, 0, none⟩), .bool true]) w := by
  obtain ⟨v, ps, hrun, hv⟩ := h.look_ok keyS undM (zeroF w) ptrR_none (keyN hs)
  rw [dirD_at_some hg] at hv
  rw [hrun, ptrR_inv hv, dirD_has, hg]
  rfl
theorem Mp.look_none {w : World} {b : Nat} {l : Dr} {s : ByteArray} (h : Mp w b l) (hs : s.size ≤ maxLen) (hg : get l s.data.toList = none) : (Instr.lookup TM (.map (some b)) (.string s) true).run Tryz.prog w = .ok (.tuple #[.pointer none, .bool false]) w := by
  obtain ⟨v, ps, hrun, hv⟩ := h.look_ok keyS undM (zeroF w) ptrR_none (keyN hs)
  rw [dirD_at_none hg] at hv
  rw [hrun, ptrR_inv_nil hv, dirD_has, hg]
  rfl
theorem Mp.look {w : World} {b p : Nat} {l : Dr} {s : ByteArray} (h : Mp w b l) (hs : s.size ≤ maxLen) (hg : get l s.data.toList = some p) : (Instr.lookup TM (.map (some b)) (.string s) false).run Tryz.prog w = .ok (.pointer (some ⟨p, 0, none⟩)) w := by
  obtain ⟨v, ps, hrun, hv⟩ := World.ownsMap.lookup h keyS undM (zeroF w) ptrR_none (keyN hs)
  rw [dirD_at_some hg] at hv
  rw [hrun, ptrR_inv hv]
theorem Mp.len {w : World} {b : Nat} {l : Dr} (h : Mp w b l) (ty : TypeId) : (Builtin.len_ #[TM] ty #[.map (some b)]).run Tryz.prog w = .ok (.int .i64 (l.length : Int)) w := by
  have := World.ownsMap.len h undM ty
  rw [dirD_size] at this
  exact this
theorem Mp.store {w : World} {b p : Nat} {l : Dr} {s : ByteArray} (h : Mp w b l) (hs : s.size ≤ maxLen) (hl : l.length < maxLen) :
    ∃ w', (Instr.mapUpdate TM (.map (some b)) (.string s) (.pointer (some ⟨p, 0, none⟩))).run Tryz.prog w = .ok () w' ∧ Mp w' b (dput l s.data.toList p) ∧ w.mapTurned w' b := by
  obtain ⟨w', hrun, ho, ht⟩ := World.ownsMap.store h keyS undM hl (keyN hs) (ptrR_some p)
  rw [dirD_put] at ho
  exact ⟨w', hrun, Mp.of ho, ht⟩
theorem Mp.drop {w : World} {b : Nat} {l : Dr} {s : ByteArray} (h : Mp w b l) (hs : s.size ≤ maxLen) (ty : TypeId) :
    ∃ w', (Builtin.delete_ #[TM, TS] ty #[.map (some b), .string s]).run Tryz.prog w = .ok (.tuple #[]) w' ∧ Mp w' b (ddel l s.data.toList) ∧ w.mapTurned w' b := by
  obtain ⟨w', hrun, ho, ht⟩ := World.ownsMap.drop h keyS undM (keyN hs) ty
  rw [dirD_del] at ho
  exact ⟨w', hrun, Mp.of ho, ht⟩
theorem Mp.made (w : World) : Mp (w.alloc (.map #[] 0)) w.heap.size [] := Mp.of (l := []) (World.ownsMap_made w _ _ _)
structure Dc where
  most : Int
  up : Bool
  fm : Option Nat
  lm : Option Nat
  pd : Value
  am : Option Nat
  c0 : Int
  c1 : Int
  c2 : Int
  c3 : Int
  c4 : Int
  c5 : Int
  c6 : Int
  c7 : Int
  c8 : Int
def dcells (x : Dc) : Array Value := #[.int .i64 x.most, .bool x.up, .map x.fm, .map x.lm, x.pd, .map x.am, .int .i64 x.c0, .int .i64 x.c1, .int .i64 x.c2, .int .i64 x.c3, .int .i64 x.c4, .int .i64 x.c5, .int .i64 x.c6, .int .i64 x.c7, .int .i64 x.c8]
def TD : TypeId := 98
def Bx (w : World) (b : Nat) (x : Dc) : Prop := w.heap[b]? = some (.cells (dcells x) TD (0, 0))
def Dp (w : World) (v : Value) (x : Option Dc) : Prop :=
  (v = .pointer none ∧ x = none) ∨ ∃ b y, v = .pointer (some ⟨b, 0, none⟩) ∧ x = some y ∧ Bx w b y
def madeD (x : Option Dc) : Bool := match x with | none => false | some y => y.fm.isSome
def upD (x : Option Dc) : Bool := match x with | none => false | some y => y.fm.isSome && y.up
theorem Bx.cells {w : World} {b : Nat} {x : Dc} (h : Bx w b x) : w.cell? ⟨b, 0, none⟩ = some (.int .i64 x.most) ∧ w.cell? ⟨b, 1, none⟩ = some (.bool x.up) ∧ w.cell? ⟨b, 2, none⟩ = some (.map x.fm) ∧ w.cell? ⟨b, 3, none⟩ = some (.map x.lm) ∧ w.cell? ⟨b, 4, none⟩ = some x.pd ∧ w.cell? ⟨b, 5, none⟩ = some (.map x.am) := by
  have e := h
  unfold Bx at e
  simp [World.cell?, e, dcells]
theorem Bx.all {w : World} {b : Nat} {x : Dc} (h : Bx w b x) : w.cell? ⟨b, 13, none⟩ = some (.int .i64 x.c7) ∧ w.cell? ⟨b, 14, none⟩ = some (.int .i64 x.c8) := by
  have e := h
  unfold Bx at e
  simp [World.cell?, e, dcells]
theorem Bx.below {A B : World} {b : Nat} {x : Dc} (h : Bx A b x) (hb : Below A.heap.size A B) : Bx B b x := (hb.block b (heap_lt h)).trans h
theorem Dp.below {A B : World} {v : Value} {x : Option Dc} (h : Dp A v x) (hb : Below A.heap.size A B) : Dp B v x := by
  rcases h with h | ⟨b, y, h1, h2, h3⟩
  · exact .inl h
  · exact .inr ⟨b, y, h1, h2, h3.below hb⟩
theorem neqM (w : World) (r : Option Nat) : (binOp .neq 92 (.map r) (.map none)).run Tryz.prog w = .ok (.bool (!r.isNone)) w := run_neq_map_nil w _ _ _ r Tryz.underlying92
theorem made_any (w : World) (v : Value) (x : Option Dc) (h : Dp w v x) : Calls Tryz.prog 79 #[v] w fun e w' => e = .returned (.bool (madeD x)) ∧ w' = w := by
  have qT := neqM
  rcases h with ⟨rfl, rfl⟩ | ⟨b, y, rfl, rfl, hb⟩
  · go_enter Tryz.func79, Tryz.ntmps79
    go_wp2_with fail
    go_ret
    exact ⟨rfl, rfl⟩
  · have h2 := hb.cells.2.2.1
    clear hb
    obtain ⟨c0, c1, fm, c3, c4, c5, c6, c7, c8, c9, c10, c11, c12, c13, c14⟩ := y
    cases fm with
    | none =>
      dsimp only at h2
      go_enter Tryz.func79, Tryz.ntmps79
      go_wp2_with fail
      go_ret
      exact ⟨rfl, rfl⟩
    | some m =>
      dsimp only at h2
      go_enter Tryz.func79, Tryz.ntmps79
      go_wp2_with fail
      go_ret
      exact ⟨rfl, rfl⟩
theorem up_any (w : World) (v : Value) (x : Option Dc) (h : Dp w v x) : Calls Tryz.prog 43 #[v] w fun e w' => e = .returned (.bool (upD x)) ∧ w' = w := by
  have hm := made_any w v x h
  rcases h with ⟨rfl, rfl⟩ | ⟨b, y, rfl, rfl, hb⟩
  · go_enter Tryz.func43, Tryz.ntmps43
    go_wp2_with (go_at_call 79; refine hm.mono ?_; rintro e w1 ⟨rfl, rfl⟩; simp only [madeD])
    go_ret
    exact ⟨rfl, rfl⟩
  · have h2 := hb.cells.2.1
    clear hb
    obtain ⟨c0, c1, fm, c3, c4, c5, c6, c7, c8, c9, c10, c11, c12, c13, c14⟩ := y
    cases fm with
    | none =>
      dsimp only at h2
      go_enter Tryz.func43, Tryz.ntmps43
      go_wp2_with (go_at_call 79; refine hm.mono ?_; rintro e w1 ⟨rfl, rfl⟩; simp only [madeD, Option.isSome_none])
      go_ret
      exact ⟨rfl, rfl⟩
    | some m =>
      dsimp only at h2
      go_enter Tryz.func43, Tryz.ntmps43
      go_wp2_with (go_at_call 79; refine hm.mono ?_; rintro e w1 ⟨rfl, rfl⟩; simp only [madeD, Option.isSome_some])
      go_ret
      exact ⟨rfl, rfl⟩
end Go.Proofs.YtjehpijjneghpaaGreat.Dk
namespace Go.Proofs.YtjehpijjneghpaaGreat.Dk
open Go.RowKit Go.Maps Go.Proofs.YtjehpijjneghpaaGreat.Nm
def refF (x : Option Dc) (L : List ByteArray) : Int := if upD x then (if L.all (fun s => may s.data.toList) then 0 else 24) else 22
theorem all_take {L : List ByteArray} {k : Nat} (hk : k < L.length) (h : (L.take k).all (fun s => may s.data.toList) = true) (h2 : may L[k].data.toList = true) : (L.take (k + 1)).all (fun s => may s.data.toList) = true := by
  rw [List.take_succ_eq_append_getElem hk, List.all_append, h]
  simp [h2]
theorem all_no {L : List ByteArray} {k : Nat} (hk : k < L.length) (h2 : may L[k].data.toList = false) : L.all (fun s => may s.data.toList) = false := by
  cases h : L.all (fun s => may s.data.toList) with
  | false => rfl
  | true => rw [List.all_eq_true] at h; have := h _ (List.getElem_mem hk); rw [h2] at this; exact absurd this (by simp)
theorem refuse_any (w : World) (d v : Value) (x : Option Dc) (L : List ByteArray) (h : Dp w d x) (hv : Row w v (L.map Value.string)) (hl : ∀ s ∈ L, s.size ≤ maxLen) :
    Calls Tryz.prog 68 #[d, v] w fun e w' => e = .returned (.int .i64 (refF x L)) ∧ w' = w := by
  have hu := up_any w d x h
  obtain ⟨ao, cap, rfl, _, h1, h2, h3⟩ := hv
  rw [List.length_map] at *
  obtain ⟨N, hN⟩ : ∃ N, Hid (L.length = N) := ⟨_, rfl⟩
  rw [hN.out] at h1 ⊢
  have i9 : (N : Int) ≤ 9223372036854775807 := by unfold maxLen at h2; omega
  clear h
  cases hx : upD x with
  | false =>
    rw [hx] at hu
    have hE : Hid (refF x L = 22) := by show _ = _; simp [refF, hx]
    rw [hE.out]
    clear h3 hl hx hE
    go_enter Tryz.func68, Tryz.ntmps68
    go_wp2_with (go_at_call 43; refine hu.mono ?_; rintro e w1 ⟨rfl, e1⟩; subst w1)
    go_ret
    exact ⟨rfl, rfl⟩
  | true =>
    rw [hx] at hu
    obtain ⟨E, hG⟩ : ∃ E, refF x L = E := ⟨_, rfl⟩
    have hE : Hid (E = if L.all (fun s => may s.data.toList) then 0 else 24) := by show _ = _; rw [← hG]; simp [refF, hx]
    rw [hG]
    replace h3 := hide h3
    replace hl := hide hl
    clear hx h2 hG
    go_enter Tryz.func68, Tryz.ntmps68
    go_wp2_with (go_at_call 43; refine hu.mono ?_; rintro e w1 ⟨rfl, e1⟩; subst w1)
    go_loop [12] (fun i => ∃ k : Nat, k ≤ N ∧ i = .int .i64 k ∧ Hid ((L.take k).all (fun s => may s.data.toList) = true)) (fun i => N - (intOf i).toNat)
    case atStart => exact ⟨0, Nat.zero_le _, rfl, rfl⟩
    case round =>
      obtain ⟨k, hk, rfl, ha⟩ := hrel
      by_cases hlt : k < N
      · have i1 : (k : Int) < (N : Int) := by omega
        have hkl : k < L.length := by rw [hN.out]; exact hlt
        obtain ⟨b, off, rfl, hc⟩ := h3.out k (by rw [List.length_map]; exact hkl)
        have hcell : w.cell? ⟨b, off + k, none⟩ = some (.string L[k]) := by rw [hc, List.getElem_map]
        have hm := may_any L[k] w (hl.out _ (List.getElem_mem hkl))
        have hA := hide (all_take hkl ha.out)
        have hB := hide (all_no hkl)
        clear hc h3
        generalize L[k] = s at *
        cases hmx : may s.data.toList with
        | true =>
          rw [hmx] at hm
          replace hA := hide (hA.out hmx)
          clear hB hmx
          go_wp2_with (go_at_call 104; refine hm.mono ?_; rintro e w' ⟨rfl, e1⟩; subst w')
          go_round
          case rel => exact ⟨k + 1, by omega, by go_num, hA.out⟩
          case measure => simp [intOf]; omega
        | false =>
          rw [hmx] at hm
          replace hB := hide (hB.out hmx)
          clear hA hmx
          go_wp2_with (go_at_call 104; refine hm.mono ?_; rintro e w' ⟨rfl, e1⟩; subst w')
          go_ret
          exact ⟨by rw [hE.out, hB.out]; rfl, rfl⟩
      · have i1 : ¬ (k : Int) < (N : Int) := by omega
        have hA : Hid (L.all (fun s => may s.data.toList) = true) := by
          have := ha.out
          rwa [List.take_of_length_le (by rw [hN.out]; omega)] at this
        clear h3
        go_wp2_with fail
        go_ret
        exact ⟨by rw [hE.out, hA.out]; rfl, rfl⟩
def findF (x : Option Dc) (l : Dr) (s : ByteArray) : Value × Int :=
  if refF x [s] = 0 then (match get l s.data.toList with | some p => (.pointer (some ⟨p, 0, none⟩), 0) | none => (.pointer none, 6)) else (.pointer none, refF x [s])
theorem row1 (w : World) (s : ByteArray) (T : TypeId) (z : Nat × Nat) : Row (w.alloc (.cells #[.string s] T z)) (.slice (some ⟨w.heap.size, 0, none⟩) 1 1) ([s].map Value.string) := by
  refine ⟨_, 1, rfl, fun e => by simp at e, Nat.le_refl _, by decide, fun i hi => ?_⟩
  obtain rfl : i = 0 := by simp at hi; omega
  refine ⟨_, _, rfl, ?_⟩
  unfold World.cell?
  simp only [Nat.zero_add, heap_alloc_new]
  rfl
theorem row0 (w : World) : Row w (.slice none 0 0) (([] : List ByteArray).map Value.string) := Row.nil w
theorem find_any (w : World) (d : Value) (x : Option Dc) (l : Dr) (s : ByteArray) (h : Dp w d x) (hs : s.size ≤ maxLen) (hl : ∀ y m, x = some y → y.fm = some m → Mp w m l) :
    Calls Tryz.prog 75 #[d, .string s] w fun e w' => e = .returned (.tuple #[(findF x l s).1, .int .i64 (findF x l s).2]) ∧ Below w.heap.size w w' := by
  have hr := refuse_any (w.alloc (.cells #[.string s] 9)) d _ x [s] (h.below ((Below.refl _ w).alloc (Nat.le_refl _) _)) (row1 w s _ _) (by simpa using hs)
  have hB := hide ((Below.refl _ w).alloc (Nat.le_refl _) (.cells #[.string s] 9))
  by_cases h0 : refF x [s] = 0
  · rw [h0] at hr
    rcases h with ⟨rfl, rfl⟩ | ⟨b, y, rfl, rfl, hb⟩
    · exact absurd h0 (by simp [refF, upD])
    · have h2 := hb.cells.2.2.1
      cases hf : y.fm with
      | none => exact absurd h0 (by simp [refF, upD, hf])
      | some m =>
        rw [hf] at h2
        have hm := hl y m rfl hf
        have hm2 : Mp (w.alloc (.cells #[.string s] 9)) m l := hm.heap (Below.heap_alloc _ _ _ hm.lt)
        have h3 : (w.alloc (.cells #[.string s] 9)).cell? ⟨b, 2, none⟩ = some (.map (some m)) := by rw [hB.out.cell (p := ⟨b, 2, none⟩) (lt_of_cell h2)]; exact h2
        obtain ⟨E, hE⟩ : ∃ E, Hid (findF (some y) l s = E) := ⟨_, rfl⟩
        rw [hE.out]
        cases hg : get l s.data.toList with
        | none =>
          have hK : Hid (E = (.pointer none, 6)) := by show _ = _; rw [← hE.out]; simp [findF, h0, hg]
          have hL := hm2.look_none hs hg
          unfold TM at hL
          clear hm hm2 hl hf hg h0 hb h2 hE
          go_enter Tryz.func75, Tryz.ntmps75
          go_wp2_with (go_at_call 68; refine hr.mono ?_; rintro e w1 ⟨rfl, e1⟩; subst w1)
          go_ret2
          exact ⟨by rw [hK.out]; rfl, hB.out⟩
        | some p =>
          have hK : Hid (E = (.pointer (some ⟨p, 0, none⟩), 0)) := by show _ = _; rw [← hE.out]; simp [findF, h0, hg]
          have hL := hm2.look_some hs hg
          unfold TM at hL
          clear hm hm2 hl hf hg h0 hb h2 hE
          go_enter Tryz.func75, Tryz.ntmps75
          go_wp2_with (go_at_call 68; refine hr.mono ?_; rintro e w1 ⟨rfl, e1⟩; subst w1)
          go_ret2
          exact ⟨by rw [hK.out]; rfl, hB.out⟩
  · obtain ⟨E, hE⟩ : ∃ E, Hid (findF x l s = E) := ⟨_, rfl⟩
    obtain ⟨r, hR⟩ : ∃ r, refF x [s] = r := ⟨_, rfl⟩
    have hK : Hid (E = (.pointer none, r)) := by show _ = _; rw [← hE.out, ← hR]; simp [findF, h0]
    rw [hE.out]
    rw [hR] at hr h0
    have h0' : (r != 0) = true := by simpa using h0
    clear hE hl h hR h0
    go_enter Tryz.func75, Tryz.ntmps75
    go_wp2_with (go_at_call 68; refine hr.mono ?_; rintro e w1 ⟨rfl, e1⟩; subst w1)
    go_ret2
    exact ⟨by rw [hK.out]; rfl, hB.out⟩
end Go.Proofs.YtjehpijjneghpaaGreat.Dk
namespace Go.Proofs.YtjehpijjneghpaaGreat.Dk
open Go.RowKit Go.Maps
abbrev Ft := Int × Int × Int
def fv (f : Ft) : Value := .agg #[.int .i64 f.1, .int .i64 f.2.1, .int .i64 f.2.2]
def fd (f : Ft) : DataW Unit := .agg [.lit (.int .i64 f.1), .lit (.int .i64 f.2.1), .lit (.int .i64 f.2.2)]
def faultR : Value → Option (DataW Unit × List MemPlace)
  | .agg ⟨[.int .i64 a, .int .i64 k, .int .i64 p]⟩ => some (fd (a, k, p), [])
  | _ => none
theorem faultR_fv (f : Ft) : faultR (fv f) = some (fd f, []) := rfl
theorem faultR_inv {v : Value} {f : Ft} {ps : List MemPlace} (h : faultR v = some (fd f, ps)) : v = fv f := by
  unfold faultR at h
  split at h
  · rename_i a k p
    simp [fd] at h
    obtain ⟨⟨h1, h2, h3⟩, _⟩ := h
    subst h1 h2 h3
    rfl
  · simp at h
abbrev Ar := List (Int × Ft)
def aent (p : Int × Ft) : Lit × DataW Unit := (.int .i64 p.1, fd p.2)
def armD (l : Ar) : DataW Unit := .map (l.map aent)
def aget (l : Ar) (n : Int) : Option Ft := (l.find? fun p => p.1 == n).map (·.2)
def ains (x : Int × Ft) : Ar → Ar
  | [] => [x]
  | y :: r => if x.1 < y.1 then x :: y :: r else y :: ains x r
def adel (l : Ar) (n : Int) : Ar := l.filter fun p => !(p.1 == n)
def aput (l : Ar) (n : Int) (f : Ft) : Ar := ains (n, f) (adel l n)
theorem insert_aent (x : Int × Ft) : ∀ l : Ar, DataW.insert (aent x) (l.map aent) = (ains x l).map aent := by
  intro l
  induction l with
  | nil => rfl
  | cons y r ih =>
    simp only [List.map_cons, DataW.insert, ains]
    have e : (aent x).1.before (aent y).1 = decide (x.1 < y.1) := rfl
    rw [e]
    by_cases h : x.1 < y.1
    · simp [h]
    · simp [h, ih]
theorem same_aent (n : Int) (p : Int × Ft) : (aent p).1.sameKey (.int .i64 n) = (p.1 == n) := by
  unfold aent Lit.sameKey
  simp
  rfl
theorem filter_aent (l : Ar) (n : Int) : (l.map aent).filter (fun p => !p.1.sameKey (.int .i64 n)) = (adel l n).map aent := by
  unfold adel
  rw [List.filter_map]
  congr 1
  apply List.filter_congr
  intro p _
  simp only [Function.comp, same_aent]
theorem armD_del (l : Ar) (n : Int) : (armD l).del (.int .i64 n) = armD (adel l n) := by
  show DataW.map _ = DataW.map _
  rw [filter_aent]
theorem armD_put (l : Ar) (n : Int) (f : Ft) : (armD l).put (.int .i64 n) (fd f) = armD (aput l n f) := by
  show DataW.map _ = DataW.map _
  rw [filter_aent]
  exact congrArg DataW.map (insert_aent (n, f) (adel l n))
theorem find_aent (l : Ar) (n : Int) : (l.map aent).find? (fun p => p.1.sameKey (.int .i64 n)) = (l.find? fun p => p.1 == n).map aent := by
  rw [List.find?_map]
  have : ((fun p : Lit × DataW Unit => p.1.sameKey (.int .i64 n)) ∘ aent) = fun p => p.1 == n := funext fun p => same_aent n p
  rw [this]
def zf : Ft := (0, 0, 0)
theorem armD_at (l : Ar) (n : Int) : (armD l).atKey (.int .i64 n) (fd zf) = fd ((aget l n).getD zf) := by
  unfold armD DataW.atKey aget
  simp only []
  rw [find_aent]
  cases l.find? fun p => p.1 == n with
  | none => rfl
  | some p => rfl
theorem armD_has (l : Ar) (n : Int) : Maps.has (armD l) (.int .i64 n) = (aget l n).isSome := by
  unfold aget
  show (l.map aent).any (fun p => p.1.sameKey (.int .i64 n)) = _
  rw [List.any_map]
  induction l with
  | nil => rfl
  | cons y r ih =>
    simp only [List.any_cons, List.find?_cons]
    have e : ((fun p : Lit × DataW Unit => p.1.sameKey (.int .i64 n)) ∘ aent) y = (y.1 == n) := same_aent n y
    rw [e]
    cases hy : (y.1 == n)
    · simp only [Bool.false_or]; exact ih
    · rfl
theorem armD_size (l : Ar) : Maps.size (armD l) = l.length := by simp [Maps.size, armD]
def TA : TypeId := 94
def TI : TypeId := 2
theorem keyI : Keyed Tryz.prog TI := int_keyed Tryz.underlying2
theorem undA : Tryz.prog.underlying TA = some (.map TI 118) := Tryz.underlying94
theorem zeroFt (w : World) : (zeroValue 118).run Tryz.prog w = .ok (fv zf) w := by kernel_rfl
theorem keyNum {n : Int} (h0 : -9223372036854775808 ≤ n) (h1 : n ≤ 9223372036854775807) : keyOf Tryz.prog TI (.int .i64 n) = some (.int .i64 n) :=
  keyOf_int_mk Tryz.underlying2 (by have e1 : IntKind.i64.min = -9223372036854775808 := rfl; have e2 : IntKind.i64.max = 9223372036854775807 := rfl; simp [Lit.wf, e1, e2]; omega)
def Am (w : World) (b : Nat) (l : Ar) : Prop := w.ownsMap Tryz.prog TI faultR b l.length (armD l)
theorem Am.of {w : World} {b n : Nat} {l : Ar} (h : w.ownsMap Tryz.prog TI faultR b n (armD l)) : Am w b l := by
  obtain ⟨es, clock, hb, F, _, hD⟩ := h
  refine ⟨es, clock, hb, F, ?_, hD⟩
  have e1 : Maps.size (armD l) = l.length := armD_size l
  rw [hD] at e1
  have e2 := length_read (P := Tryz.prog) (k := TI) (R0 := faultR) es
  simp only [Maps.size] at e1
  omega
theorem Am.lt {w : World} {b : Nat} {l : Ar} (h : Am w b l) : b < w.heap.size := World.ownsMap.lt h
theorem Am.heap {w w' : World} {b : Nat} {l : Ar} (h : Am w b l) (e : w'.heap[b]? = w.heap[b]?) : Am w' b l := by
  obtain ⟨es, clock, hb, r⟩ := h
  exact ⟨es, clock, e.trans hb, r⟩
theorem Am.look {w : World} {b : Nat} {l : Ar} {n : Int} (h : Am w b l) (h0 : -9223372036854775808 ≤ n) (h1 : n ≤ 9223372036854775807) : (Instr.lookup TA (.map (some b)) (.int .i64 n) false).run Tryz.prog w = .ok (fv ((aget l n).getD zf)) w := by
  obtain ⟨v, ps, hrun, hv⟩ := World.ownsMap.lookup h keyI undA (zeroFt w) (faultR_fv zf) (keyNum h0 h1)
  rw [armD_at] at hv
  rw [hrun, faultR_inv hv]
theorem Am.look_ok {w : World} {b : Nat} {l : Ar} {n : Int} (h : Am w b l) (h0 : -9223372036854775808 ≤ n) (h1 : n ≤ 9223372036854775807) : (Instr.lookup TA (.map (some b)) (.int .i64 n) true).run Tryz.prog w = .ok (.tuple #[fv ((aget l n).getD zf), .bool (aget l n).isSome]) w := by
  obtain ⟨v, ps, hrun, hv⟩ := World.ownsMap.look_ok h keyI undA (zeroFt w) (faultR_fv zf) (keyNum h0 h1)
  rw [armD_at] at hv
  rw [hrun, faultR_inv hv, armD_has]
theorem look_nilA (w : World) {n : Int} (h0 : -9223372036854775808 ≤ n) (h1 : n ≤ 9223372036854775807) : (Instr.lookup TA (.map none) (.int .i64 n) false).run Tryz.prog w = .ok (fv zf) w :=
  Maps.look_nil false keyI undA (zeroFt w) (keyNum h0 h1)
theorem drop_nilA (w : World) {n : Int} (h0 : -9223372036854775808 ≤ n) (h1 : n ≤ 9223372036854775807) (ty : TypeId) : (Builtin.delete_ #[TA, TI] ty #[.map none, .int .i64 n]).run Tryz.prog w = .ok (.tuple #[]) w :=
  Maps.drop_nil keyI undA (keyNum h0 h1) ty
theorem Am.store {w : World} {b : Nat} {l : Ar} {n : Int} {f : Ft} (h : Am w b l) (h0 : -9223372036854775808 ≤ n) (h1 : n ≤ 9223372036854775807) (hl : l.length < maxLen) :
    ∃ w', (Instr.mapUpdate TA (.map (some b)) (.int .i64 n) (fv f)).run Tryz.prog w = .ok () w' ∧ Am w' b (aput l n f) ∧ w.mapTurned w' b := by
  obtain ⟨w', hrun, ho, ht⟩ := World.ownsMap.store h keyI undA hl (keyNum h0 h1) (faultR_fv f)
  rw [armD_put] at ho
  exact ⟨w', hrun, Am.of ho, ht⟩
theorem Am.drop {w : World} {b : Nat} {l : Ar} {n : Int} (h : Am w b l) (h0 : -9223372036854775808 ≤ n) (h1 : n ≤ 9223372036854775807) (ty : TypeId) :
    ∃ w', (Builtin.delete_ #[TA, TI] ty #[.map (some b), .int .i64 n]).run Tryz.prog w = .ok (.tuple #[]) w' ∧ Am w' b (adel l n) ∧ w.mapTurned w' b := by
  obtain ⟨w', hrun, ho, ht⟩ := World.ownsMap.drop h keyI undA (keyNum h0 h1) ty
  rw [armD_del] at ho
  exact ⟨w', hrun, Am.of ho, ht⟩
theorem Am.made (w : World) : Am (w.alloc (.map #[] 0)) w.heap.size [] := Am.of (l := []) (World.ownsMap_made w _ _ _)
theorem turned_but {w w' : World} {b : Nat} (h : w.mapTurned w' b) : But (fun k => k = b) w w' := But.of_grownBy h.grown fun k e => by cases e; rfl
end Go.Proofs.YtjehpijjneghpaaGreat.Dk
