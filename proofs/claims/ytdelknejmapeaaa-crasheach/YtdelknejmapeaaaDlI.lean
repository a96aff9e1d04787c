/-
  Names as they come out of a directory; rows of names, of tails.
-/
import Derived.Test.YtdelknejmapeaaaDlH
namespace Go.Proofs.Ytdelknejmapeaaa.Dk
open Go.RowKit Go.Maps Go.Sort Go.Shelf Go.Proofs.Ytdelknejmapeaaa.Nm

theorem Mp.klen {w : World} {b : Nat} {l : Dr} (h : Mp w b l) {e : List UInt8 × Nat} (he : e ∈ l) : e.1.length ≤ maxLen := by
  obtain ⟨es, clock, _, F, _, hD⟩ := h
  have e2 : l.map dent = (es.toList.map (Go.WideElems.rg Try.prog TS ptrR)).foldr DataW.insert [] := by
    have : DataW.map (l.map dent) = DataW.map _ := hD
    simpa using this
  have hm : dent e ∈ l.map dent := List.mem_map.2 ⟨e, he, rfl⟩
  rw [e2] at hm
  obtain ⟨x, hx, hr⟩ := List.mem_map.1 (mem_sorted.1 hm)
  obtain ⟨y, hy⟩ := F.reads x hx
  rw [Go.WideElems.rg_of hy] at hr
  have hk := Go.WideElems.rd_key hy
  rw [hr] at hk
  obtain ⟨s, hs⟩ := keyOf_str_inv hk
  rw [hs] at hk
  obtain ⟨e3, e4⟩ := keyOf_str_lit hk
  have e5 : e.1 = s.data.toList := by
    have : Lit.string e.1 = .string s.data.toList := e3
    simpa using this
  rw [e5]
  exact e4
def bsOf (n : List UInt8) : ByteArray := ⟨n.toArray⟩
theorem bsOf_list (n : List UInt8) : (bsOf n).data.toList = n := rfl
theorem encStr_eq (n : List UInt8) : encStr n = .string (bsOf n) := rfl
theorem nms_mem {l : Dr} {n : List UInt8} : n ∈ nms l ↔ ∃ p, (n, p) ∈ l := by
  unfold nms
  rw [List.mem_mergeSort, List.mem_map]
  constructor
  · rintro ⟨e, he, rfl⟩
    exact ⟨e.2, he⟩
  · rintro ⟨p, hp⟩
    exact ⟨_, hp, rfl⟩
theorem nms_get {l : Dr} {n : List UInt8} (h : n ∈ nms l) : ∃ p, get l n = some p := by
  obtain ⟨p, hp⟩ := nms_mem.1 h
  unfold get
  have : (l.find? fun p => p.1 == n).isSome = true := by rw [List.find?_isSome]; exact ⟨_, hp, by simp⟩
  obtain ⟨e, he⟩ := Option.isSome_iff_exists.1 this
  exact ⟨e.2, by rw [he]; rfl⟩
theorem Mp.nlen {w : World} {b : Nat} {l : Dr} (h : Mp w b l) {n : List UInt8} (hn : n ∈ nms l) : (bsOf n).size ≤ maxLen := by
  obtain ⟨p, hp⟩ := nms_mem.1 hn
  exact h.klen hp
theorem row_of_owns {w : World} {B : Nat} {T : TypeId} {v : Value} {n : Nat} {xs : List Value} (h : w.ownsRow B T 1 v n xs) (hx : xs.length = n) : Row w v xs := by
  have h0 := h
  rcases h.2 with ⟨rfl, e⟩ | ⟨g, cap, cur, rfl, hg, hh, a, b, c⟩
  · have : xs = [] := List.length_eq_zero_iff.1 (by omega)
    subst this
    exact Row.nil w
  · refine ⟨some ⟨g, 0, none⟩, cap, by rw [hx], fun e => by simp at e, by omega, b, fun i hi => ?_⟩
    have q := World.ownsRow.cells h0 (g := g) rfl i _ (List.getElem?_eq_getElem hi)
    exact ⟨g, 0, rfl, by rw [addr_add] at q; exact q⟩
/-- A list of names and lengths, as Tails answers it. -/
abbrev Tls := List (List UInt8 × Nat)
def tcells (L : Tls) : List Value := (L.map fun e => [encStr e.1, Value.int .i64 (e.2 : Int)]).flatten
theorem tcells_snoc (L : Tls) (e : List UInt8 × Nat) : tcells (L ++ [e]) = tcells L ++ [encStr e.1, .int .i64 (e.2 : Int)] := by simp [tcells]
theorem tcells_len (L : Tls) : (tcells L).length = L.length * 2 := by
  induction L with
  | nil => rfl
  | cons e r ih =>
    have : tcells (e :: r) = [encStr e.1, .int .i64 (e.2 : Int)] ++ tcells r := by simp [tcells]
    rw [this, List.length_append, ih, List.length_cons]
    simp
    omega
/-- The list v, in memory from B on, holds L. -/
def Tl (B : Nat) (w : World) (v : Value) (L : Tls) : Prop := w.ownsRow B 72 2 v L.length (tcells L)
theorem Tl.nil (B : Nat) (w : World) : Tl B w (.slice none 0 0) [] := World.ownsRow_nil _ _ _ _
def tlOf (F : Nat → Fl) (l : Dr) (n : List UInt8) : Nat := match get l n with | some p => (F p).by_.length - (F p).la.length | none => 0
/-- The directory that the first n of what pends make. -/
def DS.front (S : DS) (n : Int) : Dr := runs S.l2 (S.P.take (wthn n S.P.length))
/-- Tails, by data. -/
def DS.tails (S : DS) (n : Int) : Tls := (nms (S.front n)).map fun s => (s, tlOf S.F (S.front n) s)
theorem infoTl : (Try.prog.info? 72).map (fun i => (i.zero, i.size, i.bytes)) = some (some (.agg #[.string ⟨#[]⟩, .int .i64 0]), 2, 24) := by kernel_rfl
theorem two_new {w : World} {g : Nat} {a b : Value} {T : TypeId} {z : Nat × Nat} (h : w.heap[g]? = some (.cells #[a, b] T z)) : ∀ j u, [a, b][j]? = some u → w.cell? ((⟨g, 0, none⟩ : Addr).add j) = some u := by
  intro j u hu
  rw [addr_add]
  unfold World.cell?
  match j with
  | 0 => simp at hu; simp [h, hu]
  | 1 => simp at hu; simp [h, hu]
  | j + 2 => simp at hu
end Go.Proofs.Ytdelknejmapeaaa.Dk
