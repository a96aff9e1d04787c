/-
  DiskCounts: the walk.
-/
import Derived.Test.YtpphjojehfhbkabDnE
namespace Go.Proofs.Ytpphjojehfhbkab.Dk
open Go.RowKit Go.Maps Go.Sort Go.Shelf Go.Proofs.Ytpphjojehfhbkab.Nm

structure KI (w q : World) (db : Nat) (S : DS) (O : Nat → Prop) : Prop where
  d : DskE q db S O
  k : Kt S
  bel : Below w.heap.size w q
  lo : ∀ k, O k → w.heap.size ≤ k
theorem KI.below {w q q' : World} {db : Nat} {S : DS} {O : Nat → Prop} (h : KI w q db S O) (hb : Below q.heap.size q q') : KI w q' db S O := ⟨h.d.below hb, h.k, h.bel.trans (hb.mono h.bel.size), h.lo⟩
/-- A call is done: its number, the disk behind it, what it counted. -/
def KD (w q : World) (db : Nat) (S : DS) (O : Nat → Prop) (er : Int) (w' : World) : Prop := ∃ S' O', KI w w' db S' O' ∧ Sgo q w' O O' ∧ Ct S S' er
theorem KI.does {w q w' : World} {db : Nat} {S : DS} {O O' : Nat → Prop} {R : DS × Int} (h : KI w q db S O) (hd : DskE w' db R.1 O') (hg : Sgo q w' O O') (hk : Kt R.1 ∧ Ct S R.1 R.2) : KD w q db S O R.2 w' :=
  ⟨R.1, O', ⟨hd, hk.1, hg.under h.lo (Nat.le_refl _) h.bel, hg.low h.bel.size h.lo⟩, hg, hk.2⟩
theorem ki_create {w q : World} {db : Nat} {S : DS} {O : Nat → Prop} (h : KI w q db S O) (hc : S.c7 ≤ 1000) (s : ByteArray) (hs : s.size ≤ 140737488351232) : Calls Try.prog 7 #[.pointer (some ⟨db, 0, none⟩), .string s] q fun e w' => ∃ er, e = .returned (.int .i64 er) ∧ KD w q db S O er w' := by
  refine (create_dsk h.d s (by omega) (by omega)).mono ?_
  rintro e w' ⟨p, _, _, rfl, O', hd, hg⟩
  exact ⟨_, rfl, h.does hd hg (kt_create h.k s p)⟩
theorem ki_append {w q : World} {db : Nat} {S : DS} {O : Nat → Prop} (h : KI w q db S O) (hc : S.c7 ≤ 1000) (s : ByteArray) (hs : s.size ≤ 140737488351232) (v : Value) (D : List UInt8) (hv : Sl w v D) : Calls Try.prog 8 #[.pointer (some ⟨db, 0, none⟩), .string s, v] q fun e w' => ∃ n er, e = .returned (.tuple #[.int .i64 n, .int .i64 er]) ∧ KD w q db S O er w' := by
  refine (append_dsk h.d s (by unfold maxLen; omega) v D (Below.sl h.bel hv) (soff_of hv h.lo) (by omega)).mono ?_
  rintro e w' ⟨rfl, O', hd, hg⟩
  exact ⟨_, _, rfl, h.does (R := ((S.append s D).1, (S.append s D).2.2)) hd hg (kt_append h.k s D)⟩
theorem ki_sync {w q : World} {db : Nat} {S : DS} {O : Nat → Prop} (h : KI w q db S O) (hc : S.c7 ≤ 1000) (s : ByteArray) (hs : s.size ≤ 140737488351232) : Calls Try.prog 9 #[.pointer (some ⟨db, 0, none⟩), .string s] q fun e w' => ∃ er, e = .returned (.int .i64 er) ∧ KD w q db S O er w' := by
  obtain ⟨f, g, pd, am, VB, VL, hh⟩ := h.d
  refine (syncF_any hh s (by unfold maxLen; omega) (by omega)).mono ?_
  rintro e w' ⟨rfl, O', hd, hg⟩
  exact ⟨_, rfl, h.does hd hg (kt_sync h.k s)⟩
theorem ki_rename {w q : World} {db : Nat} {S : DS} {O : Nat → Prop} (h : KI w q db S O) (hc : S.c7 ≤ 1000) (s t : ByteArray) (hs : s.size ≤ 140737488351232) (ht : t.size ≤ 140737488351232) : Calls Try.prog 11 #[.pointer (some ⟨db, 0, none⟩), .string s, .string t] q fun e w' => ∃ er, e = .returned (.int .i64 er) ∧ KD w q db S O er w' := by
  refine (rename_dsk h.d s t (by omega) (by omega) (by omega)).mono ?_
  rintro e w' ⟨rfl, O', hd, hg⟩
  exact ⟨_, rfl, h.does hd hg (kt_rename h.k s t)⟩
theorem ki_remove {w q : World} {db : Nat} {S : DS} {O : Nat → Prop} (h : KI w q db S O) (hc : S.c7 ≤ 1000) (s : ByteArray) (hs : s.size ≤ 140737488351232) : Calls Try.prog 18 #[.pointer (some ⟨db, 0, none⟩), .string s] q fun e w' => ∃ er, e = .returned (.int .i64 er) ∧ KD w q db S O er w' := by
  refine (remove_dsk h.d s (by omega) (by omega)).mono ?_
  rintro e w' ⟨rfl, O', hd, hg⟩
  exact ⟨_, rfl, h.does hd hg (kt_remove h.k s)⟩
theorem ki_syncDir {w q : World} {db : Nat} {S : DS} {O : Nat → Prop} (h : KI w q db S O) (hc : S.c7 ≤ 1000) : Calls Try.prog 10 #[.pointer (some ⟨db, 0, none⟩)] q fun e w' => ∃ er, e = .returned (.int .i64 er) ∧ KD w q db S O er w' := by
  refine (syncDir_dsk h.d (by omega)).mono ?_
  rintro e w' ⟨rfl, O', hd, hg⟩
  exact ⟨_, rfl, h.does hd hg (kt_syncDir h.k)⟩
theorem ki_same {w q w' : World} {db : Nat} {S : DS} {O : Nat → Prop} (h : KI w q db S O) (hb : Below q.heap.size q w') : KD w q db S O 1 w' := ⟨S, O, h.below hb, Sgo.of_below hb, .inr ⟨by decide, by decide, rfl, rfl⟩⟩
theorem ten_cells {w : World} {g : Nat} {c0 c1 c2 c3 c4 c5 c6 c7 c8 c9 : Value} {T : TypeId} {z : Nat × Nat} (h : w.heap[g]? = some (.cells #[c0, c1, c2, c3, c4, c5, c6, c7, c8, c9] T z)) : w.cell? ⟨g, 0, none⟩ = some c0 ∧ w.cell? ⟨g, 2, none⟩ = some c2 ∧ w.cell? ⟨g, 3, none⟩ = some c3 ∧ w.cell? ⟨g, 4, none⟩ = some c4 ∧ w.cell? ⟨g, 5, none⟩ = some c5 ∧ w.cell? ⟨g, 6, none⟩ = some c6 := by
  simp [World.cell?, h]
set_option maxRecDepth 100000 in
set_option maxHeartbeats 16000000 in
theorem counts_walk (w : World) (ao : Option Addr) (cap : Nat) (os : List Dop) (_ : os.length ≤ cap) (hcap : cap ≤ maxLen) (hat : AtDops w ao os) (hok : ∀ o ∈ os, DopOk w o) :
    Calls Try.prog 4 #[.slice ao os.length cap] w fun e w' => e = .returned (.bool true) ∧ Below w.heap.size w w' := by
  have hm : cap ≤ 9223372036854775807 := by unfold maxLen at hcap; omega
  have HA := hide hat
  have HO := hide hok
  obtain ⟨n, hn⟩ : ∃ n, Hid (os.length = n) := ⟨_, rfl⟩
  rw [hn.out]
  have hB := begun_any w
  have hN : Hid (∀ q, Below w.heap.size w q → Calls Try.prog 6 #[.int .i64 65536] q fun e w' => ∃ b O, e = .returned (.pointer (some ⟨b, 0, none⟩)) ∧ KI w w' b (DS.new 65536) O) := fun q hq => by
    refine (new_dsk q 65536 (by decide) (by decide)).mono ?_
    rintro e w' ⟨b, O, rfl, hd, hb, hlo⟩
    exact ⟨b, O, rfl, hd, ⟨rfl, rfl, rfl⟩, hq.trans (hb.mono hq.size), fun k hk => Nat.le_trans hq.size (hlo k hk)⟩
  clear hat hok hcap
  go_enter Try.func4, Try.ntmps4
  go_wp2_with (first
    | (go_at_call 5; refine hB.mono ?_; rintro e w0 ⟨rfl, b0⟩; replace b0 := hide b0)
    | (go_at_call 6; refine (hN.out _ b0.out).mono ?_; rintro e w1 ⟨db, O1, rfl, K1⟩; replace K1 := hide K1))
  have K2 := hide (K1.out.below (box_below w1 (.cells #[.pointer (some ⟨db, 0, none⟩), .pointer none] 47)))
  have P2 := hide (heap_alloc_new w1 (.cells #[.pointer (some ⟨db, 0, none⟩), .pointer none] 47))
  have N2 : Hid (¬ O1 w1.heap.size) := fun c => Nat.lt_irrefl _ (K1.out.d.lt _ c)
  generalize w1.alloc (.cells #[.pointer (some ⟨db, 0, none⟩), .pointer none] 47) = w2 at *
  generalize w1.heap.size = pb at *
  clear hB hN b0 K1
  go_loopw [5, 6] (fun v5 v6 wr => ∃ (i : Nat) (S : DS) (O : Nat → Prop), i ≤ n ∧ i ≤ 100 ∧ v6 = .int .i64 (i : Int) ∧ v5 = .int .i64 S.c7 ∧ Hid (KI w wr db S O ∧ S.c7 ≤ (i : Int) ∧ wr.heap[pb]? = some (.cells #[.pointer (some ⟨db, 0, none⟩), .pointer none] 47 (0, 0)) ∧ ¬ O pb)) (fun _ i _ => n - (intOf i).toNat)
  case atStart => exact ⟨0, DS.new 65536, O1, Nat.zero_le _, by omega, rfl, rfl, K2.out, by show (0 : Int) ≤ _; decide, P2.out, N2.out⟩
  case round =>
    clear K2 P2 N2
    obtain ⟨i, S, O, hi, hi1, rfl, rfl, hI⟩ := hrel
    by_cases hlt : ¬ (i < n ∧ i < 100)
    · by_cases h1 : i < n
      · have h2 : i = 100 := by omega
        subst h2
        have h1' : (100 : Int) < (n : Int) := by omega
        go_wp2_with fail
        go_ret
        exact ⟨rfl, hI.out.1.bel⟩
      · have h1' : ¬ (i : Int) < (n : Int) := by omega
        go_wp2_with fail
        go_ret
        exact ⟨rfl, hI.out.1.bel⟩
    obtain ⟨l1, l2⟩ := Decidable.not_not.1 hlt
    clear hlt
    have l1' : (i : Int) < (n : Int) := by omega
    have l2' : (i : Int) < 100 := by omega
    have hil : i < os.length := by rw [hn.out]; exact l1
    obtain ⟨gb, off, rfl, hcs⟩ := HA.out i hil
    have hok := hide (HO.out _ (List.getElem_mem hil))
    generalize os[i] = o at *
    clear hil
    have kc : ∀ j u, o.cells[j]? = some u → wr.cell? ⟨gb, off + i * 10 + j, none⟩ = some u := fun j u hu => by rw [hI.out.1.bel.cell (lt_of_cell (hcs j u hu))]; exact hcs j u hu
    obtain ⟨vd, vdc, evd, _⟩ := hok.out.dat
    obtain ⟨vf, vfc, evf, _⟩ := hok.out.fs
    obtain ⟨vk, vkc, evk, _⟩ := hok.out.ks
    have c0 := kc 0 (.int .i64 o.kind) rfl
    have c1 := kc 1 (.bool o.sec) rfl
    have c2 := kc 2 (.string o.nm) rfl
    have c3 := kc 3 (.string o.tn) rfl
    have c4 := kc 4 o.vd rfl
    have c5 := kc 5 (.int .i64 o.off) rfl
    have c6 := kc 6 (.int .i64 o.n) rfl
    have c7 := kc 7 o.vf rfl
    have c8 := kc 8 (.int .i64 o.dir) rfl
    have c9 := kc 9 o.vk rfl
    have hdat := hok.out.dat
    rw [evd] at c4 hdat
    rw [evf] at c7
    rw [evk] at c9
    simp only [Nat.add_zero] at c0
    replace hdat := hide hdat
    clear kc hcs evd evf evk
    obtain ⟨Nd, hNd⟩ : ∃ Nd, Hid (o.dat.length = Nd) := ⟨_, rfl⟩
    obtain ⟨Nf, hNf⟩ : ∃ Nf, Hid (o.fs.length = Nf) := ⟨_, rfl⟩
    obtain ⟨Nk, hNk⟩ : ∃ Nk, Hid (o.ks.length = Nk) := ⟨_, rfl⟩
    rw [hNd.out] at c4 hdat
    rw [hNf.out] at c7
    rw [hNk.out] at c9
    go_upto_region 10 with fail
    have B3 := hide (box_below wr (.cells #[.int .i64 o.kind, .bool o.sec, .string o.nm, .string o.tn, .slice vd Nd vdc, .int .i64 o.off, .int .i64 o.n, .slice vf Nf vfc, .int .i64 o.dir, .slice vk Nk vkc] 50))
    have N3 := hide (heap_alloc_new wr (.cells #[.int .i64 o.kind, .bool o.sec, .string o.nm, .string o.tn, .slice vd Nd vdc, .int .i64 o.off, .int .i64 o.n, .slice vf Nf vfc, .int .i64 o.dir, .slice vk Nk vkc] 50))
    have K3 := hide (hI.out.1.below B3.out)
    have hc7 := hI.out.2.1
    have P3 : Hid ((wr.alloc (.cells #[.int .i64 o.kind, .bool o.sec, .string o.nm, .string o.tn, .slice vd Nd vdc, .int .i64 o.off, .int .i64 o.n, .slice vf Nf vfc, .int .i64 o.dir, .slice vk Nk vkc] 50)).heap[pb]? = some (.cells #[.pointer (some ⟨db, 0, none⟩), .pointer none] 47 (0, 0)) ∧ ¬ O pb) := ⟨(B3.out.block _ (heap_lt hI.out.2.2.1)).trans hI.out.2.2.1, hI.out.2.2.2⟩
    have hno : Hid (¬ O wr.heap.size) := fun c => Nat.lt_irrefl _ (hI.out.1.d.lt _ c)
    generalize wr.alloc (.cells #[.int .i64 o.kind, .bool o.sec, .string o.nm, .string o.tn, .slice vd Nd vdc, .int .i64 o.off, .int .i64 o.n, .slice vf Nf vfc, .int .i64 o.dir, .slice vk Nk vkc] 50) = w3 at *
    generalize wr.heap.size = ob at *
    clear c0 c1 c2 c3 c4 c5 c6 c7 c8 c9 hI B3
    obtain ⟨y0, y2, y3, y4, y5, y6⟩ := ten_cells N3.out
    have p0 : w3.cell? ⟨pb, 0, none⟩ = some (.pointer (some ⟨db, 0, none⟩)) := by simp [World.cell?, P3.out.1]
    by_cases hd5 : (Nd : Int) > 5000
    · go_wp2_with fail
      go_roundw
      case rel => exact ⟨i + 1, S, O, by omega, by omega, by go_num, rfl, K3.out, by omega, P3.out.1, P3.out.2⟩
      case measure => simp [intOf]; omega
    have hCo := count_dsk K3.out.d
    unfold DS.cs at hCo
    go_upto_region 13 with (go_at_call 17; refine hCo.mono ?_; rintro e w4 ⟨rfl, B4⟩; replace B4 := hide B4)
    have B5 := hide (box_below w4 (.cells #[.int .i64 S.c0, .int .i64 S.c1, .int .i64 S.c2, .int .i64 S.c3, .int .i64 S.c4, .int .i64 S.c5, .int .i64 S.c6, .int .i64 S.c7, .int .i64 S.c8] 52))
    have N5 := hide (heap_alloc_new w4 (.cells #[.int .i64 S.c0, .int .i64 S.c1, .int .i64 S.c2, .int .i64 S.c3, .int .i64 S.c4, .int .i64 S.c5, .int .i64 S.c6, .int .i64 S.c7, .int .i64 S.c8] 52))
    have K5 := hide ((K3.out.below B4.out).below B5.out)
    have E5 : Hid (Below w3.heap.size w3 (w4.alloc (.cells #[.int .i64 S.c0, .int .i64 S.c1, .int .i64 S.c2, .int .i64 S.c3, .int .i64 S.c4, .int .i64 S.c5, .int .i64 S.c6, .int .i64 S.c7, .int .i64 S.c8] 52))) := B4.out.trans (B5.out.mono B4.out.size)
    have hnw : Hid (¬ O w4.heap.size) := fun c => Nat.lt_irrefl _ ((K3.out.below B4.out).d.lt _ c)
    generalize w4.alloc (.cells #[.int .i64 S.c0, .int .i64 S.c1, .int .i64 S.c2, .int .i64 S.c3, .int .i64 S.c4, .int .i64 S.c5, .int .i64 S.c6, .int .i64 S.c7, .int .i64 S.c8] 52) = w5 at *
    generalize w4.heap.size = wb at *
    have N6 : Hid (w5.heap[ob]? = some (.cells #[.int .i64 o.kind, .bool o.sec, .string o.nm, .string o.tn, .slice vd Nd vdc, .int .i64 o.off, .int .i64 o.n, .slice vf Nf vfc, .int .i64 o.dir, .slice vk Nk vkc] 50 (0, 0))) := (E5.out.block _ (heap_lt N3.out)).trans N3.out
    have P6 : Hid (w5.heap[pb]? = some (.cells #[.pointer (some ⟨db, 0, none⟩), .pointer none] 47 (0, 0))) := (E5.out.block _ (heap_lt P3.out.1)).trans P3.out.1
    have hnp := hide P3.out.2
    clear y0 y2 y3 y4 y5 y6 p0 hCo N3 P3 K3 B4 B5 E5
    obtain ⟨y0, y2, y3, y4, y5, y6⟩ := ten_cells N6.out
    have p0 : w5.cell? ⟨pb, 0, none⟩ = some (.pointer (some ⟨db, 0, none⟩)) := by simp [World.cell?, P6.out]
    have hc71 : S.c7 ≤ 1000 := by omega
    have hc72 : 0 ≤ S.c7 := K5.out.d.cnts.1.2.2.2.2.2.2.2
    have wr7 : IntKind.i64.wrap (S.c7 + 1) = S.c7 + 1 := by rw [IntKind.wrap_i64]; omega
    have sz1 := hok.out.nm
    have sz2 := hok.out.tn
    have DD := hide (show KD w w5 db S O 1 w5 from ki_same K5.out (Below.refl _ _))
    have TL : Hid (∀ (er : Int) (q : World), KD w w5 db S O er q → ∃ S' O', KI w q db S' O' ∧ Ct S S' er ∧ q.heap[pb]? = some (.cells #[.pointer (some ⟨db, 0, none⟩), .pointer none] 47 (0, 0)) ∧ ¬ O' pb ∧ q.heap[wb]? = some (.cells #[.int .i64 S.c0, .int .i64 S.c1, .int .i64 S.c2, .int .i64 S.c3, .int .i64 S.c4, .int .i64 S.c5, .int .i64 S.c6, .int .i64 S.c7, .int .i64 S.c8] 52 (0, 0))) := by
      rintro er q ⟨S', O', h1, h2, h3⟩
      obtain ⟨q1, q2⟩ := blk_sgo P6.out hnp.out h2
      obtain ⟨q3, q4⟩ := blk_sgo N5.out hnw.out h2
      exact ⟨S', O', h1, h3, q1, q2, q3⟩
    go_upto_region 13 with fail
    repeat ((fail_if_success (with_reducible show Code.wp _ (Code.block _ _) _ _ _)); first | go_values | go_skip | go_guarded | go_step | go_upon | go_back)
    go_cut [9] from 37 to 96 (fun v9 wx => ∃ er : Int, v9 = .int .i64 er ∧ Hid (KD w w5 db S O er wx))
    case first =>
      as_aux_lemma =>
        by_cases k1 : o.kind = 1
        · have m1 : (o.kind == 1) = true := by simpa using k1
          clear k1
          have hOp := (ki_create K5.out hc71 o.nm sz1)
          go_wp2_with (go_at_call 7; refine hOp.mono ?_; rintro e w7 ⟨er, rfl, DD7⟩; replace DD7 := hide DD7)
          go_meet
          case rel => exact ⟨er, rfl, DD7.out⟩
        have n1 : (o.kind == 1) = false := by simpa using k1
        clear k1
        by_cases k2 : o.kind = 2
        · have m2 : (o.kind == 2) = true := by simpa using k2
          clear k2
          have hOp := (ki_append K5.out hc71 o.nm sz1 _ _ hdat.out)
          go_wp2_with (go_at_call 8; refine hOp.mono ?_; rintro e w7 ⟨nn, er, rfl, DD7⟩; replace DD7 := hide DD7)
          go_meet
          case rel => exact ⟨er, rfl, DD7.out⟩
        have n2 : (o.kind == 2) = false := by simpa using k2
        clear k2
        by_cases k3 : o.kind = 3
        · have m3 : (o.kind == 3) = true := by simpa using k3
          clear k3
          have hOp := (ki_sync K5.out hc71 o.nm sz1)
          go_wp2_with (go_at_call 9; refine hOp.mono ?_; rintro e w7 ⟨er, rfl, DD7⟩; replace DD7 := hide DD7)
          go_meet
          case rel => exact ⟨er, rfl, DD7.out⟩
        have n3 : (o.kind == 3) = false := by simpa using k3
        clear k3
        by_cases k5 : o.kind = 5
        · have m5 : (o.kind == 5) = true := by simpa using k5
          clear k5
          have hOp := (ki_rename K5.out hc71 o.nm o.tn sz1 sz2)
          go_wp2_with (go_at_call 11; refine hOp.mono ?_; rintro e w7 ⟨er, rfl, DD7⟩; replace DD7 := hide DD7)
          go_meet
          case rel => exact ⟨er, rfl, DD7.out⟩
        have n5 : (o.kind == 5) = false := by simpa using k5
        clear k5
        by_cases k6 : o.kind = 6
        · have m6 : (o.kind == 6) = true := by simpa using k6
          clear k6
          have hOp := (ki_remove K5.out hc71 o.nm sz1)
          go_wp2_with (go_at_call 18; refine hOp.mono ?_; rintro e w7 ⟨er, rfl, DD7⟩; replace DD7 := hide DD7)
          go_meet
          case rel => exact ⟨er, rfl, DD7.out⟩
        have n6 : (o.kind == 6) = false := by simpa using k6
        clear k6
        by_cases k7 : o.kind = 7
        · have m7 : (o.kind == 7) = true := by simpa using k7
          clear k7
          have hOp := (ki_syncDir K5.out hc71)
          go_wp2_with (go_at_call 10; refine hOp.mono ?_; rintro e w7 ⟨er, rfl, DD7⟩; replace DD7 := hide DD7)
          go_meet
          case rel => exact ⟨er, rfl, DD7.out⟩
        have n7 : (o.kind == 7) = false := by simpa using k7
        clear k7
        by_cases k8 : o.kind = 8
        · have m8 : (o.kind == 8) = true := by simpa using k8
          clear k8
          have hOp := read_dsk K5.out.d o.nm (by unfold maxLen; omega) o.off o.n
          go_wp2_with (go_at_call 14; refine hOp.mono ?_; rintro e w7 ⟨rv, rfl, _, B7⟩; have DD7 : Hid (KD w w5 db S O 1 w7) := ki_same K5.out B7; clear B7)
          go_meet
          case rel => exact ⟨1, rfl, DD7.out⟩
        have n8 : (o.kind == 8) = false := by simpa using k8
        clear k8
        go_wp2_with fail
        go_meet
        case rel => exact ⟨1, rfl, DD.out⟩
    case rest =>
      obtain ⟨er, rfl, DD7⟩ := hcut
      clear y0 y2 y3 y4 y5 y6 p0 DD
      obtain ⟨S', O', K7, hCt, P7, NP7, N7⟩ := TL.out _ _ DD7.out
      have hb7 := K7.d.cnts
      have hs7 := K7.k.sum
      unfold DS.sum at hs7
      have hCo := count_dsk K7.d
      unfold DS.cs at hCo
      have z0 : wc.cell? ⟨pb, 0, none⟩ = some (.pointer (some ⟨db, 0, none⟩)) := by simp [World.cell?, P7]
      replace K7 := hide K7
      replace P7 := hide P7
      replace NP7 := hide NP7
      have z8 : Hid (wc.cell? ⟨wb, 8, none⟩ = some (.int .i64 S.c8)) := by show _ = _; simp [World.cell?, N7]
      clear N7 DD7
      obtain ⟨a0, a1, a2, a3, a4, a5, a6, a7, a8, eA⟩ : ∃ a0 a1 a2 a3 a4 a5 a6 a7 a8, S'.c0 = a0 ∧ S'.c1 = a1 ∧ S'.c2 = a2 ∧ S'.c3 = a3 ∧ S'.c4 = a4 ∧ S'.c5 = a5 ∧ S'.c6 = a6 ∧ S'.c7 = a7 ∧ S'.c8 = a8 := ⟨_, _, _, _, _, _, _, _, _, rfl, rfl, rfl, rfl, rfl, rfl, rfl, rfl, rfl⟩
      obtain ⟨f0, f1, f2, f3, f4, f5, f6, f7, f8⟩ := eA
      unfold Ct at hCt
      rw [f0, f1, f2, f3, f4, f5, f6, f7, f8] at hCo
      rw [f0, f1, f2, f3, f4, f5, f6, f7] at hb7 hs7
      rw [f7, f8] at hCt
      have g7 : Hid (S'.c7 = a7) := f7
      clear f0 f1 f2 f3 f4 f5 f6 f7 f8
      have q1 : 0 ≤ a7 ∧ a7 ≤ 1001 := by rcases hCt with ⟨_, q, _⟩ | ⟨_, _, q, _⟩ <;> omega
      have s1 : IntKind.i64.wrap (a0 + a1) = a0 + a1 := by rw [IntKind.wrap_i64]; omega
      have s2 : IntKind.i64.wrap (a0 + a1 + a2) = a0 + a1 + a2 := by rw [IntKind.wrap_i64]; omega
      have s3 : IntKind.i64.wrap (a0 + a1 + a2 + a3) = a0 + a1 + a2 + a3 := by rw [IntKind.wrap_i64]; omega
      have s4 : IntKind.i64.wrap (a0 + a1 + a2 + a3 + a4) = a0 + a1 + a2 + a3 + a4 := by rw [IntKind.wrap_i64]; omega
      have s5 : IntKind.i64.wrap (a0 + a1 + a2 + a3 + a4 + a5) = a0 + a1 + a2 + a3 + a4 + a5 := by rw [IntKind.wrap_i64]; omega
      have s6 : IntKind.i64.wrap (a0 + a1 + a2 + a3 + a4 + a5 + a6) = a0 + a1 + a2 + a3 + a4 + a5 + a6 := by rw [IntKind.wrap_i64]; omega
      have s7 : (a7 != a0 + a1 + a2 + a3 + a4 + a5 + a6) = false := by simp; omega
      have s8 : ¬ a8 < S.c8 := by rcases hCt with ⟨_, _, q⟩ | ⟨_, _, _, q⟩ <;> omega
      replace s7 := hide s7
      clear hb7 hs7
      rcases hCt with ⟨hE, hq, hq4⟩ | ⟨hE1, hE2, hq, hq4⟩ <;> clear hq4
      · rcases hE with hE | hE
        · subst hE
          have s7' := s7.out
          rw [hq] at s7'
          have wd : Hid (a7 = S.c7 + 1) := hq
          rw [hq] at hCo
          clear hq s7
          go_wp2_with (go_at_call 17; refine hCo.mono ?_; rintro e w8 ⟨rfl, B8⟩; have x8 := ((B8.cell (p := ⟨wb, 8, none⟩) (lt_of_cell z8.out)).trans z8.out); have P8 : Hid (w8.heap[pb]? = some (.cells #[.pointer (some ⟨db, 0, none⟩), .pointer none] 47 (0, 0))) := ((B8.block _ (heap_lt P7.out)).trans P7.out); replace B8 := hide B8; have x9 := cell_but x8 (But.of_below (box_below w8 (.cells #[.int .i64 a0, .int .i64 a1, .int .i64 a2, .int .i64 a3, .int .i64 a4, .int .i64 a5, .int .i64 a6, .int .i64 (S.c7 + 1), .int .i64 a8] 52)) fun _ => False) (fun c => c))
          go_roundw
          case rel =>
            have BB := (box_below w8 (.cells #[.int .i64 a0, .int .i64 a1, .int .i64 a2, .int .i64 a3, .int .i64 a4, .int .i64 a5, .int .i64 a6, .int .i64 (S.c7 + 1), .int .i64 a8] 52))
            refine ⟨i + 1, S', O', by omega, by omega, by go_num, by rw [g7.out, wd.out], (K7.out.below B8.out).below BB, by rw [g7.out, wd.out]; omega, (BB.block _ (heap_lt P8.out)).trans P8.out, NP7.out⟩
          case measure => simp [intOf]; omega
        · subst hE
          have s7' := s7.out
          rw [hq] at s7'
          have wd : Hid (a7 = S.c7 + 1) := hq
          rw [hq] at hCo
          clear hq s7
          go_wp2_with (go_at_call 17; refine hCo.mono ?_; rintro e w8 ⟨rfl, B8⟩; have x8 := ((B8.cell (p := ⟨wb, 8, none⟩) (lt_of_cell z8.out)).trans z8.out); have P8 : Hid (w8.heap[pb]? = some (.cells #[.pointer (some ⟨db, 0, none⟩), .pointer none] 47 (0, 0))) := ((B8.block _ (heap_lt P7.out)).trans P7.out); replace B8 := hide B8; have x9 := cell_but x8 (But.of_below (box_below w8 (.cells #[.int .i64 a0, .int .i64 a1, .int .i64 a2, .int .i64 a3, .int .i64 a4, .int .i64 a5, .int .i64 a6, .int .i64 (S.c7 + 1), .int .i64 a8] 52)) fun _ => False) (fun c => c))
          go_roundw
          case rel =>
            have BB := (box_below w8 (.cells #[.int .i64 a0, .int .i64 a1, .int .i64 a2, .int .i64 a3, .int .i64 a4, .int .i64 a5, .int .i64 a6, .int .i64 (S.c7 + 1), .int .i64 a8] 52))
            refine ⟨i + 1, S', O', by omega, by omega, by go_num, by rw [g7.out, wd.out], (K7.out.below B8.out).below BB, by rw [g7.out, wd.out]; omega, (BB.block _ (heap_lt P8.out)).trans P8.out, NP7.out⟩
          case measure => simp [intOf]; omega
      · have hE1' : (er == 0) = false := by simpa using hE1
        have hE2' : (er == 21) = false := by simpa using hE2
        clear hE1 hE2
        have s7' := s7.out
        rw [hq] at s7'
        have wd : Hid (a7 = S.c7) := hq
        rw [hq] at hCo
        clear hq s7
        go_wp2_with (go_at_call 17; refine hCo.mono ?_; rintro e w8 ⟨rfl, B8⟩; have x8 := ((B8.cell (p := ⟨wb, 8, none⟩) (lt_of_cell z8.out)).trans z8.out); have P8 : Hid (w8.heap[pb]? = some (.cells #[.pointer (some ⟨db, 0, none⟩), .pointer none] 47 (0, 0))) := ((B8.block _ (heap_lt P7.out)).trans P7.out); replace B8 := hide B8; have x9 := cell_but x8 (But.of_below (box_below w8 (.cells #[.int .i64 a0, .int .i64 a1, .int .i64 a2, .int .i64 a3, .int .i64 a4, .int .i64 a5, .int .i64 a6, .int .i64 (S.c7), .int .i64 a8] 52)) fun _ => False) (fun c => c))
        go_roundw
        case rel =>
          have BB := (box_below w8 (.cells #[.int .i64 a0, .int .i64 a1, .int .i64 a2, .int .i64 a3, .int .i64 a4, .int .i64 a5, .int .i64 a6, .int .i64 (S.c7), .int .i64 a8] 52))
          refine ⟨i + 1, S', O', by omega, by omega, by go_num, by rw [g7.out, wd.out], (K7.out.below B8.out).below BB, by rw [g7.out, wd.out]; omega, (BB.block _ (heap_lt P8.out)).trans P8.out, NP7.out⟩
        case measure => simp [intOf]; omega
#print axioms counts_walk
end Go.Proofs.Ytpphjojehfhbkab.Dk
