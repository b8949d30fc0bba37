/- The contract of codec.spell in the seat YtlimcimioeepaaaGreatDoor (printed by codec/mk_spell.py).
   The contract of codec.Encode in the seat YtlimcimioeepaaaGreatDoor.
   No statement is proved here. -/
import Derived.Test.YtlimcimioeepaaaGreatDoorZG20
import Derived.Test.YtlimcimioeepaaaGreatDoorZG21
import Derived.Test.YtlimcimioeepaaaGreatDoorZG19
set_option linter.unusedVariables false
namespace Go.Proofs.YtlimcimioeepaaaGreatDoor
open Go.RowKit

/-- A task in its box, and a builder that holds bytes. -/
structure Sp (w : World) (s : Sh) (T : Task) (L : List UInt8) (x : World) : Prop where
  d : x.heap[w.heap.size]? = some (.cells #[.int .i64 T.period, .int .i64 T.deadline, .slice s.P s.np s.pc, .slice s.E s.ne s.ec, .slice s.F s.nf s.fc, .slice s.R s.nr s.rc] 27 (0, 0))
  t : IsT x w.heap.size s T
  bd : Bd w.heap.size (w.heap.size + 1) L x
  bel : Below w.heap.size w x
  len : L.length ≤ 10000
theorem Sp.lt {w : World} {s : Sh} {T : Task} {L : List UInt8} {x : World} (h : Sp w s T L x) : w.heap.size < x.heap.size := (Array.getElem?_eq_some_iff.mp h.d).1
theorem Sp.below {w : World} {s : Sh} {T : Task} {L : List UInt8} {x y : World} (h : Sp w s T L x) (hb : Below x.heap.size x y) : Sp w s T L y :=
  ⟨by rw [hb.block _ h.lt]; exact h.d, h.t.below (hb.mono h.bel.size), h.bd.below hb, h.bel.trans (hb.mono h.bel.size), h.len⟩
theorem Sp.put {w : World} {s : Sh} {T : Task} {L M : List UInt8} {x y : World} (h : Sp w s T L x) (hB : Bd w.heap.size (w.heap.size + 1) (L ++ M) y) (hb : Below w.heap.size x y) (hk : Keeps x y) (hl : (L ++ M).length ≤ 10000) : Sp w s T (L ++ M) y :=
  ⟨hk.row _ _ _ _ h.d (by decide) (by decide), h.t.below hb, hB, h.bel.trans hb, hl⟩
theorem Sp.cells {w : World} {s : Sh} {T : Task} {L : List UInt8} {x : World} (h : Sp w s T L x) : x.cell? ⟨w.heap.size, 0, none⟩ = some (.int .i64 T.period) ∧ x.cell? ⟨w.heap.size, 1, none⟩ = some (.int .i64 T.deadline) ∧ x.cell? ⟨w.heap.size, 2, none⟩ = some (.slice s.P s.np s.pc) ∧ x.cell? ⟨w.heap.size, 3, none⟩ = some (.slice s.E s.ne s.ec) ∧ x.cell? ⟨w.heap.size, 4, none⟩ = some (.slice s.F s.nf s.fc) ∧ x.cell? ⟨w.heap.size, 5, none⟩ = some (.slice s.R s.nr s.rc) := by
  have hd := h.d
  simp [World.cell?, hd]
theorem ints_new (w : World) (zs : List Int) (t : TypeId) (cs : Array Value) (hcs : cs = (zs.map (Value.int .i64)).toArray) : Ints (w.alloc (.cells cs t)) (w.alloc (.cells cs t)).heap.size (some ⟨w.heap.size, 0, none⟩) zs := fun _ =>
  ⟨w.heap.size, 0, rfl, by simp, fun k hk => by
    rw [World.cell?_alloc_at _ _ _ _ rfl, hcs]
    simp [hk]⟩
/-- What put does in spell. -/
theorem sput {w : World} {s : Sh} {T : Task} {L : List UInt8} {x : World} (h : Sp w s T L x) {k : Nat} {P : Int} {zs : List Int} {A : Option Addr} {c n : Nat} (hn : zs.length = n) (hW : Wid k P) (hl : n ≤ 1000) (hI : Ints x x.heap.size A zs) (hz : ∀ z ∈ zs, 0 ≤ z ∧ z < P) (hL : L.length ≤ 5000) :
    Calls Tryz.prog 50 #[.int .i64 (k : Int), .slice A n c, .pointer (some ⟨w.heap.size + 1, 0, none⟩)] x fun e x' => e = .returned (.tuple #[]) ∧ Sp w s T (L ++ zs.flatMap (u k)) x' ∧ Keeps x x' := by
  subst hn
  refine (put_any w.heap.size (w.heap.size + 1) L k P zs A c x hW hl hI hz (by have := h.len; omega) h.bd (Nat.le_of_lt h.lt)).mono ?_
  rintro e x' ⟨he, h1, h2, h3⟩
  have hf : (zs.flatMap (u k)).length = k * zs.length := flat_len (u k) k (u_length k) zs
  have hk4 := hW.le_
  have hlen : k * zs.length ≤ 4 * 1000 := Nat.mul_le_mul (by omega) hl
  exact ⟨he, h.put h1 h2 h3 (by rw [List.length_append]; omega), h3⟩
/-- .. of numbers that are put together just ahead. -/
theorem sputs {w : World} {s : Sh} {T : Task} {L : List UInt8} {x : World} (h : Sp w s T L x) {k : Nat} {P : Int} (zs : List Int) {c n : Nat} (cs : Array Value) (hcs : cs = (zs.map (Value.int .i64)).toArray) (hn : zs.length = n) (hW : Wid k P) (hl : n ≤ 1000) (hz : ∀ z ∈ zs, 0 ≤ z ∧ z < P) (hL : L.length ≤ 5000) {q : Nat} (hq : x.heap.size = q) :
    Calls Tryz.prog 50 #[.int .i64 (k : Int), .slice (some ⟨q, 0, none⟩) n c, .pointer (some ⟨w.heap.size + 1, 0, none⟩)] (x.alloc (.cells cs 3)) fun e x' => e = .returned (.tuple #[]) ∧ Sp w s T (L ++ zs.flatMap (u k)) x' ∧ Keeps x x' := by
  subst hq
  refine (sput (h.below (below_alloc (.cells cs 3))) hn hW hl (ints_new x zs 3 cs hcs) hz hL).mono ?_
  rintro e x' ⟨he, h1, h2⟩
  exact ⟨he, h1, (Keeps.of (below_alloc _)).trans h2⟩
theorem sws {w : World} {s : Sh} {T : Task} {L : List UInt8} {x : World} (h : Sp w s T L x) (M : List UInt8) (hM : M.length ≤ 1000) (hL : L.length ≤ 5000) :
    Calls Tryz.prog 52 #[.pointer (some ⟨w.heap.size + 1, 0, none⟩), .string (txt M)] x fun e x' => e = .returned (.tuple #[.int .i64 (txt M).size, .nilIface]) ∧ Sp w s T (L ++ M) x' := by
  refine (ws_keep w.heap.size (w.heap.size + 1) (Lib.byteCells L) (txt M) x h.bd (by rw [Lib.byteCells_length, txt_size]; omega) (Nat.le_of_lt h.lt)).mono ?_
  rintro e x' ⟨he, h1, h2, h3⟩
  refine ⟨he, h.put (.inr (by rw [strCells_txt] at h1; unfold Lib.byteCells at h1 ⊢; rwa [List.map_append])) h2 h3 (by rw [List.length_append]; omega)⟩
theorem onesB_len1 (l : List Int) : (l.flatMap (u 1)).length = l.length := onesB_length l
theorem flat_one (k : Nat) (z : Int) : [z].flatMap (u k) = u k z := by simp
theorem flat_two (k : Nat) (y z : Int) : [y, z].flatMap (u k) = u k y ++ u k z := by simp
theorem sp_start (w : World) (s : Sh) (T : Task) (hT : IsT w w.heap.size s T) : Sp w s T [] ((w.alloc (.cells #[.int .i64 T.period, .int .i64 T.deadline, .slice s.P s.np s.pc, .slice s.E s.ne s.ec, .slice s.F s.nf s.fc, .slice s.R s.nr s.rc] 27)).alloc (.cells #[.pointer none, .slice none 0 0] 94)) := by
  have hb : Below w.heap.size w ((w.alloc (.cells #[.int .i64 T.period, .int .i64 T.deadline, .slice s.P s.np s.pc, .slice s.E s.ne s.ec, .slice s.F s.nf s.fc, .slice s.R s.nr s.rc] 27)).alloc (.cells #[.pointer none, .slice none 0 0] 94)) := (below_alloc _).alloc (by simp) _
  refine ⟨?_, hT.below hb, .inl ⟨Nat.le_succ _, .slice none 0 0, ?_, ⟨rfl, .inl ⟨rfl, rfl⟩⟩, by simp [Value.ownBlock]⟩, hb, by simp⟩
  · rw [Below.heap_alloc _ _ _ (by simp)]
    exact heap_alloc_new w _
  · have h := heap_alloc_new (w.alloc (.cells #[.int .i64 T.period, .int .i64 T.deadline, .slice s.P s.np s.pc, .slice s.E s.ne s.ec, .slice s.F s.nf s.fc, .slice s.R s.nr s.rc] 27)) (.cells #[.pointer none, .slice none 0 0] 94)
    simpa using h
set_option maxRecDepth 100000 in
set_option maxHeartbeats 8000000 in
theorem spell_cany (s : Sh) (T : Task) (w : World) (hT : IsT w w.heap.size s T) (hS : Small T) (hL : (bodyB T).length ≤ 2000) :
    Calls Tryz.prog 22 #[s.arg T.period T.deadline] w fun e w' => e = .returned (.string (txt (bodyB T))) ∧ Below w.heap.size w w' := by
  have HS := Lib.hid hS
  have hbl := bodyB_length T
  have l1 := parts_len T
  have l2 := edges_len T
  have l3 := futs_len T
  have l4 := bars_len T.bars
  have hnp := hS.np
  have hne := hS.ne
  have hnf := hS.nf
  have hnr := hS.nr
  have HE := Lib.hid (show bodyB T = [] ++ [100, 97, 103, 49] ++ [(1 : Int), T.parts.length, T.edges.length, T.futures.length, T.bars.length].flatMap (u 1) ++ [T.period, T.deadline].flatMap (u 4) ++ T.parts.flatMap partB ++ T.edges.flatMap edgeB ++ T.futures.flatMap futB ++ T.bars.flatMap barB by
    unfold bodyB headB; simp [List.append_assoc])
  obtain ⟨P, np, pc, E, ne, ec, F, nf, fc, R, nr, rc⟩ := s
  have hp : T.parts.length = np := hT.hp
  have he : T.edges.length = ne := hT.he
  have hf : T.futures.length = nf := hT.hf
  have hr : T.bars.length = nr := hT.hr
  have HX := Lib.hid (sp_start w _ T hT)
  have hbl2 : (T.parts.flatMap partB).length + (T.edges.flatMap edgeB).length + (T.futures.flatMap futB).length + (T.bars.flatMap barB).length ≤ 1983 := by
    rw [hbl] at hL; unfold barsN at hL; omega
  have HPD := Lib.hid hS.period
  have HDD := Lib.hid hS.deadline
  rw [hp, he, hf, hr] at HE
  rw [hp] at hnp
  rw [he] at hne
  rw [hf] at hnf
  rw [hr] at hnr
  clear hS hL hbl l1 l2 l3 l4 hT
  have HP := Lib.hid hp
  have HEE := Lib.hid he
  have HF := Lib.hid hf
  have HR := Lib.hid hr
  clear hp he hf hr
  simp only [Sh.arg]
  go_enter Tryz.func22, Tryz.ntmps22
  go_wp2_with fail
  refine (sws HX.out [100, 97, 103, 49] (by simp) (by simp)).mono ?_
  rintro e x1 ⟨rfl, h1⟩
  have HX1 := Lib.hid h1
  obtain ⟨c0, c1, c2, c3, c4, c5⟩ := h1.cells
  clear h1 HX
  simp only at c0 c1 c2 c3 c4 c5
  go_wp2_with fail
  refine (sputs HX1.out [1, np, ne, nf, nr] (k := 1) (P := 256) _ rfl rfl (.inl ⟨rfl, rfl⟩) (by simp) (by simp; omega) (by simp) rfl).mono ?_
  rintro e x2 ⟨rfl, h1, h2⟩
  have Hx2 := Lib.hid h1
  clear h1 h2
  clear c0 c1 c2 c3 c4 c5 HX1
  obtain ⟨c0, c1, c2, c3, c4, c5⟩ := Hx2.out.cells
  simp only at c0 c1 c2 c3 c4 c5
  go_wp2_with fail
  refine (sputs Hx2.out [T.period, T.deadline] (k := 4) (P := 4294967296) _ rfl rfl (.inr (.inr ⟨rfl, rfl⟩)) (by simp) (by have := HPD.out; have := HDD.out; simp; omega) (by simp [u_length]) rfl).mono ?_
  rintro e x3 ⟨rfl, h1, h2⟩
  have Hx3 := Lib.hid h1
  clear h1 h2
  clear c0 c1 c2 c3 c4 c5 Hx2
  obtain ⟨L0, hL0⟩ : ∃ L0, L0 = [] ++ [100, 97, 103, 49] ++ [(1 : Int), np, ne, nf, nr].flatMap (u 1) ++ [T.period, T.deadline].flatMap (u 4) := ⟨_, rfl⟩
  have hl0 : L0.length ≤ 100 := by rw [hL0]; simp [u_length]
  rw [← hL0] at Hx3 HE
  clear hL0
  obtain ⟨c0, c1, c2, c3, c4, c5⟩ := Hx3.out.cells
  simp only at c0 c1 c2 c3 c4 c5
  go_wp2
  go_loopw [40] (fun i wr => ∃ j : Nat, j ≤ np ∧ i = .int .i64 j ∧ Hid (Sp w ⟨P, np, pc, E, ne, ec, F, nf, fc, R, nr, rc⟩ T (L0 ++ (T.parts.take j).flatMap partB) wr)) (fun i _ => np - (intOf i).toNat)
  case atStart => exact ⟨0, Nat.zero_le _, rfl, Lib.hid (by have h := Hx3.out; simpa using h)⟩
  case round =>
    obtain ⟨j, hj, rfl, HW⟩ := hrel
    clear Hx3 c0 c1 c2 c3 c4 c5
    by_cases hlt : j < np
    · have hfl := flat_le partB T.parts j
      obtain ⟨bk, off, x, y, z, hP, hbg, hek, d1, d2, d3⟩ := HW.out.t.parts.at_ (k := j) (by rw [HP.out]; exact hlt)
      simp only at hP
      subst hP
      have HB := Lib.hid (HS.out.parts _ (List.mem_of_getElem? hek))
      have HSN := Lib.hid (flat_snoc partB T.parts j _ hek)
      obtain ⟨xa, hxa⟩ : ∃ xa, xa = wr.alloc (.cells #[.int .i64 x, .int .i64 y, .int .i64 z] 52) := ⟨_, rfl⟩
      have HXA := Lib.hid (HW.out.below (y := xa) (by rw [hxa]; exact below_alloc _))
      have hka : xa.heap[wr.heap.size]? = some (.cells #[.int .i64 x, .int .i64 y, .int .i64 z] 52 (0, 0)) := by rw [hxa]; exact heap_alloc_new wr _
      clear hek
      have hsa : xa.heap.size = wr.heap.size + 1 := by rw [hxa]; simp
      go_wp2_with fail
      rw [← hxa]
      clear hxa
      refine (sputs HXA.out [x] (k := 1) (P := 256) _ rfl rfl (.inl ⟨rfl, rfl⟩) (by simp) (by have := HB.out; simp; omega) (by simp only [List.length_append, u_length, flat_one, flat_two]; omega) hsa).mono ?_
      rintro e y1 ⟨rfl, h1, h2⟩
      have Hy1 := Lib.hid h1
      have hky1 := h2.row _ _ _ _ hka (by decide) (by decide)
      clear h1 h2
      have d0 := cell_of_row y1 (wr.heap.size) 0 _ _ _ hky1
      have d1 := cell_of_row y1 (wr.heap.size) 1 _ _ _ hky1
      have d2 := cell_of_row y1 (wr.heap.size) 2 _ _ _ hky1
      simp at d0 d1 d2
      go_wp2_with fail
      refine (sputs Hy1.out [y] (k := 4) (P := 4294967296) _ rfl rfl (.inr (.inr ⟨rfl, rfl⟩)) (by simp) (by have := HB.out; simp; omega) (by simp only [List.length_append, u_length, flat_one, flat_two]; omega) rfl).mono ?_
      rintro e y2 ⟨rfl, h1, h2⟩
      have Hy2 := Lib.hid h1
      have hky2 := h2.row _ _ _ _ hky1 (by decide) (by decide)
      clear h1 h2
      have d0 := cell_of_row y2 (wr.heap.size) 0 _ _ _ hky2
      have d1 := cell_of_row y2 (wr.heap.size) 1 _ _ _ hky2
      have d2 := cell_of_row y2 (wr.heap.size) 2 _ _ _ hky2
      simp at d0 d1 d2
      go_wp2_with fail
      refine (sputs Hy2.out [z] (k := 2) (P := 65536) _ rfl rfl (.inr (.inl ⟨rfl, rfl⟩)) (by simp) (by have := HB.out; simp; omega) (by simp only [List.length_append, u_length, flat_one, flat_two]; omega) rfl).mono ?_
      rintro e y3 ⟨rfl, h1, h2⟩
      have Hy3 := Lib.hid h1
      clear h1 h2
      go_wp2
      go_roundw
      case rel => exact ⟨j + 1, by omega, by go_num, Lib.hid (by
        have h := Hy3.out
        rw [flat_one, flat_one, flat_one] at h
        rw [HSN.out]
        simpa [partB, List.append_assoc] using h)⟩
      case measure => simp [intOf]; omega
    · have e : np = j := by omega
      subst e
      have Hx4 : Hid (Sp w ⟨P, np, pc, E, ne, ec, F, nf, fc, R, nr, rc⟩ T (L0 ++ T.parts.flatMap partB) wr) := Lib.hid (by
        have h := HW.out
        rwa [List.take_of_length_le (by rw [HP.out]; exact Nat.le_refl _)] at h)
      clear HW hlt hj
      obtain ⟨c0, c1, c2, c3, c4, c5⟩ := Hx4.out.cells
      simp only at c0 c1 c2 c3 c4 c5
      go_wp2
      go_loopw [63] (fun i wr => ∃ j : Nat, j ≤ ne ∧ i = .int .i64 j ∧ Hid (Sp w ⟨P, np, pc, E, ne, ec, F, nf, fc, R, nr, rc⟩ T (L0 ++ T.parts.flatMap partB ++ (T.edges.take j).flatMap edgeB) wr)) (fun i _ => ne - (intOf i).toNat)
      case atStart => exact ⟨0, Nat.zero_le _, rfl, Lib.hid (by have h := Hx4.out; simpa using h)⟩
      case round =>
        obtain ⟨j, hj, rfl, HW⟩ := hrel
        clear Hx4 c0 c1 c2 c3 c4 c5
        by_cases hlt : j < ne
        · have hfl := flat_le edgeB T.edges j
          obtain ⟨bk, off, ⟨x, y⟩, hP, hbg, hek, d1, d2⟩ := HW.out.t.edges.at_ (k := j) (by rw [HEE.out]; exact hlt)
          simp only at hP
          subst hP
          have HB := Lib.hid (HS.out.edges _ (List.mem_of_getElem? hek))
          have HSN := Lib.hid (flat_snoc edgeB T.edges j _ hek)
          obtain ⟨xa, hxa⟩ : ∃ xa, xa = wr.alloc (.cells #[.int .i64 x, .int .i64 y] 56) := ⟨_, rfl⟩
          have HXA := Lib.hid (HW.out.below (y := xa) (by rw [hxa]; exact below_alloc _))
          have hka : xa.heap[wr.heap.size]? = some (.cells #[.int .i64 x, .int .i64 y] 56 (0, 0)) := by rw [hxa]; exact heap_alloc_new wr _
          have hsa : xa.heap.size = wr.heap.size + 1 := by rw [hxa]; simp
          clear hek
          go_wp2_with fail
          rw [← hxa]
          clear hxa
          refine (sputs HXA.out [x, y] (k := 1) (P := 256) _ rfl rfl (.inl ⟨rfl, rfl⟩) (by simp) (by have := HB.out; simp; omega) (by simp only [List.length_append, u_length, flat_one, flat_two]; omega) hsa).mono ?_
          rintro e y1 ⟨rfl, h1, h2⟩
          have Hy1 := Lib.hid h1
          clear h1 h2
          go_wp2
          go_roundw
          case rel => exact ⟨j + 1, by omega, by go_num, Lib.hid (by
            have h := Hy1.out
            rw [flat_two] at h
            rw [HSN.out]
            simpa [edgeB, List.append_assoc] using h)⟩
          case measure => simp [intOf]; omega
        · have e : ne = j := by omega
          subst e
          have Hx5 : Hid (Sp w ⟨P, np, pc, E, ne, ec, F, nf, fc, R, nr, rc⟩ T (L0 ++ T.parts.flatMap partB ++ T.edges.flatMap edgeB) wr) := Lib.hid (by
            have h := HW.out
            rwa [List.take_of_length_le (by rw [HEE.out]; exact Nat.le_refl _)] at h)
          clear HW hlt hj
          obtain ⟨c0, c1, c2, c3, c4, c5⟩ := Hx5.out.cells
          simp only at c0 c1 c2 c3 c4 c5
          go_wp2
          go_loopw [78] (fun i wr => ∃ j : Nat, j ≤ nf ∧ i = .int .i64 j ∧ Hid (Sp w ⟨P, np, pc, E, ne, ec, F, nf, fc, R, nr, rc⟩ T (L0 ++ T.parts.flatMap partB ++ T.edges.flatMap edgeB ++ (T.futures.take j).flatMap futB) wr)) (fun i _ => nf - (intOf i).toNat)
          case atStart => exact ⟨0, Nat.zero_le _, rfl, Lib.hid (by have h := Hx5.out; simpa using h)⟩
          case round =>
            obtain ⟨j, hj, rfl, HW⟩ := hrel
            clear Hx5 c0 c1 c2 c3 c4 c5
            by_cases hlt : j < nf
            · have hfl := flat_le futB T.futures j
              obtain ⟨bk, off, x, y, z, hP, hbg, hek, d1, d2, d3⟩ := HW.out.t.futures.at_ (k := j) (by rw [HF.out]; exact hlt)
              simp only at hP
              subst hP
              have HB := Lib.hid (HS.out.futures _ (List.mem_of_getElem? hek))
              have HSN := Lib.hid (flat_snoc futB T.futures j _ hek)
              obtain ⟨xa, hxa⟩ : ∃ xa, xa = wr.alloc (.cells #[.int .i64 x, .int .i64 y, .int .i64 z] 58) := ⟨_, rfl⟩
              have HXA := Lib.hid (HW.out.below (y := xa) (by rw [hxa]; exact below_alloc _))
              have hka : xa.heap[wr.heap.size]? = some (.cells #[.int .i64 x, .int .i64 y, .int .i64 z] 58 (0, 0)) := by rw [hxa]; exact heap_alloc_new wr _
              have hsa : xa.heap.size = wr.heap.size + 1 := by rw [hxa]; simp
              clear hek
              go_wp2_with fail
              rw [← hxa]
              clear hxa
              refine (sputs HXA.out [x, y] (k := 1) (P := 256) _ rfl rfl (.inl ⟨rfl, rfl⟩) (by simp) (by have := HB.out; simp; omega) (by simp only [List.length_append, u_length, flat_one, flat_two]; omega) hsa).mono ?_
              rintro e y1 ⟨rfl, h1, h2⟩
              have Hy1 := Lib.hid h1
              have hky1 := h2.row _ _ _ _ hka (by decide) (by decide)
              clear h1 h2
              have d0 := cell_of_row y1 (wr.heap.size) 0 _ _ _ hky1
              have d1 := cell_of_row y1 (wr.heap.size) 1 _ _ _ hky1
              have d2 := cell_of_row y1 (wr.heap.size) 2 _ _ _ hky1
              simp at d0 d1 d2
              go_wp2_with fail
              refine (sputs Hy1.out [z] (k := 2) (P := 65536) _ rfl rfl (.inr (.inl ⟨rfl, rfl⟩)) (by simp) (by have := HB.out; simp; omega) (by simp only [List.length_append, u_length, flat_one, flat_two]; omega) rfl).mono ?_
              rintro e y2 ⟨rfl, h1, h2⟩
              have Hy2 := Lib.hid h1
              clear h1 h2
              go_wp2
              go_roundw
              case rel => exact ⟨j + 1, by omega, by go_num, Lib.hid (by
                have h := Hy2.out
                rw [flat_two, flat_one] at h
                rw [HSN.out]
                simpa [futB, List.append_assoc] using h)⟩
              case measure => simp [intOf]; omega
            · have e : nf = j := by omega
              subst e
              have Hx6 : Hid (Sp w ⟨P, np, pc, E, ne, ec, F, nf, fc, R, nr, rc⟩ T (L0 ++ T.parts.flatMap partB ++ T.edges.flatMap edgeB ++ T.futures.flatMap futB) wr) := Lib.hid (by
                have h := HW.out
                rwa [List.take_of_length_le (by rw [HF.out]; exact Nat.le_refl _)] at h)
              clear HW hlt hj
              obtain ⟨c0, c1, c2, c3, c4, c5⟩ := Hx6.out.cells
              simp only at c0 c1 c2 c3 c4 c5
              go_wp2
              go_loopw [98] (fun i wr => ∃ j : Nat, j ≤ nr ∧ i = .int .i64 j ∧ Hid (Sp w ⟨P, np, pc, E, ne, ec, F, nf, fc, R, nr, rc⟩ T (L0 ++ T.parts.flatMap partB ++ T.edges.flatMap edgeB ++ T.futures.flatMap futB ++ (T.bars.take j).flatMap barB) wr)) (fun i _ => nr - (intOf i).toNat)
              case atStart => exact ⟨0, Nat.zero_le _, rfl, Lib.hid (by have h := Hx6.out; simpa using h)⟩
              case round =>
                obtain ⟨j, hj, rfl, HW⟩ := hrel
                clear Hx6 c0 c1 c2 c3 c4 c5
                by_cases hlt : j < nr
                · have hfl := flat_le barB T.bars j
                  obtain ⟨bk, off, xs, ys, A1, n1, k1, A2, n2, k2, hP, hbg, hek, q1, q2, d1, d2, hz1, hz2, _, _⟩ := HW.out.t.bars.at_ (k := j) (by rw [HR.out]; exact hlt)
                  simp only at hP
                  subst hP
                  have HQ1 := Lib.hid q1
                  have HQ2 := Lib.hid q2
                  have HZ1 := Lib.hid hz1
                  have HZ2 := Lib.hid hz2
                  clear q1 q2 hz1 hz2
                  have HB := Lib.hid (HS.out.bars _ (List.mem_of_getElem? hek))
                  have HSN := Lib.hid (flat_snoc barB T.bars j _ hek)
                  obtain ⟨xa, hxa⟩ : ∃ xa, xa = wr.alloc (.cells #[.slice A1 n1 k1, .slice A2 n2 k2] 49) := ⟨_, rfl⟩
                  have HXA := Lib.hid (HW.out.below (y := xa) (by rw [hxa]; exact below_alloc _))
                  have hka : xa.heap[wr.heap.size]? = some (.cells #[.slice A1 n1 k1, .slice A2 n2 k2] 49 (0, 0)) := by rw [hxa]; exact heap_alloc_new wr _
                  have hsa : xa.heap.size = wr.heap.size + 1 := by rw [hxa]; simp
                  clear hek
                  go_wp2_with fail
                  rw [← hxa]
                  clear hxa
                  refine (sputs HXA.out [(n1 : Int), n2] (k := 1) (P := 256) _ rfl rfl (.inl ⟨rfl, rfl⟩) (by simp) (by have := HB.out; have := HQ1.out; have := HQ2.out; simp; omega) (by simp only [List.length_append, u_length, flat_one, flat_two]; omega) hsa).mono ?_
                  rintro e y1 ⟨rfl, h1, h2⟩
                  have Hy1 := Lib.hid h1
                  have hky1 := h2.row _ _ _ _ hka (by decide) (by decide)
                  clear h1 h2
                  have d0 := cell_of_row y1 (wr.heap.size) 0 _ _ _ hky1
                  have d1 := cell_of_row y1 (wr.heap.size) 1 _ _ _ hky1
                  simp at d0 d1
                  go_wp2_with fail
                  refine (sput Hy1.out (k := 1) (P := 256) (zs := xs) HQ1.out (.inl ⟨rfl, rfl⟩) (by have := HB.out; have := HQ1.out; omega) ((HZ1.out.keep (fun p hp => (Hy1.out.bel.cell hp).trans (HW.out.bel.cell hp).symm)).more (Nat.le_of_lt Hy1.out.lt)) (by have := HB.out; first | exact this.2.2.1 | exact this.2.2.2) (by have := HQ1.out; have := HQ2.out; have := HB.out; simp only [List.length_append, u_length, flat_one, flat_two, onesB_len1]; omega)).mono ?_
                  rintro e y2 ⟨rfl, h1, h2⟩
                  have Hy2 := Lib.hid h1
                  have hky2 := h2.row _ _ _ _ hky1 (by decide) (by decide)
                  clear h1 h2
                  have d0 := cell_of_row y2 (wr.heap.size) 0 _ _ _ hky2
                  have d1 := cell_of_row y2 (wr.heap.size) 1 _ _ _ hky2
                  simp at d0 d1
                  go_wp2_with fail
                  refine (sput Hy2.out (k := 1) (P := 256) (zs := ys) HQ2.out (.inl ⟨rfl, rfl⟩) (by have := HB.out; have := HQ2.out; omega) ((HZ2.out.keep (fun p hp => (Hy2.out.bel.cell hp).trans (HW.out.bel.cell hp).symm)).more (Nat.le_of_lt Hy2.out.lt)) (by have := HB.out; first | exact this.2.2.1 | exact this.2.2.2) (by have := HQ1.out; have := HQ2.out; have := HB.out; simp only [List.length_append, u_length, flat_one, flat_two, onesB_len1]; omega)).mono ?_
                  rintro e y3 ⟨rfl, h1, h2⟩
                  have Hy3 := Lib.hid h1
                  clear h1 h2
                  go_wp2
                  go_roundw
                  case rel => exact ⟨j + 1, by omega, by go_num, Lib.hid (by
                    have h := Hy3.out
                    rw [flat_two, ← HQ1.out, ← HQ2.out] at h
                    rw [HSN.out]
                    simpa [barB, onesB, List.append_assoc] using h)⟩
                  case measure => simp [intOf]; omega
                · have e : nr = j := by omega
                  subst e
                  have Hx7 : Hid (Sp w ⟨P, np, pc, E, ne, ec, F, nf, fc, R, nr, rc⟩ T (L0 ++ T.parts.flatMap partB ++ T.edges.flatMap edgeB ++ T.futures.flatMap futB ++ T.bars.flatMap barB) wr) := Lib.hid (by
                    have h := HW.out
                    rwa [List.take_of_length_le (by rw [HR.out]; exact Nat.le_refl _)] at h)
                  clear HW hlt hj
                  rw [← HE.out] at Hx7
                  have hb := Hx7.out.bd
                  have D := Lib.hid (Tryz.Builder_String_any w.heap.size (w.heap.size + 1) (bodyB T) _ hb (Nat.le_of_lt Hx7.out.lt))
                  clear hb
                  go_wp2_with fail
                  refine D.out.mono ?_
                  rintro e x8 ⟨rfl, hb8⟩
                  have HF8 := Lib.hid (Hx7.out.bel.trans hb8)
                  clear hb8
                  go_wp2
                  go_ret
                  exact ⟨rfl, HF8.out⟩
end Go.Proofs.YtlimcimioeepaaaGreatDoor
set_option linter.unusedVariables false
namespace Go.Proofs.YtlimcimioeepaaaGreatDoor
open Go.RowKit

theorem sealS_txt (l : List UInt8) : sealS (txt l) = txt (sealL l) := by
  unfold sealS sealL
  rw [txt_list, ← txt_add]
  rfl
set_option maxRecDepth 100000 in
set_option maxHeartbeats 4000000 in
theorem encode_may (s : Sh) (T : Task) (w : World) (hD : IsD w s T) (hc : CTab w) (hm : MayT T) :
    Calls Tryz.prog 12 #[s.arg T.period T.deadline] w fun e w' => e = .returned (.tuple #[.string (txt (sealL (bodyB T))), .int .i64 0]) ∧ Below w.heap.size w w' := by
  have B0 := Lib.hid (BxT.start hD.t T.period T.deadline)
  have C := Lib.hid (fun W (h : IsD W s T) => check_any5 s T W h)
  rw [chkT_zero.mpr hm] at C
  have hb := hm.bytes
  have D := Lib.hid (fun W (h : IsT W W.heap.size s T) => spell_cany s T W h hm.small (by omega))
  have E := Lib.hid (fun W (h : Tab W) => seal_any (txt (bodyB T)) W (by rw [txt_size]; omega) h)
  rw [sealS_txt] at E
  obtain ⟨M, hM⟩ : ∃ M, M = txt (bodyB T) := ⟨_, rfl⟩
  obtain ⟨M2, hM2⟩ : ∃ M2, M2 = txt (sealL (bodyB T)) := ⟨_, rfl⟩
  rw [← hM] at D E
  rw [← hM2] at E ⊢
  have HD := Lib.hid hD
  have HC := Lib.hid hc
  clear hM hM2 hb hm hD hc
  go_enter Tryz.func12, Tryz.ntmps12
  obtain ⟨c0, c1, c2, c3, c4, c5⟩ := B0.out.b.cells
  go_wp2_with fail
  refine (C.out _ (HD.out.below B0.out.b.bel)).mono ?_
  rintro e w1 ⟨rfl, b1⟩
  have B1 := Lib.hid (show BxSE w s T w1 from B0.out.next b1)
  clear b1 c0 c1 c2 c3 c4 c5 B0
  obtain ⟨c0, c1, c2, c3, c4, c5⟩ := B1.out.b.cells
  go_wp2_with fail
  refine (D.out _ B1.out.t).mono ?_
  rintro e w2 ⟨rfl, b2⟩
  have B2 := Lib.hid (show BxSE w s T w2 from B1.out.next b2)
  clear b2 c0 c1 c2 c3 c4 c5 B1
  go_wp2_with fail
  refine (E.out _ (HC.out.via B2.out.b.bel).crc).mono ?_
  rintro e w3 ⟨rfl, b3⟩
  have B3 := Lib.hid (B2.out.b.bel.trans (b3.mono B2.out.b.bel.size))
  clear b3 B2
  go_wp2
  go_ret2
  exact ⟨rfl, B3.out⟩
set_option maxRecDepth 100000 in
set_option maxHeartbeats 4000000 in
theorem encode_no (s : Sh) (T : Task) (w : World) (hD : IsD w s T) (hm : ¬ MayT T) :
    Calls Tryz.prog 12 #[s.arg T.period T.deadline] w fun e w' => e = .returned (.tuple #[.string (txt []), .int .i64 (chkT T)]) ∧ Below w.heap.size w w' := by
  have B0 := Lib.hid (BxT.start hD.t T.period T.deadline)
  have C := Lib.hid (fun W (h : IsD W s T) => check_any5 s T W h)
  obtain ⟨r, hr⟩ : ∃ r, r = chkT T := ⟨_, rfl⟩
  have hne : r ≠ 0 := fun e => hm (chkT_zero.mp (hr ▸ e))
  rw [← hr] at C ⊢
  have HD := Lib.hid hD
  clear hm hr hD
  go_enter Tryz.func12, Tryz.ntmps12
  obtain ⟨c0, c1, c2, c3, c4, c5⟩ := B0.out.b.cells
  go_wp2_with fail
  refine (C.out _ (HD.out.below B0.out.b.bel)).mono ?_
  rintro e w1 ⟨rfl, b1⟩
  have B1 := Lib.hid (show BxSE w s T w1 from B0.out.next b1)
  clear b1 c0 c1 c2 c3 c4 c5 B0
  go_wp2
  go_ret2
  exact ⟨rfl, B1.out.b.bel⟩
theorem encode_any (s : Sh) (T : Task) (w : World) (hD : IsD w s T) (hc : CTab w) :
    Calls Tryz.prog 12 #[s.arg T.period T.deadline] w fun e w' => e = .returned (.tuple #[.string (txt (encL T)), .int .i64 (chkT T)]) ∧ Below w.heap.size w w' := by
  unfold encL
  by_cases hm : MayT T
  · rw [if_pos hm, chkT_zero.mpr hm]
    exact encode_may s T w hD hc hm
  · rw [if_neg hm]
    exact encode_no s T w hD hm
end Go.Proofs.YtlimcimioeepaaaGreatDoor
