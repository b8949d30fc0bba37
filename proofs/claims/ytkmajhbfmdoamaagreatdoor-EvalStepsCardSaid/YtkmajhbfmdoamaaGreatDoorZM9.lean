/- desc.rightParts, in the seat YtkmajhbfmdoamaaGreatDoor: its contract.
   desc.rightEdges, in the seat YtkmajhbfmdoamaaGreatDoor: its contract.
   desc.rightFutures, in the seat YtkmajhbfmdoamaaGreatDoor: its contract.
   No statement is proved here. -/
import Derived.Test.YtkmajhbfmdoamaaGreatDoorZM4
import Derived.Test.YtkmajhbfmdoamaaGreatDoorZM8
import Derived.Test.YtkmajhbfmdoamaaGreatDoorZDescIdx
import Derived.Test.YtkmajhbfmdoamaaGreatDoorZM16
set_option linter.unusedSimpArgs false
set_option linter.unusedVariables false
namespace Go.Proofs.YtkmajhbfmdoamaaGreatDoor
open Go.RowKit

theorem onePart_any (x y z : Int) (r : Bool) (hr : r = true ↔ ¬ partOk (x, y, z)) (w : World) :
    Calls Tryz.prog 95 #[.agg #[.int .i64 x, .int .i64 y, .int .i64 z]] w fun e w' => e = .returned (.bool r) ∧ Below w.heap.size w w' := by
  unfold partOk at hr
  simp only at hr
  by_cases h1 : x < 0
  · obtain rfl : r = true := hr.mpr (by omega)
    clear hr
    go_enter Tryz.func95, Tryz.ntmps95
    go_wp2
    go_ret
    exact ⟨rfl, below_alloc _⟩
  · by_cases h2 : 5 < x
    · obtain rfl : r = true := hr.mpr (by omega)
      clear hr
      go_enter Tryz.func95, Tryz.ntmps95
      go_wp2
      go_ret
      exact ⟨rfl, below_alloc _⟩
    · by_cases h3 : 0 ≤ y ∧ y ≤ 2147483647
      · have C := Lib.hid (within_any y 0 2147483647 true ⟨fun _ => h3, fun _ => rfl⟩)
        by_cases h4 : 1 ≤ z ∧ z ≤ 100
        · have D := Lib.hid (within_any z 1 100 true ⟨fun _ => h4, fun _ => rfl⟩)
          obtain rfl : r = false := by rw [← Bool.not_eq_true]; exact fun h => hr.mp h ⟨by omega, by omega, h3.1, h3.2, h4.1, h4.2⟩
          clear hr h3 h4
          go_enter Tryz.func95, Tryz.ntmps95
          go_wp2_with fail
          refine (C.out _).mono ?_
          rintro e w' ⟨rfl, rfl⟩
          go_wp2_with fail
          refine (D.out _).mono ?_
          rintro e w' ⟨rfl, rfl⟩
          go_wp2
          go_ret
          exact ⟨rfl, below_alloc _⟩
        · have D := Lib.hid (within_any z 1 100 false ⟨fun q => Bool.noConfusion q, fun q => absurd q h4⟩)
          obtain rfl : r = true := hr.mpr (fun q => h4 ⟨q.2.2.2.2.1, q.2.2.2.2.2⟩)
          clear hr h3 h4
          go_enter Tryz.func95, Tryz.ntmps95
          go_wp2_with fail
          refine (C.out _).mono ?_
          rintro e w' ⟨rfl, rfl⟩
          go_wp2_with fail
          refine (D.out _).mono ?_
          rintro e w' ⟨rfl, rfl⟩
          go_wp2
          go_ret
          exact ⟨rfl, below_alloc _⟩
      · have C := Lib.hid (within_any y 0 2147483647 false ⟨fun q => Bool.noConfusion q, fun q => absurd q h3⟩)
        obtain rfl : r = true := hr.mpr (fun q => h3 ⟨q.2.2.1, q.2.2.2.1⟩)
        clear hr h3
        go_enter Tryz.func95, Tryz.ntmps95
        go_wp2_with fail
        refine (C.out _).mono ?_
        rintro e w' ⟨rfl, rfl⟩
        go_wp2
        go_ret
        exact ⟨rfl, below_alloc _⟩
theorem rparts_any (A : Option Addr) (c n : Nat) (es : List (Int × Int × Int)) (r : Bool) (hr : r = true ↔ partsOk es) (w : World) (hn : es.length = n) (hl : n ≤ 1000) (hT : Trips w w.heap.size A es) :
    Calls Tryz.prog 67 #[.slice A n c] w fun e w' => e = .returned (.bool r) ∧ Below w.heap.size w w' := by
  have C := Lib.hid (has_part A c n es 95 #[] (eg_of Tryz.func95 (by kernel_rfl) rfl) (fun k => match es[k]? with | some e => !decide (partOk e) | none => false) (fun _ W => Below w.heap.size w W) w.heap.size hn hl
    (fun k W h => hT.below h)
    (fun k x y z W hk h => (onePart_any x y z (!decide (partOk (x, y, z))) (by simp) W).mono fun e w' ⟨he, hb⟩ => ⟨by rw [he]; simp only [hk], h.trans (hb.mono h.size)⟩)
    (!r) (by
      rw [Bool.not_eq_true', ← Bool.not_eq_true, hr]
      unfold partsOk
      constructor
      · intro h
        rw [Classical.not_forall] at h
        obtain ⟨e, h⟩ := h
        rw [Classical.not_imp] at h
        obtain ⟨j, hj, he⟩ := List.getElem_of_mem h.1
        refine ⟨j, by omega, ?_⟩
        rw [List.getElem?_eq_getElem hj, he]
        simp [h.2]
      · rintro ⟨j, hj, h⟩ hall
        rw [List.getElem?_eq_getElem (by omega)] at h
        simp only [Bool.not_eq_true', decide_eq_false_iff_not] at h
        exact h (hall _ (List.getElem_mem _)))
    w (Below.refl _ _))
  clear hT hr
  go_enter Tryz.func67, Tryz.ntmps67
  go_wp2_with fail
  refine C.out.mono ?_
  rintro e w1 ⟨rfl, k, hb⟩
  cases r with
  | true =>
    go_wp2
    go_ret
    exact ⟨rfl, hb⟩
  | false =>
    go_wp2
    go_ret
    exact ⟨rfl, hb⟩
end Go.Proofs.YtkmajhbfmdoamaaGreatDoor
set_option linter.unusedVariables false
namespace Go.Proofs.YtkmajhbfmdoamaaGreatDoor
open Go.RowKit

theorem sameEdge_any (x y u v : Int) (g : Nat) (r : Bool) (hr : r = true ↔ (x, y) = (u, v)) (w : World) (h0 : w.cell? ⟨g, 0, none⟩ = some (.int .i64 u)) (h1 : w.cell? ⟨g, 1, none⟩ = some (.int .i64 v)) :
    Calls Tryz.prog 96 #[.agg #[.int .i64 x, .int .i64 y], .pointer (some ⟨g, 0, none⟩)] w fun e w' => e = .returned (.bool r) ∧ Below w.heap.size w w' := by
  have hrun := fun W => edge_eql_run x y u v W
  obtain rfl : r = (x == u && y == v) := by
    rw [Bool.eq_iff_iff, hr]
    simp
  have hg := World.block_lt_of_cell? _ _ h0
  simp only at hg
  clear hr
  go_enter Tryz.func96, Tryz.ntmps96
  go_wp2
  go_ret
  exact ⟨rfl, below_alloc _⟩
/-- In the middle of a round: an edge in block g, the edges as they came. -/
structure BxE2 (w : World) (E : Option Addr) (g : Nat) (x y : Int) (es : List (Int × Int)) (w' : World) : Prop where
  bel : Below w.heap.size w w'
  e0 : w'.cell? ⟨g, 0, none⟩ = some (.int .i64 x)
  e1 : w'.cell? ⟨g, 1, none⟩ = some (.int .i64 y)
  l : Pairs w' w.heap.size E es
theorem BxE2.next {w w1 w2 : World} {E : Option Addr} {g : Nat} {x y : Int} {es : List (Int × Int)} (h : BxE2 w E g x y es w1) (hb : Below w1.heap.size w1 w2) : BxE2 w E g x y es w2 :=
  ⟨h.bel.trans (hb.mono h.bel.size), (hb.cell (World.block_lt_of_cell? _ _ h.e0)).trans h.e0, (hb.cell (World.block_lt_of_cell? _ _ h.e1)).trans h.e1, h.l.keep fun a ha => hb.cell (Nat.lt_of_lt_of_le ha h.bel.size)⟩
theorem Pairs.take {w : World} {B : Nat} {A : Option Addr} {es : List (Int × Int)} (h : Pairs w B A es) (k : Nat) : Pairs w B A (es.take k) := fun hn => by
  obtain ⟨b, off, e, hb, hc⟩ := h (by rw [List.length_take] at hn; omega)
  refine ⟨b, off, e, hb, fun j x hx => hc j x ?_⟩
  rw [List.getElem?_take] at hx
  split at hx
  · exact hx
  · cases hx
set_option maxRecDepth 100000 in
set_option maxHeartbeats 8000000 in
theorem redges_any (E : Option Addr) (ec ne np : Nat) (es : List (Int × Int)) (r : Bool) (hr : r = true ↔ EdgesOk np es) (w : World) (hm : es.length = ne) (hl : ne ≤ 1000) (hp : np ≤ 1000) (hc : ne ≤ ec) (hP : Pairs w w.heap.size E es) :
    Calls Tryz.prog 68 #[.slice E ne ec, .int .i64 np] w fun e w' => e = .returned (.bool r) ∧ Below w.heap.size w w' := by
  have HM := Lib.hid hm
  have HR := Lib.hid hr
  have HP := Lib.hid hP
  clear hP hm hr
  go_enter Tryz.func68, Tryz.ntmps68
  go_wp2
  go_loopw [10] (fun v wr => ∃ k : Nat, k ≤ ne ∧ v = .int .i64 k ∧ Hid (Below w.heap.size w wr) ∧ Hid (EdgesOk np (es.take k))) (fun v _ => ne - (intOf v).toNat)
  case atStart => exact ⟨0, Nat.zero_le _, rfl, Lib.hid (Below.refl _ _), Lib.hid ⟨fun e he => by simp at he, fun e he => by simp at he, by simp⟩⟩
  case round =>
    obtain ⟨k, hk, rfl, BR, HE⟩ := hrel
    by_cases hlt : k < ne
    · have hPr := HP.out.below BR.out
      obtain ⟨bk, off, ⟨x, y⟩, rfl, hbg, hek, d1, d2⟩ := hPr.at_ (k := k) (by rw [HM.out]; exact hlt)
      simp only at d1 d2
      have HS := Lib.hid (edgesOk_snoc (n := np) hek)
      have HBAD := Lib.hid (fun h : ¬ EdgesOk np (es.take (k + 1)) => show r = false by
        rw [← Bool.not_eq_true]
        exact fun z => h (edgesOk_take (HR.out.mp z) _))
      have X1 : Hid (BxE2 w (some ⟨bk, off, none⟩) wr.heap.size x y es (wr.alloc (.cells #[.int .i64 x, .int .i64 y] 48))) :=
        Lib.hid ⟨BR.out.trans ((below_alloc _).mono BR.out.size), by rw [World.cell?_alloc_at _ _ _ _ rfl]; rfl, by rw [World.cell?_alloc_at _ _ _ _ rfl]; rfl, hPr.keep fun a ha => World.cell?_alloc_lt _ _ _ (Nat.lt_of_lt_of_le ha BR.out.size)⟩
      clear hek hPr
      by_cases p1 : (0 ≤ x ∧ x < np) ∧ (0 ≤ y ∧ y < np) ∧ x ≠ y
      · have C1 := Lib.hid (twoParts_any x y np hp true ⟨fun _ => p1, fun _ => rfl⟩)
        have C2 := Lib.hid (fun (r' : Bool) (hr' : r' = true ↔ (x, y) ∈ es.take k) W hW => has_edge (some ⟨bk, off, none⟩) ec k (es.take k) 96 #[.pointer (some ⟨wr.heap.size, 0, none⟩)] (eg_of Tryz.func96 (by kernel_rfl) rfl)
          (fun j => decide ((es.take k)[j]? = some (x, y))) (fun _ W => BxE2 w (some ⟨bk, off, none⟩) wr.heap.size x y es W) w.heap.size (by rw [List.length_take, HM.out]; omega) (by omega)
          (fun j W h => h.l.take k)
          (fun j u v W hj h => (sameEdge_any u v x y wr.heap.size (decide ((es.take k)[j]? = some (x, y))) (by rw [decide_eq_true_iff, hj]; simp) W h.e0 h.e1).mono fun e w' ⟨he, hb⟩ => ⟨he, h.next hb⟩)
          r' (by
            rw [hr', List.mem_iff_getElem?]
            constructor
            · rintro ⟨j, hj⟩
              refine ⟨j, ?_, by rw [hj]; simp⟩
              have := (List.getElem?_eq_some_iff.1 hj).1
              rw [List.length_take] at this
              omega
            · rintro ⟨j, _, hj⟩
              exact ⟨j, by simpa using hj⟩) W hW)
        have hk2 : k ≤ ec := by omega
        by_cases p2 : (x, y) ∈ es.take k
        · have C3 := Lib.hid (C2.out true ⟨fun _ => p2, fun _ => rfl⟩)
          have HX := Lib.hid (HBAD.out (fun z => (HS.out.mp z).2.2.2.2 p2))
          clear p1 p2
          go_wp2_with fail
          refine (C1.out _).mono ?_
          rintro e w2 ⟨rfl, rfl⟩
          go_wp2_with fail
          refine (C3.out _ X1.out).mono ?_
          rintro e w3 ⟨rfl, _, hX⟩
          have X3 := Lib.hid hX
          clear hX d1 d2
          go_wp2
          go_ret
          exact ⟨by rw [HX.out]; rfl, X3.out.bel⟩
        · have C3 := Lib.hid (C2.out false ⟨fun q => Bool.noConfusion q, fun q => absurd q p2⟩)
          have HOK := Lib.hid (HS.out.mpr ⟨HE.out, p1.1, p1.2.1, p1.2.2, p2⟩)
          clear p1 p2
          go_wp2_with fail
          refine (C1.out _).mono ?_
          rintro e w2 ⟨rfl, rfl⟩
          go_wp2_with fail
          refine (C3.out _ X1.out).mono ?_
          rintro e w3 ⟨rfl, _, hX⟩
          have X3 := Lib.hid hX
          clear hX d1 d2
          go_wp2
          go_roundw
          case rel => exact ⟨k + 1, by omega, by go_num, Lib.hid X3.out.bel, HOK⟩
          case measure => simp [intOf]; omega
      · have C1 := Lib.hid (twoParts_any x y np hp false ⟨fun q => Bool.noConfusion q, fun q => absurd q p1⟩)
        have HX := Lib.hid (HBAD.out (fun z => p1 ⟨(HS.out.mp z).2.1, (HS.out.mp z).2.2.1, (HS.out.mp z).2.2.2.1⟩))
        clear p1
        go_wp2_with fail
        refine (C1.out _).mono ?_
        rintro e w2 ⟨rfl, rfl⟩
        go_wp2
        go_ret
        exact ⟨by rw [HX.out]; rfl, X1.out.bel⟩
    · have e : ne = k := by omega
      subst e
      have HYES := Lib.hid (show r = true from HR.out.mpr (by
        have h := HE.out
        rwa [List.take_of_length_le (by rw [HM.out]; omega)] at h))
      go_wp2
      go_ret
      exact ⟨by rw [HYES.out]; rfl, BR.out⟩
end Go.Proofs.YtkmajhbfmdoamaaGreatDoor
set_option linter.unusedVariables false
namespace Go.Proofs.YtkmajhbfmdoamaaGreatDoor
open Go.RowKit

theorem clash_any (x y z : Int) (v1 v2 v3 : Int) (g : Nat) (r : Bool) (hr : r = true ↔ (y, z) = (v2, v3)) (w : World) (h1 : w.cell? ⟨g, 1, none⟩ = some (.int .i64 v2)) (h2 : w.cell? ⟨g, 2, none⟩ = some (.int .i64 v3)) :
    Calls Tryz.prog 99 #[.agg #[.int .i64 x, .int .i64 y, .int .i64 z], .pointer (some ⟨g, 0, none⟩)] w fun e w' => e = .returned (.bool r) ∧ Below w.heap.size w w' := by
  have hg := World.block_lt_of_cell? _ _ h1
  simp only at hg
  by_cases k1 : y = v2
  · have b1 : (y == v2) = true := by simpa using k1
    by_cases k2 : z = v3
    · obtain rfl : r = true := hr.mpr (by rw [k1, k2])
      have b2 : (z == v3) = true := by simpa using k2
      clear hr k1 k2
      go_enter Tryz.func99, Tryz.ntmps99
      go_wp2
      go_ret
      exact ⟨rfl, below_alloc _⟩
    · obtain rfl : r = false := by rw [← Bool.not_eq_true]; exact fun h => k2 (by injection hr.mp h)
      have b2 : (z == v3) = false := by simpa using k2
      clear hr k1 k2
      go_enter Tryz.func99, Tryz.ntmps99
      go_wp2
      go_ret
      exact ⟨rfl, below_alloc _⟩
  · obtain rfl : r = false := by rw [← Bool.not_eq_true]; exact fun h => k1 (by injection hr.mp h)
    have b1 : (y == v2) = false := by simpa using k1
    clear hr k1
    go_enter Tryz.func99, Tryz.ntmps99
    go_wp2
    go_ret
    exact ⟨rfl, below_alloc _⟩
/-- In the middle of a round: a future in block g, the parts and the futures as they came. -/
structure BxF2 (w : World) (P F : Option Addr) (g : Nat) (x y z : Int) (ps fs : List (Int × Int × Int)) (w' : World) : Prop where
  bel : Below w.heap.size w w'
  e0 : w'.cell? ⟨g, 0, none⟩ = some (.int .i64 x)
  e1 : w'.cell? ⟨g, 1, none⟩ = some (.int .i64 y)
  e2 : w'.cell? ⟨g, 2, none⟩ = some (.int .i64 z)
  l : Trips w' w.heap.size P ps
  f : Trips w' w.heap.size F fs
theorem BxF2.next {w w1 w2 : World} {P F : Option Addr} {g : Nat} {x y z : Int} {ps fs : List (Int × Int × Int)} (h : BxF2 w P F g x y z ps fs w1) (hb : Below w1.heap.size w1 w2) : BxF2 w P F g x y z ps fs w2 :=
  ⟨h.bel.trans (hb.mono h.bel.size), (hb.cell (World.block_lt_of_cell? _ _ h.e0)).trans h.e0, (hb.cell (World.block_lt_of_cell? _ _ h.e1)).trans h.e1, (hb.cell (World.block_lt_of_cell? _ _ h.e2)).trans h.e2, h.l.keep fun a ha => hb.cell (Nat.lt_of_lt_of_le ha h.bel.size), h.f.keep fun a ha => hb.cell (Nat.lt_of_lt_of_le ha h.bel.size)⟩
theorem Trips.take {w : World} {B : Nat} {A : Option Addr} {es : List (Int × Int × Int)} (h : Trips w B A es) (k : Nat) : Trips w B A (es.take k) := fun hn => by
  obtain ⟨b, off, e, hb, hc⟩ := h (by rw [List.length_take] at hn; omega)
  refine ⟨b, off, e, hb, fun j x hx => hc j x ?_⟩
  rw [List.getElem?_take] at hx
  split at hx
  · exact hx
  · cases hx
open Classical in
/-- The futures ahead, asked for one with this user and place. -/
theorem ahead_any {w : World} {P F : Option Addr} {g : Nat} {x y z : Int} {ps fs : List (Int × Int × Int)} (fc nf k : Nat) (hm : fs.length = nf) (hk : k ≤ nf) (hl : nf ≤ 1000) (r : Bool) (hr : r = true ↔ (y, z) ∈ (fs.take k).map (fun f => f.2)) (W : World) (hW : BxF2 w P F g x y z ps fs W) :
    Calls Tryz.prog 100 #[.slice F k fc, .func (.func 99) #[] #[.pointer (some ⟨g, 0, none⟩)]] W fun e w' => e = .returned (.bool r) ∧ Below W.heap.size W w' :=
  (has_future F fc k (fs.take k) 99 #[.pointer (some ⟨g, 0, none⟩)] (eg_of Tryz.func99 (by kernel_rfl) rfl)
    (fun j => decide (∃ f, (fs.take k)[j]? = some f ∧ f.2 = (y, z))) (fun _ V => BxF2 w P F g x y z ps fs V ∧ Below W.heap.size W V) w.heap.size (by rw [List.length_take]; omega) (by omega)
    (fun j V h => h.1.f.take k)
    (fun j u v t V hj h => (clash_any u v t x y z g (decide (∃ f, (fs.take k)[j]? = some f ∧ f.2 = (y, z))) (by rw [decide_eq_true_iff, hj]; simp) V h.1.e1 h.1.e2).mono fun e w' ⟨he, hb⟩ => ⟨he, h.1.next hb, h.2.trans (hb.mono h.2.size)⟩)
    r (by
      rw [hr, List.mem_map]
      constructor
      · rintro ⟨f, hf, e⟩
        obtain ⟨j, hj⟩ := List.mem_iff_getElem?.mp hf
        refine ⟨j, ?_, by rw [decide_eq_true_iff]; exact ⟨f, hj, e⟩⟩
        have := (List.getElem?_eq_some_iff.1 hj).1
        rw [List.length_take] at this
        omega
      · rintro ⟨j, _, hj⟩
        obtain ⟨f, hf, e⟩ := of_decide_eq_true hj
        exact ⟨f, List.mem_of_getElem? hf, e⟩) W ⟨hW, Below.refl _ _⟩).mono fun e w' ⟨he, _, _, hb⟩ => ⟨he, hb⟩
set_option maxRecDepth 100000 in
set_option maxHeartbeats 8000000 in
theorem rfutures_any (P F : Option Addr) (pc np fc nf : Nat) (ps fs : List (Int × Int × Int)) (r : Bool) (hr : r = true ↔ FutsOk ps fs) (w : World) (hn : ps.length = np) (hl0 : np ≤ 1000) (hm : fs.length = nf) (hl : nf ≤ 1000) (hc : nf ≤ fc) (hT : Trips w w.heap.size P ps) (hP : Trips w w.heap.size F fs) (hok : partsOk ps) :
    Calls Tryz.prog 69 #[.slice F nf fc, .slice P np pc] w fun e w' => e = .returned (.bool r) ∧ Below w.heap.size w w' := by
  have HN := Lib.hid hn
  have HM := Lib.hid hm
  have HR := Lib.hid hr
  have HP := Lib.hid hP
  have HT := Lib.hid hT
  have HO := Lib.hid hok
  clear hP hm hr hT hn hok
  go_enter Tryz.func69, Tryz.ntmps69
  go_wp2
  go_loopw [10] (fun v wr => ∃ k : Nat, k ≤ nf ∧ v = .int .i64 k ∧ Hid (Below w.heap.size w wr) ∧ Hid (FutsOk ps (fs.take k))) (fun v _ => nf - (intOf v).toNat)
  case atStart => exact ⟨0, Nat.zero_le _, rfl, Lib.hid (Below.refl _ _), Lib.hid ⟨fun e he => by simp at he, by simp⟩⟩
  case round =>
    obtain ⟨k, hk, rfl, BR, HE⟩ := hrel
    by_cases hlt : k < nf
    · have hPr := HP.out.below BR.out
      obtain ⟨bk, off, x, y, z, rfl, hbg, hek, d1, d2, d3⟩ := hPr.at_ (k := k) (by rw [HM.out]; exact hlt)
      have HS := Lib.hid (futsOk_snoc (ps := ps) hek)
      have HBAD := Lib.hid (fun h : ¬ FutsOk ps (fs.take (k + 1)) => show r = false by
        rw [← Bool.not_eq_true]
        exact fun z => h (futsOk_take (HR.out.mp z) _))
      have X1 : Hid (BxF2 w P (some ⟨bk, off, none⟩) wr.heap.size x y z ps fs (wr.alloc (.cells #[.int .i64 x, .int .i64 y, .int .i64 z] 50))) :=
        Lib.hid ⟨BR.out.trans ((below_alloc _).mono BR.out.size), by rw [World.cell?_alloc_at _ _ _ _ rfl]; rfl, by rw [World.cell?_alloc_at _ _ _ _ rfl]; rfl, by rw [World.cell?_alloc_at _ _ _ _ rfl]; rfl, (HT.out.below BR.out).keep fun a ha => World.cell?_alloc_lt _ _ _ (Nat.lt_of_lt_of_le ha BR.out.size), hPr.keep fun a ha => World.cell?_alloc_lt _ _ _ (Nat.lt_of_lt_of_le ha BR.out.size)⟩
      have n6 := near_cell X1.out.e0
      have n7 := near_cell X1.out.e1
      have n8 := near_cell X1.out.e2
      have CA := Lib.hid (fun r' hr' W hW => ahead_any fc nf k HM.out (by omega) hl r' hr' W (X1.out.next hW))
      have hk2 : k ≤ fc := by omega
      clear hek hPr
      by_cases p1 : (0 ≤ x ∧ x < np) ∧ (0 ≤ y ∧ y < np) ∧ x ≠ y
      · have C1 := Lib.hid (twoParts_any x y np hl0 true ⟨fun _ => p1, fun _ => rfl⟩)
        obtain ⟨u, rfl⟩ : ∃ u : Nat, y = (u : Int) := ⟨y.toNat, by omega⟩
        have hu : u < np := by omega
        obtain ⟨bp, op, o1, o2, wk, rfl, hbp, hpk, f1, f2, f3⟩ := X1.out.l.at_ (k := u) (by rw [HN.out]; exact hu)
        have n9 := near_cell f3
        have hwk := (HO.out _ (List.mem_of_getElem? hpk))
        have hw1 : 1 ≤ wk := hwk.2.2.2.2.1
        have hw2 : wk ≤ 100 := hwk.2.2.2.2.2
        have HPK := Lib.hid hpk
        clear f1 f2 f3 hpk hwk
        by_cases p2 : 1 ≤ z ∧ z ≤ wk - 1
        · have C2 := Lib.hid (within_any z 1 (wk - 1) true ⟨fun _ => p2, fun _ => rfl⟩)
          have HFO : Hid (FutOne ps (x, (u : Int), z)) := Lib.hid ⟨by rw [HN.out]; exact p1.1, by rw [HN.out]; exact p1.2.1, p1.2.2, p2.1, fun e he => by
            simp only [Int.toNat_natCast] at he
            rw [HPK.out] at he
            injection he with he
            subst he
            show z < wk
            omega⟩
          by_cases p3 : ((u : Int), z) ∈ (fs.take k).map (fun f => f.2)
          · have C3 := Lib.hid (CA.out true ⟨fun _ => p3, fun _ => rfl⟩)
            have HX := Lib.hid (HBAD.out (fun q => (HS.out.mp q).2.2 p3))
            clear p1 p2 p3
            go_wp2_with fail
            refine wp_region_near _ (by kernel_rfl) (by kernel_rfl) (Nat.le_refl _) ?_
            repeat (go_big_quiet_step (first
              | (go_at_call 97; exact near_same (C1.out _))
              | (go_at_call 92; exact near_same (C2.out _))
              | (go_at_call 100; exact near_of (C3.out _ (Near.h _)) (Nat.le_refl _))))
            refine wpQuiet_nil ?_
            intro W hW
            have X2 := Lib.hid (X1.out.next hW)
            clear hW d1 d2 d3
            go_wp2
            go_ret
            exact ⟨by rw [HX.out]; rfl, X2.out.bel⟩
          · have C3 := Lib.hid (CA.out false ⟨fun q => Bool.noConfusion q, fun q => absurd q p3⟩)
            have HOK := Lib.hid (HS.out.mpr ⟨HE.out, HFO.out, p3⟩)
            clear p1 p2 p3
            go_wp2_with fail
            refine wp_region_near _ (by kernel_rfl) (by kernel_rfl) (Nat.le_refl _) ?_
            repeat (go_big_quiet_step (first
              | (go_at_call 97; exact near_same (C1.out _))
              | (go_at_call 92; exact near_same (C2.out _))
              | (go_at_call 100; exact near_of (C3.out _ (Near.h _)) (Nat.le_refl _))))
            refine wpQuiet_nil ?_
            intro W hW
            have X2 := Lib.hid (X1.out.next hW)
            clear hW d1 d2 d3
            go_wp2
            go_roundw
            case rel => exact ⟨k + 1, by omega, by go_num, Lib.hid X2.out.bel, HOK⟩
            case measure => simp [intOf]; omega
        · have C2 := Lib.hid (within_any z 1 (wk - 1) false ⟨fun q => Bool.noConfusion q, fun q => absurd q p2⟩)
          have HX := Lib.hid (HBAD.out (fun q => p2 (by
            have h := (HS.out.mp q).2.1
            have h1 := h.first
            have h2 := h.last _ (by simp only [Int.toNat_natCast]; exact HPK.out)
            simp only at h1 h2
            omega)))
          clear p1 p2
          go_wp2_with fail
          refine wp_region_near _ (by kernel_rfl) (by kernel_rfl) (Nat.le_refl _) ?_
          repeat (go_big_quiet_step (first
            | (go_at_call 97; exact near_same (C1.out _))
            | (go_at_call 92; exact near_same (C2.out _))))
          refine wpQuiet_nil ?_
          intro W hW
          have X2 := Lib.hid (X1.out.next hW)
          clear hW d1 d2 d3
          go_wp2
          go_ret
          exact ⟨by rw [HX.out]; rfl, X2.out.bel⟩
      · have C1 := Lib.hid (twoParts_any x y np hl0 false ⟨fun q => Bool.noConfusion q, fun q => absurd q p1⟩)
        have HX := Lib.hid (HBAD.out (fun q => p1 (by
          have h := (HS.out.mp q).2.1
          have h1 := h.maker
          have h2 := h.user
          have h3 := h.apart
          rw [HN.out] at h1 h2
          exact ⟨h1, h2, h3⟩)))
        clear p1
        go_wp2_with fail
        refine wp_region_near _ (by kernel_rfl) (by kernel_rfl) (Nat.le_refl _) ?_
        repeat (go_big_quiet_step (first
          | (go_at_call 97; exact near_same (C1.out _))))
        refine wpQuiet_nil ?_
        intro W hW
        have X2 := Lib.hid (X1.out.next hW)
        clear hW d1 d2 d3
        go_wp2
        go_ret
        exact ⟨by rw [HX.out]; rfl, X2.out.bel⟩
    · have e : nf = k := by omega
      subst e
      have HYES := Lib.hid (show r = true from HR.out.mpr (by
        have h := HE.out
        rwa [List.take_of_length_le (by rw [HM.out]; omega)] at h))
      go_wp2
      go_ret
      exact ⟨by rw [HYES.out]; rfl, BR.out⟩
end Go.Proofs.YtkmajhbfmdoamaaGreatDoor
