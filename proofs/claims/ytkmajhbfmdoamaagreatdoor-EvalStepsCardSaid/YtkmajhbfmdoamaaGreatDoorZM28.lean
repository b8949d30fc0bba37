/- Words for memory in the seat YtkmajhbfmdoamaaGreatDoor: a slice that reads as a list of Booleans; a memory (api.Memory) as it is handed over.
   slices.Equal at Booleans, slices.Clone, eval.Same, eval.waits in the seat YtkmajhbfmdoamaaGreatDoor: their contracts.
   No statement is proved here. -/
import Derived.Test.YtkmajhbfmdoamaaGreatDoorZM27
import Derived.Test.YtkmajhbfmdoamaaGreatDoorZM3
import Derived.Test.YtkmajhbfmdoamaaGreatDoorZM21
import Derived.Test.YtkmajhbfmdoamaaGreatDoorZM20
import Derived.Test.YtkmajhbfmdoamaaGreatDoorZM13
import Derived.Deep.RegionWith
set_option linter.unusedSimpArgs false
set_option linter.unusedVariables false
namespace Go.Proofs.YtkmajhbfmdoamaaGreatDoor
open Go.RowKit

/-- A slice value (its address A, its length that of zs) reads as the Booleans zs, below block B. -/
def Bools (w : World) (B : Nat) (A : Option Addr) (zs : List Bool) : Prop :=
  0 < zs.length → ∃ b off, A = some ⟨b, off, none⟩ ∧ b < B ∧ ∀ k, k < zs.length → w.cell? ⟨b, off + k, none⟩ = some (.bool (zs.getD k false))
theorem Bools.at_ {w : World} {B : Nat} {A : Option Addr} {zs : List Bool} {k : Nat} (h : Bools w B A zs) (hk : k < zs.length) :
    ∃ b off, A = some ⟨b, off, none⟩ ∧ b < B ∧ w.cell? ⟨b, off + k, none⟩ = some (.bool (zs.getD k false)) := by
  obtain ⟨b, off, e, hb, hc⟩ := h (by omega)
  exact ⟨b, off, e, hb, hc k hk⟩
theorem Bools.keep {w w' : World} {B : Nat} {A : Option Addr} {zs : List Bool} (h : Bools w B A zs) (hk : ∀ p : Addr, p.block < B → w'.cell? p = w.cell? p) : Bools w' B A zs := fun hn => by
  obtain ⟨b, off, e, hb, hc⟩ := h hn
  exact ⟨b, off, e, hb, fun k hk' => (hk _ hb).trans (hc k hk')⟩
theorem Bools.more {w : World} {B B' : Nat} {A : Option Addr} {zs : List Bool} (h : Bools w B A zs) (hB : B ≤ B') : Bools w B' A zs := fun hn => by
  obtain ⟨b, off, e, hb, hc⟩ := h hn
  exact ⟨b, off, e, by omega, hc⟩
theorem Bools.below {w w' : World} {B : Nat} {A : Option Addr} {zs : List Bool} (h : Bools w B A zs) (hb : Below B w w') : Bools w' B A zs := h.keep fun _ hp => hb.cell hp
theorem Bools.nil_ (w : World) (B : Nat) (A : Option Addr) : Bools w B A [] := fun h => absurd h (by simp)
theorem Bools.none_nil {w : World} {B : Nat} {zs : List Bool} (h : Bools w B none zs) : zs = [] := by
  rcases Nat.eq_zero_or_pos zs.length with h0 | h0
  · exact List.eq_nil_of_length_eq_zero h0
  · obtain ⟨_, _, e, _⟩ := h h0
    cases e
def boolsV (l : List Bool) : List Value := l.map Value.bool
theorem boolsV_at {l : List Bool} {j : Nat} (h : j < l.length) : (boolsV l)[j]? = some (.bool (l.getD j false)) := by
  unfold boolsV
  rw [List.getElem?_map, List.getElem?_eq_getElem h, List.getD_eq_getElem?_getD, List.getElem?_eq_getElem h]
  rfl
theorem boolsV_set (l : List Bool) (j : Nat) (z : Bool) : boolsV (l.set j z) = (boolsV l).set j (.bool z) := by unfold boolsV; rw [List.map_set]
theorem Bools.cells {w : World} {B : Nat} {ad : Addr} {zs : List Bool} (h : Bools w B (some ad) zs) : ∀ (j : Nat) (u : Value), (boolsV zs)[j]? = some u → w.cell? (ad.add j) = some u := by
  intro j u hu
  have hj : j < zs.length := by
    rcases Nat.lt_or_ge j zs.length with hlt | hge
    · exact hlt
    · rw [List.getElem?_eq_none (by simpa [boolsV] using hge)] at hu; cases hu
  obtain ⟨b, off, e, hb, hc⟩ := h (by omega)
  injection e with e
  subst e
  rw [addr_add, hc j hj]
  rw [boolsV_at hj] at hu
  exact hu
theorem bools_oneCell (zs : List Bool) : ∀ u ∈ boolsV zs, u.oneCell' = true := by
  intro u hu
  obtain ⟨n, _, rfl⟩ := List.mem_map.mp hu
  rfl
/-- A list of Booleans in a block of the call's own (from base on). -/
def OwnZ (w : World) (base : Nat) (v : Value) (zs : List Bool) : Prop := w.ownsRow base 4 1 v zs.length (boolsV zs)
theorem OwnZ.bools {w : World} {base : Nat} {v : Value} {zs : List Bool} (h : OwnZ w base v zs) : ∃ A c, v = .slice A zs.length c ∧ Bools w w.heap.size A zs ∧ (A = none → zs.length = 0 ∧ c = 0) := by
  rcases h.2 with ⟨rfl, hn⟩ | ⟨g, cap, cur, rfl, hg, hgg, rest⟩
  · have : zs = [] := List.eq_nil_of_length_eq_zero hn
    subst this
    exact ⟨none, 0, rfl, Bools.nil_ _ _ _, fun _ => ⟨rfl, rfl⟩⟩
  · refine ⟨some ⟨g, 0, none⟩, cap, rfl, fun _ => ⟨g, 0, rfl, (Array.getElem?_eq_some_iff.1 hgg).1, fun k hk => ?_⟩, fun e => by cases e⟩
    have h' : w.ownsRow base 4 1 (.slice (some ⟨g, 0, none⟩) zs.length cap) zs.length (boolsV zs) := h
    have := h'.cells (g := g) rfl k _ (boolsV_at hk)
    rwa [addr_add] at this
theorem row_bools {w : World} {g : Nat} {zs : List Bool} (h : RowV g 4 (boolsV zs) w) : Bools w w.heap.size (some ⟨g, 0, none⟩) zs := fun _ =>
  ⟨g, 0, rfl, h.lt, fun k hk => by rw [Nat.zero_add]; exact h.cell (boolsV_at hk)⟩
theorem row_ints' {w : World} {g : Nat} {zs : List Int} (h : RowV g 3 (intsV zs) w) : Ints w w.heap.size (some ⟨g, 0, none⟩) zs := fun _ =>
  ⟨g, 0, rfl, h.lt, fun k hk => by rw [Nat.zero_add]; exact h.cell (intsV_at hk)⟩
/-- A memory, as it is handed over. -/
structure IsM (w : World) (A : Option Addr) (n c : Nat) (F : Option Addr) (m d : Nat) (D : List Bool) (V : List Int) : Prop where
  hn : D.length = n
  hm : V.length = m
  ln : n ≤ 400
  lm : m ≤ 400
  bools : Bools w w.heap.size A D
  ints : Ints w w.heap.size F V
  hA : A = none → n = 0 ∧ c = 0
  hF : F = none → m = 0 ∧ d = 0
theorem IsM.below {w w' : World} {A : Option Addr} {n c : Nat} {F : Option Addr} {m d : Nat} {D : List Bool} {V : List Int} (h : IsM w A n c F m d D V) (hb : Below w.heap.size w w') : IsM w' A n c F m d D V :=
  ⟨h.hn, h.hm, h.ln, h.lm, (h.bools.below hb).more hb.size, (h.ints.below hb).more hb.size, h.hA, h.hF⟩
theorem noM (w : World) : IsM w none 0 0 none 0 0 [] [] := ⟨rfl, rfl, by decide, by decide, Bools.nil_ _ _ _, Ints.nil_ _ _ _, fun _ => ⟨rfl, rfl⟩, fun _ => ⟨rfl, rfl⟩⟩
theorem boolsV_repl (n : Nat) : boolsV (List.replicate n false) = List.replicate n (Value.bool false) := by unfold boolsV; rw [List.map_replicate]
theorem intsV_repl (n : Nat) : intsV (List.replicate n 0) = List.replicate n (Value.int .i64 0) := by unfold intsV; rw [List.map_replicate]
end Go.Proofs.YtkmajhbfmdoamaaGreatDoor
set_option linter.unusedVariables false
namespace Go.Proofs.YtkmajhbfmdoamaaGreatDoor
open Go.RowKit

theorem Bools.at2 {w : World} {B : Nat} {A : Option Addr} {zs : List Bool} {k : Nat} (h : Bools w B A zs) (hk : k < zs.length) :
    ∃ b off z, A = some ⟨b, off, none⟩ ∧ b < B ∧ zs[k]? = some z ∧ w.cell? ⟨b, off + k, none⟩ = some (.bool z) := by
  obtain ⟨b, off, e, hb, hc⟩ := h (by omega)
  exact ⟨b, off, zs[k], e, hb, List.getElem?_eq_getElem hk, by rw [hc k hk, List.getD_eq_getElem?_getD, List.getElem?_eq_getElem hk]; rfl⟩
set_option maxHeartbeats 1600000 in
theorem eq_bools (B : Nat) (A1 A2 : Option Addr) (c1 c2 : Nat) (xs ys : List Bool) (w : World) (hx : xs.length ≤ 1000) (hy : ys.length ≤ 1000) (h1 : Bools w B A1 xs) (h2 : Bools w B A2 ys) :
    Calls Tryz.prog 32 #[.slice A1 xs.length c1, .slice A2 ys.length c2] w fun e w' => e = .returned (.bool (decide (xs = ys))) ∧ ∃ N, w' = w.drewN N := by
  obtain ⟨n, hn⟩ : ∃ n, n = xs.length := ⟨_, rfl⟩
  obtain ⟨m, hm⟩ : ∃ m, m = ys.length := ⟨_, rfl⟩
  rw [← hn, ← hm]
  rw [← hn] at hx
  rw [← hm] at hy
  have HN := Lib.hid hn
  have HM := Lib.hid hm
  have H1 := Lib.hid h1
  have H2 := Lib.hid h2
  clear hn hm h1 h2
  by_cases hnm : n = m
  · subst hnm
    go_enter Tryz.func32, Tryz.ntmps32
    go_wp2
    go_loopw [13] (fun i wr => ∃ j N : Nat, j ≤ n ∧ i = .int .i64 j ∧ Hid (xs.take j = ys.take j) ∧ wr = w.drewN N) (fun i _ => n - (intOf i).toNat)
    case atStart => exact ⟨0, 0, Nat.zero_le _, rfl, Lib.hid rfl, rfl⟩
    case round =>
      obtain ⟨j, N, hj, rfl, HT, rfl⟩ := hrel
      by_cases hlt : j < n
      · obtain ⟨b1, o1, x, rfl, _, hx1, hc1⟩ := H1.out.at2 (k := j) (by rw [← HN.out]; exact hlt)
        obtain ⟨b2, o2, y, rfl, _, hy1, hc2⟩ := H2.out.at2 (k := j) (by rw [← HM.out]; exact hlt)
        have HX := Lib.hid hx1
        have HY := Lib.hid hy1
        clear hx1 hy1
        by_cases hxy : x = y
        · subst hxy
          go_wp2
          go_quiet (fail)
          go_wp2
          go_roundw
          case rel => exact ⟨j + 1, _, by omega, by go_num, Lib.hid (take_next HT.out HX.out HY.out), rfl⟩
          case measure => simp [intOf]; omega
        · have hb : (!(x == y)) = true := by simpa using hxy
          have HXY := Lib.hid hxy
          clear hxy
          go_wp2
          go_quiet (fail)
          go_wp2
          go_ret
          exact ⟨by rw [decide_eq_false (take_part HX.out HY.out HXY.out)]; rfl, _, drews w N _⟩
      · obtain rfl : j = n := by omega
        go_wp2
        go_ret
        exact ⟨by rw [decide_eq_true (take_ext (by rw [← HN.out, ← HM.out]) (by rw [← HN.out]; exact HT.out))]; rfl, _, rfl⟩
  · have hb : ((n : Int) != (m : Int)) = true := by simp; omega
    go_enter Tryz.func32, Tryz.ntmps32
    go_wp2
    go_ret
    exact ⟨by rw [decide_eq_false (fun e : xs = ys => hnm (by rw [HN.out, HM.out, e]))]; rfl, 0, rfl⟩
section
variable {A : Option Addr} {n c : Nat} {F : Option Addr} {m d : Nat} {D : List Bool} {V : List Int} {A' : Option Addr} {n' c' : Nat} {F' : Option Addr} {m' d' : Nat} {D' : List Bool} {V' : List Int}
set_option maxHeartbeats 2000000 in
theorem same_m (w : World) (h : IsM w A n c F m d D V) (h' : IsM w A' n' c' F' m' d' D' V') :
    Calls Tryz.prog 16 #[.agg #[.slice A n c, .slice F m d], .agg #[.slice A' n' c', .slice F' m' d']] w fun e w' => e = .returned (.bool (decide (D = D' ∧ V = V'))) ∧ Below w.heap.size w w' := by
  obtain ⟨w0, hw0⟩ : ∃ w0, w0 = (w.alloc (.cells #[.slice A n c, .slice F m d] 31)).alloc (.cells #[.slice A' n' c', .slice F' m' d'] 31) := ⟨_, rfl⟩
  have hb0 : Below w.heap.size w w0 := by rw [hw0]; exact below_alloc2 _ _
  have C1 := eq_bools w0.heap.size A A' c c' D D' w0 (by rw [h.hn]; have := h.ln; omega) (by rw [h'.hn]; have := h'.ln; omega) ((h.below hb0).bools) ((h'.below hb0).bools)
  have C2 := Lib.hid (fun N => eq_ints w0.heap.size F F' d d' V V' (w0.drewN N) (by rw [h.hm]; have := h.lm; omega) (by rw [h'.hm]; have := h'.lm; omega) ((h.below hb0).ints.below (below_drewN (Below.refl _ _) N)) ((h'.below hb0).ints.below (below_drewN (Below.refl _ _) N)))
  rw [h.hn, h'.hn] at C1
  simp only [h.hm, h'.hm] at C2
  rw [hw0] at C1 C2
  have HB := Lib.hid (fun N => below_drewN (below_alloc2 (w := w) (.cells #[.slice A n c, .slice F m d] 31) (.cells #[.slice A' n' c', .slice F' m' d'] 31)) N)
  have HC1 := Lib.hid C1
  clear h h' hw0 C1 hb0
  by_cases h1 : D = D'
  · rw [decide_eq_true h1] at HC1
    have hr : decide (D = D' ∧ V = V') = decide (V = V') := by simp [h1]
    rw [hr]
    obtain ⟨r, hr⟩ : ∃ r, r = decide (V = V') := ⟨_, rfl⟩
    simp only [← hr] at C2 ⊢
    clear h1 hr
    go_enter Tryz.func16, Tryz.ntmps16
    go_wp2_with (first
      | (go_at_call 32; refine HC1.out.mono ?_; rintro e w' ⟨rfl, N, rfl⟩)
      | (go_at_call 33; refine (C2.out _).mono ?_; rintro e w' ⟨rfl, M, rfl⟩))
    go_ret
    exact ⟨rfl, HB.out _⟩
  · rw [decide_eq_false h1] at HC1
    rw [decide_eq_false (fun q : D = D' ∧ V = V' => h1 q.1)]
    clear h1
    go_enter Tryz.func16, Tryz.ntmps16
    go_wp2_with (go_at_call 32; refine HC1.out.mono ?_; rintro e w' ⟨rfl, N, rfl⟩)
    go_ret
    exact ⟨rfl, HB.out N⟩
end
/-! Copies -/
theorem equalIn_nil (W : World) (d : Nat) (t e : TypeId) (a : Option Addr) (l c : Nat) (h : Tryz.prog.underlying t = some (.slice e)) : (Op.equalIn (d + 1) t (.slice a l c) (.slice none 0 0)).run Tryz.prog W = .ok a.isNone W := by
  cases a <;> simp [Op.equalIn, run_underlying h]
theorem equal_nil (W : World) (t e : TypeId) (a : Option Addr) (l c : Nat) (h : Tryz.prog.underlying t = some (.slice e)) : (Op.equal t (.slice a l c) (.slice none 0 0)).run Tryz.prog W = .ok a.isNone W := equalIn_nil W 9999 t e a l c h
theorem eql_nil (W : World) (t e : TypeId) (a : Option Addr) (l c : Nat) (h : Tryz.prog.underlying t = some (.slice e)) : (binOp .eql t (.slice a l c) (.slice none 0 0)).run Tryz.prog W = .ok (.bool a.isNone) W := by
  simp [binOp, equal_nil W t e a l c h]
/-- A new list of Booleans of the caller's own, handed out. -/
def GotZ (zs : List Bool) (w : World) (e : Ending) (w' : World) : Prop := ∃ A c, e = .returned (.slice A zs.length c) ∧ OwnZ w' w.heap.size (.slice A zs.length c) zs ∧ Below w.heap.size w w'
theorem new_bools (W : World) (ty : TypeId) (A : Option Addr) (c : Nat) (zs : List Bool) (hl : zs.length ≤ 1000) (hZ : Bools W W.heap.size A zs) (hA : A = none → zs.length = 0 ∧ c = 0) :
    ∃ v' w', (Builtin.append_ #[29, 29] ty #[.slice (some ⟨W.heap.size, 0, none⟩) 0 0, .slice A zs.length c]).run Tryz.prog (W.alloc (.cells #[] 4)) = .ok v' w' ∧ OwnZ w' W.heap.size v' zs ∧ Below W.heap.size W w' := by
  obtain ⟨i0, hi, hz0, hz1, hz2⟩ := info_parts bool_cell_info
  obtain ⟨v', w', hr, ho, hb⟩ := fresh_append (P := Tryz.prog) (W.alloc (.cells #[] 4)) 29 ty 4 i0 (.bool false) 1 1 Tryz.underlying29 hi hz0 hz1 hz2 rfl (by decide) W.heap.size W.heap.size (heap_alloc_new W _) (Nat.le_refl _) (by simp) A zs.length c (boolsV zs) (by simp [boolsV]) hA (fun ad e => by subst e; exact (hZ.below (below_alloc _)).cells) (bools_oneCell zs) (by unfold maxLen; omega) (by omega)
  exact ⟨v', w', hr, ho, (below_alloc _).trans (hb.mono (by simp))⟩
theorem new_ints8 (W : World) (ty : TypeId) (A : Option Addr) (c : Nat) (zs : List Int) (hl : zs.length ≤ 1000) (hZ : Ints W W.heap.size A zs) (hA : A = none → zs.length = 0 ∧ c = 0) :
    ∃ v' w', (Builtin.append_ #[28, 28] ty #[.slice (some ⟨W.heap.size, 0, none⟩) 0 0, .slice A zs.length c]).run Tryz.prog (W.alloc (.cells #[] 3)) = .ok v' w' ∧ OwnI w' W.heap.size v' zs ∧ Below W.heap.size W w' := by
  obtain ⟨i0, hi, hz0, hz1, hz2⟩ := info_parts int_cell_info
  obtain ⟨v', w', hr, ho, hb⟩ := fresh_append (P := Tryz.prog) (W.alloc (.cells #[] 3)) 28 ty 3 i0 (.int .i64 0) 1 8 Tryz.underlying28 hi hz0 hz1 hz2 rfl (by decide) W.heap.size W.heap.size (heap_alloc_new W _) (Nat.le_refl _) (by simp) A zs.length c (zs.map (Value.int .i64)) (by simp) hA (fun ad e => by subst e; exact (hZ.below (below_alloc _)).cells) (oneCell_ints zs) (by unfold maxLen; omega) (by omega)
  exact ⟨v', w', hr, ho, (below_alloc _).trans (hb.mono (by simp))⟩
set_option maxRecDepth 100000 in
set_option maxHeartbeats 2000000 in
theorem clone_z (w : World) (A : Option Addr) (n c : Nat) (zs : List Bool) (hn : zs.length = n) (hl : n ≤ 1000) (hZ : Bools w w.heap.size A zs) (hA : A = none → n = 0 ∧ c = 0) :
    Calls Tryz.prog 22 #[.slice A n c] w (GotZ zs w) := by
  subst hn
  rcases A with _ | ad
  · obtain ⟨h0, rfl⟩ := hA rfl
    obtain rfl : zs = [] := List.eq_nil_of_length_eq_zero h0
    clear hZ hA h0
    have hnil := fun W a l c => eql_nil W 29 4 a l c Tryz.underlying29
    go_enter Tryz.func22, Tryz.ntmps22
    go_wp2
    go_ret
    exact ⟨none, 0, rfl, ⟨rfl, .inl ⟨rfl, rfl⟩⟩, Below.refl _ _⟩
  · obtain ⟨v', w1, hr, hO, hB⟩ := new_bools w 29 (some ad) c zs hl hZ hA
    obtain ⟨A', c', rfl, _⟩ := hO.bools
    have HO := Lib.hid hO
    have HB := Lib.hid hB
    obtain ⟨n, hn⟩ : ∃ n, n = zs.length := ⟨_, rfl⟩
    unfold GotZ
    rw [← hn] at hr hl HO ⊢
    clear hZ hA hO hB hn
    have hnil := fun W a l c => eql_nil W 29 4 a l c Tryz.underlying29
    go_enter Tryz.func22, Tryz.ntmps22
    go_wp2_with (at_builtin; refine wpList_append_run rfl _ _ 29 _ _ rfl rfl rfl hr ?_)
    go_ret
    exact ⟨A', c', rfl, HO.out, HB.out⟩
set_option maxRecDepth 100000 in
set_option maxHeartbeats 2000000 in
theorem clone_i (w : World) (A : Option Addr) (n c : Nat) (zs : List Int) (hn : zs.length = n) (hl : n ≤ 1000) (hZ : Ints w w.heap.size A zs) (hA : A = none → n = 0 ∧ c = 0) :
    Calls Tryz.prog 23 #[.slice A n c] w (GotOwn zs w) := by
  subst hn
  rcases A with _ | ad
  · obtain ⟨h0, rfl⟩ := hA rfl
    obtain rfl : zs = [] := List.eq_nil_of_length_eq_zero h0
    clear hZ hA h0
    have hnil := fun W a l c => eql_nil W 28 3 a l c Tryz.underlying28
    go_enter Tryz.func23, Tryz.ntmps23
    go_wp2
    go_ret
    exact ⟨none, 0, rfl, ⟨rfl, .inl ⟨rfl, rfl⟩⟩, Below.refl _ _⟩
  · obtain ⟨v', w1, hr, hO, hB⟩ := new_ints8 w 28 (some ad) c zs hl hZ hA
    obtain ⟨A', c', rfl, _⟩ := hO.slice
    have HO := Lib.hid hO
    have HB := Lib.hid hB
    obtain ⟨n, hn⟩ : ∃ n, n = zs.length := ⟨_, rfl⟩
    unfold GotOwn
    rw [← hn] at hr hl HO ⊢
    clear hZ hA hO hB hn
    have hnil := fun W a l c => eql_nil W 28 3 a l c Tryz.underlying28
    go_enter Tryz.func23, Tryz.ntmps23
    go_wp2_with (at_builtin; refine wpList_append_run rfl _ _ 28 _ _ rfl rfl rfl hr ?_)
    go_ret
    exact ⟨A', c', rfl, HO.out, HB.out⟩

/-! Who waits -/
def waitL (E : List (Int × Int)) (D : List Bool) (n : Nat) : List Bool := (List.range n).map (waitB E D)
theorem waitL_len (E : List (Int × Int)) (D : List Bool) (n : Nat) : (waitL E D n).length = n := by simp [waitL]
theorem waitL_at {E : List (Int × Int)} {D : List Bool} {n j : Nat} (h : j < n) : (waitL E D n).getD j false = waitB E D j := by
  unfold waitL
  rw [List.getD_eq_getElem?_getD, List.getElem?_map, List.getElem?_range h]
  rfl
theorem waitL_nil (D : List Bool) (n : Nat) : waitL [] D n = List.replicate n false := by
  unfold waitL
  exact List.ext_getElem (by simp) fun i h1 h2 => by simp [waitB]
theorem waitL_step {E : List (Int × Int)} {D : List Bool} {n j : Nat} {x y : Nat} (h : E[j]? = some ((x : Int), (y : Int))) : waitL (E.take (j + 1)) D n = if D.getD x false = true then waitL (E.take j) D n else (waitL (E.take j) D n).set y true := by
  have hstep : ∀ i, waitB (E.take (j + 1)) D i = (waitB (E.take j) D i || (decide ((y : Int) = (i : Int)) && !(D.getD x false))) := fun i => by
    unfold waitB
    rw [List.take_add_one, h, List.any_append]
    simp
  have hl : ∀ (l : List Bool) (p : Nat → Bool), l.length = n → (∀ i, i < n → l.getD i false = p i) → (List.range n).map p = l := fun l p hl hp => by
    refine List.ext_getElem (by simp [hl]) fun i h1 h2 => ?_
    have := hp i (by simpa using h1)
    rw [List.getD_eq_getElem?_getD, List.getElem?_eq_getElem h2] at this
    simp at this ⊢
    exact this.symm
  conv => lhs; unfold waitL
  by_cases hd : D.getD x false = true
  · rw [if_pos hd]
    refine hl _ _ (waitL_len _ _ _) fun i hi => ?_
    rw [waitL_at hi, hstep, hd]
    simp
  · rw [if_neg hd]
    have hd : D.getD x false = false := by simpa using hd
    refine hl _ _ (by rw [List.length_set, waitL_len]) fun i hi => ?_
    rw [getD_set, waitL_len, hstep, hd]
    by_cases e : y = i
    · subst e
      rw [if_pos ⟨rfl, hi⟩]
      simp
    · rw [if_neg (fun k => e k.1), waitL_at hi]
      have : ¬ (y : Int) = (i : Int) := by omega
      simp [this]
set_option maxRecDepth 100000 in
set_option maxHeartbeats 4000000 in
theorem waits_any (A : Option Addr) (n c : Nat) (F : Option Addr) (m d : Nat) (R : Option Addr) (k e : Nat) (A2 : Option Addr) (n2 c2 : Nat) (E : List (Int × Int)) (D : List Bool) (w : World) (hm : E.length = m) (hml : m ≤ 400) (hn : D.length = n2) (hnl : n2 ≤ 400) (hF : Fits n2 E) (hP : Pairs w w.heap.size F E) (hD : Bools w w.heap.size A2 D) :
    Calls Tryz.prog 38 #[.agg #[.slice A n c, .slice F m d, .slice R k e], .slice A2 n2 c2] w fun e w' => ∃ g, e = .returned (.slice (some ⟨g, 0, none⟩) n2 n2) ∧ w.heap.size ≤ g ∧ RowV g 4 (boolsV (waitL E D n2)) w' ∧ Below w.heap.size w w' := by
  have HP := Lib.hid hP
  have HM := Lib.hid hm
  have HN := Lib.hid hn
  have HD := Lib.hid hD
  have HF := Lib.hid hF
  have hmk := fun W => make_bools n2 (by omega) W
  obtain ⟨w0, hw0⟩ : ∃ w0, w0 = w.alloc (.cells #[.slice A n c, .slice F m d, .slice R k e] 60) := ⟨_, rfl⟩
  have hs0 : w0.heap.size = w.heap.size + 1 := by rw [hw0]; simp
  have hb0 : Below w.heap.size w w0 := by rw [hw0]; exact below_alloc _
  have hr0 : RowV w0.heap.size 4 (boolsV (waitL (E.take 0) D n2)) (w0.alloc (.cells (List.replicate n2 (Value.bool false)).toArray 4)) := by
    rw [List.take_zero, waitL_nil, boolsV_repl]
    exact RowV.new w0 _ _
  have HR0 := Lib.hid hr0
  have HB0 : Hid (Below w.heap.size w (w0.alloc (.cells (List.replicate n2 (Value.bool false)).toArray 4))) := Lib.hid (hb0.alloc (by omega) _)
  rw [hs0, hw0] at HR0
  rw [hw0] at HB0
  clear hP hm hn hD hF hr0 hb0 hs0 hw0
  go_enter Tryz.func38, Tryz.ntmps38
  go_wp2
  go_loopw [15] (fun i wr => ∃ j : Nat, j ≤ m ∧ i = .int .i64 j ∧ Hid (RowV (w.heap.size + 1) 4 (boolsV (waitL (E.take j) D n2)) wr) ∧ Hid (Below w.heap.size w wr)) (fun i _ => m - (intOf i).toNat)
  case atStart => exact ⟨0, Nat.zero_le _, rfl, HR0, HB0⟩
  case round =>
    obtain ⟨j, hj, rfl, HR, HB⟩ := hrel
    clear HR0 HB0
    by_cases hlt : j < m
    · obtain ⟨bk, o, ⟨x0, y0⟩, rfl, hbg, hek, hc1, hc2⟩ := HP.out.at_ (k := j) (by rw [HM.out]; exact hlt)
      simp only at hc1 hc2
      have hfit := HF.out _ (List.mem_of_getElem? hek)
      obtain ⟨x, rfl⟩ : ∃ x : Nat, x0 = x := ⟨x0.toNat, by have := hfit.1; simp only at this; omega⟩
      obtain ⟨y, rfl⟩ : ∃ y : Nat, y0 = y := ⟨y0.toNat, by have := hfit.2.2.1; simp only at this; omega⟩
      have hx : x < n2 := by have := hfit.2.1; simp only at this; omega
      have hy : y < n2 := by have := hfit.2.2.2; simp only at this; omega
      have q1 := (HB.out.cell (p := ⟨bk, o + j * 2, none⟩) hbg).trans hc1
      have q2 := (HB.out.cell (p := ⟨bk, o + j * 2 + 1, none⟩) hbg).trans hc2
      obtain ⟨bd, od, z, rfl, hbd, hzd, hcd⟩ := HD.out.at2 (k := x) (by rw [HN.out]; exact hx)
      have q3 := (HB.out.cell (p := ⟨bd, od + x, none⟩) hbd).trans hcd
      have HST := Lib.hid (waitL_step (D := D) (n := n2) hek)
      have hgz : D.getD x false = z := by rw [List.getD_eq_getElem?_getD, hzd]; rfl
      rw [hgz] at HST
      have hsz := HB.out.size
      have hrl := HR.out.lt
      have hbg2 : bk < wr.heap.size := by omega
      have hbd2 : bd < wr.heap.size := by omega
      have hcy := HR.out.cell (boolsV_at (l := waitL (E.take j) D n2) (j := y) (by rw [waitL_len]; exact hy))
      have hfy := HR.out.frozen y
      obtain ⟨zy, hzy⟩ : ∃ z, z = (waitL (E.take j) D n2).getD y false := ⟨_, rfl⟩
      rw [← hzy] at hcy
      clear hc1 hc2 hcd hek hfit hzd hgz hzy hbg hbd
      have HW := Lib.hid (fun o => HR.out.alloc o)
      cases z with
      | true =>
        rw [if_pos rfl] at HST
        go_wp2
        go_roundw
        case rel => exact ⟨j + 1, by omega, by go_num, Lib.hid (by rw [HST.out]; exact HW.out _), Lib.hid (HB.out.alloc (by omega) _)⟩
        case measure => simp [intOf]; omega
      | false =>
        rw [if_neg (by decide)] at HST
        go_wp2
        go_roundw
        case rel => exact ⟨j + 1, by omega, by go_num, Lib.hid (by rw [HST.out, boolsV_set]; exact (HR.out.set y _).alloc _), Lib.hid ((HB.out.setCell (Nat.le_succ _) _).alloc (by simp [World.setCell]; omega) _)⟩
        case measure => simp [intOf]; omega
    · obtain rfl : j = m := by omega
      have hr := HR.out
      rw [List.take_of_length_le (by rw [HM.out]; exact Nat.le_refl _)] at hr
      have HRE := Lib.hid hr
      clear hr
      go_wp2
      go_ret
      exact ⟨_, rfl, Nat.le_succ _, HRE.out, HB.out⟩
end Go.Proofs.YtkmajhbfmdoamaaGreatDoor
