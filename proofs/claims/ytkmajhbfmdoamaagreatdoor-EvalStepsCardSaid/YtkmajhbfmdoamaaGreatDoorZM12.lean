/- The contract of trefoilref05.Touches in the seat YtkmajhbfmdoamaaGreatDoor.
   The contract of trefoilref05.Feeds in the seat YtkmajhbfmdoamaaGreatDoor.
   Plain: the futures of one part, in the order of their places: what a sort of them comes to, in the seat YtkmajhbfmdoamaaGreatDoor.
   No statement is proved here. -/
import Derived.Test.YtkmajhbfmdoamaaGreatDoorZDescCheck
import Derived.Test.YtkmajhbfmdoamaaGreatDoorZM3
import Derived.Test.YtkmajhbfmdoamaaGreatDoorZM4
set_option linter.unusedSimpArgs false
set_option linter.unusedVariables false
namespace Go.Proofs.YtkmajhbfmdoamaaGreatDoor
open Go.RowKit

/-! Plain: which futures a part touches -/
def futAt (fs : List (Int × Int × Int)) (j : Nat) : Int × Int × Int := fs.getD j (0, 0, 0)
/-- Of the first i futures those of user x at a. -/
def selF (fs : List (Int × Int × Int)) (x : Int) (a : Nat) (i : Nat) : List Nat := (List.range i).filter fun j => decide ((futAt fs j).2.1 = x) && decide ((futAt fs j).2.2 = (a : Int))
def touK (fs : List (Int × Int × Int)) (x : Int) : Nat → List Nat
  | 0 => []
  | a + 1 => touK fs x a ++ selF fs x (a + 1) fs.length
def touL (fs : List (Int × Int × Int)) (x : Int) : List Nat := touK fs x 99
theorem mem_selF {fs : List (Int × Int × Int)} {x : Int} {a i j : Nat} : j ∈ selF fs x a i ↔ j < i ∧ (futAt fs j).2.1 = x ∧ (futAt fs j).2.2 = (a : Int) := by
  unfold selF
  rw [List.mem_filter, List.mem_range, Bool.and_eq_true, decide_eq_true_iff, decide_eq_true_iff]
theorem mem_touK {fs : List (Int × Int × Int)} {x : Int} {j : Nat} : ∀ {a : Nat}, j ∈ touK fs x a ↔ j < fs.length ∧ (futAt fs j).2.1 = x ∧ 1 ≤ (futAt fs j).2.2 ∧ (futAt fs j).2.2 ≤ (a : Int)
  | 0 => by
    constructor
    · intro h; cases h
    · rintro ⟨_, _, h1, h2⟩; omega
  | a + 1 => by
    show j ∈ touK fs x a ++ selF fs x (a + 1) fs.length ↔ _
    rw [List.mem_append, mem_touK (a := a), mem_selF]
    constructor
    · rintro (⟨h1, h2, h3, h4⟩ | ⟨h1, h2, h3⟩)
      · exact ⟨h1, h2, h3, by omega⟩
      · exact ⟨h1, h2, by omega, by omega⟩
    · rintro ⟨h1, h2, h3, h4⟩
      by_cases h : (futAt fs j).2.2 = ((a + 1 : Nat) : Int)
      · exact .inr ⟨h1, h2, h⟩
      · exact .inl ⟨h1, h2, h3, by omega⟩
theorem selF_nodup (fs : List (Int × Int × Int)) (x : Int) (a i : Nat) : (selF fs x a i).Nodup := List.Nodup.sublist (List.filter_sublist) List.nodup_range
theorem touP_nodup {fs : List (Int × Int × Int)} {x : Int} {a i : Nat} (h : (touK fs x a).Nodup) : (touK fs x a ++ selF fs x (a + 1) i).Nodup := by
  rw [List.nodup_append]
  refine ⟨h, selF_nodup _ _ _ _, fun j hj k hk e => ?_⟩
  subst e
  have h1 := (mem_touK.mp hj).2.2.2
  have h2 := (mem_selF.mp hk).2.2
  omega
theorem touK_nodup (fs : List (Int × Int × Int)) (x : Int) : ∀ a, (touK fs x a).Nodup
  | 0 => by simp [touK]
  | a + 1 => touP_nodup (touK_nodup fs x a)
theorem nodup_len (n : Nat) (l : List Nat) (hn : l.Nodup) (h : ∀ x ∈ l, x < n) : l.length ≤ n := length_below n l hn h
theorem touP_len {fs : List (Int × Int × Int)} {x : Int} {a i : Nat} (hi : i ≤ fs.length) : (touK fs x a ++ selF fs x (a + 1) i).length ≤ fs.length := by
  refine nodup_len _ _ (touP_nodup (touK_nodup fs x a)) fun j hj => ?_
  rcases List.mem_append.mp hj with h | h
  · exact (mem_touK.mp h).1
  · have := (mem_selF.mp h).1
    omega
theorem touK_len (fs : List (Int × Int × Int)) (x : Int) (a : Nat) : (touK fs x a).length ≤ fs.length := nodup_len _ _ (touK_nodup fs x a) fun j hj => (mem_touK.mp hj).1
theorem selF_step {fs : List (Int × Int × Int)} {x : Int} {a i : Nat} {f : Int × Int × Int} (hf : fs[i]? = some f) : selF fs x a (i + 1) = if f.2.1 = x ∧ f.2.2 = (a : Int) then selF fs x a i ++ [i] else selF fs x a i := by
  have e : futAt fs i = f := by unfold futAt; rw [List.getD_eq_getElem?_getD, hf]; rfl
  unfold selF
  rw [List.range_succ, List.filter_append]
  by_cases h : f.2.1 = x ∧ f.2.2 = (a : Int)
  · rw [if_pos h]
    simp [List.filter, e, h.1, h.2]
  · rw [if_neg h]
    have : (decide ((futAt fs i).2.1 = x) && decide ((futAt fs i).2.2 = (a : Int))) = false := by
      rw [e, Bool.and_eq_false_iff, decide_eq_false_iff_not, decide_eq_false_iff_not]
      by_cases h1 : f.2.1 = x
      · exact .inr fun h2 => h ⟨h1, h2⟩
      · exact .inl h1
    simp [List.filter, this]
section
variable {P : Option Addr} {np pc : Nat} {E : Option Addr} {ne ec : Nat} {F : Option Addr} {nf fc : Nat} {R : Option Addr} {nr rc : Nat} {p q : Int}
set_option maxRecDepth 100000 in
set_option maxHeartbeats 8000000 in
theorem dtouches_any (x : Int) (fs : List (Int × Int × Int)) (w : World) (hm : fs.length = nf) (hl : nf ≤ 900) (hT : Trips w w.heap.size F fs) :
    Calls Tryz.prog 44 #[.agg #[.int .i64 p, .int .i64 q, .slice P np pc, .slice E ne ec, .slice F nf fc, .slice R nr rc], .int .i64 x] w (GotOwn (nums (touL fs x)) w) := by
  have HT := Lib.hid hT
  have HM := Lib.hid hm
  have HLK := Lib.hid (fun a => touK_len fs x a)
  obtain ⟨w0, hw0⟩ : ∃ w0, w0 = w.alloc (.cells #[.int .i64 p, .int .i64 q, .slice P np pc, .slice E ne ec, .slice F nf fc, .slice R nr rc] 27) := ⟨_, rfl⟩
  have HW0 := Lib.hid hw0
  clear hT hm hw0
  go_enter Tryz.func44, Tryz.ntmps44
  go_wp2
  go_loopw [5, 6] (fun v i wr => ∃ (a k : Nat) (A' : Option Addr) (c' : Nat), a ≤ 99 ∧ i = .int .i64 ((a + 1 : Nat) : Int) ∧ v = .slice A' k c' ∧ Hid ((touK fs x a).length = k) ∧ Hid (OwnI wr (w.heap.size + 1) (.slice A' k c') (nums (touK fs x a))) ∧ Hid (Below (w.heap.size + 1) w0 wr)) (fun _ i _ => 100 - (intOf i).toNat)
  case atStart => exact ⟨0, 0, _, _, by omega, rfl, rfl, Lib.hid rfl, Lib.hid (ownI_first w _), Lib.hid (by rw [HW0.out]; exact (Below.refl _ _).alloc (by simp) _)⟩
  case round =>
    obtain ⟨a, k, A', c', ha, rfl, rfl, HK, HO, HB⟩ := hrel
    by_cases hlt : a < 99
    · have hd : decide (((a + 1 : Nat) : Int) < 100) = true := by rw [decide_eq_true_iff]; omega
      go_wp2
      go_loopw [5, 7] (fun v i wi => ∃ (t k : Nat) (A' : Option Addr) (c' : Nat), t ≤ nf ∧ i = .int .i64 t ∧ v = .slice A' k c' ∧ Hid ((touK fs x a ++ selF fs x (a + 1) t).length = k) ∧ Hid (OwnI wi (w.heap.size + 1) (.slice A' k c') (nums (touK fs x a ++ selF fs x (a + 1) t))) ∧ Hid (Below (w.heap.size + 1) w0 wi)) (fun _ i _ => nf - (intOf i).toNat)
      case atStart => exact ⟨0, k, A', c', Nat.zero_le _, rfl, rfl, Lib.hid (by simp [selF, HK.out]), Lib.hid (by rw [show selF fs x (a + 1) 0 = [] from rfl, List.append_nil]; exact HO.out), HB⟩
      case round =>
        obtain ⟨t, k2, A2, c2, ht, rfl, rfl, HK2, HO2, HB2⟩ := hrel
        have hbox : wr.cell? ⟨w.heap.size, 4, none⟩ = some (.slice F nf fc) := (HB2.out.cell (Nat.lt_succ_self _)).trans (by rw [HW0.out, World.cell?_alloc_at _ _ _ _ rfl]; rfl)
        by_cases hlt2 : t < nf
        · have hk2 : k2 ≤ 900 := by
            have h1 := touP_len (fs := fs) (x := x) (a := a) (i := t) (by rw [HM.out]; omega)
            rw [HK2.out, HM.out] at h1
            omega
          have hsz : w.heap.size + 1 ≤ wr.heap.size := by have := HB2.out.size; rw [HW0.out] at this; simpa using this
          obtain ⟨bk, o, f1, f2, f3, rfl, hbg, hft, d1, d2, d3⟩ := HT.out.at_ (k := t) (by rw [HM.out]; exact hlt2)
          have e2 : wr.cell? ⟨bk, o + t * 3 + 1, none⟩ = some (.int .i64 f2) := (HB2.out.cell (by show bk < _; omega)).trans (by rw [HW0.out, World.cell?_alloc_lt _ _ _ hbg]; exact d2)
          have e3 : wr.cell? ⟨bk, o + t * 3 + 2, none⟩ = some (.int .i64 f3) := (HB2.out.cell (by show bk < _; omega)).trans (by rw [HW0.out, World.cell?_alloc_lt _ _ _ hbg]; exact d3)
          have HSTEP := Lib.hid (selF_step (x := x) (a := a + 1) hft)
          clear d1 d2 d3 hft
          by_cases h1 : f2 = x
          · by_cases h2 : f3 = ((a + 1 : Nat) : Int)
            · have HS := Lib.hid (show selF fs x (a + 1) (t + 1) = selF fs x (a + 1) t ++ [t] by rw [HSTEP.out, if_pos ⟨h1, h2⟩])
              subst h1
              have g2 : (f3 == ((a + 1 : Nat) : Int)) = true := by simpa using h2
              clear h2
              rw [show ((a + 1 : Nat) : Int) = (a : Int) + 1 from rfl] at g2 ⊢
              go_wp2_with (at_builtin; refine wpList_push rfl _ _ rfl wr (w.heap.size + 1) _ (nums (touK fs f2 a ++ selF fs f2 (a + 1) t)) (t : Int) k2 (by rw [nums_length]; exact HK2.out) (by omega) HO2.out hsz rfl rfl ?_; intro A4 c4 w4 HO4 HB4; (have HO4' := Lib.hid HO4); (have HB4' := Lib.hid HB4); clear HO4 HB4)
              go_roundw
              case rel => exact ⟨t + 1, by omega, by go_num, k2 + 1, A4, c4, ⟨rfl, rfl, rfl⟩, Lib.hid (by have h := HK2.out; rw [List.length_append] at h; rw [HS.out, List.length_append]; simp only [List.length_singleton]; omega), Lib.hid (by rw [HS.out, ← List.append_assoc, nums_snoc]; exact HO4'.out), Lib.hid (HB2.out.trans HB4'.out)⟩
              case measure => simp [intOf]; omega
            · have HS := Lib.hid (show selF fs x (a + 1) (t + 1) = selF fs x (a + 1) t by rw [HSTEP.out, if_neg (fun k => h2 k.2)])
              subst h1
              have g2 : (f3 == ((a + 1 : Nat) : Int)) = false := by simpa using h2
              clear h2
              rw [show ((a + 1 : Nat) : Int) = (a : Int) + 1 from rfl] at g2 ⊢
              go_wp2
              go_roundw
              case rel => exact ⟨t + 1, k2, A2, c2, by omega, by go_num, rfl, Lib.hid (by rw [HS.out]; exact HK2.out), Lib.hid (by rw [HS.out]; exact HO2.out), HB2⟩
              case measure => simp [intOf]; omega
          · have HS := Lib.hid (show selF fs x (a + 1) (t + 1) = selF fs x (a + 1) t by rw [HSTEP.out, if_neg (fun k => h1 k.1)])
            have g1 : (f2 == x) = false := by simpa using h1
            clear h1
            go_wp2
            go_roundw
            case rel => exact ⟨t + 1, k2, A2, c2, by omega, by go_num, rfl, Lib.hid (by rw [HS.out]; exact HK2.out), Lib.hid (by rw [HS.out]; exact HO2.out), HB2⟩
            case measure => simp [intOf]; omega
        · have e : t = nf := by omega
          subst e
          have HE : Hid (touK fs x (a + 1) = touK fs x a ++ selF fs x (a + 1) t) := Lib.hid (by show touK fs x a ++ selF fs x (a + 1) fs.length = _; rw [HM.out])
          go_wp2
          go_roundw
          case rel => exact ⟨a + 1, k2, A2, c2, by omega, by go_num, rfl, Lib.hid (by rw [HE.out]; exact HK2.out), Lib.hid (by rw [HE.out]; exact HO2.out), HB2⟩
          case measure => simp [intOf]; omega
    · obtain rfl : a = 99 := by omega
      have HLN : Hid ((nums (touL fs x)).length = k) := Lib.hid (by rw [nums_length]; exact HK.out)
      have hd : decide (((99 + 1 : Nat) : Int) < 100) = false := by decide
      go_wp2
      go_ret
      exact ⟨A', c', by rw [HLN.out]; rfl, by rw [HLN.out]; exact HO.out.down (by omega), (below_alloc _).trans (by rw [← HW0.out]; exact HB.out.mono (by omega))⟩
end
end Go.Proofs.YtkmajhbfmdoamaaGreatDoor
set_option linter.unusedVariables false
namespace Go.Proofs.YtkmajhbfmdoamaaGreatDoor
open Go.RowKit

/-! Plain: whose values a part takes -/
def feE (es : List (Int × Int)) (x : Int) : List Int := (es.filter fun e => decide (e.2 = x)).map fun e => e.1
def feF (fs : List (Int × Int × Int)) (l : List Nat) : List Int := l.map fun j => (futAt fs j).1
def feedsL (es : List (Int × Int)) (fs : List (Int × Int × Int)) (x : Int) : List Int := feE es x ++ feF fs (touL fs x)
theorem feE_len (es : List (Int × Int)) (x : Int) : (feE es x).length ≤ es.length := by
  unfold feE
  rw [List.length_map]
  exact List.length_filter_le _ _
theorem feE_step {es : List (Int × Int)} {x : Int} {k : Nat} {e : Int × Int} (he : es[k]? = some e) : feE (es.take (k + 1)) x = if e.2 = x then feE (es.take k) x ++ [e.1] else feE (es.take k) x := by
  unfold feE
  rw [take_snoc' he, List.filter_append]
  by_cases h : e.2 = x
  · rw [if_pos h]
    simp [List.filter, h]
  · rw [if_neg h]
    simp [List.filter, h]
theorem feF_step {fs : List (Int × Int × Int)} {l : List Nat} {k j : Nat} (h : l[k]? = some j) : feF fs (l.take (k + 1)) = feF fs (l.take k) ++ [(futAt fs j).1] := by
  unfold feF
  rw [take_snoc' h, List.map_append]
  rfl
theorem nums_at {l : List Nat} {j : Nat} {z : Int} (h : (nums l)[j]? = some z) : ∃ x : Nat, z = (x : Int) ∧ l[j]? = some x := by
  unfold nums at h
  rw [List.getElem?_map] at h
  cases hx : l[j]? with
  | none => rw [hx] at h; cases h
  | some x =>
    rw [hx] at h
    exact ⟨x, (Option.some.inj h).symm, rfl⟩
section
variable {P : Option Addr} {np pc : Nat} {E : Option Addr} {ne ec : Nat} {F : Option Addr} {nf fc : Nat} {R : Option Addr} {nr rc : Nat} {p q : Int}
/-- A task in its box, its edges and futures as they came; a list of the call's own grows behind. -/
structure BxU (w : World) (p q : Int) (P : Option Addr) (np pc : Nat) (E : Option Addr) (ne ec : Nat) (F : Option Addr) (nf fc : Nat) (R : Option Addr) (nr rc : Nat) (es : List (Int × Int)) (fs : List (Int × Int × Int)) (w' : World) : Prop where
  b : BxD w p q P np pc E ne ec F nf fc R nr rc w'
  e : Pairs w' w.heap.size E es
  f : Trips w' w.heap.size F fs
theorem BxU.keep {w w1 w2 : World} {es : List (Int × Int)} {fs : List (Int × Int × Int)} (h : BxU w p q P np pc E ne ec F nf fc R nr rc es fs w1) (hb : Below (w.heap.size + 1) w1 w2) : BxU w p q P np pc E ne ec F nf fc R nr rc es fs w2 := by
  have hc := fun i => hb.cell (p := ⟨w.heap.size, i, none⟩) (Nat.lt_succ_self _)
  exact ⟨⟨h.b.bel.trans (hb.mono (by omega)), (hc 0).trans h.b.c0, (hc 1).trans h.b.c1, (hc 2).trans h.b.c2, (hc 3).trans h.b.c3, (hc 4).trans h.b.c4, (hc 5).trans h.b.c5⟩, h.e.below (hb.mono (by omega)), h.f.below (hb.mono (by omega))⟩
theorem BxU.lt {w w1 : World} {es : List (Int × Int)} {fs : List (Int × Int × Int)} (h : BxU w p q P np pc E ne ec F nf fc R nr rc es fs w1) : w.heap.size + 1 ≤ w1.heap.size := World.block_lt_of_cell? _ _ h.b.c0
theorem BxU.start {w : World} {es : List (Int × Int)} {fs : List (Int × Int × Int)} (he : Pairs w w.heap.size E es) (hf : Trips w w.heap.size F fs) : BxU w p q P np pc E ne ec F nf fc R nr rc es fs (w.alloc (.cells #[.int .i64 p, .int .i64 q, .slice P np pc, .slice E ne ec, .slice F nf fc, .slice R nr rc] 27)) :=
  ⟨BxD.start w p q P np pc E ne ec F nf fc R nr rc, he.below (below_alloc _), hf.below (below_alloc _)⟩
set_option maxRecDepth 100000 in
set_option maxHeartbeats 8000000 in
theorem dfeeds_any (x : Int) (es : List (Int × Int)) (fs : List (Int × Int × Int)) (w : World) (hn : es.length = ne) (hl0 : ne ≤ 400) (hm : fs.length = nf) (hl : nf ≤ 400) (hE : Pairs w w.heap.size E es) (hT : Trips w w.heap.size F fs) :
    Calls Tryz.prog 28 #[.agg #[.int .i64 p, .int .i64 q, .slice P np pc, .slice E ne ec, .slice F nf fc, .slice R nr rc], .int .i64 x] w (GotInts (feedsL es fs x) w) := by
  have B0 := Lib.hid (BxU.start (p := p) (q := q) (P := P) (np := np) (pc := pc) (E := E) (ne := ne) (ec := ec) (F := F) (nf := nf) (fc := fc) (R := R) (nr := nr) (rc := rc) hE hT)
  have HN := Lib.hid hn
  have HM := Lib.hid hm
  have C := Lib.hid (fun (W' : World) (h : Trips W' W'.heap.size F fs) => dtouches_any (P := P) (np := np) (pc := pc) (E := E) (ne := ne) (ec := ec) (F := F) (nf := nf) (fc := fc) (R := R) (nr := nr) (rc := rc) (p := p) (q := q) x fs W' hm (by omega) h)
  have HTL := Lib.hid (fun j (hj : j ∈ touL fs x) => (mem_touK.mp hj).1)
  have HTN := Lib.hid (touK_len fs x 99)
  clear hE hT hn hm
  go_enter Tryz.func28, Tryz.ntmps28
  go_wp2
  go_loopw [5, 6] (fun v i wr => ∃ (k len : Nat) (A' : Option Addr) (c' : Nat), k ≤ ne ∧ i = .int .i64 k ∧ v = .slice A' len c' ∧ Hid ((feE (es.take k) x).length = len) ∧ Hid (OwnI wr (w.heap.size + 1) (.slice A' len c') (feE (es.take k) x)) ∧ Hid (BxU w p q P np pc E ne ec F nf fc R nr rc es fs wr)) (fun _ i _ => ne - (intOf i).toNat)
  case atStart => exact ⟨0, 0, _, _, Nat.zero_le _, rfl, rfl, Lib.hid rfl, Lib.hid (ownI_first w _), Lib.hid (B0.out.keep ((Below.refl _ _).alloc (by simp) _))⟩
  case round =>
    obtain ⟨k, len, A', c', hk, rfl, rfl, HL, HO, HB⟩ := hrel
    clear B0
    obtain ⟨c0, c1, c2, c3, c4, c5⟩ := HB.out.b.cells
    by_cases hlt : k < ne
    · have hlen : len ≤ 400 := by
        have h1 := feE_len (es.take k) x
        rw [HL.out, List.length_take] at h1
        omega
      have hsz := HB.out.lt
      obtain ⟨bk, o, ⟨a, b⟩, rfl, hbg, hek, d1, d2⟩ := HB.out.e.at_ (k := k) (by rw [HN.out]; exact hlt)
      simp only at d1 d2
      have HS := Lib.hid (feE_step (x := x) hek)
      clear hek
      by_cases h1 : b = x
      · have HS2 := Lib.hid (show feE (es.take (k + 1)) x = feE (es.take k) x ++ [a] by rw [HS.out, if_pos h1])
        subst h1
        go_wp2_with (at_builtin; refine wpList_push rfl _ _ rfl wr (w.heap.size + 1) _ (feE (es.take k) b) a len HL.out (by omega) HO.out hsz rfl rfl ?_; intro A4 c4' w4 HO4 HB4; (have HO4' := Lib.hid HO4); (have HB4' := Lib.hid HB4); clear HO4 HB4)
        go_roundw
        case rel => exact ⟨k + 1, len + 1, A4, c4', by omega, by go_num, rfl, Lib.hid (by rw [HS2.out, List.length_append, HL.out]; rfl), Lib.hid (by rw [HS2.out]; exact HO4'.out), Lib.hid (HB.out.keep HB4'.out)⟩
        case measure => simp [intOf]; omega
      · have HS2 := Lib.hid (show feE (es.take (k + 1)) x = feE (es.take k) x by rw [HS.out, if_neg h1])
        have g1 : (b == x) = false := by simpa using h1
        clear h1
        go_wp2
        go_roundw
        case rel => exact ⟨k + 1, len, A', c', by omega, by go_num, rfl, Lib.hid (by rw [HS2.out]; exact HL.out), Lib.hid (by rw [HS2.out]; exact HO.out), HB⟩
        case measure => simp [intOf]; omega
    · have e : k = ne := by omega
      have HE1 : Hid (es.take k = es) := Lib.hid (List.take_of_length_le (by rw [HN.out, e]; exact Nat.le_refl _))
      rw [HE1.out] at HL HO
      clear e
      obtain ⟨tl, htl⟩ : ∃ tl, tl = touL fs x := ⟨_, rfl⟩
      have HTT := Lib.hid htl
      have HLE := Lib.hid (feE_len es x)
      rw [← htl] at HTL C
      have HTN2 : Hid (tl.length ≤ nf) := Lib.hid (by rw [htl, ← HM.out]; exact HTN.out)
      obtain ⟨tn, htn⟩ : ∃ tn, tn = tl.length := ⟨_, rfl⟩
      have HTLN := Lib.hid htn
      have htn2 : tn ≤ 400 := by have := HTN2.out; omega
      have hlen2 : len ≤ 400 := by have := HLE.out; rw [HL.out, HN.out] at this; omega
      clear htl htn
      have hov : Value.ownBlock (.slice A' len c') = none ∨ ∃ g, Value.ownBlock (.slice A' len c') = some g ∧ g < wr.heap.size := by
        cases hv : Value.ownBlock (.slice A' len c') with
        | none => exact .inl rfl
        | some g => exact .inr ⟨g, rfl, (HO.out.lt g hv).2⟩
      have HOV := Lib.hid hov
      clear hov
      go_wp2_with (go_at_call 44; refine (C.out _ (HB.out.f.more HB.out.b.bel.size)).mono ?_; rintro e w2 ⟨A2, c2', rfl, hI, b⟩; have HI := Lib.hid hI; have HB2 := Lib.hid b; rw [show (nums tl).length = tn by rw [nums_length]; exact HTLN.out.symm]; clear hI b)
      have HBU := Lib.hid (HB.out.keep (HB2.out.mono HB.out.lt))
      have HO2 := Lib.hid (HO.out.below HB2.out)
      have HI2 : Hid (Ints w2 w2.heap.size A2 (nums tl)) := Lib.hid (by
        obtain ⟨A5, c5, e5, h5⟩ := HI.out.slice
        injection e5 with e6 _ _
        subst e6
        exact h5)
      have HAP : Hid (∀ b off, A2 = some ⟨b, off, none⟩ → Value.ownBlock (.slice A' len c') ≠ some b) := Lib.hid (fun b off e h => by
        rcases HOV.out with h1 | ⟨g, h1, h2⟩
        · rw [h1] at h; cases h
        · rw [h1] at h
          injection h with h
          subst h e
          rcases HI.out.2 with ⟨h3, _⟩ | ⟨g', cap', cur', h3, h4, _⟩
          · injection h3 with h3; cases h3
          · injection h3 with h3
            injection h3 with h3
            injection h3 with h3
            omega)
      clear c0 c1 c2 c3 c4 c5
      go_loopw [5, 8] (fun v i wr => ∃ (t len2 : Nat) (A' : Option Addr) (c' : Nat), t ≤ tn ∧ i = .int .i64 t ∧ v = .slice A' len2 c' ∧ Hid (len2 = len + t) ∧ Hid (OwnI wr (w.heap.size + 1) (.slice A' len2 c') (feE es x ++ feF fs (tl.take t))) ∧ Hid (BxU w p q P np pc E ne ec F nf fc R nr rc es fs wr) ∧ Hid (Ints wr wr.heap.size A2 (nums tl)) ∧ Hid (∀ b off, A2 = some ⟨b, off, none⟩ → Value.ownBlock (.slice A' len2 c') ≠ some b)) (fun _ i _ => tn - (intOf i).toNat)
      case atStart => exact ⟨0, len, A', c', Nat.zero_le _, rfl, rfl, Lib.hid rfl, Lib.hid (by simp [feF]; exact HO2.out), HBU, HI2, HAP⟩
      case round =>
        obtain ⟨t, len2, A3, c3, ht, rfl, rfl, HL2, HO3, HB3, HI3, HA3⟩ := hrel
        clear HBU HO2 HI2 HAP HI
        by_cases hlt2 : t < tn
        · obtain ⟨bk, o, z, rfl, hbg, hzt, d0⟩ := HI3.out.at_ (k := t) (by rw [nums_length]; rw [← HTLN.out]; exact hlt2)
          obtain ⟨j, rfl, hj⟩ := nums_at hzt
          have hjn : j < nf := by rw [← HM.out]; exact HTL.out j (List.mem_of_getElem? hj)
          obtain ⟨bf, of, m1, m2, m3, hF, hbf, hfj, d1, d2, d3⟩ := HB3.out.f.at_ (k := j) (by rw [HM.out]; exact hjn)
          subst hF
          have hc4 := HB3.out.b.c4
          have hsz := HB3.out.lt
          have hl5 : len2 ≤ 800 := by have := HL2.out; omega
          have HST := Lib.hid (show feF fs (tl.take (t + 1)) = feF fs (tl.take t) ++ [m1] by
            rw [feF_step hj]
            unfold futAt
            rw [List.getD_eq_getElem?_getD, hfj]
            rfl)
          have HLL : Hid ((feE es x ++ feF fs (tl.take t)).length = len2) := Lib.hid (by
            rw [List.length_append, HL.out]
            unfold feF
            rw [List.length_map, List.length_take, ← HTLN.out, HL2.out]
            omega)
          clear hzt hj hfj d2 d3
          go_wp2_with fail
          go_region_law (refine step_push rfl (.tmp 43) (.tmp 53) rfl (wr.drewN 1) _ 0 (w.heap.size + 1) _ (feE es x ++ feF fs (tl.take t)) m1 len2 HLL.out (by omega) (HO3.out.below (below_drewN (Below.refl _ _) 1)) hsz rfl (by simp [Act.eval, Act.put]) (by simp [Act.eval, Act.put]) ?_; intro A4 c4' w4 HO4 HB4 HG4 HA4; (have HO4' := Lib.hid HO4); (have HB4' := Lib.hid HB4); (have HG4' := Lib.hid HG4); (have HA4' := Lib.hid HA4); clear HO4 HB4 HG4 HA4)
          all_goals
            have HW := Lib.hid ((below_alloc (w := wr) (.cells #[.int .i64 m1] 3)).drew)
            have HI4 : Hid (Ints w4 w4.heap.size (some ⟨bk, o, none⟩) (nums tl)) := Lib.hid (ints_far ((HI3.out.below HW.out).more HW.out.size) HG4'.out HG4'.out.size (fun b off e => HA3.out b off e))
            have HDS : Hid ((wr.drewN 1).heap.size = wr.heap.size) := Lib.hid (by simp)
            have HBK := Lib.hid hbg
            have HA5 : Hid (∀ b off, (some ⟨bk, o, none⟩ : Option Addr) = some ⟨b, off, none⟩ → Value.ownBlock (.slice A4 (len2 + 1) c4') ≠ some b) := Lib.hid (by
              intro b off e
              have h1 := HA3.out b off e
              injection e with e
              injection e with e1 e2
              subst e1
              have h2 := HA4'.out bk
              rw [HDS.out] at h2
              exact h2 HBK.out h1)
            simp only [Act.put, List.getElem_toArray, List.getElem_cons_succ, List.getElem_cons_zero, List.setIfInBounds_toArray, List.set_cons_succ, List.set_cons_zero]
            go_wp2
            go_roundw
          all_goals first
            | exact ⟨t + 1, len2 + 1, A4, c4', by omega, by go_num, rfl, Lib.hid (by rw [HL2.out]; omega), Lib.hid (by have h := HO4'.out; rw [HST.out]; first | exact h | (rw [← List.append_assoc]; exact h)), Lib.hid (HB3.out.keep (((Below.refl _ _).drew).trans HB4'.out)), HI4, HA5⟩
            | (simp [intOf]; omega)
        · have e : t = tn := by omega
          have HLL : Hid ((feedsL es fs x).length = len2) := Lib.hid (by
            unfold feedsL
            rw [List.length_append, HL.out]
            unfold feF
            rw [List.length_map, ← HTT.out, ← HTLN.out, HL2.out, e])
          have HFL : Hid (feE es x ++ feF fs (tl.take t) = feedsL es fs x) := Lib.hid (by
            unfold feedsL
            rw [← HTT.out, List.take_of_length_le (by rw [← HTLN.out, e]; exact Nat.le_refl _)])
          clear e
          go_wp2
          go_ret
          have hq := HO3.out.ints
          rw [HFL.out] at hq
          exact ⟨A3, c3, by rw [HLL.out]; rfl, hq, HB3.out.b.bel⟩
end
end Go.Proofs.YtkmajhbfmdoamaaGreatDoor
set_option linter.unusedVariables false
namespace Go.Proofs.YtkmajhbfmdoamaaGreatDoor
open Go.RowKit

theorem sorted_ext {f : Nat → Int} : ∀ {l1 l2 : List Nat}, (l1.Pairwise fun i j => f i < f j) → (l2.Pairwise fun i j => f i < f j) → (∀ x, x ∈ l1 ↔ x ∈ l2) → l1 = l2
  | [], [], _, _, _ => rfl
  | [], b :: l2, _, _, h => absurd ((h b).mpr (List.mem_cons_self ..)) (by simp)
  | a :: l1, [], _, _, h => absurd ((h a).mp (List.mem_cons_self ..)) (by simp)
  | a :: l1, b :: l2, h1, h2, h => by
    rw [List.pairwise_cons] at h1 h2
    have e : a = b := by
      have ha := (h a).mp (List.mem_cons_self ..)
      have hb := (h b).mpr (List.mem_cons_self ..)
      rcases List.mem_cons.mp ha with ha | ha
      · exact ha
      · rcases List.mem_cons.mp hb with hb | hb
        · exact hb.symm
        · have := h1.1 b hb
          have := h2.1 a ha
          omega
    subst e
    rw [sorted_ext h1.2 h2.2 fun x => ?_]
    have hx := h x
    constructor
    · intro k
      rcases List.mem_cons.mp (hx.mp (List.mem_cons_of_mem _ k)) with e | k'
      · subst e
        have := h1.1 x k
        omega
      · exact k'
    · intro k
      rcases List.mem_cons.mp (hx.mpr (List.mem_cons_of_mem _ k)) with e | k'
      · subst e
        have := h2.1 x k
        omega
      · exact k'
/-- Of the first k futures those of user x. -/
def ownF (fs : List (Int × Int × Int)) (x : Int) (k : Nat) : List Nat := (List.range k).filter fun j => decide ((futAt fs j).2.1 = x)
theorem mem_ownF {fs : List (Int × Int × Int)} {x : Int} {k j : Nat} : j ∈ ownF fs x k ↔ j < k ∧ (futAt fs j).2.1 = x := by
  unfold ownF
  rw [List.mem_filter, List.mem_range, decide_eq_true_iff]
theorem ownF_step {fs : List (Int × Int × Int)} {x : Int} {k : Nat} {f : Int × Int × Int} (hf : fs[k]? = some f) : ownF fs x (k + 1) = if f.2.1 = x then ownF fs x k ++ [k] else ownF fs x k := by
  have e : futAt fs k = f := by unfold futAt; rw [List.getD_eq_getElem?_getD, hf]; rfl
  unfold ownF
  rw [List.range_succ, List.filter_append]
  by_cases h : f.2.1 = x
  · rw [if_pos h]
    simp [List.filter, e, h]
  · rw [if_neg h]
    simp [List.filter, e, h]
theorem ownF_nodup (fs : List (Int × Int × Int)) (x : Int) (k : Nat) : (ownF fs x k).Nodup := List.Nodup.sublist (List.filter_sublist) List.nodup_range
theorem ownF_len (fs : List (Int × Int × Int)) (x : Int) (k : Nat) : (ownF fs x k).length ≤ k := by
  have := List.length_filter_le (fun j => decide ((futAt fs j).2.1 = x)) (List.range k)
  rw [List.length_range] at this
  exact this
theorem fut_inj {fs : List (Int × Int × Int)} (hn : (fs.map fun f => f.2).Nodup) {i j : Nat} (hi : i < fs.length) (hj : j < fs.length) (e : (futAt fs i).2 = (futAt fs j).2) : i = j := by
  unfold futAt at e
  rw [List.getD_eq_getElem?_getD, List.getElem?_eq_getElem hi, List.getD_eq_getElem?_getD, List.getElem?_eq_getElem hj] at e
  have h4 : i < (fs.map fun f => f.2).length := by simpa using hi
  have h5 : j < (fs.map fun f => f.2).length := by simpa using hj
  refine (List.getElem_inj (h₀ := h4) (h₁ := h5) hn).mp ?_
  simpa using e
theorem futAt_mem {fs : List (Int × Int × Int)} {j : Nat} (hj : j < fs.length) : futAt fs j ∈ fs := by
  unfold futAt
  rw [List.getD_eq_getElem?_getD, List.getElem?_eq_getElem hj]
  exact List.getElem_mem _
theorem touL_rises {fs : List (Int × Int × Int)} {x : Int} (hn : (fs.map fun f => f.2).Nodup) : ∀ a, (touK fs x a).Pairwise fun i j => (futAt fs i).2.2 < (futAt fs j).2.2
  | 0 => List.Pairwise.nil
  | a + 1 => by
    show (touK fs x a ++ selF fs x (a + 1) fs.length).Pairwise _
    rw [List.pairwise_append]
    refine ⟨touL_rises hn a, ?_, fun i hi j hj => ?_⟩
    · have hone : ∀ i ∈ selF fs x (a + 1) fs.length, ∀ j ∈ selF fs x (a + 1) fs.length, i = j := fun i hi j hj => by
        obtain ⟨h1, h2, h3⟩ := mem_selF.mp hi
        obtain ⟨k1, k2, k3⟩ := mem_selF.mp hj
        exact fut_inj hn h1 k1 (Prod.ext (h2.trans k2.symm) (h3.trans k3.symm))
      have hnd := selF_nodup fs x (a + 1) fs.length
      rcases hs : selF fs x (a + 1) fs.length with _ | ⟨i, _ | ⟨j, l⟩⟩
      · exact List.Pairwise.nil
      · exact List.pairwise_singleton _ _
      · rw [hs] at hone hnd
        have := hone i (by simp) j (by simp)
        rw [List.nodup_cons] at hnd
        exact absurd (by rw [this]; simp) hnd.1
    · have h1 := (mem_touK.mp hi).2.2.2
      have h2 := (mem_selF.mp hj).2.2
      omega
def plAt (pl : List Nat) (i : Nat) : Nat := pl.getD i 0
def atOf (fs : List (Int × Int × Int)) (pl : List Nat) (i : Nat) : Int := (futAt fs (plAt pl i)).2.2
theorem plAt_mem {pl : List Nat} {i : Nat} (h : i < pl.length) : plAt pl i ∈ pl := by
  unfold plAt
  rw [List.getD_eq_getElem?_getD, List.getElem?_eq_getElem h]
  exact List.getElem_mem _
/-- Places in the order of their futures are the reference's. -/
theorem places_sorted {ps fs : List (Int × Int × Int)} {x : Int} (hps : partsOk ps) (hfs : FutsOk ps fs) {m : Nat} (hm : (ownF fs x fs.length).length = m) (S : List (Fin m)) (hp : S.Perm (List.finRange m))
    (hs : S.Pairwise fun (i j : Fin m) => atOf fs (ownF fs x fs.length) i.val ≤ atOf fs (ownF fs x fs.length) j.val) : (S.map fun (i : Fin m) => plAt (ownF fs x fs.length) i.val) = touL fs x := by
  have hmem : ∀ i : Fin m, plAt (ownF fs x fs.length) i.val ∈ ownF fs x fs.length := fun i => plAt_mem (by have := i.isLt; omega)
  have hinj : ∀ i j : Fin m, atOf fs (ownF fs x fs.length) i.val = atOf fs (ownF fs x fs.length) j.val → i = j := fun i j h => by
    have h1 := mem_ownF.mp (hmem i)
    have h2 := mem_ownF.mp (hmem j)
    have e := fut_inj hfs.once h1.1 h2.1 (Prod.ext (h1.2.trans h2.2.symm) h)
    unfold plAt at e
    have hi : i.val < (ownF fs x fs.length).length := by have := i.isLt; omega
    have hj : j.val < (ownF fs x fs.length).length := by have := j.isLt; omega
    rw [List.getD_eq_getElem?_getD, List.getElem?_eq_getElem hi, List.getD_eq_getElem?_getD, List.getElem?_eq_getElem hj] at e
    exact Fin.ext ((List.getElem_inj (h₀ := hi) (h₁ := hj) (ownF_nodup fs x fs.length)).mp (by simpa using e))
  have hnd : S.Nodup := (hp.nodup_iff).mpr (List.nodup_finRange m)
  refine sorted_ext (f := fun j => (futAt fs j).2.2) ?_ (touL_rises hfs.once 99) fun j => ?_
  · rw [List.pairwise_map]
    refine (hs.and hnd).imp fun {i j} h => ?_
    have := h.1
    have hne : atOf fs (ownF fs x fs.length) i.val ≠ atOf fs (ownF fs x fs.length) j.val := fun e => h.2 (hinj i j e)
    show atOf fs (ownF fs x fs.length) i.val < atOf fs (ownF fs x fs.length) j.val
    omega
  · show _ ↔ j ∈ touK fs x 99
    rw [mem_touK, List.mem_map]
    constructor
    · rintro ⟨i, _, rfl⟩
      obtain ⟨h1, h2⟩ := mem_ownF.mp (hmem i)
      have hf := hfs.each _ (futAt_mem h1)
      have hu := hf.user
      obtain ⟨e, he⟩ : ∃ e, ps[(futAt fs (plAt (ownF fs x fs.length) i.val)).2.1.toNat]? = some e := ⟨_, List.getElem?_eq_getElem (by omega)⟩
      have hl := hf.last e he
      have hw := (hps e (List.mem_of_getElem? he)).2.2.2.2.2
      exact ⟨h1, h2, hf.first, by show _ ≤ (99 : Int); omega⟩
    · rintro ⟨h1, h2, _, _⟩
      have hj : j ∈ ownF fs x fs.length := mem_ownF.mpr ⟨h1, h2⟩
      obtain ⟨k, hk⟩ := List.mem_iff_getElem?.mp hj
      have hkl := (List.getElem?_eq_some_iff.1 hk).1
      refine ⟨⟨k, by omega⟩, hp.mem_iff.mpr (List.mem_finRange _), ?_⟩
      show (ownF fs x fs.length).getD k 0 = j
      rw [List.getD_eq_getElem?_getD, hk]
      rfl
end Go.Proofs.YtkmajhbfmdoamaaGreatDoor
