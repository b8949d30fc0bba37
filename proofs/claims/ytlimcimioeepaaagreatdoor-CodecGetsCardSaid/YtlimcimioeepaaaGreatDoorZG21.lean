/- The contract of trefoilref06.Encode in the seat YtlimcimioeepaaaGreatDoor (printed by codec/mk_enc.py).
   The contract of trefoilref06.Encode in the seat YtlimcimioeepaaaGreatDoor, of a task that may not be.
   No statement is proved here. -/
import Derived.Test.YtlimcimioeepaaaGreatDoorZG7
set_option linter.unusedVariables false
namespace Go.Proofs.YtlimcimioeepaaaGreatDoor
open Go.RowKit

@[reducible] def BxSE (w : World) (s : Sh) (T : Task) (w' : World) : Prop := BxT w T.period T.deadline s.P s.np s.pc s.E s.ne s.ec s.F s.nf s.fc s.R s.nr s.rc T w'

theorem Trips.cells_ {w : World} {B b off k : Nat} {A : Option Addr} {es : List (Int × Int × Int)} {x y z : Int} (h : Trips w B A es) (hA : A = some ⟨b, off, none⟩) (he : es[k]? = some (x, y, z)) :
    w.cell? ⟨b, off + k * 3, none⟩ = some (.int .i64 x) ∧ w.cell? ⟨b, off + k * 3 + 1, none⟩ = some (.int .i64 y) ∧ w.cell? ⟨b, off + k * 3 + 2, none⟩ = some (.int .i64 z) := by
  subst hA
  obtain ⟨b', off', e, hb, hc⟩ := h (by have := (List.getElem?_eq_some_iff.mp he).1; omega)
  have e' := Option.some.inj e
  simp only [Addr.mk.injEq, and_true] at e'
  obtain ⟨rfl, rfl⟩ := e'
  exact hc k _ he
theorem Pairs.cells_ {w : World} {B b off k : Nat} {A : Option Addr} {es : List (Int × Int)} {x y : Int} (h : Pairs w B A es) (hA : A = some ⟨b, off, none⟩) (he : es[k]? = some (x, y)) :
    w.cell? ⟨b, off + k * 2, none⟩ = some (.int .i64 x) ∧ w.cell? ⟨b, off + k * 2 + 1, none⟩ = some (.int .i64 y) := by
  subst hA
  obtain ⟨b', off', e, hb, hc⟩ := h (by have := (List.getElem?_eq_some_iff.mp he).1; omega)
  have e' := Option.some.inj e
  simp only [Addr.mk.injEq, and_true] at e'
  obtain ⟨rfl, rfl⟩ := e'
  exact hc k _ he
theorem flat_snoc {α : Type} (f : α → List UInt8) (l : List α) (k : Nat) (x : α) (h : l[k]? = some x) : (l.take (k + 1)).flatMap f = (l.take k).flatMap f ++ f x := by
  rw [List.take_add_one, h, List.flatMap_append]; simp
theorem flat_le {α : Type} (f : α → List UInt8) (l : List α) (k : Nat) : ((l.take k).flatMap f).length ≤ (l.flatMap f).length := by
  have h : l.flatMap f = (l.take k).flatMap f ++ (l.drop k).flatMap f := by rw [← List.flatMap_append, List.take_append_drop]
  rw [h, List.length_append]; omega

def PhiP (b0 : Nat) (s : Sh) (L : List UInt8) (k b off : Nat) (x y z : Int) : Nat → Value → World → Prop
  | 0, v, w => v = .string (txt L)
  | 1, v, w => v = .pointer (some ⟨b0, 2, none⟩)
  | 2, v, w => v = .slice s.P s.np s.pc
  | 3, v, w => v = .int .i64 ((k : Nat) : Int)
  | 4, v, w => v = .pointer (some ⟨b, off + k * 3, none⟩)
  | 5, v, w => v = .pointer (some ⟨b, off + k * 3, none⟩)
  | 6, v, w => v = .int .i64 x
  | 7, v, w => v = .string (txt (u 1 x))
  | 8, v, w => v = .string (txt (L ++ u 1 x))
  | 9, v, w => v = .pointer (some ⟨b0, 2, none⟩)
  | 10, v, w => v = .slice s.P s.np s.pc
  | 11, v, w => v = .int .i64 ((k : Nat) : Int)
  | 12, v, w => v = .pointer (some ⟨b, off + k * 3, none⟩)
  | 13, v, w => v = .pointer (some ⟨b, off + k * 3 + 1, none⟩)
  | 14, v, w => v = .int .i64 y
  | 15, v, w => v = .string (txt (u 4 y))
  | 16, v, w => v = .string (txt ((L) ++ u 1 x ++ u 4 y))
  | 17, v, w => v = .pointer (some ⟨b0, 2, none⟩)
  | 18, v, w => v = .slice s.P s.np s.pc
  | 19, v, w => v = .int .i64 ((k : Nat) : Int)
  | 20, v, w => v = .pointer (some ⟨b, off + k * 3, none⟩)
  | 21, v, w => v = .pointer (some ⟨b, off + k * 3 + 2, none⟩)
  | 22, v, w => v = .int .i64 z
  | 23, v, w => v = .string (txt (u 2 z))
  | 24, v, w => v = .string (txt (((L) ++ u 1 x) ++ u 4 y ++ u 2 z))
  | 25, v, w => v = .string (txt ((((L) ++ u 1 x) ++ u 4 y) ++ u 2 z))
  | _, _, _ => True
theorem phiP_below (b0 : Nat) (s : Sh) (L : List UInt8) (k b off : Nat) (x y z : Int) : ∀ q v w w', PhiP b0 s L k b off x y z q v w → Below w.heap.size w w' → PhiP b0 s L k b off x y z q v w' := by
  intro q v w w' h hb
  match q, h with
  | 0, h => exact h
  | 1, h => exact h
  | 2, h => exact h
  | 3, h => exact h
  | 4, h => exact h
  | 5, h => exact h
  | 6, h => exact h
  | 7, h => exact h
  | 8, h => exact h
  | 9, h => exact h
  | 10, h => exact h
  | 11, h => exact h
  | 12, h => exact h
  | 13, h => exact h
  | 14, h => exact h
  | 15, h => exact h
  | 16, h => exact h
  | 17, h => exact h
  | 18, h => exact h
  | 19, h => exact h
  | 20, h => exact h
  | 21, h => exact h
  | 22, h => exact h
  | 23, h => exact h
  | 24, h => exact h
  | 25, h => exact h
  | q + 26, h => exact trivial
/-- A barrier's own box (block g), beside the task's. -/
structure BarBox (w : World) (s : Sh) (T : Task) (g : Nat) (A0 : Option Addr) (n0 k0 : Nat) (A1 : Option Addr) (n1 k1 : Nat) (xs ys : List Int) (q : World) : Prop where
  b : BxSE w s T q
  c0 : q.cell? ⟨g, 0, none⟩ = some (.slice A0 n0 k0)
  c1 : q.cell? ⟨g, 1, none⟩ = some (.slice A1 n1 k1)
  i0 : Ints q q.heap.size A0 xs
  i1 : Ints q q.heap.size A1 ys
  l0 : xs.length = n0
  l1 : ys.length = n1
theorem BarBox.next {w : World} {s : Sh} {T : Task} {g : Nat} {A0 : Option Addr} {n0 k0 : Nat} {A1 : Option Addr} {n1 k1 : Nat} {xs ys : List Int} {q r : World} (h : BarBox w s T g A0 n0 k0 A1 n1 k1 xs ys q) (hb : Below q.heap.size q r) : BarBox w s T g A0 n0 k0 A1 n1 k1 xs ys r := by
  have hg := World.block_lt_of_cell? _ _ h.c0
  exact ⟨h.b.next hb, (hb.cell hg).trans h.c0, (hb.cell (p := ⟨g, 1, none⟩) hg).trans h.c1, (h.i0.below hb).more hb.size, (h.i1.below hb).more hb.size, h.l0, h.l1⟩
theorem BarBox.start {w : World} {s : Sh} {T : Task} {A0 : Option Addr} {n0 k0 : Nat} {A1 : Option Addr} {n1 k1 : Nat} {xs ys : List Int} {q : World} (h : BxSE w s T q) (h0 : xs.length = n0) (h1 : ys.length = n1) (i0 : Ints q q.heap.size A0 xs) (i1 : Ints q q.heap.size A1 ys) :
    BarBox w s T q.heap.size A0 n0 k0 A1 n1 k1 xs ys (q.alloc (.cells #[.slice A0 n0 k0, .slice A1 n1 k1] 49)) := by
  have hb := below_alloc (w := q) (.cells #[.slice A0 n0 k0, .slice A1 n1 k1] 49)
  refine ⟨h.next hb, ?_, ?_, (i0.below hb).more hb.size, (i1.below hb).more hb.size, h0, h1⟩ <;> (rw [World.cell?_alloc_at _ _ _ _ rfl]; rfl)

def PhiB (b1 : Nat) (L : List UInt8) (A0 : Option Addr) (n0 c0 : Nat) (A1 : Option Addr) (n1 c1 : Nat) : Nat → Value → World → Prop
  | 0, v, w => v = .string (txt L)
  | 1, v, w => v = .pointer (some ⟨b1, 0, none⟩)
  | 2, v, w => v = .slice A0 n0 c0
  | 3, v, w => v = .int .i64 ((n0 : Nat) : Int)
  | 4, v, w => v = .string (txt (u 1 ((n0 : Nat) : Int)))
  | 5, v, w => v = .string (txt (L ++ u 1 ((n0 : Nat) : Int)))
  | 6, v, w => v = .pointer (some ⟨b1, 1, none⟩)
  | 7, v, w => v = .slice A1 n1 c1
  | 8, v, w => v = .int .i64 ((n1 : Nat) : Int)
  | 9, v, w => v = .string (txt (u 1 ((n1 : Nat) : Int)))
  | 10, v, w => v = .string (txt ((L) ++ u 1 ((n0 : Nat) : Int) ++ u 1 ((n1 : Nat) : Int)))
  | 11, v, w => v = .string (txt (((L) ++ u 1 ((n0 : Nat) : Int)) ++ u 1 ((n1 : Nat) : Int)))
  | _, _, _ => True
theorem phiB_below (b1 : Nat) (L : List UInt8) (A0 : Option Addr) (n0 c0 : Nat) (A1 : Option Addr) (n1 c1 : Nat) : ∀ q v w w', PhiB b1 L A0 n0 c0 A1 n1 c1 q v w → Below w.heap.size w w' → PhiB b1 L A0 n0 c0 A1 n1 c1 q v w' := by
  intro q v w w' h hb
  match q, h with
  | 0, h => exact h
  | 1, h => exact h
  | 2, h => exact h
  | 3, h => exact h
  | 4, h => exact h
  | 5, h => exact h
  | 6, h => exact h
  | 7, h => exact h
  | 8, h => exact h
  | 9, h => exact h
  | 10, h => exact h
  | 11, h => exact h
  | q + 12, h => exact trivial
def PhiU (b1 : Nat) (L : List UInt8) (x y z : Int) : Nat → Value → World → Prop
  | 0, v, w => v = .string (txt L)
  | 1, v, w => v = .pointer (some ⟨b1, 0, none⟩)
  | 2, v, w => v = .int .i64 x
  | 3, v, w => v = .string (txt (u 1 x))
  | 4, v, w => v = .string (txt (L ++ u 1 x))
  | 5, v, w => v = .pointer (some ⟨b1, 1, none⟩)
  | 6, v, w => v = .int .i64 y
  | 7, v, w => v = .string (txt (u 1 y))
  | 8, v, w => v = .string (txt ((L) ++ u 1 x ++ u 1 y))
  | 9, v, w => v = .pointer (some ⟨b1, 2, none⟩)
  | 10, v, w => v = .int .i64 z
  | 11, v, w => v = .string (txt (u 2 z))
  | 12, v, w => v = .string (txt (((L) ++ u 1 x) ++ u 1 y ++ u 2 z))
  | 13, v, w => v = .string (txt ((((L) ++ u 1 x) ++ u 1 y) ++ u 2 z))
  | _, _, _ => True
theorem phiU_below (b1 : Nat) (L : List UInt8) (x y z : Int) : ∀ q v w w', PhiU b1 L x y z q v w → Below w.heap.size w w' → PhiU b1 L x y z q v w' := by
  intro q v w w' h hb
  match q, h with
  | 0, h => exact h
  | 1, h => exact h
  | 2, h => exact h
  | 3, h => exact h
  | 4, h => exact h
  | 5, h => exact h
  | 6, h => exact h
  | 7, h => exact h
  | 8, h => exact h
  | 9, h => exact h
  | 10, h => exact h
  | 11, h => exact h
  | 12, h => exact h
  | 13, h => exact h
  | q + 14, h => exact trivial
def PhiE (b0 : Nat) (s : Sh) (L : List UInt8) (k b off : Nat) (x y : Int) : Nat → Value → World → Prop
  | 0, v, w => v = .string (txt L)
  | 1, v, w => v = .pointer (some ⟨b0, 3, none⟩)
  | 2, v, w => v = .slice s.E s.ne s.ec
  | 3, v, w => v = .int .i64 ((k : Nat) : Int)
  | 4, v, w => v = .pointer (some ⟨b, off + k * 2, none⟩)
  | 5, v, w => v = .pointer (some ⟨b, off + k * 2, none⟩)
  | 6, v, w => v = .int .i64 x
  | 7, v, w => v = .string (txt (u 1 x))
  | 8, v, w => v = .string (txt (L ++ u 1 x))
  | 9, v, w => v = .pointer (some ⟨b0, 3, none⟩)
  | 10, v, w => v = .slice s.E s.ne s.ec
  | 11, v, w => v = .int .i64 ((k : Nat) : Int)
  | 12, v, w => v = .pointer (some ⟨b, off + k * 2, none⟩)
  | 13, v, w => v = .pointer (some ⟨b, off + k * 2 + 1, none⟩)
  | 14, v, w => v = .int .i64 y
  | 15, v, w => v = .string (txt (u 1 y))
  | 16, v, w => v = .string (txt ((L) ++ u 1 x ++ u 1 y))
  | 17, v, w => v = .string (txt (((L) ++ u 1 x) ++ u 1 y))
  | _, _, _ => True
theorem phiE_below (b0 : Nat) (s : Sh) (L : List UInt8) (k b off : Nat) (x y : Int) : ∀ q v w w', PhiE b0 s L k b off x y q v w → Below w.heap.size w w' → PhiE b0 s L k b off x y q v w' := by
  intro q v w w' h hb
  match q, h with
  | 0, h => exact h
  | 1, h => exact h
  | 2, h => exact h
  | 3, h => exact h
  | 4, h => exact h
  | 5, h => exact h
  | 6, h => exact h
  | 7, h => exact h
  | 8, h => exact h
  | 9, h => exact h
  | 10, h => exact h
  | 11, h => exact h
  | 12, h => exact h
  | 13, h => exact h
  | 14, h => exact h
  | 15, h => exact h
  | 16, h => exact h
  | 17, h => exact h
  | q + 18, h => exact trivial
def PhiH (b0 : Nat) (s : Sh) (T : Task) : Nat → Value → World → Prop
  | 0, v, w => v = .string (txt (u 1 1))
  | 1, v, w => v = .string (txt ([100, 97, 103, 49] ++ u 1 1))
  | 2, v, w => v = .pointer (some ⟨b0, 2, none⟩)
  | 3, v, w => v = .slice s.P s.np s.pc
  | 4, v, w => v = .int .i64 ((s.np : Nat) : Int)
  | 5, v, w => v = .string (txt (u 1 ((s.np : Nat) : Int)))
  | 6, v, w => v = .string (txt ([100, 97, 103, 49] ++ u 1 1 ++ u 1 ((s.np : Nat) : Int)))
  | 7, v, w => v = .pointer (some ⟨b0, 3, none⟩)
  | 8, v, w => v = .slice s.E s.ne s.ec
  | 9, v, w => v = .int .i64 ((s.ne : Nat) : Int)
  | 10, v, w => v = .string (txt (u 1 ((s.ne : Nat) : Int)))
  | 11, v, w => v = .string (txt (([100, 97, 103, 49] ++ u 1 1) ++ u 1 ((s.np : Nat) : Int) ++ u 1 ((s.ne : Nat) : Int)))
  | 12, v, w => v = .pointer (some ⟨b0, 4, none⟩)
  | 13, v, w => v = .slice s.F s.nf s.fc
  | 14, v, w => v = .int .i64 ((s.nf : Nat) : Int)
  | 15, v, w => v = .string (txt (u 1 ((s.nf : Nat) : Int)))
  | 16, v, w => v = .string (txt ((([100, 97, 103, 49] ++ u 1 1) ++ u 1 ((s.np : Nat) : Int)) ++ u 1 ((s.ne : Nat) : Int) ++ u 1 ((s.nf : Nat) : Int)))
  | 17, v, w => v = .pointer (some ⟨b0, 5, none⟩)
  | 18, v, w => v = .slice s.R s.nr s.rc
  | 19, v, w => v = .int .i64 ((s.nr : Nat) : Int)
  | 20, v, w => v = .string (txt (u 1 ((s.nr : Nat) : Int)))
  | 21, v, w => v = .string (txt (((([100, 97, 103, 49] ++ u 1 1) ++ u 1 ((s.np : Nat) : Int)) ++ u 1 ((s.ne : Nat) : Int)) ++ u 1 ((s.nf : Nat) : Int) ++ u 1 ((s.nr : Nat) : Int)))
  | 22, v, w => v = .pointer (some ⟨b0, 0, none⟩)
  | 23, v, w => v = .int .i64 T.period
  | 24, v, w => v = .string (txt (u 4 T.period))
  | 25, v, w => v = .string (txt ((((([100, 97, 103, 49] ++ u 1 1) ++ u 1 ((s.np : Nat) : Int)) ++ u 1 ((s.ne : Nat) : Int)) ++ u 1 ((s.nf : Nat) : Int)) ++ u 1 ((s.nr : Nat) : Int) ++ u 4 T.period))
  | 26, v, w => v = .pointer (some ⟨b0, 1, none⟩)
  | 27, v, w => v = .int .i64 T.deadline
  | 28, v, w => v = .string (txt (u 4 T.deadline))
  | 29, v, w => v = .string (txt (((((([100, 97, 103, 49] ++ u 1 1) ++ u 1 ((s.np : Nat) : Int)) ++ u 1 ((s.ne : Nat) : Int)) ++ u 1 ((s.nf : Nat) : Int)) ++ u 1 ((s.nr : Nat) : Int)) ++ u 4 T.period ++ u 4 T.deadline))
  | 30, v, w => v = .string (txt ((((((([100, 97, 103, 49] ++ u 1 1) ++ u 1 ((s.np : Nat) : Int)) ++ u 1 ((s.ne : Nat) : Int)) ++ u 1 ((s.nf : Nat) : Int)) ++ u 1 ((s.nr : Nat) : Int)) ++ u 4 T.period) ++ u 4 T.deadline))
  | _, _, _ => True
theorem phiH_below (b0 : Nat) (s : Sh) (T : Task) : ∀ k v w w', PhiH b0 s T k v w → Below w.heap.size w w' → PhiH b0 s T k v w' := by
  intro k v w w' h hb
  match k, h with
  | 0, h => exact h
  | 1, h => exact h
  | 2, h => exact h
  | 3, h => exact h
  | 4, h => exact h
  | 5, h => exact h
  | 6, h => exact h
  | 7, h => exact h
  | 8, h => exact h
  | 9, h => exact h
  | 10, h => exact h
  | 11, h => exact h
  | 12, h => exact h
  | 13, h => exact h
  | 14, h => exact h
  | 15, h => exact h
  | 16, h => exact h
  | 17, h => exact h
  | 18, h => exact h
  | 19, h => exact h
  | 20, h => exact h
  | 21, h => exact h
  | 22, h => exact h
  | 23, h => exact h
  | 24, h => exact h
  | 25, h => exact h
  | 26, h => exact h
  | 27, h => exact h
  | 28, h => exact h
  | 29, h => exact h
  | 30, h => exact h
  | k + 31, h => exact trivial
set_option maxRecDepth 100000 in
set_option maxHeartbeats 8000000 in
theorem cenc_may (w : World) (s : Sh) (T : Task) (h : IsT w w.heap.size s T) (hf : FewT T) (hm : MayT T) :
    Calls Tryz.prog 14 #[s.arg T.period T.deadline] w fun e w' => e = .returned (.tuple #[.string (txt (sealL (bodyB T))), .int .i64 0]) ∧ Below w.heap.size w w' := by
  have B0 := Lib.hid (BxT.start h T.period T.deadline)
  have C := Lib.hid (fun W (h : IsT W W.heap.size s T) => chkT_zero.mpr hm ▸ dcheck_any s T W hf h)
  have hs := hm.small
  have hN := Lib.hid (show ((s.np : Nat) : Int) < 256 ∧ ((s.ne : Nat) : Int) < 256 ∧ ((s.nf : Nat) : Int) < 256 ∧ ((s.nr : Nat) : Int) < 256 ∧ (0 ≤ T.period ∧ T.period < 4294967296) ∧ (0 ≤ T.deadline ∧ T.deadline < 4294967296) by
    have h1 := hs.np; have h2 := hs.ne; have h3 := hs.nf; have h4 := hs.nr
    rw [h.hp] at h1; rw [h.he] at h2; rw [h.hf] at h3; rw [h.hr] at h4
    exact ⟨by omega, by omega, by omega, by omega, hs.period, hs.deadline⟩)
  have HS := Lib.hid hs
  have HZ := Lib.hid (show 17 + 7 * T.parts.length + 2 * T.edges.length + 4 * T.futures.length + barsN T ≤ 600 by have := hm.bytes; rwa [bodyB_length] at this)
  have EH := Lib.hid (show (((((([100, 97, 103, 49] ++ u 1 1) ++ u 1 ((s.np : Nat) : Int)) ++ u 1 ((s.ne : Nat) : Int)) ++ u 1 ((s.nf : Nat) : Int)) ++ u 1 ((s.nr : Nat) : Int)) ++ u 4 T.period) ++ u 4 T.deadline = headB T by unfold headB; rw [h.hp, h.he, h.hf, h.hr]; simp only [List.append_assoc])
  clear h hf hm hs
  go_enter Tryz.func14, Tryz.ntmps14
  obtain ⟨c0, c1, c2, c3, c4, c5⟩ := B0.out.b.cells
  go_wp2_with fail
  refine (C.out _ B0.out.t).mono ?_
  rintro e w1 ⟨rfl, b1⟩
  have B1 := Lib.hid (show BxSE w s T w1 from B0.out.next b1)
  clear b1 c0 c1 c2 c3 c4 c5 B0
  go_wp2_with fail
  refine wp_region_facts' [19, 20, 21, 22, 23, 24, 25, 26, 27, 28, 29, 30, 31, 32, 33, 34, 35, 36, 37, 38, 39, 40, 41, 42, 43, 44, 45, 46, 47, 48, 5] [] [] (by kernel_rfl) (by kernel_rfl) (by kernel_rfl) (by intro d hd; simp at hd ⊢; omega) (fun y => BxSE w s T y) (PhiH w.heap.size s T)
    (fun x y h hb => h.next hb) (phiH_below w.heap.size s T) (B1.out.next (Below.refl _ _).drew) (fun p hp => by simp at hp) (fun k hk => by simp at hk) ?hstep ?hend
  case hstep =>
    intro k o ho hw a w hI hA hd K hK
    obtain ⟨ρ, hρ⟩ : ∃ ρ, a.eval = ρ := ⟨_, rfl⟩
    rw [hρ] at hA hd
    match k, ho with
    | 0, ho =>
      have hoo := Option.some.inj ho
      subst hoo
      exact fx_call hK hρ 24 _ _ #[.int .i64 1, .int .i64 ((1 : Nat) : Int)] rfl (by simp only [List.map_toArray, List.map_cons, List.map_nil, hA.const]; rfl) (eg_of Tryz.func24 (by kernel_rfl) rfl) ((cput_any (k := 1) (P := 256) (.inl ⟨rfl, rfl⟩) (by decide) (by decide) _).mono fun e w' ⟨he, hb⟩ => ⟨_, he, rfl, hb⟩)
    | 1, ho =>
      have hoo := Option.some.inj ho
      subst hoo
      have f0 : (ρ (.tmp 19)) = .string (txt (u 1 1)) := hd ⟨0, .data⟩ (by simp) (by rfl)
      exact fx_val hK hρ _ (cat_eq rfl (hA.const (.string (txt [100, 97, 103, 49]))) f0 (by simp [u_length])) rfl
    | 2, ho =>
      have hoo := Option.some.inj ho
      subst hoo
      have h1 := hA.tmp 1 (by decide)
      exact fx_val hK hρ _ (by simp [execOp, h1, go_sem]) rfl
    | 3, ho =>
      have hoo := Option.some.inj ho
      subst hoo
      have f2 : (ρ (.tmp 21)) = .pointer (some ⟨_, 2, none⟩) := hd ⟨2, .data⟩ (by simp) (by rfl)
      have h2 := hI.b.c2
      exact fx_val hK hρ _ (by simp [execOp, f2, h2, go_sem]) rfl
    | 4, ho =>
      have hoo := Option.some.inj ho
      subst hoo
      have f3 : (ρ (.tmp 22)) = .slice s.P s.np s.pc := hd ⟨3, .data⟩ (by simp) (by rfl)
      exact fx_val hK hρ _ (by simp [execOp, resolve, invoke, f3, go_sem]) rfl
    | 5, ho =>
      have hoo := Option.some.inj ho
      subst hoo
      have f4 : (ρ (.tmp 23)) = .int .i64 ((s.np : Nat) : Int) := hd ⟨4, .data⟩ (by simp) (by rfl)
      exact fx_call hK hρ 24 _ _ #[.int .i64 ((s.np : Nat) : Int), .int .i64 ((1 : Nat) : Int)] rfl (by simp only [List.map_toArray, List.map_cons, List.map_nil, f4, hA.const]; rfl) (eg_of Tryz.func24 (by kernel_rfl) rfl) ((cput_any (k := 1) (P := 256) (.inl ⟨rfl, rfl⟩) (Int.natCast_nonneg _) (hN.out.1) _).mono fun e w' ⟨he, hb⟩ => ⟨_, he, rfl, hb⟩)
    | 6, ho =>
      have hoo := Option.some.inj ho
      subst hoo
      have f1 : (ρ (.tmp 20)) = .string (txt ([100, 97, 103, 49] ++ u 1 1)) := hd ⟨1, .data⟩ (by simp) (by rfl)
      have f5 : (ρ (.tmp 24)) = .string (txt (u 1 ((s.np : Nat) : Int))) := hd ⟨5, .data⟩ (by simp) (by rfl)
      exact fx_val hK hρ _ (cat_eq rfl f1 f5 (by simp [u_length])) rfl
    | 7, ho =>
      have hoo := Option.some.inj ho
      subst hoo
      have h1 := hA.tmp 1 (by decide)
      exact fx_val hK hρ _ (by simp [execOp, h1, go_sem]) rfl
    | 8, ho =>
      have hoo := Option.some.inj ho
      subst hoo
      have f7 : (ρ (.tmp 26)) = .pointer (some ⟨_, 3, none⟩) := hd ⟨7, .data⟩ (by simp) (by rfl)
      have h2 := hI.b.c3
      exact fx_val hK hρ _ (by simp [execOp, f7, h2, go_sem]) rfl
    | 9, ho =>
      have hoo := Option.some.inj ho
      subst hoo
      have f8 : (ρ (.tmp 27)) = .slice s.E s.ne s.ec := hd ⟨8, .data⟩ (by simp) (by rfl)
      exact fx_val hK hρ _ (by simp [execOp, resolve, invoke, f8, go_sem]) rfl
    | 10, ho =>
      have hoo := Option.some.inj ho
      subst hoo
      have f9 : (ρ (.tmp 28)) = .int .i64 ((s.ne : Nat) : Int) := hd ⟨9, .data⟩ (by simp) (by rfl)
      exact fx_call hK hρ 24 _ _ #[.int .i64 ((s.ne : Nat) : Int), .int .i64 ((1 : Nat) : Int)] rfl (by simp only [List.map_toArray, List.map_cons, List.map_nil, f9, hA.const]; rfl) (eg_of Tryz.func24 (by kernel_rfl) rfl) ((cput_any (k := 1) (P := 256) (.inl ⟨rfl, rfl⟩) (Int.natCast_nonneg _) (hN.out.2.1) _).mono fun e w' ⟨he, hb⟩ => ⟨_, he, rfl, hb⟩)
    | 11, ho =>
      have hoo := Option.some.inj ho
      subst hoo
      have f6 : (ρ (.tmp 25)) = .string (txt ([100, 97, 103, 49] ++ u 1 1 ++ u 1 ((s.np : Nat) : Int))) := hd ⟨6, .data⟩ (by simp) (by rfl)
      have f10 : (ρ (.tmp 29)) = .string (txt (u 1 ((s.ne : Nat) : Int))) := hd ⟨10, .data⟩ (by simp) (by rfl)
      exact fx_val hK hρ _ (cat_eq rfl f6 f10 (by simp [u_length])) rfl
    | 12, ho =>
      have hoo := Option.some.inj ho
      subst hoo
      have h1 := hA.tmp 1 (by decide)
      exact fx_val hK hρ _ (by simp [execOp, h1, go_sem]) rfl
    | 13, ho =>
      have hoo := Option.some.inj ho
      subst hoo
      have f12 : (ρ (.tmp 31)) = .pointer (some ⟨_, 4, none⟩) := hd ⟨12, .data⟩ (by simp) (by rfl)
      have h2 := hI.b.c4
      exact fx_val hK hρ _ (by simp [execOp, f12, h2, go_sem]) rfl
    | 14, ho =>
      have hoo := Option.some.inj ho
      subst hoo
      have f13 : (ρ (.tmp 32)) = .slice s.F s.nf s.fc := hd ⟨13, .data⟩ (by simp) (by rfl)
      exact fx_val hK hρ _ (by simp [execOp, resolve, invoke, f13, go_sem]) rfl
    | 15, ho =>
      have hoo := Option.some.inj ho
      subst hoo
      have f14 : (ρ (.tmp 33)) = .int .i64 ((s.nf : Nat) : Int) := hd ⟨14, .data⟩ (by simp) (by rfl)
      exact fx_call hK hρ 24 _ _ #[.int .i64 ((s.nf : Nat) : Int), .int .i64 ((1 : Nat) : Int)] rfl (by simp only [List.map_toArray, List.map_cons, List.map_nil, f14, hA.const]; rfl) (eg_of Tryz.func24 (by kernel_rfl) rfl) ((cput_any (k := 1) (P := 256) (.inl ⟨rfl, rfl⟩) (Int.natCast_nonneg _) (hN.out.2.2.1) _).mono fun e w' ⟨he, hb⟩ => ⟨_, he, rfl, hb⟩)
    | 16, ho =>
      have hoo := Option.some.inj ho
      subst hoo
      have f11 : (ρ (.tmp 30)) = .string (txt (([100, 97, 103, 49] ++ u 1 1) ++ u 1 ((s.np : Nat) : Int) ++ u 1 ((s.ne : Nat) : Int))) := hd ⟨11, .data⟩ (by simp) (by rfl)
      have f15 : (ρ (.tmp 34)) = .string (txt (u 1 ((s.nf : Nat) : Int))) := hd ⟨15, .data⟩ (by simp) (by rfl)
      exact fx_val hK hρ _ (cat_eq rfl f11 f15 (by simp [u_length])) rfl
    | 17, ho =>
      have hoo := Option.some.inj ho
      subst hoo
      have h1 := hA.tmp 1 (by decide)
      exact fx_val hK hρ _ (by simp [execOp, h1, go_sem]) rfl
    | 18, ho =>
      have hoo := Option.some.inj ho
      subst hoo
      have f17 : (ρ (.tmp 36)) = .pointer (some ⟨_, 5, none⟩) := hd ⟨17, .data⟩ (by simp) (by rfl)
      have h2 := hI.b.c5
      exact fx_val hK hρ _ (by simp [execOp, f17, h2, go_sem]) rfl
    | 19, ho =>
      have hoo := Option.some.inj ho
      subst hoo
      have f18 : (ρ (.tmp 37)) = .slice s.R s.nr s.rc := hd ⟨18, .data⟩ (by simp) (by rfl)
      exact fx_val hK hρ _ (by simp [execOp, resolve, invoke, f18, go_sem]) rfl
    | 20, ho =>
      have hoo := Option.some.inj ho
      subst hoo
      have f19 : (ρ (.tmp 38)) = .int .i64 ((s.nr : Nat) : Int) := hd ⟨19, .data⟩ (by simp) (by rfl)
      exact fx_call hK hρ 24 _ _ #[.int .i64 ((s.nr : Nat) : Int), .int .i64 ((1 : Nat) : Int)] rfl (by simp only [List.map_toArray, List.map_cons, List.map_nil, f19, hA.const]; rfl) (eg_of Tryz.func24 (by kernel_rfl) rfl) ((cput_any (k := 1) (P := 256) (.inl ⟨rfl, rfl⟩) (Int.natCast_nonneg _) (hN.out.2.2.2.1) _).mono fun e w' ⟨he, hb⟩ => ⟨_, he, rfl, hb⟩)
    | 21, ho =>
      have hoo := Option.some.inj ho
      subst hoo
      have f16 : (ρ (.tmp 35)) = .string (txt ((([100, 97, 103, 49] ++ u 1 1) ++ u 1 ((s.np : Nat) : Int)) ++ u 1 ((s.ne : Nat) : Int) ++ u 1 ((s.nf : Nat) : Int))) := hd ⟨16, .data⟩ (by simp) (by rfl)
      have f20 : (ρ (.tmp 39)) = .string (txt (u 1 ((s.nr : Nat) : Int))) := hd ⟨20, .data⟩ (by simp) (by rfl)
      exact fx_val hK hρ _ (cat_eq rfl f16 f20 (by simp [u_length])) rfl
    | 22, ho =>
      have hoo := Option.some.inj ho
      subst hoo
      have h1 := hA.tmp 1 (by decide)
      exact fx_val hK hρ _ (by simp [execOp, h1, go_sem]) rfl
    | 23, ho =>
      have hoo := Option.some.inj ho
      subst hoo
      have f22 : (ρ (.tmp 41)) = .pointer (some ⟨_, 0, none⟩) := hd ⟨22, .data⟩ (by simp) (by rfl)
      have h2 := hI.b.c0
      exact fx_val hK hρ _ (by simp [execOp, f22, h2, go_sem]) rfl
    | 24, ho =>
      have hoo := Option.some.inj ho
      subst hoo
      have f23 : (ρ (.tmp 42)) = .int .i64 T.period := hd ⟨23, .data⟩ (by simp) (by rfl)
      exact fx_call hK hρ 24 _ _ #[.int .i64 T.period, .int .i64 ((4 : Nat) : Int)] rfl (by simp only [List.map_toArray, List.map_cons, List.map_nil, f23, hA.const]; rfl) (eg_of Tryz.func24 (by kernel_rfl) rfl) ((cput_any (k := 4) (P := 4294967296) (.inr (.inr ⟨rfl, rfl⟩)) hN.out.2.2.2.2.1.1 hN.out.2.2.2.2.1.2 _).mono fun e w' ⟨he, hb⟩ => ⟨_, he, rfl, hb⟩)
    | 25, ho =>
      have hoo := Option.some.inj ho
      subst hoo
      have f21 : (ρ (.tmp 40)) = .string (txt (((([100, 97, 103, 49] ++ u 1 1) ++ u 1 ((s.np : Nat) : Int)) ++ u 1 ((s.ne : Nat) : Int)) ++ u 1 ((s.nf : Nat) : Int) ++ u 1 ((s.nr : Nat) : Int))) := hd ⟨21, .data⟩ (by simp) (by rfl)
      have f24 : (ρ (.tmp 43)) = .string (txt (u 4 T.period)) := hd ⟨24, .data⟩ (by simp) (by rfl)
      exact fx_val hK hρ _ (cat_eq rfl f21 f24 (by simp [u_length])) rfl
    | 26, ho =>
      have hoo := Option.some.inj ho
      subst hoo
      have h1 := hA.tmp 1 (by decide)
      exact fx_val hK hρ _ (by simp [execOp, h1, go_sem]) rfl
    | 27, ho =>
      have hoo := Option.some.inj ho
      subst hoo
      have f26 : (ρ (.tmp 45)) = .pointer (some ⟨_, 1, none⟩) := hd ⟨26, .data⟩ (by simp) (by rfl)
      have h2 := hI.b.c1
      exact fx_val hK hρ _ (by simp [execOp, f26, h2, go_sem]) rfl
    | 28, ho =>
      have hoo := Option.some.inj ho
      subst hoo
      have f27 : (ρ (.tmp 46)) = .int .i64 T.deadline := hd ⟨27, .data⟩ (by simp) (by rfl)
      exact fx_call hK hρ 24 _ _ #[.int .i64 T.deadline, .int .i64 ((4 : Nat) : Int)] rfl (by simp only [List.map_toArray, List.map_cons, List.map_nil, f27, hA.const]; rfl) (eg_of Tryz.func24 (by kernel_rfl) rfl) ((cput_any (k := 4) (P := 4294967296) (.inr (.inr ⟨rfl, rfl⟩)) hN.out.2.2.2.2.2.1 hN.out.2.2.2.2.2.2 _).mono fun e w' ⟨he, hb⟩ => ⟨_, he, rfl, hb⟩)
    | 29, ho =>
      have hoo := Option.some.inj ho
      subst hoo
      have f25 : (ρ (.tmp 44)) = .string (txt ((((([100, 97, 103, 49] ++ u 1 1) ++ u 1 ((s.np : Nat) : Int)) ++ u 1 ((s.ne : Nat) : Int)) ++ u 1 ((s.nf : Nat) : Int)) ++ u 1 ((s.nr : Nat) : Int) ++ u 4 T.period)) := hd ⟨25, .data⟩ (by simp) (by rfl)
      have f28 : (ρ (.tmp 47)) = .string (txt (u 4 T.deadline)) := hd ⟨28, .data⟩ (by simp) (by rfl)
      exact fx_val hK hρ _ (cat_eq rfl f25 f28 (by simp [u_length])) rfl
    | 30, ho =>
      have hoo := Option.some.inj ho
      subst hoo
      have f29 : (ρ (.tmp 48)) = .string (txt (((((([100, 97, 103, 49] ++ u 1 1) ++ u 1 ((s.np : Nat) : Int)) ++ u 1 ((s.ne : Nat) : Int)) ++ u 1 ((s.nf : Nat) : Int)) ++ u 1 ((s.nr : Nat) : Int)) ++ u 4 T.period ++ u 4 T.deadline)) := hd ⟨29, .data⟩ (by simp) (by rfl)
      exact fx_val hK hρ _ (by simp [execOp, f29, go_sem]) rfl
    | k + 31, ho => simp at ho
  case hend =>
    intro vals y hI hF
    have e5 : vals 5 = .string (txt (headB T)) := (hF 30 (by decide)).trans (by rw [EH.out])
    simp only [fillA, fillL, List.contains_cons, List.contains_nil, Nat.reduceBEq, Bool.or_false, Bool.or_true, cond_true, cond_false, Nat.zero_add, Nat.reduceAdd]
    rw [e5]
    have HI := Lib.hid hI
    clear hF hI e5 B1
    go_wp2
    go_loopw [5, 6] (fun tv v wr => ∃ k : Nat, k ≤ s.np ∧ tv = .string (txt (headB T ++ (T.parts.take k).flatMap partB)) ∧ v = .int .i64 k ∧ Hid (BxSE w s T wr)) (fun _ v _ => s.np - (intOf v).toNat)
    case atStart => exact ⟨0, Nat.zero_le _, by simp, rfl, HI⟩
    case round =>
      obtain ⟨k, hk, rfl, rfl, BR⟩ := hrel
      clear HI
      by_cases hlt : k < s.np
      · obtain ⟨b, off, x, y, z, hPe, hbg, hek, _, _, _⟩ := BR.out.t.parts.at_ (k := k) (by rw [BR.out.t.hp]; exact hlt)
        have hP := Lib.hid hPe
        have hK0 := Lib.hid (show ((k : Nat) : Int) < s.np by omega)
        have HC := Lib.hid (fun (W : World) (h : BxSE w s T W) => h.t.parts.cells_ hPe hek)
        have HB := Lib.hid (show (0 ≤ x ∧ x < 256) ∧ (0 ≤ y ∧ y < 4294967296) ∧ (0 ≤ z ∧ z < 65536) from HS.out.parts _ (List.mem_of_getElem? hek))
        have hlim : s.np < 256 := by have := hN.out; omega
        obtain ⟨L, hL⟩ : ∃ L, L = headB T ++ (T.parts.take k).flatMap partB := ⟨_, rfl⟩
        have hLL := Lib.hid (show L.length ≤ 1000 by
          have h1 := flat_le partB T.parts k
          have h2 := HZ.out
          rw [hL, List.length_append, headB_length]
          rw [parts_len] at h1
          omega)
        rw [← hL]
        have HEK := Lib.hid hek
        have HLE := Lib.hid hL
        have c2 := BR.out.b.c2
        clear hPe hek hL
        go_wp2_with fail
        refine wp_region_late [56, 57, 58, 59, 60, 61, 62, 63, 64, 65, 66, 67, 68, 69, 70, 71, 72, 73, 74, 75, 76, 77, 78, 79, 80, 5] [] [] (by kernel_rfl) (by kernel_rfl) (by kernel_rfl) (by intro d hd; simp at hd ⊢; omega) (fun y => BxSE w s T y) (PhiP w.heap.size s L k b off x y z)
          (fun x y h hb => h.next hb) (phiP_below w.heap.size s L k b off x y z) (BR.out.next (Below.refl _ _).drew) (fun p hp => by simp at hp) (fun k hk => by simp at hk) ?hstep ?hend
        case hstep =>
          clear c2
          have hc := HC.out
          obtain ⟨hb0, hb1, hb2⟩ := HB.out
          intro q o ho hw a w hI hA hd hl K hK
          obtain ⟨ρ, hρ⟩ : ∃ ρ, a.eval = ρ := ⟨_, rfl⟩
          rw [hρ] at hA hd hl
          match q, ho with
          | 0, ho =>
            have hoo := Option.some.inj ho
            subst hoo
            have h1 := hl 25 _ rfl (by kernel_rfl)
            exact fx_val hK hρ _ (by simp only [List.getD_cons_succ, List.getD_cons_zero] at h1; simp [execOp, h1, go_sem]) rfl
          | 1, ho =>
            have hoo := Option.some.inj ho
            subst hoo
            have h1 := hA.tmp 1 (by decide)
            exact fx_val hK hρ _ (by simp [execOp, h1, go_sem]) rfl
          | 2, ho =>
            have hoo := Option.some.inj ho
            subst hoo
            have f1 : (ρ (.tmp 57)) = .pointer (some ⟨_, 2, none⟩) := hd ⟨1, .data⟩ (by simp) (by rfl)
            have h2 := hI.b.c2
            exact fx_val hK hρ _ (by simp [execOp, f1, h2, go_sem]) rfl
          | 3, ho =>
            have hoo := Option.some.inj ho
            subst hoo
            have h1 := hA.tmp 6 (by decide)
            exact fx_val hK hρ _ (by simp [execOp, h1, go_sem]) rfl
          | 4, ho =>
            have hoo := Option.some.inj ho
            subst hoo
            have f2 : (ρ (.tmp 58)) = .slice s.P s.np s.pc := hd ⟨2, .data⟩ (by simp) (by rfl)
            have f3 : (ρ (.tmp 59)) = .int .i64 ((k : Nat) : Int) := hd ⟨3, .data⟩ (by simp) (by rfl)
            have h3 := hP.out
            have h4 := hK0.out
            exact fx_val hK hρ _ (by simp [execOp, f2, f3, h3, h4, go_sem]) rfl
          | 5, ho =>
            have hoo := Option.some.inj ho
            subst hoo
            have f4 : (ρ (.tmp 60)) = .pointer (some ⟨b, off + k * 3, none⟩) := hd ⟨4, .data⟩ (by simp) (by rfl)
            exact fx_val hK hρ _ (by simp [execOp, f4, go_sem]) rfl
          | 6, ho =>
            have hoo := Option.some.inj ho
            subst hoo
            have f5 : (ρ (.tmp 61)) = .pointer (some ⟨b, off + k * 3, none⟩) := hd ⟨5, .data⟩ (by simp) (by rfl)
            have h2 := (hc _ hI).1
            exact fx_val hK hρ _ (by simp [execOp, f5, h2, go_sem]) rfl
          | 7, ho =>
            have hoo := Option.some.inj ho
            subst hoo
            have f6 : (ρ (.tmp 62)) = .int .i64 x := hd ⟨6, .data⟩ (by simp) (by rfl)
            exact fx_call hK hρ 24 _ _ #[.int .i64 x, .int .i64 ((1 : Nat) : Int)] rfl (by simp only [List.map_toArray, List.map_cons, List.map_nil, f6, hA.const]; rfl) (eg_of Tryz.func24 (by kernel_rfl) rfl) ((cput_any (k := 1) (P := 256) (.inl ⟨rfl, rfl⟩) hb0.1 hb0.2 _).mono fun e w' ⟨he, hb⟩ => ⟨_, he, rfl, hb⟩)
          | 8, ho =>
            have hoo := Option.some.inj ho
            subst hoo
            have f0 : (ρ (.tmp 56)) = .string (txt L) := hd ⟨0, .data⟩ (by simp) (by rfl)
            have f7 : (ρ (.tmp 63)) = .string (txt (u 1 x)) := hd ⟨7, .data⟩ (by simp) (by rfl)
            exact fx_val hK hρ _ (cat_eq rfl f0 f7 (by have := hLL.out; simp [u_length]; omega)) rfl
          | 9, ho =>
            have hoo := Option.some.inj ho
            subst hoo
            have h1 := hA.tmp 1 (by decide)
            exact fx_val hK hρ _ (by simp [execOp, h1, go_sem]) rfl
          | 10, ho =>
            have hoo := Option.some.inj ho
            subst hoo
            have f9 : (ρ (.tmp 65)) = .pointer (some ⟨_, 2, none⟩) := hd ⟨9, .data⟩ (by simp) (by rfl)
            have h2 := hI.b.c2
            exact fx_val hK hρ _ (by simp [execOp, f9, h2, go_sem]) rfl
          | 11, ho =>
            have hoo := Option.some.inj ho
            subst hoo
            have h1 := hA.tmp 6 (by decide)
            exact fx_val hK hρ _ (by simp [execOp, h1, go_sem]) rfl
          | 12, ho =>
            have hoo := Option.some.inj ho
            subst hoo
            have f10 : (ρ (.tmp 66)) = .slice s.P s.np s.pc := hd ⟨10, .data⟩ (by simp) (by rfl)
            have f11 : (ρ (.tmp 67)) = .int .i64 ((k : Nat) : Int) := hd ⟨11, .data⟩ (by simp) (by rfl)
            have h3 := hP.out
            have h4 := hK0.out
            exact fx_val hK hρ _ (by simp [execOp, f10, f11, h3, h4, go_sem]) rfl
          | 13, ho =>
            have hoo := Option.some.inj ho
            subst hoo
            have f12 : (ρ (.tmp 68)) = .pointer (some ⟨b, off + k * 3, none⟩) := hd ⟨12, .data⟩ (by simp) (by rfl)
            exact fx_val hK hρ _ (by simp [execOp, f12, go_sem]) rfl
          | 14, ho =>
            have hoo := Option.some.inj ho
            subst hoo
            have f13 : (ρ (.tmp 69)) = .pointer (some ⟨b, off + k * 3 + 1, none⟩) := hd ⟨13, .data⟩ (by simp) (by rfl)
            have h2 := (hc _ hI).2.1
            exact fx_val hK hρ _ (by simp [execOp, f13, h2, go_sem]) rfl
          | 15, ho =>
            have hoo := Option.some.inj ho
            subst hoo
            have f14 : (ρ (.tmp 70)) = .int .i64 y := hd ⟨14, .data⟩ (by simp) (by rfl)
            exact fx_call hK hρ 24 _ _ #[.int .i64 y, .int .i64 ((4 : Nat) : Int)] rfl (by simp only [List.map_toArray, List.map_cons, List.map_nil, f14, hA.const]; rfl) (eg_of Tryz.func24 (by kernel_rfl) rfl) ((cput_any (k := 4) (P := 4294967296) (.inr (.inr ⟨rfl, rfl⟩)) hb1.1 hb1.2 _).mono fun e w' ⟨he, hb⟩ => ⟨_, he, rfl, hb⟩)
          | 16, ho =>
            have hoo := Option.some.inj ho
            subst hoo
            have f8 : (ρ (.tmp 64)) = .string (txt (L ++ u 1 x)) := hd ⟨8, .data⟩ (by simp) (by rfl)
            have f15 : (ρ (.tmp 71)) = .string (txt (u 4 y)) := hd ⟨15, .data⟩ (by simp) (by rfl)
            exact fx_val hK hρ _ (cat_eq rfl f8 f15 (by have := hLL.out; simp [u_length]; omega)) rfl
          | 17, ho =>
            have hoo := Option.some.inj ho
            subst hoo
            have h1 := hA.tmp 1 (by decide)
            exact fx_val hK hρ _ (by simp [execOp, h1, go_sem]) rfl
          | 18, ho =>
            have hoo := Option.some.inj ho
            subst hoo
            have f17 : (ρ (.tmp 73)) = .pointer (some ⟨_, 2, none⟩) := hd ⟨17, .data⟩ (by simp) (by rfl)
            have h2 := hI.b.c2
            exact fx_val hK hρ _ (by simp [execOp, f17, h2, go_sem]) rfl
          | 19, ho =>
            have hoo := Option.some.inj ho
            subst hoo
            have h1 := hA.tmp 6 (by decide)
            exact fx_val hK hρ _ (by simp [execOp, h1, go_sem]) rfl
          | 20, ho =>
            have hoo := Option.some.inj ho
            subst hoo
            have f18 : (ρ (.tmp 74)) = .slice s.P s.np s.pc := hd ⟨18, .data⟩ (by simp) (by rfl)
            have f19 : (ρ (.tmp 75)) = .int .i64 ((k : Nat) : Int) := hd ⟨19, .data⟩ (by simp) (by rfl)
            have h3 := hP.out
            have h4 := hK0.out
            exact fx_val hK hρ _ (by simp [execOp, f18, f19, h3, h4, go_sem]) rfl
          | 21, ho =>
            have hoo := Option.some.inj ho
            subst hoo
            have f20 : (ρ (.tmp 76)) = .pointer (some ⟨b, off + k * 3, none⟩) := hd ⟨20, .data⟩ (by simp) (by rfl)
            exact fx_val hK hρ _ (by simp [execOp, f20, go_sem]) rfl
          | 22, ho =>
            have hoo := Option.some.inj ho
            subst hoo
            have f21 : (ρ (.tmp 77)) = .pointer (some ⟨b, off + k * 3 + 2, none⟩) := hd ⟨21, .data⟩ (by simp) (by rfl)
            have h2 := (hc _ hI).2.2
            exact fx_val hK hρ _ (by simp [execOp, f21, h2, go_sem]) rfl
          | 23, ho =>
            have hoo := Option.some.inj ho
            subst hoo
            have f22 : (ρ (.tmp 78)) = .int .i64 z := hd ⟨22, .data⟩ (by simp) (by rfl)
            exact fx_call hK hρ 24 _ _ #[.int .i64 z, .int .i64 ((2 : Nat) : Int)] rfl (by simp only [List.map_toArray, List.map_cons, List.map_nil, f22, hA.const]; rfl) (eg_of Tryz.func24 (by kernel_rfl) rfl) ((cput_any (k := 2) (P := 65536) (.inr (.inl ⟨rfl, rfl⟩)) hb2.1 hb2.2 _).mono fun e w' ⟨he, hb⟩ => ⟨_, he, rfl, hb⟩)
          | 24, ho =>
            have hoo := Option.some.inj ho
            subst hoo
            have f16 : (ρ (.tmp 72)) = .string (txt ((L) ++ u 1 x ++ u 4 y)) := hd ⟨16, .data⟩ (by simp) (by rfl)
            have f23 : (ρ (.tmp 79)) = .string (txt (u 2 z)) := hd ⟨23, .data⟩ (by simp) (by rfl)
            exact fx_val hK hρ _ (cat_eq rfl f16 f23 (by have := hLL.out; simp [u_length]; omega)) rfl
          | 25, ho =>
            have hoo := Option.some.inj ho
            subst hoo
            have f24 : (ρ (.tmp 80)) = .string (txt (((L) ++ u 1 x) ++ u 4 y ++ u 2 z)) := hd ⟨24, .data⟩ (by simp) (by rfl)
            exact fx_val hK hρ _ (by simp [execOp, f24, go_sem]) rfl
          | q + 26, ho => simp at ho
        case hend =>
          intro vals y' hI hF
          have e5 : vals 5 = .string (txt (headB T ++ (T.parts.take (k + 1)).flatMap partB)) := (hF 25 (by decide)).trans (by rw [flat_snoc partB _ _ _ HEK.out, HLE.out]; simp only [partB, List.append_assoc])
          simp only [fillA, fillL, List.contains_cons, List.contains_nil, Nat.reduceBEq, Bool.or_false, Bool.or_true, cond_true, cond_false, Nat.zero_add, Nat.reduceAdd]
          rw [e5]
          have HI := Lib.hid hI
          clear hF hI e5 BR c2
          go_wp2
          go_roundw
          case rel => exact ⟨k + 1, by omega, rfl, by go_num, HI⟩
          case measure => simp [intOf]; omega
      · obtain rfl : k = s.np := by omega
        have HI := BR
        have hT := List.take_of_length_le (l := T.parts) (i := s.np) (by rw [BR.out.t.hp]; omega)
        rw [hT]
        have c2 := BR.out.b.c2
        clear BR hT
        go_wp2
        go_loopw [5, 7] (fun tv v wr => ∃ k : Nat, k ≤ s.ne ∧ tv = .string (txt ((headB T ++ T.parts.flatMap partB) ++ (T.edges.take k).flatMap edgeB)) ∧ v = .int .i64 k ∧ Hid (BxSE w s T wr)) (fun _ v _ => s.ne - (intOf v).toNat)
        case atStart => exact ⟨0, Nat.zero_le _, by simp, rfl, HI⟩
        case round =>
          obtain ⟨k, hk, rfl, rfl, BR⟩ := hrel
          clear HI
          by_cases hlt : k < s.ne
          · obtain ⟨b, off, ⟨x, y⟩, hPe, hbg, hek, _, _⟩ := BR.out.t.edges.at_ (k := k) (by rw [BR.out.t.he]; exact hlt)
            have hP := Lib.hid hPe
            have hK0 := Lib.hid (show ((k : Nat) : Int) < s.ne by omega)
            have HC := Lib.hid (fun (W : World) (h : BxSE w s T W) => h.t.edges.cells_ hPe hek)
            have HB := Lib.hid (show (0 ≤ x ∧ x < 256) ∧ (0 ≤ y ∧ y < 256) from HS.out.edges _ (List.mem_of_getElem? hek))
            have hlim : s.ne < 256 := by have := hN.out; omega
            obtain ⟨L, hL⟩ : ∃ L, L = (headB T ++ T.parts.flatMap partB) ++ (T.edges.take k).flatMap edgeB := ⟨_, rfl⟩
            have hLL := Lib.hid (show L.length ≤ 1000 by
              have h1 := flat_le edgeB T.edges k
              have h2 := HZ.out
              rw [hL, List.length_append, List.length_append, headB_length, parts_len]
              rw [edges_len] at h1
              omega)
            rw [← hL]
            have HEK := Lib.hid hek
            have HLE := Lib.hid hL
            have c2 := BR.out.b.c3
            clear hPe hek hL
            go_wp2_with fail
            refine wp_region_late [88, 89, 90, 91, 92, 93, 94, 95, 96, 97, 98, 99, 100, 101, 102, 103, 104, 5] [] [] (by kernel_rfl) (by kernel_rfl) (by kernel_rfl) (by intro d hd; simp at hd ⊢; omega) (fun y => BxSE w s T y) (PhiE w.heap.size s L k b off x y)
              (fun x y h hb => h.next hb) (phiE_below w.heap.size s L k b off x y) (BR.out.next (Below.refl _ _).drew) (fun p hp => by simp at hp) (fun k hk => by simp at hk) ?hstep ?hend
            case hstep =>
              clear c2
              have hc := HC.out
              obtain ⟨hb0, hb1⟩ := HB.out
              intro q o ho hw a w hI hA hd hl K hK
              obtain ⟨ρ, hρ⟩ : ∃ ρ, a.eval = ρ := ⟨_, rfl⟩
              rw [hρ] at hA hd hl
              match q, ho with
              | 0, ho =>
                have hoo := Option.some.inj ho
                subst hoo
                have h1 := hl 17 _ rfl (by kernel_rfl)
                exact fx_val hK hρ _ (by simp only [List.getD_cons_succ, List.getD_cons_zero] at h1; simp [execOp, h1, go_sem]) rfl
              | 1, ho =>
                have hoo := Option.some.inj ho
                subst hoo
                have h1 := hA.tmp 1 (by decide)
                exact fx_val hK hρ _ (by simp [execOp, h1, go_sem]) rfl
              | 2, ho =>
                have hoo := Option.some.inj ho
                subst hoo
                have f1 : (ρ (.tmp 89)) = .pointer (some ⟨_, 3, none⟩) := hd ⟨1, .data⟩ (by simp) (by rfl)
                have h2 := hI.b.c3
                exact fx_val hK hρ _ (by simp [execOp, f1, h2, go_sem]) rfl
              | 3, ho =>
                have hoo := Option.some.inj ho
                subst hoo
                have h1 := hA.tmp 7 (by decide)
                exact fx_val hK hρ _ (by simp [execOp, h1, go_sem]) rfl
              | 4, ho =>
                have hoo := Option.some.inj ho
                subst hoo
                have f2 : (ρ (.tmp 90)) = .slice s.E s.ne s.ec := hd ⟨2, .data⟩ (by simp) (by rfl)
                have f3 : (ρ (.tmp 91)) = .int .i64 ((k : Nat) : Int) := hd ⟨3, .data⟩ (by simp) (by rfl)
                have h3 := hP.out
                have h4 := hK0.out
                exact fx_val hK hρ _ (by simp [execOp, f2, f3, h3, h4, go_sem]) rfl
              | 5, ho =>
                have hoo := Option.some.inj ho
                subst hoo
                have f4 : (ρ (.tmp 92)) = .pointer (some ⟨b, off + k * 2, none⟩) := hd ⟨4, .data⟩ (by simp) (by rfl)
                exact fx_val hK hρ _ (by simp [execOp, f4, go_sem]) rfl
              | 6, ho =>
                have hoo := Option.some.inj ho
                subst hoo
                have f5 : (ρ (.tmp 93)) = .pointer (some ⟨b, off + k * 2, none⟩) := hd ⟨5, .data⟩ (by simp) (by rfl)
                have h2 := (hc _ hI).1
                exact fx_val hK hρ _ (by simp [execOp, f5, h2, go_sem]) rfl
              | 7, ho =>
                have hoo := Option.some.inj ho
                subst hoo
                have f6 : (ρ (.tmp 94)) = .int .i64 x := hd ⟨6, .data⟩ (by simp) (by rfl)
                exact fx_call hK hρ 24 _ _ #[.int .i64 x, .int .i64 ((1 : Nat) : Int)] rfl (by simp only [List.map_toArray, List.map_cons, List.map_nil, f6, hA.const]; rfl) (eg_of Tryz.func24 (by kernel_rfl) rfl) ((cput_any (k := 1) (P := 256) (.inl ⟨rfl, rfl⟩) hb0.1 hb0.2 _).mono fun e w' ⟨he, hb⟩ => ⟨_, he, rfl, hb⟩)
              | 8, ho =>
                have hoo := Option.some.inj ho
                subst hoo
                have f0 : (ρ (.tmp 88)) = .string (txt L) := hd ⟨0, .data⟩ (by simp) (by rfl)
                have f7 : (ρ (.tmp 95)) = .string (txt (u 1 x)) := hd ⟨7, .data⟩ (by simp) (by rfl)
                exact fx_val hK hρ _ (cat_eq rfl f0 f7 (by have := hLL.out; simp [u_length]; omega)) rfl
              | 9, ho =>
                have hoo := Option.some.inj ho
                subst hoo
                have h1 := hA.tmp 1 (by decide)
                exact fx_val hK hρ _ (by simp [execOp, h1, go_sem]) rfl
              | 10, ho =>
                have hoo := Option.some.inj ho
                subst hoo
                have f9 : (ρ (.tmp 97)) = .pointer (some ⟨_, 3, none⟩) := hd ⟨9, .data⟩ (by simp) (by rfl)
                have h2 := hI.b.c3
                exact fx_val hK hρ _ (by simp [execOp, f9, h2, go_sem]) rfl
              | 11, ho =>
                have hoo := Option.some.inj ho
                subst hoo
                have h1 := hA.tmp 7 (by decide)
                exact fx_val hK hρ _ (by simp [execOp, h1, go_sem]) rfl
              | 12, ho =>
                have hoo := Option.some.inj ho
                subst hoo
                have f10 : (ρ (.tmp 98)) = .slice s.E s.ne s.ec := hd ⟨10, .data⟩ (by simp) (by rfl)
                have f11 : (ρ (.tmp 99)) = .int .i64 ((k : Nat) : Int) := hd ⟨11, .data⟩ (by simp) (by rfl)
                have h3 := hP.out
                have h4 := hK0.out
                exact fx_val hK hρ _ (by simp [execOp, f10, f11, h3, h4, go_sem]) rfl
              | 13, ho =>
                have hoo := Option.some.inj ho
                subst hoo
                have f12 : (ρ (.tmp 100)) = .pointer (some ⟨b, off + k * 2, none⟩) := hd ⟨12, .data⟩ (by simp) (by rfl)
                exact fx_val hK hρ _ (by simp [execOp, f12, go_sem]) rfl
              | 14, ho =>
                have hoo := Option.some.inj ho
                subst hoo
                have f13 : (ρ (.tmp 101)) = .pointer (some ⟨b, off + k * 2 + 1, none⟩) := hd ⟨13, .data⟩ (by simp) (by rfl)
                have h2 := (hc _ hI).2
                exact fx_val hK hρ _ (by simp [execOp, f13, h2, go_sem]) rfl
              | 15, ho =>
                have hoo := Option.some.inj ho
                subst hoo
                have f14 : (ρ (.tmp 102)) = .int .i64 y := hd ⟨14, .data⟩ (by simp) (by rfl)
                exact fx_call hK hρ 24 _ _ #[.int .i64 y, .int .i64 ((1 : Nat) : Int)] rfl (by simp only [List.map_toArray, List.map_cons, List.map_nil, f14, hA.const]; rfl) (eg_of Tryz.func24 (by kernel_rfl) rfl) ((cput_any (k := 1) (P := 256) (.inl ⟨rfl, rfl⟩) hb1.1 hb1.2 _).mono fun e w' ⟨he, hb⟩ => ⟨_, he, rfl, hb⟩)
              | 16, ho =>
                have hoo := Option.some.inj ho
                subst hoo
                have f8 : (ρ (.tmp 96)) = .string (txt (L ++ u 1 x)) := hd ⟨8, .data⟩ (by simp) (by rfl)
                have f15 : (ρ (.tmp 103)) = .string (txt (u 1 y)) := hd ⟨15, .data⟩ (by simp) (by rfl)
                exact fx_val hK hρ _ (cat_eq rfl f8 f15 (by have := hLL.out; simp [u_length]; omega)) rfl
              | 17, ho =>
                have hoo := Option.some.inj ho
                subst hoo
                have f16 : (ρ (.tmp 104)) = .string (txt ((L) ++ u 1 x ++ u 1 y)) := hd ⟨16, .data⟩ (by simp) (by rfl)
                exact fx_val hK hρ _ (by simp [execOp, f16, go_sem]) rfl
              | q + 18, ho => simp at ho
            case hend =>
              intro vals y' hI hF
              have e5 : vals 5 = .string (txt ((headB T ++ T.parts.flatMap partB) ++ (T.edges.take (k + 1)).flatMap edgeB)) := (hF 17 (by decide)).trans (by rw [flat_snoc edgeB _ _ _ HEK.out, HLE.out]; simp only [edgeB, List.append_assoc])
              simp only [fillA, fillL, List.contains_cons, List.contains_nil, Nat.reduceBEq, Bool.or_false, Bool.or_true, cond_true, cond_false, Nat.zero_add, Nat.reduceAdd]
              rw [e5]
              have HI := Lib.hid hI
              clear hF hI e5 BR c2
              go_wp2
              go_roundw
              case rel => exact ⟨k + 1, by omega, rfl, by go_num, HI⟩
              case measure => simp [intOf]; omega
          · obtain rfl : k = s.ne := by omega
            have HI := BR
            have hT := List.take_of_length_le (l := T.edges) (i := s.ne) (by rw [BR.out.t.he]; omega)
            rw [hT]
            have c2 := BR.out.b.c3
            clear BR hT
            go_wp2
            go_loopw [5, 8] (fun tv v wr => ∃ k : Nat, k ≤ s.nf ∧ tv = .string (txt ((headB T ++ T.parts.flatMap partB ++ T.edges.flatMap edgeB) ++ (T.futures.take k).flatMap futB)) ∧ v = .int .i64 k ∧ Hid (BxSE w s T wr)) (fun _ v _ => s.nf - (intOf v).toNat)
            case atStart => exact ⟨0, Nat.zero_le _, by simp, rfl, HI⟩
            case round =>
              obtain ⟨k, hk, rfl, rfl, BR⟩ := hrel
              clear HI
              by_cases hlt : k < s.nf
              · obtain ⟨b, off, x, y, z, hPe, hbg, hek, d1, d2, d3⟩ := BR.out.t.futures.at_ (k := k) (by rw [BR.out.t.hf]; exact hlt)
                have HB := Lib.hid (show (0 ≤ x ∧ x < 256) ∧ (0 ≤ y ∧ y < 256) ∧ (0 ≤ z ∧ z < 65536) from HS.out.futures _ (List.mem_of_getElem? hek))
                have hlim : s.nf < 256 := by have := hN.out; omega
                obtain ⟨L, hL⟩ : ∃ L, L = (headB T ++ T.parts.flatMap partB ++ T.edges.flatMap edgeB) ++ (T.futures.take k).flatMap futB := ⟨_, rfl⟩
                have hLL := Lib.hid (show L.length ≤ 1000 by
                  have h1 := flat_le futB T.futures k
                  have h2 := HZ.out
                  rw [hL, List.length_append, List.length_append, List.length_append, headB_length, parts_len, edges_len]
                  rw [futs_len] at h1
                  omega)
                rw [← hL]
                have HEK := Lib.hid hek
                have HLE := Lib.hid hL
                have c2 := BR.out.b.c4
                rw [hPe] at c2
                have HN := Lib.hid (BR.out.next (below_alloc (w := wr) (.cells #[.int .i64 x, .int .i64 y, .int .i64 z] 58)))
                have HG := Lib.hid (show wr.heap.size < (wr.alloc (.cells #[.int .i64 x, .int .i64 y, .int .i64 z] 58)).heap.size by simp)
                clear hPe hek hL
                go_wp2_with fail
                refine wp_region_late [117, 118, 119, 120, 121, 122, 123, 124, 125, 126, 127, 128, 129, 5] [] [] (by kernel_rfl) (by kernel_rfl) (by kernel_rfl) (by intro d hd; simp at hd ⊢; omega) (fun q => BxSE w s T q ∧ q.cell? ⟨wr.heap.size, 0, none⟩ = some (.int .i64 x) ∧ q.cell? ⟨wr.heap.size, 1, none⟩ = some (.int .i64 y) ∧ q.cell? ⟨wr.heap.size, 2, none⟩ = some (.int .i64 z)) (PhiU wr.heap.size L x y z)
                  (fun q r h hb => by
                    have hg := World.block_lt_of_cell? _ _ h.2.1
                    exact ⟨h.1.next hb, (hb.cell hg).trans h.2.1, (hb.cell (p := ⟨wr.heap.size, 1, none⟩) hg).trans h.2.2.1, (hb.cell (p := ⟨wr.heap.size, 2, none⟩) hg).trans h.2.2.2⟩) (phiU_below wr.heap.size L x y z) ⟨HN.out.next (Below.refl _ _).drew, ?c0, ?c1, ?c2⟩ (fun p hp => by simp at hp) (fun k hk => by simp at hk) ?hstep ?hend
                case c0 => show (wr.alloc _).cell? _ = _; rw [World.cell?_alloc_at _ _ _ _ rfl]; rfl
                case c1 => show (wr.alloc _).cell? _ = _; rw [World.cell?_alloc_at _ _ _ _ rfl]; rfl
                case c2 => show (wr.alloc _).cell? _ = _; rw [World.cell?_alloc_at _ _ _ _ rfl]; rfl
                case hstep =>
                  clear c2 d1 d2 d3
                  obtain ⟨hb0, hb1, hb2⟩ := HB.out
                  intro q o ho hw a w hI hA hd hl K hK
                  obtain ⟨ρ, hρ⟩ : ∃ ρ, a.eval = ρ := ⟨_, rfl⟩
                  rw [hρ] at hA hd hl
                  match q, ho with
                  | 0, ho =>
                    have hoo := Option.some.inj ho
                    subst hoo
                    have h1 := hl 13 _ rfl (by kernel_rfl)
                    exact fx_val hK hρ _ (by simp only [List.getD_cons_succ, List.getD_cons_zero] at h1; simp [execOp, h1, go_sem]) rfl
                  | 1, ho =>
                    have hoo := Option.some.inj ho
                    subst hoo
                    have h1 := hA.tmp 9 (by decide)
                    exact fx_val hK hρ _ (by simp [execOp, h1, go_sem]) rfl
                  | 2, ho =>
                    have hoo := Option.some.inj ho
                    subst hoo
                    have f1 : (ρ (.tmp 118)) = .pointer (some ⟨_, 0, none⟩) := hd ⟨1, .data⟩ (by simp) (by rfl)
                    have h2 := hI.2.1
                    exact fx_val hK hρ _ (by simp [execOp, f1, h2, go_sem]) rfl
                  | 3, ho =>
                    have hoo := Option.some.inj ho
                    subst hoo
                    have f2 : (ρ (.tmp 119)) = .int .i64 x := hd ⟨2, .data⟩ (by simp) (by rfl)
                    exact fx_call hK hρ 24 _ _ #[.int .i64 x, .int .i64 ((1 : Nat) : Int)] rfl (by simp only [List.map_toArray, List.map_cons, List.map_nil, f2, hA.const]; rfl) (eg_of Tryz.func24 (by kernel_rfl) rfl) ((cput_any (k := 1) (P := 256) (.inl ⟨rfl, rfl⟩) hb0.1 hb0.2 _).mono fun e w' ⟨he, hb⟩ => ⟨_, he, rfl, hb⟩)
                  | 4, ho =>
                    have hoo := Option.some.inj ho
                    subst hoo
                    have f0 : (ρ (.tmp 117)) = .string (txt L) := hd ⟨0, .data⟩ (by simp) (by rfl)
                    have f3 : (ρ (.tmp 120)) = .string (txt (u 1 x)) := hd ⟨3, .data⟩ (by simp) (by rfl)
                    exact fx_val hK hρ _ (cat_eq rfl f0 f3 (by have := hLL.out; simp [u_length]; omega)) rfl
                  | 5, ho =>
                    have hoo := Option.some.inj ho
                    subst hoo
                    have h1 := hA.tmp 9 (by decide)
                    exact fx_val hK hρ _ (by simp [execOp, h1, go_sem]) rfl
                  | 6, ho =>
                    have hoo := Option.some.inj ho
                    subst hoo
                    have f5 : (ρ (.tmp 122)) = .pointer (some ⟨_, 1, none⟩) := hd ⟨5, .data⟩ (by simp) (by rfl)
                    have h2 := hI.2.2.1
                    exact fx_val hK hρ _ (by simp [execOp, f5, h2, go_sem]) rfl
                  | 7, ho =>
                    have hoo := Option.some.inj ho
                    subst hoo
                    have f6 : (ρ (.tmp 123)) = .int .i64 y := hd ⟨6, .data⟩ (by simp) (by rfl)
                    exact fx_call hK hρ 24 _ _ #[.int .i64 y, .int .i64 ((1 : Nat) : Int)] rfl (by simp only [List.map_toArray, List.map_cons, List.map_nil, f6, hA.const]; rfl) (eg_of Tryz.func24 (by kernel_rfl) rfl) ((cput_any (k := 1) (P := 256) (.inl ⟨rfl, rfl⟩) hb1.1 hb1.2 _).mono fun e w' ⟨he, hb⟩ => ⟨_, he, rfl, hb⟩)
                  | 8, ho =>
                    have hoo := Option.some.inj ho
                    subst hoo
                    have f4 : (ρ (.tmp 121)) = .string (txt (L ++ u 1 x)) := hd ⟨4, .data⟩ (by simp) (by rfl)
                    have f7 : (ρ (.tmp 124)) = .string (txt (u 1 y)) := hd ⟨7, .data⟩ (by simp) (by rfl)
                    exact fx_val hK hρ _ (cat_eq rfl f4 f7 (by have := hLL.out; simp [u_length]; omega)) rfl
                  | 9, ho =>
                    have hoo := Option.some.inj ho
                    subst hoo
                    have h1 := hA.tmp 9 (by decide)
                    exact fx_val hK hρ _ (by simp [execOp, h1, go_sem]) rfl
                  | 10, ho =>
                    have hoo := Option.some.inj ho
                    subst hoo
                    have f9 : (ρ (.tmp 126)) = .pointer (some ⟨_, 2, none⟩) := hd ⟨9, .data⟩ (by simp) (by rfl)
                    have h2 := hI.2.2.2
                    exact fx_val hK hρ _ (by simp [execOp, f9, h2, go_sem]) rfl
                  | 11, ho =>
                    have hoo := Option.some.inj ho
                    subst hoo
                    have f10 : (ρ (.tmp 127)) = .int .i64 z := hd ⟨10, .data⟩ (by simp) (by rfl)
                    exact fx_call hK hρ 24 _ _ #[.int .i64 z, .int .i64 ((2 : Nat) : Int)] rfl (by simp only [List.map_toArray, List.map_cons, List.map_nil, f10, hA.const]; rfl) (eg_of Tryz.func24 (by kernel_rfl) rfl) ((cput_any (k := 2) (P := 65536) (.inr (.inl ⟨rfl, rfl⟩)) hb2.1 hb2.2 _).mono fun e w' ⟨he, hb⟩ => ⟨_, he, rfl, hb⟩)
                  | 12, ho =>
                    have hoo := Option.some.inj ho
                    subst hoo
                    have f8 : (ρ (.tmp 125)) = .string (txt ((L) ++ u 1 x ++ u 1 y)) := hd ⟨8, .data⟩ (by simp) (by rfl)
                    have f11 : (ρ (.tmp 128)) = .string (txt (u 2 z)) := hd ⟨11, .data⟩ (by simp) (by rfl)
                    exact fx_val hK hρ _ (cat_eq rfl f8 f11 (by have := hLL.out; simp [u_length]; omega)) rfl
                  | 13, ho =>
                    have hoo := Option.some.inj ho
                    subst hoo
                    have f12 : (ρ (.tmp 129)) = .string (txt (((L) ++ u 1 x) ++ u 1 y ++ u 2 z)) := hd ⟨12, .data⟩ (by simp) (by rfl)
                    exact fx_val hK hρ _ (by simp [execOp, f12, go_sem]) rfl
                  | q + 14, ho => simp at ho
                case hend =>
                  intro vals y' hI hF
                  have e5 : vals 5 = .string (txt ((headB T ++ T.parts.flatMap partB ++ T.edges.flatMap edgeB) ++ (T.futures.take (k + 1)).flatMap futB)) := (hF 13 (by decide)).trans (by rw [flat_snoc futB _ _ _ HEK.out, HLE.out]; simp only [futB, List.append_assoc])
                  simp only [fillA, fillL, List.contains_cons, List.contains_nil, Nat.reduceBEq, Bool.or_false, Bool.or_true, cond_true, cond_false, Nat.zero_add, Nat.reduceAdd]
                  rw [e5]
                  have HI := Lib.hid hI.1
                  clear hF hI e5 BR c2 d1 d2 d3
                  go_wp2
                  go_roundw
                  case rel => exact ⟨k + 1, by omega, rfl, by go_num, HI⟩
                  case measure => simp [intOf]; omega
              · obtain rfl : k = s.nf := by omega
                have HI := BR
                have hT := List.take_of_length_le (l := T.futures) (i := s.nf) (by rw [BR.out.t.hf]; omega)
                rw [hT]
                have c2 := BR.out.b.c4
                clear BR hT
                go_wp2
                go_loopw [5, 10] (fun tv v wr => ∃ k : Nat, k ≤ s.nr ∧ tv = .string (txt ((headB T ++ T.parts.flatMap partB ++ T.edges.flatMap edgeB ++ T.futures.flatMap futB) ++ (T.bars.take k).flatMap barB)) ∧ v = .int .i64 k ∧ Hid (BxSE w s T wr)) (fun _ v _ => s.nr - (intOf v).toNat)
                case atStart => exact ⟨0, Nat.zero_le _, by simp, rfl, HI⟩
                case round =>
                  obtain ⟨k, hk, rfl, rfl, BR⟩ := hrel
                  clear HI
                  by_cases hlt : k < s.nr
                  · obtain ⟨b, off, xs, ys, A0, n0, c0, A1, n1, c1, hPe, hbg, hek, hn0, hn1, d1, d2, i0, i1, _, _⟩ := BR.out.t.bars.at_ (k := k) (by rw [BR.out.t.hr]; exact hlt)
                    have hsm := HS.out.bars _ (List.mem_of_getElem? hek)
                    simp only [hn0, hn1] at hsm
                    have HB := Lib.hid (show ((n0 : Nat) : Int) < 256 ∧ ((n1 : Nat) : Int) < 256 by have := hsm.1; have := hsm.2.1; omega)
                    have HSM := Lib.hid hsm.2.2
                    have hlim0 : n0 < 256 := hsm.1
                    have hlim1 : n1 < 256 := hsm.2.1
                    have hlim : s.nr < 256 := by have := hN.out; omega
                    obtain ⟨L, hL⟩ : ∃ L, L = (headB T ++ T.parts.flatMap partB ++ T.edges.flatMap edgeB ++ T.futures.flatMap futB) ++ (T.bars.take k).flatMap barB := ⟨_, rfl⟩
                    have hLL := Lib.hid (show L.length ≤ 1000 by
                      have h1 := flat_le barB T.bars k
                      have h2 := HZ.out
                      rw [hL, List.length_append, List.length_append, List.length_append, List.length_append, headB_length, parts_len, edges_len, futs_len]
                      rw [bars_len T.bars] at h1
                      unfold barsN at h2
                      omega)
                    have HLS := Lib.hid (show L.length ≤ 1000 ∧ xs.length < 256 ∧ ys.length < 256 from ⟨hLL.out, by omega, by omega⟩)
                    rw [← hL]
                    have HEK := Lib.hid hek
                    have HLE := Lib.hid hL
                    have HNX := Lib.hid (show xs.length = n0 ∧ ys.length = n1 from ⟨hn0, hn1⟩)
                    have c2 := BR.out.b.c5
                    rw [hPe] at c2
                    have HBX := Lib.hid (BarBox.start (k0 := c0) (k1 := c1) BR.out hn0 hn1 i0 i1)
                    clear hPe hek hL hsm hn0 hn1 i0 i1
                    go_wp2_with fail
                    obtain ⟨g, hg⟩ : ∃ g, g = wr.heap.size := ⟨_, rfl⟩
                    refine wp_region_late [142, 143, 144, 145, 146, 147, 148, 149, 150, 151, 152, 5] [] [] (by kernel_rfl) (by kernel_rfl) (by kernel_rfl) (by intro d hd; simp at hd ⊢; omega) (fun q => BarBox w s T wr.heap.size A0 n0 c0 A1 n1 c1 xs ys q ∧ q.cell? ⟨wr.heap.size, 0, none⟩ = some (.slice A0 n0 c0) ∧ q.cell? ⟨wr.heap.size, 1, none⟩ = some (.slice A1 n1 c1)) (PhiB wr.heap.size L A0 n0 c0 A1 n1 c1)
                      (fun q r h hb => ⟨h.1.next hb, (h.1.next hb).c0, (h.1.next hb).c1⟩) (phiB_below wr.heap.size L A0 n0 c0 A1 n1 c1) ⟨HBX.out.next (Below.refl _ _).drew, (HBX.out.next (Below.refl _ _).drew).c0, (HBX.out.next (Below.refl _ _).drew).c1⟩ (fun p hp => by simp at hp) (fun k hk => by simp at hk) ?hstep ?hend
                    case hstep =>
                      clear c2 d1 d2 hg
                      obtain ⟨hb0, hb1⟩ := HB.out
                      intro q o ho hw a w hI hA hd hl K hK
                      obtain ⟨ρ, hρ⟩ : ∃ ρ, a.eval = ρ := ⟨_, rfl⟩
                      rw [hρ] at hA hd hl
                      match q, ho with
                      | 0, ho =>
                        have hoo := Option.some.inj ho
                        subst hoo
                        have h1 := hl 11 _ rfl (by kernel_rfl)
                        exact fx_val hK hρ _ (by simp only [List.getD_cons_succ, List.getD_cons_zero] at h1; simp [execOp, h1, go_sem]) rfl
                      | 1, ho =>
                        have hoo := Option.some.inj ho
                        subst hoo
                        have h1 := hA.tmp 11 (by decide)
                        exact fx_val hK hρ _ (by simp [execOp, h1, go_sem]) rfl
                      | 2, ho =>
                        have hoo := Option.some.inj ho
                        subst hoo
                        have f1 : (ρ (.tmp 143)) = .pointer (some ⟨_, 0, none⟩) := hd ⟨1, .data⟩ (by simp) (by rfl)
                        have h2 := hI.2.1
                        exact fx_val hK hρ _ (by simp [execOp, f1, h2, go_sem]) rfl
                      | 3, ho =>
                        have hoo := Option.some.inj ho
                        subst hoo
                        have f2 : (ρ (.tmp 144)) = .slice A0 n0 c0 := hd ⟨2, .data⟩ (by simp) (by rfl)
                        exact fx_val hK hρ _ (by simp [execOp, resolve, invoke, f2, go_sem]) rfl
                      | 4, ho =>
                        have hoo := Option.some.inj ho
                        subst hoo
                        have f3 : (ρ (.tmp 145)) = .int .i64 ((n0 : Nat) : Int) := hd ⟨3, .data⟩ (by simp) (by rfl)
                        exact fx_call hK hρ 24 _ _ #[.int .i64 ((n0 : Nat) : Int), .int .i64 ((1 : Nat) : Int)] rfl (by simp only [List.map_toArray, List.map_cons, List.map_nil, f3, hA.const]; rfl) (eg_of Tryz.func24 (by kernel_rfl) rfl) ((cput_any (k := 1) (P := 256) (.inl ⟨rfl, rfl⟩) (Int.natCast_nonneg _) hb0 _).mono fun e w' ⟨he, hb⟩ => ⟨_, he, rfl, hb⟩)
                      | 5, ho =>
                        have hoo := Option.some.inj ho
                        subst hoo
                        have f0 : (ρ (.tmp 142)) = .string (txt L) := hd ⟨0, .data⟩ (by simp) (by rfl)
                        have f4 : (ρ (.tmp 146)) = .string (txt (u 1 ((n0 : Nat) : Int))) := hd ⟨4, .data⟩ (by simp) (by rfl)
                        exact fx_val hK hρ _ (cat_eq rfl f0 f4 (by have := hLL.out; simp [u_length]; omega)) rfl
                      | 6, ho =>
                        have hoo := Option.some.inj ho
                        subst hoo
                        have h1 := hA.tmp 11 (by decide)
                        exact fx_val hK hρ _ (by simp [execOp, h1, go_sem]) rfl
                      | 7, ho =>
                        have hoo := Option.some.inj ho
                        subst hoo
                        have f6 : (ρ (.tmp 148)) = .pointer (some ⟨_, 1, none⟩) := hd ⟨6, .data⟩ (by simp) (by rfl)
                        have h2 := hI.2.2
                        exact fx_val hK hρ _ (by simp [execOp, f6, h2, go_sem]) rfl
                      | 8, ho =>
                        have hoo := Option.some.inj ho
                        subst hoo
                        have f7 : (ρ (.tmp 149)) = .slice A1 n1 c1 := hd ⟨7, .data⟩ (by simp) (by rfl)
                        exact fx_val hK hρ _ (by simp [execOp, resolve, invoke, f7, go_sem]) rfl
                      | 9, ho =>
                        have hoo := Option.some.inj ho
                        subst hoo
                        have f8 : (ρ (.tmp 150)) = .int .i64 ((n1 : Nat) : Int) := hd ⟨8, .data⟩ (by simp) (by rfl)
                        exact fx_call hK hρ 24 _ _ #[.int .i64 ((n1 : Nat) : Int), .int .i64 ((1 : Nat) : Int)] rfl (by simp only [List.map_toArray, List.map_cons, List.map_nil, f8, hA.const]; rfl) (eg_of Tryz.func24 (by kernel_rfl) rfl) ((cput_any (k := 1) (P := 256) (.inl ⟨rfl, rfl⟩) (Int.natCast_nonneg _) hb1 _).mono fun e w' ⟨he, hb⟩ => ⟨_, he, rfl, hb⟩)
                      | 10, ho =>
                        have hoo := Option.some.inj ho
                        subst hoo
                        have f5 : (ρ (.tmp 147)) = .string (txt (L ++ u 1 ((n0 : Nat) : Int))) := hd ⟨5, .data⟩ (by simp) (by rfl)
                        have f9 : (ρ (.tmp 151)) = .string (txt (u 1 ((n1 : Nat) : Int))) := hd ⟨9, .data⟩ (by simp) (by rfl)
                        exact fx_val hK hρ _ (cat_eq rfl f5 f9 (by have := hLL.out; simp [u_length]; omega)) rfl
                      | 11, ho =>
                        have hoo := Option.some.inj ho
                        subst hoo
                        have f10 : (ρ (.tmp 152)) = .string (txt ((L) ++ u 1 ((n0 : Nat) : Int) ++ u 1 ((n1 : Nat) : Int))) := hd ⟨10, .data⟩ (by simp) (by rfl)
                        exact fx_val hK hρ _ (by simp [execOp, f10, go_sem]) rfl
                      | q + 12, ho => simp at ho
                    case hend =>
                      intro vals y' hI hF
                      have e5 : vals 5 = .string (txt (L ++ u 1 ((n0 : Nat) : Int) ++ u 1 ((n1 : Nat) : Int))) := hF 11 (by decide)
                      simp only [fillA, fillL, List.contains_cons, List.contains_nil, Nat.reduceBEq, Bool.or_false, Bool.or_true, cond_true, cond_false, Nat.zero_add, Nat.reduceAdd]
                      rw [e5]
                      have hI1 := hI.1
                      rw [← hg] at hI1 ⊢
                      have HI := Lib.hid hI1
                      have e1 := hI1.c0
                      have e2 := hI1.c1
                      clear hF hI hI1 e5 BR c2 d1 d2 HBX hg
                      go_wp2
                      go_loopw [5, 12] (fun tv v wz => ∃ k : Nat, k ≤ n0 ∧ tv = .string (txt ((L ++ u 1 ((n0 : Nat) : Int) ++ u 1 ((n1 : Nat) : Int)) ++ onesB (xs.take k))) ∧ v = .int .i64 k ∧ Hid (BarBox w s T g A0 n0 c0 A1 n1 c1 xs ys wz)) (fun _ v _ => n0 - (intOf v).toNat)
                      case atStart => exact ⟨0, Nat.zero_le _, by simp [onesB], rfl, HI⟩
                      case round =>
                        obtain ⟨q, hq, rfl, rfl, BR⟩ := hrel
                        clear HI
                        have e1 := BR.out.c0
                        have e2 := BR.out.c1
                        by_cases hltq : q < n0
                        · obtain ⟨bq, o, z, rfl, hbg, hzk, hcz⟩ := BR.out.i0.at_ (k := q) (by rw [BR.out.l0]; exact hltq)
                          have HZK := Lib.hid hzk
                          obtain ⟨M, hM⟩ : ∃ M, M = (L ++ u 1 ((n0 : Nat) : Int) ++ u 1 ((n1 : Nat) : Int)) ++ onesB (xs.take q) := ⟨_, rfl⟩
                          have hML := Lib.hid (show M.length ≤ 100000 by
                            have h2 := HLS.out
                            rw [hM, List.length_append, onesB_length, List.length_take]
                            simp [u_length]
                            omega)
                          rw [← hM]
                          have HME := Lib.hid hM
                          have HPT := Lib.hid (fun (W : World) => cput_any (k := 1) (P := 256) (.inl ⟨rfl, rfl⟩) (HSM.out.1 z (List.mem_of_getElem? hzk)).1 (HSM.out.1 z (List.mem_of_getElem? hzk)).2 W)
                          clear hzk hM
                          go_wp2_with fail
                          refine (HPT.out _).mono ?_
                          rintro e wz1 ⟨rfl, bz1⟩
                          have BZ := Lib.hid (BR.out.next bz1)
                          have hsz : ¬ 9223372036854775807 < (txt M).size + (txt (u 1 z)).size := by have := hML.out; rw [txt_size, txt_size, u_length]; omega
                          clear bz1 e1 e2 BR
                          go_wp2
                          go_roundw
                          case rel => exact ⟨q + 1, by omega, by rw [txt_add, HME.out]; unfold onesB; rw [flat_snoc (u 1) xs q z HZK.out, List.append_assoc], by go_num, BZ⟩
                          case measure => simp [intOf]; omega
                        · obtain rfl : n0 = q := by omega
                          have HI := BR
                          have hT := List.take_of_length_le (l := xs) (i := n0) (by rw [BR.out.l0]; omega)
                          rw [hT]
                          clear BR hT
                          go_wp2
                          go_loopw [5, 13] (fun tv v wz => ∃ k : Nat, k ≤ n1 ∧ tv = .string (txt (((L ++ u 1 ((n0 : Nat) : Int) ++ u 1 ((n1 : Nat) : Int)) ++ onesB xs) ++ onesB (ys.take k))) ∧ v = .int .i64 k ∧ Hid (BarBox w s T g A0 n0 c0 A1 n1 c1 xs ys wz)) (fun _ v _ => n1 - (intOf v).toNat)
                          case atStart => exact ⟨0, Nat.zero_le _, by simp [onesB], rfl, HI⟩
                          case round =>
                            obtain ⟨q, hq, rfl, rfl, BR⟩ := hrel
                            clear HI
                            have e1 := BR.out.c0
                            have e2 := BR.out.c1
                            by_cases hltq : q < n1
                            · obtain ⟨bq, o, z, rfl, hbg, hzk, hcz⟩ := BR.out.i1.at_ (k := q) (by rw [BR.out.l1]; exact hltq)
                              have HZK := Lib.hid hzk
                              obtain ⟨M, hM⟩ : ∃ M, M = ((L ++ u 1 ((n0 : Nat) : Int) ++ u 1 ((n1 : Nat) : Int)) ++ onesB xs) ++ onesB (ys.take q) := ⟨_, rfl⟩
                              have hML := Lib.hid (show M.length ≤ 100000 by
                                have h2 := HLS.out
                                rw [hM, List.length_append, onesB_length, List.length_take]
                                simp [u_length, onesB_length]
                                omega)
                              rw [← hM]
                              have HME := Lib.hid hM
                              have HPT := Lib.hid (fun (W : World) => cput_any (k := 1) (P := 256) (.inl ⟨rfl, rfl⟩) (HSM.out.2 z (List.mem_of_getElem? hzk)).1 (HSM.out.2 z (List.mem_of_getElem? hzk)).2 W)
                              clear hzk hM
                              go_wp2_with fail
                              refine (HPT.out _).mono ?_
                              rintro e wz1 ⟨rfl, bz1⟩
                              have BZ := Lib.hid (BR.out.next bz1)
                              have hsz : ¬ 9223372036854775807 < (txt M).size + (txt (u 1 z)).size := by have := hML.out; rw [txt_size, txt_size, u_length]; omega
                              clear bz1 e1 e2 BR
                              go_wp2
                              go_roundw
                              case rel => exact ⟨q + 1, by omega, by rw [txt_add, HME.out]; unfold onesB; rw [flat_snoc (u 1) ys q z HZK.out, List.append_assoc], by go_num, BZ⟩
                              case measure => simp [intOf]; omega
                            · obtain rfl : n1 = q := by omega
                              have HI := BR
                              have hT := List.take_of_length_le (l := ys) (i := n1) (by rw [BR.out.l1]; omega)
                              rw [hT]
                              clear BR hT
                              go_wp2
                              go_roundw
                              case rel => exact ⟨k + 1, by omega, by rw [flat_snoc barB _ _ _ HEK.out, HLE.out]; simp only [barB, HNX.out.1, HNX.out.2, List.append_assoc], by go_num, Lib.hid HI.out.b⟩
                              case measure => simp [intOf]; omega



                  · obtain rfl : k = s.nr := by omega
                    have HI := BR
                    have hT := List.take_of_length_le (l := T.bars) (i := s.nr) (by rw [BR.out.t.hr]; omega)
                    rw [hT]
                    have HBE := Lib.hid (show (headB T ++ T.parts.flatMap partB ++ T.edges.flatMap edgeB ++ T.futures.flatMap futB) ++ T.bars.flatMap barB = bodyB T by unfold bodyB; simp only [List.append_assoc])
                    rw [HBE.out]
                    have HBL := Lib.hid (show (bodyB T).length ≤ 600 by have := HZ.out; rw [bodyB_length]; exact this)
                    have HSUM := Lib.hid (fun W => rsum_any (txt (bodyB T)) W (by rw [txt_size]; have := HBL.out; omega))
                    have hz1 : (txt (bodyB T)).data.toList = bodyB T := txt_list _
                    rw [hz1] at HSUM
                    have HTL := Lib.hid (fun W => rtail_any (crc (bodyB T)) W (crc_lt _))
                    have hsz : ¬ 9223372036854775807 < (txt (bodyB T)).size + (⟨(tl (crc (bodyB T))).toArray⟩ : ByteArray).size := by
                      have := HBL.out
                      have h4 : (⟨(tl (crc (bodyB T))).toArray⟩ : ByteArray).size = 4 := rfl
                      rw [txt_size, h4]; omega
                    have HFE := Lib.hid (show txt (bodyB T) ++ ⟨(tl (crc (bodyB T))).toArray⟩ = txt (sealL (bodyB T)) from txt_add _ _)
                    have c2 := BR.out.b.c5
                    clear BR hT hz1
                    go_wp2_with fail
                    refine (HSUM.out _).mono ?_
                    rintro e wf ⟨rfl, rfl⟩
                    go_wp2_with fail
                    refine (HTL.out _).mono ?_
                    rintro e wg ⟨rfl, bg⟩
                    have BF := Lib.hid (HI.out.next bg)
                    clear bg
                    go_wp2
                    go_ret2
                    exact ⟨by rw [HFE.out]; rfl, BF.out.b.bel⟩





end Go.Proofs.YtlimcimioeepaaaGreatDoor
set_option linter.unusedVariables false
namespace Go.Proofs.YtlimcimioeepaaaGreatDoor
open Go.RowKit

set_option maxRecDepth 100000 in
set_option maxHeartbeats 4000000 in
theorem cenc_no (w : World) (s : Sh) (T : Task) (h : IsT w w.heap.size s T) (hf : FewT T) (hm : ¬ MayT T) :
    Calls Tryz.prog 14 #[s.arg T.period T.deadline] w fun e w' => e = .returned (.tuple #[.string (txt []), .int .i64 (chkT T)]) ∧ Below w.heap.size w w' := by
  have B0 := Lib.hid (BxT.start h T.period T.deadline)
  have C := Lib.hid (fun W (h : IsT W W.heap.size s T) => dcheck_any s T W hf h)
  obtain ⟨r, hr⟩ : ∃ r, r = chkT T := ⟨_, rfl⟩
  have hne : r ≠ 0 := fun e => hm (chkT_zero.mp (hr ▸ e))
  rw [← hr] at C ⊢
  clear h hf hm hr
  go_enter Tryz.func14, Tryz.ntmps14
  obtain ⟨c0, c1, c2, c3, c4, c5⟩ := B0.out.b.cells
  go_wp2_with fail
  refine (C.out _ B0.out.t).mono ?_
  rintro e w1 ⟨rfl, b1⟩
  have B1 := Lib.hid (show BxSE w s T w1 from B0.out.next b1)
  clear b1 c0 c1 c2 c3 c4 c5 B0
  go_wp2
  go_ret2
  exact ⟨rfl, B1.out.b.bel⟩
/-- What is encoded, of any task. -/
noncomputable def encL (T : Task) : List UInt8 := open Classical in if MayT T then sealL (bodyB T) else []
theorem cenc_any (w : World) (s : Sh) (T : Task) (h : IsT w w.heap.size s T) (hf : FewT T) :
    Calls Tryz.prog 14 #[s.arg T.period T.deadline] w fun e w' => e = .returned (.tuple #[.string (txt (encL T)), .int .i64 (chkT T)]) ∧ Below w.heap.size w w' := by
  unfold encL
  by_cases hm : MayT T
  · rw [if_pos hm, chkT_zero.mpr hm]
    exact cenc_may w s T h hf hm
  · rw [if_neg hm]
    exact cenc_no w s T h hf hm
end Go.Proofs.YtlimcimioeepaaaGreatDoor
