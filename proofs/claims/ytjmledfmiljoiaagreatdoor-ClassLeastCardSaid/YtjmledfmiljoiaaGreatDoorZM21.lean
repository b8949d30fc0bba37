/- lower.Node, Last and Same over lowered tasks, in the seat YtjmledfmiljoiaaGreatDoor: their contracts.
   Layer 7's example, in plain words, in the seat YtjmledfmiljoiaaGreatDoor.
   The contract of awake of trefoillaw07 in the seat YtjmledfmiljoiaaGreatDoor.
   The contract of trefoilref07.Same in the seat YtjmledfmiljoiaaGreatDoor.
   The contract of trefoilref05.Same in the seat YtjmledfmiljoiaaGreatDoor.
   The contract of trefoilref05.Same in the seat YtjmledfmiljoiaaGreatDoor (printed by desc/mk_same.py).
   What the walks over tasks share, in the seat YtjmledfmiljoiaaGreatDoor (parted out of DescWalk0 in round 6).
   What the walks of layer 7 share in the seat YtjmledfmiljoiaaGreatDoor.
   dag.Total in the seat YtjmledfmiljoiaaGreatDoor: its contract.
   No statement is proved here. -/
import Derived.Test.YtjmledfmiljoiaaGreatDoorZM20
import Derived.Test.YtjmledfmiljoiaaGreatDoorZM7
import Derived.Test.YtjmledfmiljoiaaGreatDoorZM11
import Derived.Test.YtjmledfmiljoiaaGreatDoorZM12
import Derived.Test.YtjmledfmiljoiaaGreatDoorZM9
import Derived.Test.YtjmledfmiljoiaaGreatDoorZM19
set_option linter.unusedSimpArgs false
set_option linter.unusedVariables false
namespace Go.Proofs.YtjmledfmiljoiaaGreatDoor
open Go.RowKit

theorem piece_fields : (Tryz.prog.fieldsOf 111).toList.map (fun f => (f.name, f.type, f.offset)) = [("Part", 3, 0), ("Step", 3, 1)] := by kernel_rfl
theorem piece_eq (x y u v : Int) (W : World) : (Op.equalIn 10000 111 (.agg #[.int .i64 x, .int .i64 y]) (.agg #[.int .i64 u, .int .i64 v])).run Tryz.prog W = .ok (x == u && y == v) W := by
  have hf := piece_fields
  rw [run_equalIn_agg (d := 9999) W 111 _ _ (by kernel_rfl) (by kernel_rfl)]
  generalize (Tryz.prog.fieldsOf 111).toList = fs at hf
  match fs, hf with
  | [], hf => simp at hf
  | [_], hf => simp at hf
  | _ :: _ :: _ :: _, hf => simp at hf
  | [f, g], hf =>
    simp only [List.map_cons, List.map_nil, List.cons.injEq, Prod.mk.injEq, and_true] at hf
    obtain ⟨⟨n1, t1, o1⟩, n2, t2, o2⟩ := hf
    have e1 := fun a b W => run_equalIn_int (P := Tryz.prog) W 9998 3 .i64 .i64 a b Tryz.underlying3
    have p1 := fun a b W => (part_int a b W).1
    have p2 := fun a b W => (part_int a b W).2
    simp only [Op.eqFields, n1, n2, t1, t2, o1, o2]
    by_cases h1 : x = u
    · subst h1
      by_cases h2 : y = v
      · simp [p1, p2, e1, h2]
      · simp [p1, p2, e1, h2]
    · simp [p1, p2, e1, h1]
theorem piece_neq_run (x y u v : Int) (W : World) : (binOp .neq 111 (.agg #[.int .i64 x, .int .i64 y]) (.agg #[.int .i64 u, .int .i64 v])).run Tryz.prog W = .ok (.bool (!(x == u && y == v))) W := by
  rw [run_neq_struct, piece_eq]
  rfl
theorem piece_eql_run (x y u v : Int) (W : World) : (binOp .eql 111 (.agg #[.int .i64 x, .int .i64 y]) (.agg #[.int .i64 u, .int .i64 v])).run Tryz.prog W = .ok (.bool (x == u && y == v)) W := by
  rw [run_eql_struct, piece_eq]
  rfl
/-- A lowered task, as it is handed over. -/
structure IsL (w : World) (A : Option Addr) (n c : Nat) (F : Option Addr) (m d : Nat) (R : Option Addr) (k e : Nat) (W : List Int) (E P : List (Int × Int)) : Prop where
  g : IsG w A n c F m d W E
  hk : P.length = k
  lk : k ≤ 400
  pcs : Pairs w w.heap.size R P
theorem IsL.below {w w' : World} {A : Option Addr} {n c : Nat} {F : Option Addr} {m d : Nat} {R : Option Addr} {k e : Nat} {W : List Int} {E P : List (Int × Int)} (h : IsL w A n c F m d R k e W E P) (hb : Below w.heap.size w w') : IsL w' A n c F m d R k e W E P :=
  ⟨h.g.below hb, h.hk, h.lk, (h.pcs.below hb).more hb.size⟩
theorem OwnP.pairs {w : World} {base : Nat} {v : Value} {ps : List (Int × Int)} (h : OwnP w base v ps) : ∃ A c, v = .slice A ps.length c ∧ Pairs w w.heap.size A ps := by
  rcases h.2 with ⟨rfl, hn⟩ | ⟨g, cap, cur, rfl, hg, hgg, rest⟩
  · have : ps = [] := List.eq_nil_of_length_eq_zero hn
    subst this
    exact ⟨none, 0, rfl, fun h0 => absurd h0 (by simp)⟩
  · refine ⟨some ⟨g, 0, none⟩, cap, rfl, fun _ => ⟨g, 0, rfl, (Array.getElem?_eq_some_iff.1 hgg).1, fun k e he => ?_⟩⟩
    obtain ⟨h1, h2⟩ := flatE_at he
    have h' : w.ownsRow base 111 2 (.slice (some ⟨g, 0, none⟩) ps.length cap) ps.length (flatE ps) := h
    have c1 := h'.cells (g := g) rfl _ _ h1
    have c2 := h'.cells (g := g) rfl _ _ h2
    rw [addr_add] at c1 c2
    rw [show 0 + (k * 2 + 1) = 0 + k * 2 + 1 by omega] at c2
    exact ⟨c1, c2⟩
theorem own_isL {w : World} {b : Nat} {u v x : Value} {W : List Int} {E P : List (Int × Int)} (ht : Tab64 w) (hu : OwnI w b u W) (hv : OwnE w b v E) (hx : OwnP w b x P) (hW : W.length ≤ 400) (hE : E.length ≤ 400) (hP : P.length ≤ 400) :
    ∃ A c F d R e, u = .slice A W.length c ∧ v = .slice F E.length d ∧ x = .slice R P.length e ∧ IsL w A W.length c F E.length d R P.length e W E P := by
  obtain ⟨A, c, F, d, rfl, rfl, hg⟩ := own_isG ht hu hv hW hE
  obtain ⟨R, e, rfl, hp⟩ := hx.pairs
  exact ⟨A, c, F, d, R, e, rfl, rfl, rfl, hg, rfl, hP, hp⟩
/-- The first place of a piece; -1: there is none. -/
def idxV (P : List (Int × Int)) (p : Int × Int) : Int := if p ∈ P then (P.idxOf p : Int) else -1
theorem idxV_at {P : List (Int × Int)} {p : Int × Int} {j : Nat} (h : P[j]? = some p) (hn : p ∉ P.take j) : idxV P p = (j : Int) := by
  unfold idxV
  rw [if_pos (List.mem_of_getElem? h)]
  have hj := (List.getElem?_eq_some_iff.mp h).1
  have e : P = P.take j ++ p :: P.drop (j + 1) := by
    rw [← (List.getElem?_eq_some_iff.mp h).2, List.getElem_cons_drop, List.take_append_drop]
  have h2 : (P.take j ++ p :: P.drop (j + 1)).idxOf p = j := by
    rw [List.idxOf_append, if_neg hn, List.idxOf_cons_self, List.length_take]
    omega
  rw [← e] at h2
  rw [h2]
theorem idxV_no {P : List (Int × Int)} {p : Int × Int} (h : p ∉ P) : idxV P p = -1 := by unfold idxV; rw [if_neg h]
/-- The last place among the first j whose part that is; -1: there is none. -/
def lastK (P : List (Int × Int)) (x : Int) : Nat → Int
  | 0 => -1
  | j + 1 => if (P.getD j (0, 0)).1 = x then (j : Int) else lastK P x j
def lastV (P : List (Int × Int)) (x : Int) : Int := if x < 0 then -1 else lastK P x P.length
section
variable {A : Option Addr} {n c : Nat} {F : Option Addr} {m d : Nat} {R : Option Addr} {k e : Nat} {W : List Int} {E P : List (Int × Int)}
end
section
variable {A : Option Addr} {n c : Nat} {F : Option Addr} {m d : Nat} {R : Option Addr} {k e : Nat} {W : List Int} {E P : List (Int × Int)} {A' : Option Addr} {n' c' : Nat} {F' : Option Addr} {m' d' : Nat} {R' : Option Addr} {k' e' : Nat} {W' : List Int} {E' P' : List (Int × Int)}
end
end Go.Proofs.YtjmledfmiljoiaaGreatDoor
set_option linter.unusedVariables false
namespace Go.Proofs.YtjmledfmiljoiaaGreatDoor
open Go.RowKit

def exL : Task := ⟨8, 8, [(0, 0, 2), (0, 0, 5)], [], [(0, 1, 3)], []⟩
def roL : Task := ⟨8, 8, [(0, 0, 2), (0, 0, 5)], [(0, 1), (1, 0)], [], []⟩
theorem exLFew : FewT exL := ⟨by decide, by decide, by decide, by decide, by decide⟩
theorem roLFew : FewT roL := ⟨by decide, by decide, by decide, by decide, by decide⟩
theorem exLMay : MayT exL where
  few := by unfold ManyT; decide
  time := by decide
  parts := by decide
  edges := ⟨by unfold Fits; decide, by decide, by decide⟩
  futures := by
    refine ⟨fun f hf => ?_, by decide⟩
    obtain rfl : f = (0, 1, 3) := by simpa [exL] using hf
    refine ⟨by decide, by decide, by decide, by decide, fun e he => ?_⟩
    have : e = (0, 0, 5) := by
      have h2 : (exL.parts)[1]? = some (0, 0, 5) := rfl
      rw [show ((0, 1, 3) : Int × Int × Int).2.1.toNat = 1 from rfl, h2] at he
      exact (Option.some.inj he).symm
    rw [this]
    decide
  bars := fun b hb => by simp [exL] at hb
theorem roLMay : MayT roL where
  few := by unfold ManyT; decide
  time := by decide
  parts := by decide
  edges := ⟨by unfold Fits; decide, by decide, by decide⟩
  futures := ⟨fun f hf => by simp [roL] at hf, by decide⟩
  bars := fun b hb => by simp [roL] at hb
theorem exLW : lowW exL = [2, 3, 2] := by decide +kernel
theorem exLE : lowE exL = [(1, 2), (0, 2)] := by decide +kernel
theorem exLP : lowP exL = [(0, 0), (1, 0), (1, 1)] := by decide +kernel
theorem roLW : lowW roL = [2, 5] := by decide +kernel
theorem roLE : lowE roL = [(0, 1), (1, 0)] := by decide +kernel
theorem exLFits : Fits 3 [(1, 2), (0, 2)] := by unfold Fits; decide
theorem exLGood : May [2, 3, 2] [(1, 2), (0, 2)] := ⟨by decide, by decide, by unfold WorkOk; decide, exLFits, by decide, by decide, acyc_of exLFits (by decide)⟩
theorem exLOk : LowOk exL := ⟨exLMay, by rw [exLW, exLE]; exact exLGood⟩
theorem exLX : lowX exL = 0 := lowX_zero.mpr exLOk
theorem exLWv : lowWv exL = [2, 3, 2] := by unfold lowWv; rw [if_pos exLOk, exLW]
theorem exLEv : lowEv exL = [(1, 2), (0, 2)] := by unfold lowEv; rw [if_pos exLOk, exLE]
theorem exLPv : lowPv exL = [(0, 0), (1, 0), (1, 1)] := by unfold lowPv; rw [if_pos exLOk, exLP]
theorem roLX : lowX roL = 70 := by
  unfold lowX
  rw [if_pos roLMay, if_neg]
  rw [roLW, roLE]
  intro h
  exact h.acyc 0 ((reach_iff (n := 2) (by unfold Fits; decide) 0 0).mp (by decide))
theorem exLIdx : idxV [(0, 0), (1, 0), (1, 1)] (1, 1) = 2 := by decide
theorem exLLast0 : lastV [(0, 0), (1, 0), (1, 1)] 0 = 0 := by decide
theorem exLLast7 : lastV [(0, 0), (1, 0), (1, 1)] 7 = -1 := by decide
end Go.Proofs.YtjmledfmiljoiaaGreatDoor
set_option linter.unusedVariables false
namespace Go.Proofs.YtjmledfmiljoiaaGreatDoor
open Go.RowKit

theorem Trips.two7 (w : World) (t : TypeId) (a b c d e f : Int) : Trips (w.alloc (.cells #[.int .i64 a, .int .i64 b, .int .i64 c, .int .i64 d, .int .i64 e, .int .i64 f] t)) (w.heap.size + 1) (some ⟨w.heap.size, 0, none⟩) [(a, b, c), (d, e, f)] := fun _ => by
  refine ⟨_, _, rfl, by simp, fun k x he => ?_⟩
  rw [World.cell?_alloc_at _ _ _ _ rfl, World.cell?_alloc_at _ _ _ _ rfl, World.cell?_alloc_at _ _ _ _ rfl]
  match k, he with
  | 0, he =>
    obtain rfl : (a, b, c) = x := by simpa using he
    exact ⟨rfl, rfl, rfl⟩
  | 1, he =>
    obtain rfl : (d, e, f) = x := by simpa using he
    exact ⟨rfl, rfl, rfl⟩
theorem Trips.one7 (w : World) (t : TypeId) (a b c : Int) : Trips (w.alloc (.cells #[.int .i64 a, .int .i64 b, .int .i64 c] t)) (w.heap.size + 1) (some ⟨w.heap.size, 0, none⟩) [(a, b, c)] := fun _ => by
  refine ⟨_, _, rfl, by simp, fun k x he => ?_⟩
  rw [World.cell?_alloc_at _ _ _ _ rfl, World.cell?_alloc_at _ _ _ _ rfl, World.cell?_alloc_at _ _ _ _ rfl]
  match k, he with
  | 0, he =>
    obtain rfl : (a, b, c) = x := by simpa using he
    exact ⟨rfl, rfl, rfl⟩
theorem Pairs.two7 (w : World) (t : TypeId) (a b c d : Int) : Pairs (w.alloc (.cells #[.int .i64 a, .int .i64 b, .int .i64 c, .int .i64 d] t)) (w.heap.size + 1) (some ⟨w.heap.size, 0, none⟩) [(a, b), (c, d)] := fun _ => by
  refine ⟨_, _, rfl, by simp, fun k e he => ?_⟩
  rw [World.cell?_alloc_at _ _ _ _ rfl, World.cell?_alloc_at _ _ _ _ rfl]
  match k, he with
  | 0, he =>
    obtain rfl : (a, b) = e := by simpa using he
    exact ⟨rfl, rfl⟩
  | 1, he =>
    obtain rfl : (c, d) = e := by simpa using he
    exact ⟨rfl, rfl⟩
/-- The example lies there. -/
structure StQE (w w' : World) : Prop where
  bel : Below w.heap.size w w'
  c0 : w'.cell? ⟨w.heap.size + 1 + 1, 0, none⟩ = some (.int .i64 8)
  c1 : w'.cell? ⟨w.heap.size + 1 + 1, 1, none⟩ = some (.int .i64 8)
  c2 : w'.cell? ⟨w.heap.size + 1 + 1, 2, none⟩ = some (.slice (some ⟨w.heap.size, 0, none⟩) 2 2)
  c3 : w'.cell? ⟨w.heap.size + 1 + 1, 3, none⟩ = some (.slice none 0 0)
  c4 : w'.cell? ⟨w.heap.size + 1 + 1, 4, none⟩ = some (.slice (some ⟨w.heap.size + 1, 0, none⟩) 1 1)
  c5 : w'.cell? ⟨w.heap.size + 1 + 1, 5, none⟩ = some (.slice none 0 0)
  gd : IsD w' ⟨(some ⟨w.heap.size, 0, none⟩), 2, 2, none, 0, 0, (some ⟨w.heap.size + 1, 0, none⟩), 1, 1, none, 0, 0⟩ exL
theorem StQE.cells {w w' : World} (h : StQE w w') : w'.cell? ⟨w.heap.size + 1 + 1, 0, none⟩ = some (.int .i64 8) ∧ w'.cell? ⟨w.heap.size + 1 + 1, 1, none⟩ = some (.int .i64 8) ∧ w'.cell? ⟨w.heap.size + 1 + 1, 2, none⟩ = some (.slice (some ⟨w.heap.size, 0, none⟩) 2 2) ∧ w'.cell? ⟨w.heap.size + 1 + 1, 3, none⟩ = some (.slice none 0 0) ∧ w'.cell? ⟨w.heap.size + 1 + 1, 4, none⟩ = some (.slice (some ⟨w.heap.size + 1, 0, none⟩) 1 1) ∧ w'.cell? ⟨w.heap.size + 1 + 1, 5, none⟩ = some (.slice none 0 0) := ⟨h.c0, h.c1, h.c2, h.c3, h.c4, h.c5⟩
theorem StQE.start (w : World) (hT : DTab w) : StQE w (((w.alloc (.cells #[.int .i64 0, .int .i64 0, .int .i64 2, .int .i64 0, .int .i64 0, .int .i64 5] 44)).alloc (.cells #[.int .i64 0, .int .i64 1, .int .i64 3] 114)).alloc (.cells #[.int .i64 8, .int .i64 8, .slice (some ⟨w.heap.size, 0, none⟩) 2 2, .slice none 0 0, .slice (some ⟨w.heap.size + 1, 0, none⟩) 1 1, .slice none 0 0] 37)) := by
  obtain ⟨w1, h1⟩ : ∃ w1, w1 = w.alloc (.cells #[.int .i64 0, .int .i64 0, .int .i64 2, .int .i64 0, .int .i64 0, .int .i64 5] 44) := ⟨_, rfl⟩
  obtain ⟨w2, h2⟩ : ∃ w2, w2 = w1.alloc (.cells #[.int .i64 0, .int .i64 1, .int .i64 3] 114) := ⟨_, rfl⟩
  obtain ⟨w3, h3⟩ : ∃ w3, w3 = w2.alloc (.cells #[.int .i64 8, .int .i64 8, .slice (some ⟨w.heap.size, 0, none⟩) 2 2, .slice none 0 0, .slice (some ⟨w.heap.size + 1, 0, none⟩) 1 1, .slice none 0 0] 37) := ⟨_, rfl⟩
  rw [← h1, ← h2, ← h3]
  have s1 : w1.heap.size = w.heap.size + 1 := by rw [h1]; simp
  have s2 : w2.heap.size = w.heap.size + 1 + 1 := by rw [h2]; simp [s1]
  have b2 : Below w2.heap.size w2 w3 := by rw [h3]; exact below_alloc _
  have b1 : Below w1.heap.size w1 w3 := (by rw [h2]; exact below_alloc _ : Below w1.heap.size w1 w2).trans (b2.mono (by omega))
  have b0 : Below w.heap.size w w3 := (by rw [h1]; exact below_alloc _ : Below w.heap.size w w1).trans (b1.mono (by omega))
  have t1 : Trips w1 w1.heap.size (some ⟨w.heap.size, 0, none⟩) exL.parts := by
    have h := Trips.two7 w 44 0 0 2 0 0 5
    rw [← h1] at h
    exact h.more (by omega)
  have t2 : Trips w2 w2.heap.size (some ⟨w.heap.size + 1, 0, none⟩) exL.futures := by
    have h := Trips.one7 w1 114 0 1 3
    rw [← h2, s1] at h
    exact h.more (by omega)
  refine ⟨b0, ?_, ?_, ?_, ?_, ?_, ?_, ⟨⟨rfl, rfl, rfl, rfl, (t1.below b1).more b1.size, (fun h => absurd h (by decide)), (t2.below b2).more b2.size, (fun h => absurd h (by decide)), (fun e => by cases e), (fun _ => ⟨rfl, rfl⟩), (fun e => by cases e), (fun _ => ⟨rfl, rfl⟩)⟩, exLFew, hT.via b0, Nat.le_refl _, Nat.le_refl _⟩⟩ <;> (rw [h3, World.cell?_alloc_at _ _ _ _ s2.symm]; rfl)
/-- The example's graph lies in a box, and is as it was handed out. -/
structure StQL (w : World) (A : Option Addr) (c : Nat) (F : Option Addr) (d : Nat) (R : Option Addr) (e : Nat) (g : Nat) (w' : World) : Prop where
  bel : Below w.heap.size w w'
  c0 : w'.cell? ⟨g, 0, none⟩ = some (.slice A 3 c)
  c1 : w'.cell? ⟨g, 1, none⟩ = some (.slice F 2 d)
  c2 : w'.cell? ⟨g, 2, none⟩ = some (.slice R 3 e)
  l : IsL w' A 3 c F 2 d R 3 e [2, 3, 2] [(1, 2), (0, 2)] [(0, 0), (1, 0), (1, 1)]
section
variable {w w1 w2 : World} {A : Option Addr} {c : Nat} {F : Option Addr} {d : Nat} {R : Option Addr} {e : Nat} {g : Nat}
theorem StQL.next (h : StQL w A c F d R e g w1) (hb : Below w1.heap.size w1 w2) : StQL w A c F d R e g w2 :=
  ⟨h.bel.trans (hb.mono h.bel.size), (hb.cell (World.block_lt_of_cell? _ _ h.c0)).trans h.c0, (hb.cell (World.block_lt_of_cell? _ _ h.c1)).trans h.c1, (hb.cell (World.block_lt_of_cell? _ _ h.c2)).trans h.c2, h.l.below hb⟩
theorem StQL.cells (h : StQL w A c F d R e g w1) : w1.cell? ⟨g, 0, none⟩ = some (.slice A 3 c) ∧ w1.cell? ⟨g, 1, none⟩ = some (.slice F 2 d) ∧ w1.cell? ⟨g, 2, none⟩ = some (.slice R 3 e) := ⟨h.c0, h.c1, h.c2⟩
theorem StQL.start {w0 : World} (hb : Below w0.heap.size w0 w) (h : IsL w A 3 c F 2 d R 3 e [2, 3, 2] [(1, 2), (0, 2)] [(0, 0), (1, 0), (1, 1)]) : StQL w0 A c F d R e w.heap.size (w.alloc (.cells #[.slice A 3 c, .slice F 2 d, .slice R 3 e] 65)) := by
  refine ⟨hb.trans ((below_alloc _).mono hb.size), ?_, ?_, ?_, h.below (below_alloc _)⟩ <;> (rw [World.cell?_alloc_at _ _ _ _ rfl]; rfl)
end
/-- Behind it the task that leads round. -/
structure StQR (w : World) (N : Nat) (w' : World) : Prop where
  bel : Below N w w'
  c0 : w'.cell? ⟨N + 1 + 1, 0, none⟩ = some (.int .i64 8)
  c1 : w'.cell? ⟨N + 1 + 1, 1, none⟩ = some (.int .i64 8)
  c2 : w'.cell? ⟨N + 1 + 1, 2, none⟩ = some (.slice (some ⟨N, 0, none⟩) 2 2)
  c3 : w'.cell? ⟨N + 1 + 1, 3, none⟩ = some (.slice (some ⟨N + 1, 0, none⟩) 2 2)
  c4 : w'.cell? ⟨N + 1 + 1, 4, none⟩ = some (.slice none 0 0)
  c5 : w'.cell? ⟨N + 1 + 1, 5, none⟩ = some (.slice none 0 0)
  gd : IsD w' ⟨(some ⟨N, 0, none⟩), 2, 2, (some ⟨N + 1, 0, none⟩), 2, 2, none, 0, 0, none, 0, 0⟩ roL
theorem StQR.cells {w w' : World} {N : Nat} (h : StQR w N w') : w'.cell? ⟨N + 1 + 1, 0, none⟩ = some (.int .i64 8) ∧ w'.cell? ⟨N + 1 + 1, 1, none⟩ = some (.int .i64 8) ∧ w'.cell? ⟨N + 1 + 1, 2, none⟩ = some (.slice (some ⟨N, 0, none⟩) 2 2) ∧ w'.cell? ⟨N + 1 + 1, 3, none⟩ = some (.slice (some ⟨N + 1, 0, none⟩) 2 2) ∧ w'.cell? ⟨N + 1 + 1, 4, none⟩ = some (.slice none 0 0) ∧ w'.cell? ⟨N + 1 + 1, 5, none⟩ = some (.slice none 0 0) := ⟨h.c0, h.c1, h.c2, h.c3, h.c4, h.c5⟩
theorem StQR.start (w : World) (N : Nat) (hN : w.heap.size = N) (hT : DTab w) : StQR w N (((w.alloc (.cells #[.int .i64 0, .int .i64 0, .int .i64 2, .int .i64 0, .int .i64 0, .int .i64 5] 44)).alloc (.cells #[.int .i64 0, .int .i64 1, .int .i64 1, .int .i64 0] 86)).alloc (.cells #[.int .i64 8, .int .i64 8, .slice (some ⟨N, 0, none⟩) 2 2, .slice (some ⟨N + 1, 0, none⟩) 2 2, .slice none 0 0, .slice none 0 0] 37)) := by
  obtain ⟨w1, h1⟩ : ∃ w1, w1 = w.alloc (.cells #[.int .i64 0, .int .i64 0, .int .i64 2, .int .i64 0, .int .i64 0, .int .i64 5] 44) := ⟨_, rfl⟩
  obtain ⟨w2, h2⟩ : ∃ w2, w2 = w1.alloc (.cells #[.int .i64 0, .int .i64 1, .int .i64 1, .int .i64 0] 86) := ⟨_, rfl⟩
  obtain ⟨w3, h3⟩ : ∃ w3, w3 = w2.alloc (.cells #[.int .i64 8, .int .i64 8, .slice (some ⟨N, 0, none⟩) 2 2, .slice (some ⟨N + 1, 0, none⟩) 2 2, .slice none 0 0, .slice none 0 0] 37) := ⟨_, rfl⟩
  rw [← h1, ← h2, ← h3]
  have s1 : w1.heap.size = N + 1 := by rw [h1]; simp [hN]
  have s2 : w2.heap.size = N + 1 + 1 := by rw [h2]; simp [s1]
  have b2 : Below w2.heap.size w2 w3 := by rw [h3]; exact below_alloc _
  have b1 : Below w1.heap.size w1 w3 := (by rw [h2]; exact below_alloc _ : Below w1.heap.size w1 w2).trans (b2.mono (by omega))
  have b0 : Below N w w3 := (by rw [h1, ← hN]; exact below_alloc _ : Below N w w1).trans (b1.mono (by omega))
  have t1 : Trips w1 w1.heap.size (some ⟨N, 0, none⟩) roL.parts := by
    have h := Trips.two7 w 44 0 0 2 0 0 5
    rw [← h1, hN] at h
    exact h.more (by omega)
  have t2 : Pairs w2 w2.heap.size (some ⟨N + 1, 0, none⟩) roL.edges := by
    have h := Pairs.two7 w1 86 0 1 1 0
    rw [← h2, s1] at h
    exact h.more (by omega)
  refine ⟨b0, ?_, ?_, ?_, ?_, ?_, ?_, ⟨⟨rfl, rfl, rfl, rfl, (t1.below b1).more b1.size, (t2.below b2).more b2.size, (fun h => absurd h (by decide)), (fun h => absurd h (by decide)), (fun e => by cases e), (fun e => by cases e), (fun _ => ⟨rfl, rfl⟩), (fun _ => ⟨rfl, rfl⟩)⟩, roLFew, hT.via (by rw [hN]; exact b0), Nat.le_refl _, Nat.le_refl _⟩⟩ <;> (rw [h3, World.cell?_alloc_at _ _ _ _ s2.symm]; rfl)
/-- Nothing, lowered. -/
theorem noL {w : World} (hT : Tab64 w) : IsL w none 0 0 none 0 0 none 0 0 [] [] [] :=
  ⟨⟨rfl, rfl, by decide, by decide, (fun h => absurd h (by decide)), (fun h => absurd h (by decide)), (fun _ => ⟨rfl, rfl⟩), (fun _ => ⟨rfl, rfl⟩), hT⟩, rfl, by decide, fun h => absurd h (by decide)⟩
theorem GotLow.boxes {T : Task} {w w' : World} {e : Ending} (h : GotLow T w e w') (hT : Tab64 w) (hX : lowX T = 0 → (lowWv T).length ≤ 400 ∧ (lowEv T).length ≤ 400 ∧ (lowPv T).length ≤ 400) :
    ∃ A c F d R k, e = .returned (.tuple #[.agg #[.slice A (lowWv T).length c, .slice F (lowEv T).length d, .slice R (lowPv T).length k], .int .i64 (lowX T)]) ∧ IsL w' A (lowWv T).length c F (lowEv T).length d R (lowPv T).length k (lowWv T) (lowEv T) (lowPv T) ∧ Below w.heap.size w w' := by
  obtain ⟨vW, vE, vP, rfl, h1, h2, h3, b⟩ := h
  have hl : (lowWv T).length ≤ 400 ∧ (lowEv T).length ≤ 400 ∧ (lowPv T).length ≤ 400 := by
    by_cases h0 : lowX T = 0
    · exact hX h0
    · have hN : ¬ LowOk T := fun h => h0 (lowX_zero.mpr h)
      unfold lowWv lowEv lowPv
      rw [if_neg hN, if_neg hN, if_neg hN]
      decide
  obtain ⟨A, c, F, d, R, k, rfl, rfl, rfl, hL⟩ := own_isL (hT.via b) h1 h2 h3 hl.1 hl.2.1 hl.2.2
  exact ⟨A, c, F, d, R, k, rfl, hL, b⟩
theorem lows_few {T : Task} (h : lowX T = 0) : (lowWv T).length ≤ 400 ∧ (lowEv T).length ≤ 400 ∧ (lowPv T).length ≤ 400 := by
  have hOK := lowX_zero.mp h
  have := low_few hOK.1
  unfold lowWv lowEv lowPv
  rw [if_pos hOK, if_pos hOK, if_pos hOK]
  omega
theorem roLv : lowWv roL = [] ∧ lowEv roL = [] ∧ lowPv roL = [] := by
  have hN : ¬ LowOk roL := fun h => absurd (lowX_zero.mpr h) (by rw [roLX]; decide)
  unfold lowWv lowEv lowPv
  rw [if_neg hN, if_neg hN, if_neg hN]
  exact ⟨rfl, rfl, rfl⟩
/-- Lower, as its callers read it. -/
theorem lower_got (s : Sh) (T : Task) (w : World) (hD : IsD w s T) : Calls Tryz.prog 27 #[s.arg T.period T.deadline] w fun e w' =>
    ∃ A c F d R k, e = .returned (.tuple #[.agg #[.slice A (lowWv T).length c, .slice F (lowEv T).length d, .slice R (lowPv T).length k], .int .i64 (lowX T)]) ∧ IsL w' A (lowWv T).length c F (lowEv T).length d R (lowPv T).length k (lowWv T) (lowEv T) (lowPv T) ∧ Below w.heap.size w w' :=
  (lower_any s T w hD).mono fun _ _ h => h.boxes hD.tab lows_few
theorem ex_got {w w' : World} (h : StQE w w') : Calls Tryz.prog 27 #[.agg #[.int .i64 8, .int .i64 8, .slice (some ⟨w.heap.size, 0, none⟩) 2 2, .slice none 0 0, .slice (some ⟨w.heap.size + 1, 0, none⟩) 1 1, .slice none 0 0]] w' fun e w'' =>
    ∃ A c F d R k, e = .returned (.tuple #[.agg #[.slice A 3 c, .slice F 2 d, .slice R 3 k], .int .i64 0]) ∧ IsL w'' A 3 c F 2 d R 3 k [2, 3, 2] [(1, 2), (0, 2)] [(0, 0), (1, 0), (1, 1)] ∧ Below w'.heap.size w' w'' := by
  have K := lower_got _ _ w' h.gd
  rw [exLWv, exLEv, exLPv, exLX] at K
  exact K
theorem ro_got {w w' : World} {N : Nat} (h : StQR w N w') : Calls Tryz.prog 27 #[.agg #[.int .i64 8, .int .i64 8, .slice (some ⟨N, 0, none⟩) 2 2, .slice (some ⟨N + 1, 0, none⟩) 2 2, .slice none 0 0, .slice none 0 0]] w' fun e w'' =>
    ∃ A c F d R k, e = .returned (.tuple #[.agg #[.slice A 0 c, .slice F 0 d, .slice R 0 k], .int .i64 70]) ∧ Below w'.heap.size w' w'' := by
  have K := lower_got _ _ w' h.gd
  rw [roLv.1, roLv.2.1, roLv.2.2, roLX] at K
  refine K.mono ?_
  rintro e w'' ⟨A, c, F, d, R, k, he, _, b⟩
  exact ⟨A, c, F, d, R, k, he, b⟩
end Go.Proofs.YtjmledfmiljoiaaGreatDoor
set_option linter.unusedVariables false
namespace Go.Proofs.YtjmledfmiljoiaaGreatDoor
open Go.RowKit

section
variable {A : Option Addr} {n c : Nat} {F : Option Addr} {m d : Nat} {R : Option Addr} {k e : Nat} {W : List Int} {E P : List (Int × Int)} {A' : Option Addr} {n' c' : Nat} {F' : Option Addr} {m' d' : Nat} {R' : Option Addr} {k' e' : Nat} {W' : List Int} {E' P' : List (Int × Int)}
end
end Go.Proofs.YtjmledfmiljoiaaGreatDoor
set_option linter.unusedVariables false
namespace Go.Proofs.YtjmledfmiljoiaaGreatDoor
open Go.RowKit

theorem part_fields : (Tryz.prog.fieldsOf 44).toList.map (fun f => (f.name, f.type, f.offset)) = [("Op", 42, 0), ("Arg", 3, 1), ("Work", 3, 2)] := by kernel_rfl
theorem future_fields : (Tryz.prog.fieldsOf 114).toList.map (fun f => (f.name, f.type, f.offset)) = [("Maker", 3, 0), ("User", 3, 1), ("At", 3, 2)] := by kernel_rfl
theorem part3 (t : TypeId) (ht : t = 3 ∨ t = 42) (x y z : Int) (W : World) : (part t #[.int .i64 x, .int .i64 y, .int .i64 z] 0).run Tryz.prog W = .ok (.int .i64 x) W ∧ (part t #[.int .i64 x, .int .i64 y, .int .i64 z] 1).run Tryz.prog W = .ok (.int .i64 y) W ∧ (part t #[.int .i64 x, .int .i64 y, .int .i64 z] 2).run Tryz.prog W = .ok (.int .i64 z) W := by
  rcases ht with rfl | rfl
  · exact ⟨by kernel_rfl, by kernel_rfl, by kernel_rfl⟩
  · exact ⟨by kernel_rfl, by kernel_rfl, by kernel_rfl⟩
theorem part_eq (x y z u v t : Int) (W : World) : (Op.equalIn 10000 44 (.agg #[.int .i64 x, .int .i64 y, .int .i64 z]) (.agg #[.int .i64 u, .int .i64 v, .int .i64 t])).run Tryz.prog W = .ok (x == u && (y == v && z == t)) W := by
  have hf := part_fields
  rw [run_equalIn_agg (d := 9999) W 44 _ _ (by kernel_rfl) (by kernel_rfl)]
  generalize (Tryz.prog.fieldsOf 44).toList = fs at hf
  match fs, hf with
  | [], hf => simp at hf
  | [_], hf => simp at hf
  | [_, _], hf => simp at hf
  | _ :: _ :: _ :: _ :: _, hf => simp at hf
  | [f, g, h], hf =>
    simp only [List.map_cons, List.map_nil, List.cons.injEq, Prod.mk.injEq, and_true] at hf
    obtain ⟨⟨n1, t1, o1⟩, ⟨n2, t2, o2⟩, n3, t3, o3⟩ := hf
    have e1 := fun a b W => run_equalIn_int (P := Tryz.prog) W 9998 3 .i64 .i64 a b Tryz.underlying3
    have e2 := fun a b W => run_equalIn_int (P := Tryz.prog) W 9998 42 .i64 .i64 a b Tryz.underlying42
    have p1 := fun a b c W => (part3 42 (.inr rfl) a b c W).1
    have p2 := fun a b c W => (part3 3 (.inl rfl) a b c W).2.1
    have p3 := fun a b c W => (part3 3 (.inl rfl) a b c W).2.2
    simp only [Op.eqFields, n1, n2, n3, t1, t2, t3, o1, o2, o3]
    by_cases h1 : x = u
    · subst h1
      by_cases h2 : y = v
      · subst h2
        by_cases h3 : z = t
        · simp [p1, p2, p3, e1, e2, h3]
        · simp [p1, p2, p3, e1, e2, h3]
      · simp [p1, p2, p3, e1, e2, h2]
    · simp [p1, p2, p3, e1, e2, h1]
theorem future_eq (x y z u v t : Int) (W : World) : (Op.equalIn 10000 114 (.agg #[.int .i64 x, .int .i64 y, .int .i64 z]) (.agg #[.int .i64 u, .int .i64 v, .int .i64 t])).run Tryz.prog W = .ok (x == u && (y == v && z == t)) W := by
  have hf := future_fields
  rw [run_equalIn_agg (d := 9999) W 114 _ _ (by kernel_rfl) (by kernel_rfl)]
  generalize (Tryz.prog.fieldsOf 114).toList = fs at hf
  match fs, hf with
  | [], hf => simp at hf
  | [_], hf => simp at hf
  | [_, _], hf => simp at hf
  | _ :: _ :: _ :: _ :: _, hf => simp at hf
  | [f, g, h], hf =>
    simp only [List.map_cons, List.map_nil, List.cons.injEq, Prod.mk.injEq, and_true] at hf
    obtain ⟨⟨n1, t1, o1⟩, ⟨n2, t2, o2⟩, n3, t3, o3⟩ := hf
    have e1 := fun a b W => run_equalIn_int (P := Tryz.prog) W 9998 3 .i64 .i64 a b Tryz.underlying3
    have p1 := fun a b c W => (part3 3 (.inl rfl) a b c W).1
    have p2 := fun a b c W => (part3 3 (.inl rfl) a b c W).2.1
    have p3 := fun a b c W => (part3 3 (.inl rfl) a b c W).2.2
    simp only [Op.eqFields, n1, n2, n3, t1, t2, t3, o1, o2, o3]
    by_cases h1 : x = u
    · subst h1
      by_cases h2 : y = v
      · subst h2
        by_cases h3 : z = t
        · simp [p1, p2, p3, e1, h3]
        · simp [p1, p2, p3, e1, h3]
      · simp [p1, p2, p3, e1, h2]
    · simp [p1, p2, p3, e1, h1]
theorem part_neq_run (x y z u v t : Int) (W : World) : (binOp .neq 44 (.agg #[.int .i64 x, .int .i64 y, .int .i64 z]) (.agg #[.int .i64 u, .int .i64 v, .int .i64 t])).run Tryz.prog W = .ok (.bool (!(x == u && (y == v && z == t)))) W := by
  rw [run_neq_struct, part_eq]
  rfl
theorem future_neq_run (x y z u v t : Int) (W : World) : (binOp .neq 114 (.agg #[.int .i64 x, .int .i64 y, .int .i64 z]) (.agg #[.int .i64 u, .int .i64 v, .int .i64 t])).run Tryz.prog W = .ok (.bool (!(x == u && (y == v && z == t)))) W := by
  rw [run_neq_struct, future_eq]
  rfl
theorem trip_neq {x y z u v t : Int} (h : (x, y, z) ≠ (u, v, t)) : (x == u && (y == v && z == t)) = false := by
  rw [Bool.and_eq_false_iff, Bool.and_eq_false_iff]
  by_cases h1 : x = u
  · by_cases h2 : y = v
    · refine .inr (.inr ?_)
      simp only [beq_eq_false_iff_ne]
      exact fun h3 => h (by rw [h1, h2, h3])
    · exact .inr (.inl (by simpa using h2))
  · exact .inl (by simpa using h1)
end Go.Proofs.YtjmledfmiljoiaaGreatDoor
set_option linter.unusedVariables false
namespace Go.Proofs.YtjmledfmiljoiaaGreatDoor
open Go.RowKit

/-- Two tasks lie in boxes of the call's own (it began in w), and as they came. -/
structure BxS (w : World) (p q : Int) (s : Sh) (T : Task) (p' q' : Int) (s' : Sh) (T' : Task) (w' : World) : Prop where
  b : BxD w p q s.P s.np s.pc s.E s.ne s.ec s.F s.nf s.fc s.R s.nr s.rc w'
  d0 : w'.cell? ⟨w.heap.size + 1, 0, none⟩ = some (.int .i64 p')
  d1 : w'.cell? ⟨w.heap.size + 1, 1, none⟩ = some (.int .i64 q')
  d2 : w'.cell? ⟨w.heap.size + 1, 2, none⟩ = some (.slice s'.P s'.np s'.pc)
  d3 : w'.cell? ⟨w.heap.size + 1, 3, none⟩ = some (.slice s'.E s'.ne s'.ec)
  d4 : w'.cell? ⟨w.heap.size + 1, 4, none⟩ = some (.slice s'.F s'.nf s'.fc)
  d5 : w'.cell? ⟨w.heap.size + 1, 5, none⟩ = some (.slice s'.R s'.nr s'.rc)
  t : IsT w' w'.heap.size s T
  t' : IsT w' w'.heap.size s' T'
theorem BxS.next {w w1 w2 : World} {p q : Int} {s : Sh} {T : Task} {p' q' : Int} {s' : Sh} {T' : Task} (h : BxS w p q s T p' q' s' T' w1) (hb : Below w1.heap.size w1 w2) : BxS w p q s T p' q' s' T' w2 := by
  have hlt : w.heap.size + 1 < w1.heap.size := World.block_lt_of_cell? _ _ h.d0
  exact ⟨h.b.next hb, (hb.cell hlt).trans h.d0, (hb.cell hlt).trans h.d1, (hb.cell hlt).trans h.d2, (hb.cell hlt).trans h.d3, (hb.cell hlt).trans h.d4, (hb.cell hlt).trans h.d5, (h.t.below hb).more hb.size, (h.t'.below hb).more hb.size⟩
theorem BxS.start {w : World} {s s' : Sh} {T T' : Task} (p q p' q' : Int) (h : IsT w w.heap.size s T) (h' : IsT w w.heap.size s' T') :
    BxS w p q s T p' q' s' T' ((w.alloc (.cells #[.int .i64 p, .int .i64 q, .slice s.P s.np s.pc, .slice s.E s.ne s.ec, .slice s.F s.nf s.fc, .slice s.R s.nr s.rc] 37)).alloc (.cells #[.int .i64 p', .int .i64 q', .slice s'.P s'.np s'.pc, .slice s'.E s'.ne s'.ec, .slice s'.F s'.nf s'.fc, .slice s'.R s'.nr s'.rc] 37)) := by
  obtain ⟨w1, h1⟩ : ∃ w1, w1 = w.alloc (.cells #[.int .i64 p, .int .i64 q, .slice s.P s.np s.pc, .slice s.E s.ne s.ec, .slice s.F s.nf s.fc, .slice s.R s.nr s.rc] 37) := ⟨_, rfl⟩
  rw [← h1]
  have s1 : w1.heap.size = w.heap.size + 1 := by rw [h1]; simp
  have b1 : Below w.heap.size w w1 := by rw [h1]; exact below_alloc _
  have hD : BxD w p q s.P s.np s.pc s.E s.ne s.ec s.F s.nf s.fc s.R s.nr s.rc w1 := by rw [h1]; exact BxD.start w p q _ _ _ _ _ _ _ _ _ _ _ _
  have b2 := below_alloc (w := w1) (.cells #[.int .i64 p', .int .i64 q', .slice s'.P s'.np s'.pc, .slice s'.E s'.ne s'.ec, .slice s'.F s'.nf s'.fc, .slice s'.R s'.nr s'.rc] 37)
  refine ⟨hD.next b2, ?_, ?_, ?_, ?_, ?_, ?_, (((h.below b1).more b1.size).below b2).more b2.size, (((h'.below b1).more b1.size).below b2).more b2.size⟩ <;> (rw [World.cell?_alloc_at _ _ _ _ s1.symm]; rfl)
end Go.Proofs.YtjmledfmiljoiaaGreatDoor
set_option linter.unusedVariables false
namespace Go.Proofs.YtjmledfmiljoiaaGreatDoor
open Go.RowKit

/-- A task, as a row hands it over. -/
structure InD (w : World) (s : Sh) (T : Task) : Prop where
  t : IsT w w.heap.size s T
  lE : s.ne ≤ s.ec
  lF : s.nf ≤ s.fc
theorem InD.isD {w : World} {s : Sh} {T : Task} (h : InD w s T) (hT : DTab w) (hF : FewD T) : IsD w s T := ⟨h.t, hF.few, hT, h.lE, h.lF⟩
theorem own_d {s : Sh} {T : Task} {w : World} (h : IsD w s T) :
    Calls Tryz.prog 17 #[s.arg T.period T.deadline] w fun e w' => ∃ s' : Sh, e = .returned (s'.arg T.period T.deadline) ∧ IsD w' s' T ∧ Below w.heap.size w w' :=
  (down_any s T w h.few h.t).mono fun _ _ k => k.isD h.few h.tab
theorem few_d {s : Sh} {T : Task} {w : World} {p q : Int} (h : IsT w w.heap.size s T) (hF : FewD T) :
    Calls Tryz.prog 15 #[s.arg p q] w fun e w' => e = .returned (.bool true) ∧ Below w.heap.size w w' := dfew_any s T p q true ⟨fun _ => hF, fun _ => rfl⟩ w h
theorem few_n {s : Sh} {T : Task} {w : World} {p q : Int} (h : IsT w w.heap.size s T) (hF : ¬ FewD T) :
    Calls Tryz.prog 15 #[s.arg p q] w fun e w' => e = .returned (.bool false) ∧ Below w.heap.size w w' := dfew_any s T p q false ⟨fun k => Bool.noConfusion k, fun k => absurd k hF⟩ w h
theorem rcheck_d {s : Sh} {T : Task} {w : World} (h : IsD w s T) :
    Calls Tryz.prog 43 #[s.arg T.period T.deadline] w fun e w' => e = .returned (.int .i64 (chkT T)) ∧ Below w.heap.size w w' := dcheck_any s T w h.few h.t
/-- The boxes' cells. -/
def CellsD (w : World) (s : Sh) (p q : Int) (g : Nat) : Prop :=
  w.cell? ⟨g, 0, none⟩ = some (.int .i64 p) ∧ w.cell? ⟨g, 1, none⟩ = some (.int .i64 q) ∧ w.cell? ⟨g, 2, none⟩ = some (.slice s.P s.np s.pc) ∧ w.cell? ⟨g, 3, none⟩ = some (.slice s.E s.ne s.ec) ∧ w.cell? ⟨g, 4, none⟩ = some (.slice s.F s.nf s.fc) ∧ w.cell? ⟨g, 5, none⟩ = some (.slice s.R s.nr s.rc)
theorem ld_desc {ρ : Operand → Value} {o : Oper} {t : Operand} {w : World} {g : Nat} {s : Sh} {p q : Int} (ho : o.op = .load 37 t) (ht : ρ t = .pointer (some ⟨g, 0, none⟩)) (hc : CellsD w s p q g) : (execOp ρ o).run Tryz.prog w = .ok (.value (s.arg p q)) w := by
  obtain ⟨c0, c1, c2, c3, c4, c5⟩ := hc
  simp [execOp, ho, ht, c0, c1, c2, c3, c4, c5, go_sem]
theorem CellsD.next {w w' : World} {s : Sh} {p q : Int} {g : Nat} (h : CellsD w s p q g) (hb : Below w.heap.size w w') : CellsD w' s p q g := by
  have hlt : g < w.heap.size := World.block_lt_of_cell? _ _ h.1
  exact ⟨(hb.cell hlt).trans h.1, (hb.cell hlt).trans h.2.1, (hb.cell hlt).trans h.2.2.1, (hb.cell hlt).trans h.2.2.2.1, (hb.cell hlt).trans h.2.2.2.2.1, (hb.cell hlt).trans h.2.2.2.2.2⟩
/-- One task lies in a box of the call's own (it began in w), and as it came. -/
structure Bx1D (w : World) (s : Sh) (T : Task) (w' : World) : Prop where
  bel : Below w.heap.size w w'
  c : CellsD w' s T.period T.deadline w.heap.size
  d : IsD w' s T
theorem Bx1D.next {w w1 w2 : World} {s : Sh} {T : Task} (h : Bx1D w s T w1) (hb : Below w1.heap.size w1 w2) : Bx1D w s T w2 := ⟨h.bel.trans (hb.mono h.bel.size), h.c.next hb, h.d.below hb⟩
/-- .. of whatever size. -/
structure Bx1T (w : World) (s : Sh) (T : Task) (w' : World) : Prop where
  bel : Below w.heap.size w w'
  c : CellsD w' s T.period T.deadline w.heap.size
  t : IsT w' w'.heap.size s T
theorem Bx1T.next {w w1 w2 : World} {s : Sh} {T : Task} (h : Bx1T w s T w1) (hb : Below w1.heap.size w1 w2) : Bx1T w s T w2 := ⟨h.bel.trans (hb.mono h.bel.size), h.c.next hb, (h.t.below hb).more hb.size⟩
theorem Bx1T.start {w : World} {s : Sh} {T : Task} (h : IsT w w.heap.size s T) : Bx1T w s T (w.alloc (.cells #[.int .i64 T.period, .int .i64 T.deadline, .slice s.P s.np s.pc, .slice s.E s.ne s.ec, .slice s.F s.nf s.fc, .slice s.R s.nr s.rc] 37)) := by
  refine ⟨below_alloc _, ⟨?_, ?_, ?_, ?_, ?_, ?_⟩, (h.below (below_alloc _)).more (by simp)⟩ <;> (rw [World.cell?_alloc_at _ _ _ _ rfl]; rfl)
theorem Bx1T.few {w w' : World} {s : Sh} {T : Task} (h : Bx1T w s T w') (i : InD w s T) (hT : DTab w) (hF : FewD T) : Bx1D w s T w' := ⟨h.bel, h.c, (i.isD hT hF).below h.bel⟩
end Go.Proofs.YtjmledfmiljoiaaGreatDoor
set_option linter.unusedVariables false
namespace Go.Proofs.YtjmledfmiljoiaaGreatDoor
open Go.RowKit

/-- A lowered task lies in a box, and is as it was handed out; so does the task itself, in the call's first box. -/
structure BxL (w : World) (s : Sh) (T : Task) (g : Nat) (A : Option Addr) (n c : Nat) (F : Option Addr) (m d : Nat) (R : Option Addr) (k e : Nat) (W : List Int) (E P : List (Int × Int)) (w' : World) : Prop where
  b : Bx1D w s T w'
  c0 : w'.cell? ⟨g, 0, none⟩ = some (.slice A n c)
  c1 : w'.cell? ⟨g, 1, none⟩ = some (.slice F m d)
  c2 : w'.cell? ⟨g, 2, none⟩ = some (.slice R k e)
  l : IsL w' A n c F m d R k e W E P
section
variable {w w1 w2 : World} {s : Sh} {T : Task} {g : Nat} {A : Option Addr} {n c : Nat} {F : Option Addr} {m d : Nat} {R : Option Addr} {k e : Nat} {W : List Int} {E P : List (Int × Int)}
theorem BxL.next (h : BxL w s T g A n c F m d R k e W E P w1) (hb : Below w1.heap.size w1 w2) : BxL w s T g A n c F m d R k e W E P w2 :=
  ⟨h.b.next hb, (hb.cell (World.block_lt_of_cell? _ _ h.c0)).trans h.c0, (hb.cell (World.block_lt_of_cell? _ _ h.c1)).trans h.c1, (hb.cell (World.block_lt_of_cell? _ _ h.c2)).trans h.c2, h.l.below hb⟩
theorem BxL.cells (h : BxL w s T g A n c F m d R k e W E P w1) : w1.cell? ⟨g, 0, none⟩ = some (.slice A n c) ∧ w1.cell? ⟨g, 1, none⟩ = some (.slice F m d) ∧ w1.cell? ⟨g, 2, none⟩ = some (.slice R k e) := ⟨h.c0, h.c1, h.c2⟩
theorem BxL.start (h : Bx1D w s T w1) (hl : IsL w1 A n c F m d R k e W E P) : BxL w s T w1.heap.size A n c F m d R k e W E P (w1.alloc (.cells #[.slice A n c, .slice F m d, .slice R k e] 65)) := by
  refine ⟨h.next (below_alloc _), ?_, ?_, ?_, hl.below (below_alloc _)⟩ <;> (rw [World.cell?_alloc_at _ _ _ _ rfl]; rfl)
theorem lower_sz {n m k : Nat} (hn : (lowWv T).length = n) (hm : (lowEv T).length = m) (hk : (lowPv T).length = k) (hD : IsD w s T) : Calls Tryz.prog 27 #[s.arg T.period T.deadline] w fun e w' =>
    ∃ A c F d R z, e = .returned (.tuple #[.agg #[.slice A n c, .slice F m d, .slice R k z], .int .i64 (lowX T)]) ∧ IsL w' A n c F m d R k z (lowWv T) (lowEv T) (lowPv T) ∧ Below w.heap.size w w' := by
  subst hn hm hk
  exact lower_got s T w hD
end
theorem low_no {T : Task} (h : lowX T ≠ 0) : lowWv T = [] ∧ lowEv T = [] ∧ lowPv T = [] := by
  have hN : ¬ LowOk T := fun h2 => h (lowX_zero.mpr h2)
  unfold lowWv lowEv lowPv
  rw [if_neg hN, if_neg hN, if_neg hN]
  exact ⟨rfl, rfl, rfl⟩
theorem low_yes {T : Task} (h : LowOk T) : lowWv T = lowW T ∧ lowEv T = lowE T ∧ lowPv T = lowP T := by
  unfold lowWv lowEv lowPv
  rw [if_pos h, if_pos h, if_pos h]
  exact ⟨rfl, rfl, rfl⟩
end Go.Proofs.YtjmledfmiljoiaaGreatDoor
set_option linter.unusedVariables false
namespace Go.Proofs.YtjmledfmiljoiaaGreatDoor
open Go.RowKit

/-- The closure of Total: it adds to what it captured. -/
theorem total_add (z s : Int) (b : Nat) (w : World) (h0 : 0 ≤ s + z) (h1 : s + z ≤ 1000000) (hV : RowV b 3 [.int .i64 s] w) :
    Calls Tryz.prog 39 #[.int .i64 z, .pointer (some ⟨b, 0, none⟩)] w fun e w' => e = .returned (.tuple #[]) ∧ w' = w.setCell ⟨b, 0, none⟩ (.int .i64 (s + z)) := by
  have hc := hV.cell (j := 0) rfl
  have hf := hV.frozen 0
  have hb := hV.lt
  clear hV
  go_enter Tryz.func39, Tryz.ntmps39
  go_wp2
  go_end0
  exact ⟨rfl, rfl⟩

section
variable {A : Option Addr} {n c : Nat} {F : Option Addr} {m d : Nat} {W : List Int} {E : List (Int × Int)}
set_option maxHeartbeats 4000000 in
theorem total_done (w : World) (h : IsG w A n c F m d W E) :
    Calls Tryz.prog 28 #[.agg #[.slice A n c, .slice F m d]] w fun e w' => e = .returned (.int .i64 (totalV W E)) ∧ Below w.heap.size w w' := by
  have H := Lib.hid h
  have C := Lib.hid (fun w' (h : IsG w' A n c F m d W E) => check_done w' h)
  by_cases hM : May W E
  · have hn64 : n ≤ 64 := by rw [← h.hn]; exact hM.nodes
    have HW := Lib.hid hM.work
    rw [chkE_zero.mpr hM] at C
    have HT := Lib.hid (show totalV W E = W.sum by unfold totalV; rw [if_pos hM])
    obtain ⟨r, hr⟩ : ∃ r, r = totalV W E := ⟨_, rfl⟩
    rw [← hr] at HT ⊢
    obtain ⟨w0, hw0⟩ : ∃ w0, w0 = w.alloc (.cells #[.slice A n c, .slice F m d] 62) := ⟨_, rfl⟩
    have HW0 := Lib.hid hw0
    have HN := Lib.hid h.hn
    clear h hM hr hw0
    go_enter Tryz.func28, Tryz.ntmps28
    go_wp2_with fail
    refine (C.out _ (H.out.below (below_alloc _))).mono ?_
    rintro e w1 ⟨rfl, b⟩
    have HB := Lib.hid (show Below w0.heap.size w0 w1 by rw [HW0.out]; exact b)
    have HG := Lib.hid ((H.out.below (below_alloc _)).below b)
    have hs1 : w.heap.size < w1.heap.size := by have := b.size; simp at this; exact this
    have hbox0 : w1.cell? ⟨w.heap.size, 0, none⟩ = some (.slice A n c) := (b.cell (by simp)).trans (by rw [World.cell?_alloc_at _ _ _ _ rfl]; rfl)
    clear b
    go_wp2
    have H0 : Hid (RowV w1.heap.size 3 [.int .i64 0] (w1.alloc (.cells #[.int .i64 0] 3))) := Lib.hid (RowV.new w1 3 [.int .i64 0])
    go_loopw [14] (fun i wr => ∃ (j : Nat) (q : Int), j ≤ n ∧ i = .int .i64 j ∧ 0 ≤ q ∧ q ≤ 1000 * j ∧ Hid (q = (W.take j).sum) ∧ Hid (RowV w1.heap.size 3 [.int .i64 q] wr) ∧ Hid (Below w1.heap.size w1 wr)) (fun i _ => n - (intOf i).toNat)
    case atStart => exact ⟨0, 0, Nat.zero_le _, rfl, by omega, by omega, Lib.hid (by simp), H0, Lib.hid (below_alloc _)⟩
    case round =>
      obtain ⟨j, q, hj, rfl, hq0, hq1, hqe, HV, HB1⟩ := hrel
      clear H0
      have hbl := HV.out.lt
      by_cases hlt : j < n
      · obtain ⟨bk, o, z, rfl, hbg, hzj, hc1⟩ := HG.out.ints.at_ (k := j) (by rw [HN.out]; exact hlt)
        have hd1 : wr.cell? ⟨bk, o + j, none⟩ = some (.int .i64 z) := (HB1.out.cell hbg).trans hc1
        obtain ⟨z0, z1⟩ := HW.out z (List.mem_of_getElem? hzj)
        have HQ := Lib.hid (show q + z = (W.take (j + 1)).sum by rw [take_snoc' hzj, List.sum_append, hqe.out]; simp)
        have C2 := Lib.hid (total_add z q w1.heap.size wr (by omega) (by omega) HV.out)
        clear hzj hc1
        go_wp2_with (go_at_call 39; refine C2.out.mono ?_; rintro e w3 ⟨rfl, rfl⟩)
        go_roundw
        case rel => exact ⟨j + 1, q + z, by omega, by go_num, by omega, by omega, HQ, Lib.hid (HV.out.set 0 (.int .i64 (q + z))), Lib.hid (HB1.out.setCell (Nat.le_refl _) _)⟩
        case measure => simp [intOf]; omega
      · obtain rfl : j = n := by omega
        have hl2 : W.take j = W := List.take_of_length_le (by rw [HN.out]; omega)
        rw [hl2] at hqe
        have hc := HV.out.cell (j := 0) rfl
        go_wp2
        go_ret
        exact ⟨by rw [HT.out, ← hqe.out]; rfl, (below_alloc _).trans (by rw [← HW0.out]; exact (HB.out.trans (HB1.out.mono HB.out.size)).mono (by rw [HW0.out]; simp))⟩
  · have HO : totalV W E = 0 := by unfold totalV; rw [if_neg hM]
    rw [HO]
    have hc : (chkE W E != 0) = true := by
      rw [bne_iff_ne]
      exact fun q => hM (chkE_zero.mp q)
    obtain ⟨r, hr⟩ : ∃ r, r = chkE W E := ⟨_, rfl⟩
    rw [← hr] at C hc
    clear h hM hr HO
    go_enter Tryz.func28, Tryz.ntmps28
    go_wp2_with fail
    refine (C.out _ (H.out.below (below_alloc _))).mono ?_
    rintro e w1 ⟨rfl, b⟩
    have HB := Lib.hid ((below_alloc _).trans (b.mono (by simp)))
    clear b
    go_wp2
    go_ret
    exact ⟨rfl, HB.out⟩
end
end Go.Proofs.YtjmledfmiljoiaaGreatDoor
