/- The contract of trefoilref05.edges in the seat YtecjpclkiiaidaaDoor.
   The contract of trefoilref05.futures in the seat YtecjpclkiiaidaaDoor.
   The contract of trefoilref05.barriers in the seat YtecjpclkiiaidaaDoor.
   No statement is proved here. -/
import Derived.Test.YtecjpclkiiaidaaDoorZM1
import Derived.Deep.RegionWith
set_option linter.unusedVariables false
namespace Go.Proofs.YtecjpclkiiaidaaDoor
open Go.RowKit

section
variable {P : Option Addr} {np pc : Nat} {E : Option Addr} {ne ec : Nat} {F : Option Addr} {nf fc : Nat} {R : Option Addr} {nr rc : Nat} {p q : Int}
/-- In the middle of a round: a task lies in its box, an edge in block g, the edges as they came. -/
structure BxE (w : World) (p q : Int) (P : Option Addr) (np pc : Nat) (E : Option Addr) (ne ec : Nat) (F : Option Addr) (nf fc : Nat) (R : Option Addr) (nr rc : Nat) (g : Nat) (x y : Int) (es : List (Int × Int)) (w' : World) : Prop where
  b : BxD w p q P np pc E ne ec F nf fc R nr rc w'
  e0 : w'.cell? ⟨g, 0, none⟩ = some (.int .i64 x)
  e1 : w'.cell? ⟨g, 1, none⟩ = some (.int .i64 y)
  l : Pairs w' w.heap.size E es
theorem BxE.next {w w1 w2 : World} {g : Nat} {x y : Int} {es : List (Int × Int)} (h : BxE w p q P np pc E ne ec F nf fc R nr rc g x y es w1) (hb : Below w1.heap.size w1 w2) : BxE w p q P np pc E ne ec F nf fc R nr rc g x y es w2 :=
  ⟨h.b.next hb, (hb.cell (World.block_lt_of_cell? _ _ h.e0)).trans h.e0, (hb.cell (World.block_lt_of_cell? _ _ h.e1)).trans h.e1, h.l.keep fun a ha => hb.cell (Nat.lt_of_lt_of_le ha h.b.bel.size)⟩
end
end Go.Proofs.YtecjpclkiiaidaaDoor
set_option linter.unusedVariables false
namespace Go.Proofs.YtecjpclkiiaidaaDoor
open Go.RowKit

/-- A future that may be (maker, user, at), beside these parts. -/
structure FutOne (ps : List (Int × Int × Int)) (f : Int × Int × Int) : Prop where
  maker : 0 ≤ f.1 ∧ f.1 < ps.length
  user : 0 ≤ f.2.1 ∧ f.2.1 < ps.length
  apart : f.1 ≠ f.2.1
  first : 1 ≤ f.2.2
  last : ∀ e, ps[f.2.1.toNat]? = some e → f.2.2 < e.2.2
structure FutsOk (ps fs : List (Int × Int × Int)) : Prop where
  each : ∀ f ∈ fs, FutOne ps f
  once : (fs.map fun f => f.2).Nodup
theorem futsOk_take {ps fs : List (Int × Int × Int)} (h : FutsOk ps fs) (j : Nat) : FutsOk ps (fs.take j) :=
  ⟨fun f hf => h.each f (List.mem_of_mem_take hf), h.once.sublist ((List.take_sublist j fs).map _)⟩
theorem futsOk_snoc {ps fs : List (Int × Int × Int)} {j : Nat} {f : Int × Int × Int} (h : fs[j]? = some f) : FutsOk ps (fs.take (j + 1)) ↔ FutsOk ps (fs.take j) ∧ FutOne ps f ∧ f.2 ∉ (fs.take j).map fun f => f.2 := by
  rw [take_snoc' h]
  constructor
  · rintro ⟨k1, k2⟩
    rw [List.map_append, List.nodup_append] at k2
    exact ⟨⟨fun x hx => k1 x (by simp [hx]), k2.1⟩, k1 f (by simp), fun hm => k2.2.2 _ hm f.2 (by simp) rfl⟩
  · rintro ⟨⟨k1, k2⟩, q1, q2⟩
    refine ⟨fun x hx => ?_, ?_⟩
    · rcases List.mem_append.mp hx with hx | hx
      · exact k1 x hx
      · obtain rfl : x = f := by simpa using hx
        exact q1
    · rw [List.map_append, List.nodup_append]
      refine ⟨k2, by simp, fun a ha b hb => ?_⟩
      obtain rfl : b = f.2 := by simpa using hb
      exact fun e => q2 (e ▸ ha)
theorem map_take_snoc {fs : List (Int × Int × Int)} {t : Nat} {f : Int × Int × Int} {a : Int × Int} (h : fs[t]? = some f) : a ∈ (fs.take (t + 1)).map (fun f => f.2) ↔ a ∈ (fs.take t).map (fun f => f.2) ∨ a = f.2 := by
  rw [take_snoc' h, List.map_append, List.mem_append]
  simp
section
variable {P : Option Addr} {np pc : Nat} {E : Option Addr} {ne ec : Nat} {F : Option Addr} {nf fc : Nat} {R : Option Addr} {nr rc : Nat} {p q : Int}
/-- In the middle of a round: a task lies in its box, a future in block g, the parts and the futures as they came. -/
structure BxF (w : World) (p q : Int) (P : Option Addr) (np pc : Nat) (E : Option Addr) (ne ec : Nat) (F : Option Addr) (nf fc : Nat) (R : Option Addr) (nr rc : Nat) (g : Nat) (x y z : Int) (ps fs : List (Int × Int × Int)) (w' : World) : Prop where
  b : BxD w p q P np pc E ne ec F nf fc R nr rc w'
  e0 : w'.cell? ⟨g, 0, none⟩ = some (.int .i64 x)
  e1 : w'.cell? ⟨g, 1, none⟩ = some (.int .i64 y)
  e2 : w'.cell? ⟨g, 2, none⟩ = some (.int .i64 z)
  l : Trips w' w.heap.size P ps
  f : Trips w' w.heap.size F fs
theorem BxF.next {w w1 w2 : World} {g : Nat} {x y z : Int} {ps fs : List (Int × Int × Int)} (h : BxF w p q P np pc E ne ec F nf fc R nr rc g x y z ps fs w1) (hb : Below w1.heap.size w1 w2) : BxF w p q P np pc E ne ec F nf fc R nr rc g x y z ps fs w2 :=
  ⟨h.b.next hb, (hb.cell (World.block_lt_of_cell? _ _ h.e0)).trans h.e0, (hb.cell (World.block_lt_of_cell? _ _ h.e1)).trans h.e1, (hb.cell (World.block_lt_of_cell? _ _ h.e2)).trans h.e2, h.l.keep fun a ha => hb.cell (Nat.lt_of_lt_of_le ha h.b.bel.size), h.f.keep fun a ha => hb.cell (Nat.lt_of_lt_of_le ha h.b.bel.size)⟩
end
end Go.Proofs.YtecjpclkiiaidaaDoor
set_option linter.unusedVariables false
namespace Go.Proofs.YtecjpclkiiaidaaDoor
open Go.RowKit

/-- A barrier that may be (in, out). -/
structure BarOne (np : Nat) (b : List Int × List Int) : Prop where
  ins : RowOk np b.1
  outs : RowOk np b.2
  apart : ∀ x ∈ b.1, x ∉ b.2
def BarsOk (np : Nat) (bs : List (List Int × List Int)) : Prop := ∀ b ∈ bs, BarOne np b
theorem bars_step {np : Nat} {bs : List (List Int × List Int)} {k : Nat} {b : List Int × List Int} (h : BarsOk np (bs.take k)) (hb : bs[k]? = some b) (h1 : BarOne np b) : BarsOk np (bs.take (k + 1)) := by
  intro x hx
  rw [List.take_add_one, hb] at hx
  rcases List.mem_append.mp hx with hx | hx
  · exact h x hx
  · obtain rfl : x = b := by simpa using hx
    exact h1
section
variable {P : Option Addr} {np pc : Nat} {E : Option Addr} {ne ec : Nat} {F : Option Addr} {nf fc : Nat} {R : Option Addr} {nr rc : Nat} {p q : Int}
/-- In the middle of a round: a task lies in its box, a barrier in block g, all barriers as they came. -/
structure BxB (w : World) (p q : Int) (P : Option Addr) (np pc : Nat) (E : Option Addr) (ne ec : Nat) (F : Option Addr) (nf fc : Nat) (R : Option Addr) (nr rc : Nat) (g : Nat) (A1 : Option Addr) (n1 c1 : Nat) (A2 : Option Addr) (n2 c2 : Nat) (xs ys : List Int) (w' : World) : Prop where
  b : BxD w p q P np pc E ne ec F nf fc R nr rc w'
  e0 : w'.cell? ⟨g, 0, none⟩ = some (.slice A1 n1 c1)
  e1 : w'.cell? ⟨g, 1, none⟩ = some (.slice A2 n2 c2)
  xs : Ints w' w.heap.size A1 xs
  ys : Ints w' w.heap.size A2 ys
theorem BxB.next {w w1 w2 : World} {g : Nat} {A1 : Option Addr} {n1 c1 : Nat} {A2 : Option Addr} {n2 c2 : Nat} {xs ys : List Int} (h : BxB w p q P np pc E ne ec F nf fc R nr rc g A1 n1 c1 A2 n2 c2 xs ys w1) (hb : Below w1.heap.size w1 w2) : BxB w p q P np pc E ne ec F nf fc R nr rc g A1 n1 c1 A2 n2 c2 xs ys w2 :=
  ⟨h.b.next hb, (hb.cell (World.block_lt_of_cell? _ _ h.e0)).trans h.e0, (hb.cell (World.block_lt_of_cell? _ _ h.e1)).trans h.e1, h.xs.keep fun a ha => hb.cell (Nat.lt_of_lt_of_le ha h.b.bel.size), h.ys.keep fun a ha => hb.cell (Nat.lt_of_lt_of_le ha h.b.bel.size)⟩
end
end Go.Proofs.YtecjpclkiiaidaaDoor
