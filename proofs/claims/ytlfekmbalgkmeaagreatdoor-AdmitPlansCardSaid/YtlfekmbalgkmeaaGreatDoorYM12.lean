import Derived.Test.YtlfekmbalgkmeaaGreatDoorYM11
import Derived.Deep.RegionWith
set_option linter.unusedSimpArgs false
set_option linter.unnecessarySimpa false
set_option linter.unusedVariables false
namespace Go.Proofs.YtlfekmbalgkmeaaGreatDoor
open Go.RowKit
section
variable {P: Option Addr} {np pc: Nat} {E: Option Addr} {ne ec: Nat} {F: Option Addr} {nf fc: Nat} {R: Option Addr} {nr rc: Nat} {p q: Int}
end
structure FutOne (ps: List (Int × Int × Int)) (f: Int × Int × Int): Prop where
 maker: 0 <= f.1 /\ f.1 < ps.length
 user: 0 <= f.2.1 /\ f.2.1 < ps.length
 apart: f.1 ≠ f.2.1
 first: 1 <= f.2.2
 last: ∀ e,ps[f.2.1.toNat]? = some e -> f.2.2 < e.2.2
structure FutsOk (ps fs: List (Int × Int × Int)): Prop where
 each: ∀ f ∈ fs,FutOne ps f
 once: (fs.map fun f => f.2).Nodup
theorem futsOk_take {ps fs: List (Int × Int × Int)} (h: FutsOk ps fs) (j: Nat): FutsOk ps (fs.take j) :=
 ⟨fun f hf => h.each f (List.mem_of_mem_take hf),h.once.sublist ((List.take_sublist j fs).map _)⟩
theorem futsOk_snoc {ps fs: List (Int × Int × Int)} {j: Nat} {f: Int × Int × Int} (h: fs[j]? = some f): FutsOk ps (fs.take (j + 1)) ↔ FutsOk ps (fs.take j) /\ FutOne ps f /\ f.2 ∉ (fs.take j).map fun f => f.2:=by
 rw [take_snoc' h]
 constructor
 ·rintro ⟨k1,k2⟩
  rw [List.map_append,List.nodup_append] at k2
  exact ⟨⟨fun x hx => k1 x (by simp [hx]),k2.1⟩,k1 f (by simp),fun hm => k2.2.2 _ hm f.2 (by simp) rfl⟩
 ·rintro ⟨⟨k1,k2⟩,q1,q2⟩
  refine ⟨fun x hx => ?_,?_⟩
  ·rcases List.mem_append.mp hx with hx | hx
   ·exact k1 x hx
   ·obtain rfl: x = f:=by simpa using hx
    exact q1
  ·rw [List.map_append,List.nodup_append]
   refine ⟨k2,by simp,fun a ha b hb => ?_⟩
   obtain rfl: b = f.2:=by simpa using hb
   exact fun e => q2 (e ▸ ha)
section
variable {P: Option Addr} {np pc: Nat} {E: Option Addr} {ne ec: Nat} {F: Option Addr} {nf fc: Nat} {R: Option Addr} {nr rc: Nat} {p q: Int}
end
structure BarOne (np: Nat) (b: List Int × List Int): Prop where
 ins: RowOk np b.1
 outs: RowOk np b.2
 apart: ∀ x ∈ b.1,x ∉ b.2
def BarsOk (np: Nat) (bs: List (List Int × List Int)): Prop:=∀ b ∈ bs,BarOne np b
section
variable {P: Option Addr} {np pc: Nat} {E: Option Addr} {ne ec: Nat} {F: Option Addr} {nf fc: Nat} {R: Option Addr} {nr rc: Nat} {p q: Int}
end
end Go.Proofs.YtlfekmbalgkmeaaGreatDoor
