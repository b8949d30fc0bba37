import Derived.Test.YtfpnkcpjhbkgnaaGreatDoorZM16
import Derived.Test.YtfpnkcpjhbkgnaaGreatDoorZM21
import Derived.Deep.CutRange
import Derived.Deep.MidRow
import Derived.Deep.LoopGhost
set_option linter.unusedSimpArgs false
set_option linter.unusedVariables false
set_option maxHeartbeats 4000000
namespace Go.Proofs.YtfpnkcpjhbkgnaaGreatDoor
open Go Go.RowKit
structure Kp (bs: List Nat) (w w': World): Prop where
 os: w'.os = w.os
 tape: w'.tape = w.tape
 output: w'.output = w.output
 size: w.heap.size <= w'.heap.size
 block: ∀ k,k < w.heap.size -> k ∉ bs -> w'.heap[k]? = w.heap[k]?
section
variable {w w' w'': World} {bs: List Nat}
theorem Kp.of_below (h: Below w.heap.size w w') (bs: List Nat): Kp bs w w':=⟨h.os,h.tape,h.output,h.size,fun k hk _ => h.block k hk⟩
theorem Kp.below (h: Kp bs w w') {base: Nat} (hb: ∀ b ∈ bs,base <= b) (hs: base <= w.heap.size): Below base w w' :=
 ⟨h.os,h.tape,h.output,h.size,fun k hk => h.block k (by omega) fun q => by have:=hb k q; omega⟩
theorem Kp.trans (h: Kp bs w w') (h2: Kp bs w' w''): Kp bs w w'' :=
 ⟨h2.os.trans h.os,h2.tape.trans h.tape,h2.output.trans h.output,Nat.le_trans h.size h2.size,fun k hk hn => (h2.block k (by have:=h.size; omega) hn).trans (h.block k hk hn)⟩
theorem Kp.more {cs: List Nat} (h: Kp bs w w') (hm: ∀ b ∈ bs,b ∈ cs): Kp cs w w':=⟨h.os,h.tape,h.output,h.size,fun k hk hn => h.block k hk fun q => hn (hm k q)⟩
theorem Kp.set (h: Kp bs w w') {b k: Nat} (v: Value) (hb: b ∈ bs): Kp bs w (w'.setCell ⟨b,k,none⟩ v):=by
 refine ⟨?_,?_,?_,?_,fun j hj hn => ?_⟩
 ·exact ((Below.refl 0 w').setCell (p:=⟨b,k,none⟩) (Nat.zero_le b) v).os.trans h.os
 ·exact ((Below.refl 0 w').setCell (p:=⟨b,k,none⟩) (Nat.zero_le b) v).tape.trans h.tape
 ·exact ((Below.refl 0 w').setCell (p:=⟨b,k,none⟩) (Nat.zero_le b) v).output.trans h.output
 ·exact Nat.le_trans h.size ((Below.refl 0 w').setCell (p:=⟨b,k,none⟩) (Nat.zero_le b) v).size
 ·rw [heap_setCell_other _ _ _ _ (fun q => hn (by rw [q]; exact hb))]
  exact h.block j hj hn
theorem Kp.row (h: Kp bs w w') {g: Nat} {t: TypeId} {vs: List Value} (hr: RowV g t vs w) (hn: g ∉ bs): RowV g t vs w':=by
 unfold RowV at hr ⊢
 rw [h.block g (Array.getElem?_eq_some_iff.1 hr).1 hn]; exact hr
theorem Kp.own (h: Kp bs w w') {base n s: Nat} {e: TypeId} {v: Value} {xs: List Value} (ho: w.ownsRow base e s v n xs) (hn: ∀ b,v.ownBlock = some b -> b ∉ bs): w'.ownsRow base e s v n xs:=by
 refine ⟨ho.1,?_⟩
 rcases ho.2 with h0 | ⟨g,cap,cur,rfl,hg,hgg,rest⟩
 ·exact .inl h0
 ·refine .inr ⟨g,cap,cur,rfl,hg,?_,rest⟩
  rw [h.block g (Array.getElem?_eq_some_iff.1 hgg).1 (hn g rfl)]; exact hgg
end
structure IsWk (w: World) (base gw m: Nat) (g: Gng) (L: List Int) (a: GAd) (vW vE: Value): Prop where
 row: RowV gw 78 (gangC m a ++ [vW,vE]) w
 hw: base <= gw
 gng: IsGng w base m g L a
section
variable {w w': World} {base gw m: Nat} {g: Gng} {L: List Int} {a: GAd} {vW vE: Value}
theorem IsWk.below (h: IsWk w base gw m g L a vW vE) (hb: Below w.heap.size w w'): IsWk w' base gw m g L a vW vE:=⟨h.row.below hb h.row.lt,h.hw,h.gng.below hb⟩
theorem results_cell1 {fn: Func} {p: Tmp} {ty: TypeId} (h: fn.results = #[.cell p ty]) (tmps: Array Value) (P: Program) (w: World) :
  (results fn tmps).run P w = ((asAddr (tmps.getD p undef)).run P w).andThen fun q w₁ => (loadVar ty q).run P w₁:=by
 simp only [results,h]
 simp [Sem.run_bind,Result.andThen]
theorem ret_tk1 {fn: Func} {p: Tmp} (h: fn.results = #[.cell p 70]) {tmps: Array Value} {w: World} {q: Nat} {cs: List Value} (hp: tmps.getD p undef = .pointer (some ⟨q,0,none⟩)) (h1: RowV q 70 cs w) (l1: cs.length = 6) :
  (results fn tmps).run Tryz.prog w = .ok (.agg cs.toArray) w:=by
 rw [results_cell1 h,hp]
 simp [asAddr,load_tk h1 l1,Result.andThen]
theorem st_info: (Tryz.prog.info? 128).map (·.size) = some 1:=by kernel_rfl
theorem fresh_any (x: Int) (w: World): Calls Tryz.prog 144 #[.int .i64 x] w fun e w' => e = .returned (vT (newTk (decide (x ≠ 0)))) /\ Below w.heap.size w w':=by
 by_cases h: x = 0
 ·have e1: (x != 0) = false:=by simp [h]
  have e2: decide (x ≠ 0) = false:=by simp [h]
  rw [e2]
  go_enter Tryz.func144,Tryz.ntmps144
  go_wp2_with fail
  exact bodyPost_ret (ret_tk1 rfl rfl (RowV.new w 70 (cT (newTk false))) rfl) rfl ⟨rfl,below_alloc _⟩
 ·have e1: (x != 0) = true:=by simp [h]
  have e2: decide (x ≠ 0) = true:=by simp [h]
  rw [e2]
  go_enter Tryz.func144,Tryz.ntmps144
  go_wp2_with fail
  exact bodyPost_ret (ret_tk1 rfl rfl (RowV.new w 70 (cT (newTk true))) rfl) rfl ⟨rfl,below_alloc _⟩
theorem ret_st1 {fn: Func} {p: Tmp} (h: fn.results = #[.cell p 128]) {tmps: Array Value} {w: World} {q: Nat} {cs: List Value} (hp: tmps.getD p undef = .pointer (some ⟨q,0,none⟩)) (h1: RowV q 128 cs w) (l1: cs.length = 1) :
  (results fn tmps).run Tryz.prog w = .ok (.agg cs.toArray) w:=by
 rw [results_cell1 h,hp]
 have: (loadVar 128 ⟨q,0,none⟩).run Tryz.prog w = .ok (.agg cs.toArray) w:=by
  unfold RowV at h1
  exact run_loadVar_mid w q 0 128 cs _ (fun j v hj => by rw [Nat.zero_add]; exact RowV.cell h1 hj) Tryz.underlying128 rfl (by rw [l1]; exact st_info)
 simp [asAddr,this,Result.andThen]
theorem storeOf_row {c: Nat} (hc: c < m) (h: RowV gw 78 (gangC m a ++ [vW,vE]) w) :
  Calls Tryz.prog 85 #[.pointer (some ⟨gw,0,none⟩),.int .i64 c] w fun e w' => e = .returned (.agg #[.pointer (some ⟨a.gD,3 * c,none⟩)]) /\ Below w.heap.size w w':=by
 have H:=Lib.hid h
 have q2: w.cell? ⟨gw,2,none⟩ = some (.slice (some ⟨a.gD,0,none⟩) m a.cD):=h.cell rfl
 have e3: c * 3 = 3 * c:=Nat.mul_comm _ _
 have hlt:=h.lt
 clear h
 go_enter Tryz.func85,Tryz.ntmps85
 go_wp2_with fail
 exact bodyPost_ret (ret_st1 rfl rfl (RowV.new w 128 [.pointer (some ⟨a.gD,3 * c,none⟩)]) rfl) rfl ⟨rfl,below_alloc _⟩
theorem storeOf_any {c: Nat} (hc: c < m) (h: IsWk w base gw m g L a vW vE) :
  Calls Tryz.prog 85 #[.pointer (some ⟨gw,0,none⟩),.int .i64 c] w fun e w' => e = .returned (.agg #[.pointer (some ⟨a.gD,3 * c,none⟩)]) /\ Below w.heap.size w w':=storeOf_row hc h.row
end
section
variable {A: Option Addr} {n c: Nat} {R: List Int}
end
theorem RowV.far {g k j: Nat} {t: TypeId} {vs: List Value} {w: World} {v: Value} (h: RowV g t vs w) (hk: g ≠ k): RowV g t vs (w.setCell ⟨k,j,none⟩ v):=by
 unfold RowV at h ⊢
 rw [heap_setCell_other _ _ _ _ hk]; exact h
section
variable {A: Option Addr} {n c: Nat} {R: List Int}
end
end Go.Proofs.YtfpnkcpjhbkgnaaGreatDoor
