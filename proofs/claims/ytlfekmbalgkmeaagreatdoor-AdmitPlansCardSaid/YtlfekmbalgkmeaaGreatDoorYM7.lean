import Derived.Test.YtlfekmbalgkmeaaGreatDoorYM6
import Derived.Test.YtlfekmbalgkmeaaGreatDoorYM3
import Derived.Laws.CopyRow
import Derived.Laws.CopyOwn
import Derived.Laws.MakeOwn
import Derived.Deep.RegionLaw
import Derived.OwnWalk
import Derived.WalkKit
import Derived.WalkSmall
import Derived.Lib.Hide
import Derived.Shelf.SlSortCmp.Insertion
import Derived.Laws.Rows
import Derived.Test.YtlfekmbalgkmeaaGreatDoorYShelf
import Derived.Deep.QuietTactic
set_option linter.unusedSimpArgs false
set_option linter.unnecessarySimpa false
set_option linter.unusedVariables false
set_option maxRecDepth 100000
set_option maxHeartbeats 8000000
namespace Go.Proofs.YtlfekmbalgkmeaaGreatDoor
open Go Go.RowKit
theorem step_copy {P: Program} {ops: Array Oper} {o: Oper} {a: Act} {w: World} {K: Act -> World -> Prop} {Q: Exit -> Act -> World -> Prop} {E: Prop} (hgd: o.guard = none) (d s: Operand) (dT sT: TypeId)
  (ho: o.op = .call { callee:=.builtin .copy,args:=#[d,s],argTypes:=#[dT,sT] }) (elem: TypeId) (hu: P.underlying dT = some (.slice elem)) (hsz: (P.info? elem).map (·.size) = some 1)
  (g off dLen dCap: Nat) (ad: Addr) (sLen sCap: Nat) (hd: a.eval d = .slice (some ⟨g,off,none⟩) dLen dCap) (hs: a.eval s = .slice (some ad) sLen sCap)
  (cur: Array Value) (t: TypeId) (hg: w.heap[g]? = some (.cells cur t (0,0))) (cs: List Value) (hn: cs.length = Nat.min sLen dLen)
  (hsrc: ∀ j v,cs[j]? = some v -> w.cell? (ad.add j) = some v) (hfit: off + cs.length <= cur.size) (h1: ∀ v ∈ cs,v.oneCell' = true)
  (hK: K (a.put o.dst (goInt cs.length)) (w.setRow g (cur.toList.take off ++ (cs ++ cur.toList.drop (off + cs.length))).toArray)) :
  if Region.wanted o (yielded ops a.tmps) = true then Oper.wp P o a w K Q else E:=by
 have hw: Region.wanted o (yielded ops a.tmps) = true:=by simp [Region.wanted,hgd]
 rw [if_pos hw]
 have hrun:=run_copy_row (P:=P) w dT sT o.type elem g off dLen dCap ad sLen sCap cur t cs hu hsz hg hn hsrc hfit h1
 unfold Oper.wp
 simp [execOp,ho,resolve,invoke,builtin,hd,hs,hrun,Result.andThen]
 rw [Oper.upon_value]
 simpa using hK
def repC (z: Int) (n k: Nat): List Value:=List.replicate k (.int .i64 z) ++ List.replicate (n - k) (.int .i64 0)
theorem repC_next {z: Int} {n k j: Nat} (h: k + j <= n): (repC z n k).take k ++ (List.replicate j (.int .i64 z) ++ (repC z n k).drop (k + j)) = repC z n (k + j):=by
 rw [<- List.append_assoc]
 unfold repC
 rw [List.take_append_of_le_length (by simp),List.take_of_length_le (by simp),List.drop_append,List.drop_of_length_le (by simp),List.length_replicate,List.nil_append,List.drop_replicate]
 rw [<- List.replicate_append_replicate]
 congr 2
 omega
theorem int_info16 : ∃ i, Tryz.prog.info? 3 = some i /\ i.zero = some (.int .i64 0) /\ i.size = 1 /\ i.bytes = 8 := by
  have h := int_cell_info
  cases hi : Tryz.prog.info? 3 with
  | none => rw [hi] at h; cases h
  | some i =>
    rw [hi] at h
    simp at h
    exact ⟨i, rfl, h.1, h.2.1, h.2.2⟩
theorem make_ints16 (n: Nat) (hn: n <= 1000) (W: World): (Instr.makeSlice 40 (.int .i64 n) (.int .i64 n)).run Tryz.prog W = .ok (.slice (some ⟨W.heap.size,0,none⟩) n n) (W.alloc (.cells (List.replicate n (Value.int .i64 0)).toArray 3)):=by
 obtain ⟨i0,hi,hz0,hz1,hz2⟩:=int_info16
 have h:=run_make (P:=Tryz.prog) W 40 3 i0 (.int .i64 0) Tryz.underlying40 hi hz0 .i64 .i64 n n (by omega) (by omega) (by rw [hz2]; omega) (by omega)
 rw [hz1] at h
 have e: madeCells (Value.int .i64 0).cells (((n: Int)).toNat * 1) = (List.replicate n (Value.int .i64 0)).toArray:=by
  apply Array.toList_inj.mp
  rw [show (Value.int .i64 0).cells = #[Value.int .i64 0] from rfl,toList_madeCells_one]
  simp
 rw [e] at h
 exact h
def RepB (w: World) (g n k: Nat) (z: Int): Prop:=w.heap[g]? = some (.cells (repC z n k).toArray 3 (0,0))
theorem RepB.own {w: World} {g n: Nat} {z: Int} {base: Nat} (h: RepB w g n n z) (hb: base <= g) (hl: n <= 1000): OwnI w base (.slice (some ⟨g,0,none⟩) n n) (List.replicate n z):=by
 unfold OwnI
 rw [List.length_replicate,List.map_replicate]
 refine ⟨by simp,.inr ⟨g,n,_,rfl,hb,h,Nat.le_refl _,by unfold maxLen; omega,by simp [repC],by simp [repC]⟩⟩
theorem RepB.copied {w w': World} {g n k j B: Nat} {z: Int} {cs: List Value} {w0: World} (h: RepB w g n k z) (hj: k + j <= n) (hcs: cs = List.replicate j (.int .i64 z)) (hb: Below B w0 w) (hg: B <= g)
  (hw: w' = w.setRow g ((repC z n k).toArray.toList.take k ++ (cs ++ (repC z n k).toArray.toList.drop (k + cs.length))).toArray): RepB w' g n (k + j) z /\ Below B w0 w':=by
 subst hcs
 rw [List.length_replicate,List.toList_toArray,repC_next hj] at hw
 rw [hw]
 exact ⟨setRow_heap w g _ _ _ _ h,below_setRow hb hg _⟩
theorem RepB.cells {w: World} {g n k: Nat} {z: Int} (h: RepB w g n k z) (j: Nat) (hj: j <= k): ∀ i v,(List.replicate j (Value.int .i64 z))[i]? = some v -> w.cell? ((⟨g,0,none⟩: Addr).add i) = some v:=fun i v hv => by
 rw [List.getElem?_replicate] at hv
 split at hv
 ·injection hv with hv
  rw [addr_add,Nat.zero_add,cell_of_row w g i _ _ _ h]
  unfold repC
  rw [List.getElem?_toArray,List.getElem?_append_left (by simp; omega),List.getElem?_replicate,if_pos (by omega),hv]
 ·cases hv
theorem reps_one (z: Int) (j: Nat): ∀ v ∈ List.replicate j (Value.int .i64 z),v.oneCell' = true:=fun v hv => by rw [(List.mem_replicate.mp hv).2]; rfl
theorem one_src {w: World} {b: Nat} {z: Int} (h: w.cell? ⟨b,0,none⟩ = some (.int .i64 z)): ∀ i v,(List.replicate 1 (Value.int .i64 z))[i]? = some v -> w.cell? ((⟨b,0,none⟩: Addr).add i) = some v:=fun i v hv => by
 match i with
 | 0 => rw [addr_add]; exact h.trans hv
 | i + 1 => simp at hv
theorem int_size16: (Tryz.prog.info? 3).map (·.size) = some 1:=by
 obtain ⟨i,h1,h2,h3,h4⟩:=int_info16
 rw [h1]; simpa using h3
theorem slice_from (g n k: Nat) (hk: k < n) (hn: n <= 1000) (W: World): (Instr.sliceAt 40 (.slice (some ⟨g,0,none⟩) n n) (some (.int .i64 (k: Int))) none none).run Tryz.prog W = .ok (.slice (some ⟨g,k,none⟩) (n - k) (n - k)) W:=by
 have hu: Tryz.prog.underlying 40 = some (.slice (Tryz.prog.elem 40)):=by kernel_rfl
 rw [run_sliceAt_slice (h:=hu),run_slice_l (ht:=hu) (h0:=by omega) (h1:=by omega)]
 simp [go_sem,sliced,addr_add,show ¬ n = k by omega]
theorem slice_upto (g n k: Nat) (hk: k <= n) (hn: n <= 1000) (W: World): (Instr.sliceAt 40 (.slice (some ⟨g,0,none⟩) n n) none (some (.int .i64 (k: Int))) none).run Tryz.prog W = .ok (.slice (some ⟨g,0,none⟩) k n) W:=by
 have hu: Tryz.prog.underlying 40 = some (.slice (Tryz.prog.elem 40)):=by kernel_rfl
 rw [run_sliceAt_slice (h:=hu),run_slice_h (ht:=hu) (h0:=by omega) (h2:=by omega)]
 simp [go_sem,sliced,addr_add]
theorem repeat_any (z: Int) (b n: Nat) (w: World) (hn: n <= 31) (hb: b < w.heap.size) (hc: w.cell? ⟨b,0,none⟩ = some (.int .i64 z)) :
  Calls Tryz.prog 154 #[.slice (some ⟨b,0,none⟩) 1 1,.int .i64 n] w fun e w' => ∃ g,e = .returned (.slice (some ⟨g,0,none⟩) n n) /\ OwnI w' w.heap.size (.slice (some ⟨g,0,none⟩) n n) (List.replicate n z) /\ Below w.heap.size w w':=by
 have KM:=Lib.hid (fun W => mul_one n hn W)
 have hmk:=make_ints16 n (by omega) w
 obtain ⟨w1,hw1⟩: ∃ w1,w1 = w.alloc (.cells (List.replicate n (Value.int .i64 0)).toArray 3):=⟨_,rfl⟩
 have HB1: Hid (Below w.heap.size w w1):=Lib.hid (by rw [hw1]; exact below_alloc _)
 have HR1: Hid (RepB w1 w.heap.size n 0 z):=Lib.hid (by rw [hw1]; unfold RepB repC; simpa using heap_alloc_new w (.cells (List.replicate n (Value.int .i64 0)).toArray 3))
 have HC1: Hid (w1.cell? ⟨b,0,none⟩ = some (.int .i64 z)):=Lib.hid ((HB1.out.cell hb).trans hc)
 have h4: IntKind.u64.wrap (n: Int) = n:=by simp [IntKind.wrap,IntKind.signed,IntKind.bits]; omega
 have h6: IntKind.i64.wrap (n: Int) = n:=by simp [IntKind.wrap,IntKind.signed,IntKind.bits]; omega
 rw [<- hw1] at hmk
 obtain ⟨g,hg⟩: ∃ g,g = w.heap.size:=⟨_,rfl⟩
 rw [<- hg] at hmk HR1
 have HG:=Lib.hid hg
 have HSF:=Lib.hid (fun (k: Nat) (hk: k < n) => slice_from g n k hk (by omega))
 have HSU:=Lib.hid (fun (k: Nat) (hk: k < n) => slice_upto g n k (by omega) (by omega))
 clear hw1 hc hg
 go_enter Tryz.func154,Tryz.ntmps154
 go_wp2_with fail
 refine (KM.out _).mono ?_
 rintro e w' ⟨rfl,rfl⟩
 go_wp2_with fail
 rcases Nat.eq_zero_or_pos n with h0 | h0
 ·have hcp: (Builtin.copy_ #[40,40] 3 #[.slice (some ⟨g,0,none⟩) n n,.slice (some ⟨b,0,none⟩) 1 1]).run Tryz.prog w1 = .ok (goInt 0) w1:=run_copy_none (P:=Tryz.prog) w1 40 40 3 3 _ _ n n 1 1 Tryz.underlying40 int_size16 (by rw [h0]; rfl)
  rw [hcp]
  clear hcp
  have hlt: decide ((0: Int) < (n: Int)) = false:=decide_eq_false (by omega)
  have hlt2: decide (0 < n) = false:=decide_eq_false (by omega)
  go_wp2
  go_loopw [8] (fun v wr => v = .int .i64 0 /\ wr = w1) (fun v _ => 0)
  case atStart => exact ⟨rfl,rfl⟩
  case round =>
   obtain ⟨rfl,rfl⟩:=hrel
   go_wp2
   go_ret
   subst h0
   exact ⟨g,rfl,HR1.out.own (by rw [HG.out]; exact Nat.le_refl _) (by decide),HB1.out⟩
 ·obtain ⟨w2,hw2⟩: ∃ w2,w2 = w1.setRow g ((repC z n 0).toArray.toList.take 0 ++ (List.replicate 1 (Value.int .i64 z) ++ (repC z n 0).toArray.toList.drop (0 + (List.replicate 1 (Value.int .i64 z)).length))).toArray:=⟨_,rfl⟩
  have HR2:=Lib.hid (HR1.out.copied (j:=1) (by omega) rfl HB1.out (by rw [HG.out]; exact Nat.le_refl _) hw2)
  have hcp: (Builtin.copy_ #[40,40] 3 #[.slice (some ⟨g,0,none⟩) n n,.slice (some ⟨b,0,none⟩) 1 1]).run Tryz.prog w1 = .ok (goInt 1) w2:=by
   have h:=run_copy_row (P:=Tryz.prog) w1 40 40 3 3 g 0 n n ⟨b,0,none⟩ 1 1 (repC z n 0).toArray 3 (List.replicate 1 (Value.int .i64 z)) Tryz.underlying40 int_size16 HR1.out (by show 1 = Nat.min 1 n; simp only [Nat.min_def]; split <;> omega) (one_src HC1.out) (by simp [repC]; omega) (reps_one z 1)
   rw [h,hw2,List.append_assoc]
   rfl
  rw [hcp]
  clear hw2 hcp
  go_wp2
  rw [Nat.zero_add] at HR2
  clear HR1 HC1 HB1
  go_loopw [8] (fun v wr => ∃ k: Nat,1 <= k /\ k <= n /\ v = .int .i64 k /\ Hid (RepB wr g n k z /\ Below w.heap.size w wr)) (fun v _ => n - (intOf v).toNat)
  case atStart => exact ⟨1,Nat.le_refl _,by omega,rfl,HR2⟩
  case round =>
   clear HR2
   obtain ⟨k,hk1,hkn,rfl,HR⟩:=hrel
   by_cases hlt: k < n
   ·have f1:=HSF.out k hlt
    have f2:=HSU.out k hlt
    obtain ⟨j,hj⟩: ∃ j,j = Nat.min k (n - k):=⟨_,rfl⟩
    have hjk: j <= k /\ k + j <= n /\ 1 <= j:=by rw [hj]; simp only [Nat.min_def]; split <;> omega
    have HRD: Hid (RepB wr.drew g n k z /\ Below w.heap.size w wr.drew):=Lib.hid ⟨HR.out.1,HR.out.2.drew⟩
    obtain ⟨w3,hw3⟩: ∃ w3,w3 = wr.drew.setRow g ((repC z n k).toArray.toList.take k ++ (List.replicate j (Value.int .i64 z) ++ (repC z n k).toArray.toList.drop (k + (List.replicate j (Value.int .i64 z)).length))).toArray:=⟨_,rfl⟩
    have HW3:=Lib.hid hw3
    have HR3:=Lib.hid (HRD.out.1.copied (j:=j) hjk.2.1 rfl HRD.out.2 (by rw [HG.out]; exact Nat.le_refl _) hw3)
    have HJ:=Lib.hid hjk
    have HJM:=Lib.hid hj
    clear hw3 hj
    go_wp2_with fail
    go_region_law (refine step_copy rfl (.tmp 41) (.tmp 44) 40 40 rfl 3 Tryz.underlying40 int_size16 g k (n - k) (n - k) ⟨g,0,none⟩ k n (by simp [Act.eval,Act.put]) (by simp [Act.eval,Act.put]) (repC z n k).toArray 3 HRD.out.1 (List.replicate j (.int .i64 z)) (by rw [List.length_replicate]; exact HJM.out) (HRD.out.1.cells j HJ.out.1) (by have:=HJ.out; rw [List.length_replicate]; simp [repC]; omega) (reps_one z j) ?_; rw [<- HW3.out,List.length_replicate])
    all_goals
     have HJN:=Lib.hid HJ.out
     simp only [Act.put,List.getElem_toArray,List.getElem_cons_succ,List.getElem_cons_zero,List.setIfInBounds_toArray,List.set_cons_succ,List.set_cons_zero]
     have hwr: IntKind.i64.wrap ((k: Int) + (j: Int)) = (k: Int) + (j: Int):=by have:=HJ.out; rw [IntKind.wrap_i64]; omega
     go_wp2
     go_roundw
     case rel => exact ⟨k + j,by have:=HJN.out; omega,by have:=HJN.out; omega,by first | rfl | (have:=HJN.out; rw [hwr]; rfl) | (have:=HJN.out; go_num),HR3⟩
     case measure => simp [intOf,hwr]; have:=HJN.out; omega
   ·obtain rfl: n = k:=by omega
    go_wp2
    go_ret
    exact ⟨g,rfl,HR.out.1.own (by rw [HG.out]; exact Nat.le_refl _) (by omega),HR.out.2⟩
section
variable {α: Type} [Inhabited α]
theorem sortWorld_heap (enc: α -> Value) (w: World) (blk m: Nat) (dk: Array α) (os: Array Obj) (k: Nat) (hk: k < w.heap.size) :
  (sortWorld enc w blk 0 m dk os).heap[k]? = if blk = k then (w.heap[k]?).map (Go.Sort.onCells (Go.Sort.putCells enc 0 dk)) else w.heap[k]?:=by
 show ((w.heap.modify blk (Go.Sort.onCells (Go.Sort.putCells enc 0 dk))) ++ os)[k]? = _
 rw [Array.getElem?_append,if_pos (by rw [Array.size_modify]; exact hk),Array.getElem?_modify]
theorem below_sortWorld (enc: α -> Value) (w: World) (blk m: Nat) (dk: Array α) (os: Array Obj) {B: Nat} (hB: B <= blk) (hs: B <= w.heap.size): Below B w (sortWorld enc w blk 0 m dk os):=by
 refine ⟨rfl,rfl,rfl,?_,fun k hk => ?_⟩
 ·show _ <= ((w.heap.modify blk (Go.Sort.onCells (Go.Sort.putCells enc 0 dk))) ++ os).size
  rw [Array.size_append,Array.size_modify]
  omega
 ·rw [sortWorld_heap enc w blk m dk os k (by omega),if_neg (by omega)]
theorem own_sortWorld {f: α -> Int} {enc: α -> Value} (he: ∀ a,enc a = .int .i64 (f a)) {w: World} {base g n c: Nat} {zs: List Int} (m: Nat) (dk: Array α) (os: Array Obj) (hn: zs.length = n) (hd: dk.size = n) (h: OwnI w base (.slice (some ⟨g,0,none⟩) n c) zs) :
  OwnI (sortWorld enc w g 0 m dk os) base (.slice (some ⟨g,0,none⟩) n c) (dk.toList.map f):=by
 obtain ⟨h0,h⟩:=h
 rcases h with ⟨h1,_⟩ | ⟨g',cap,cur,h1,h2,h3,h4,h5,h6,h7⟩
 ·injection h1 with h1; cases h1
 ·injection h1 with e1 e2 e3
  injection e1 with e1
  injection e1 with e1
  subst e1 e3
  have hg:=(Array.getElem?_eq_some_iff.1 h3).1
  have hl: (dk.toList.map f).length = n:=by rw [List.length_map,Array.length_toList,hd]
  refine ⟨by rw [List.length_map,Nat.mul_one],.inr ⟨g,c,Go.Sort.putCells enc 0 dk cur,by rw [hl],h2,?_,by rw [hl]; omega,h5,?_,?_⟩⟩
  ·rw [sortWorld_heap enc w g m dk os g hg,if_pos rfl,h3]
   rfl
  ·unfold Go.Sort.putCells
   rw [Array.size_mapIdx]
   exact h6
  ·apply List.ext_getElem?
   intro k
   rw [hl,Nat.mul_one,List.getElem?_take,List.getElem?_map,List.getElem?_map]
   by_cases hk: k < n
   ·rw [if_pos hk]
    unfold Go.Sort.putCells
    have hc: k < cur.size:=by omega
    rw [Array.getElem?_toList,Array.getElem?_mapIdx,Array.getElem?_eq_getElem hc,Option.map_some,if_pos ⟨by omega,by omega⟩,Array.getElem?_toList,Array.getElem?_eq_getElem (by omega: k < dk.size),he,Nat.sub_zero,getElem!_pos dk k (by omega)]
    rfl
   ·rw [if_neg hk,Array.getElem?_toList,Array.getElem?_eq_none (by omega)]
    rfl
end
def cmpI (a b: Int): Int:=if a < b then -1 else if b < a then 1 else 0
theorem isNaN_int (a: Int) (w: World): Calls Tryz.prog 179 #[.int .i64 a] w fun e w' => e = .returned (.bool false) /\ w = w':=by
 go_enter Tryz.func179,Tryz.ntmps179
 go_wp2
 go_ret
 exact ⟨rfl,rfl⟩
theorem compare_any (a b: Int) (w: World): Calls Tryz.prog 173 #[.int .i64 a,.int .i64 b] w fun e w' => e = .returned (.int .i64 (cmpI a b)) /\ w' = w:=by
 have C1:=Lib.hid (isNaN_int a)
 have C2:=Lib.hid (isNaN_int b)
 unfold cmpI
 by_cases h1: a < b
 ·rw [if_pos h1]
  go_enter Tryz.func173,Tryz.ntmps173
  go_wp2_with fail
  refine (C1.out _).mono ?_
  rintro e w' ⟨rfl,rfl⟩
  go_wp2_with fail
  refine (C2.out _).mono ?_
  rintro e w' ⟨rfl,rfl⟩
  go_wp2
  go_ret
  exact ⟨rfl,rfl⟩
 ·rw [if_neg h1]
  by_cases h2: b < a
  ·rw [if_pos h2]
   have h1': decide (a < b) = false:=decide_eq_false h1
   clear h1
   go_enter Tryz.func173,Tryz.ntmps173
   go_wp2_with fail
   refine (C1.out _).mono ?_
   rintro e w' ⟨rfl,rfl⟩
   go_wp2_with fail
   refine (C2.out _).mono ?_
   rintro e w' ⟨rfl,rfl⟩
   go_wp2
   go_ret
   exact ⟨rfl,rfl⟩
  ·rw [if_neg h2]
   have h1': decide (a < b) = false:=decide_eq_false h1
   have h2': decide (b < a) = false:=decide_eq_false h2
   clear h1 h2
   go_enter Tryz.func173,Tryz.ntmps173
   go_wp2_with fail
   refine (C1.out _).mono ?_
   rintro e w' ⟨rfl,rfl⟩
   go_wp2_with fail
   refine (C2.out _).mono ?_
   rintro e w' ⟨rfl,rfl⟩
   go_wp2
   go_ret
   exact ⟨rfl,rfl⟩
end Go.Proofs.YtlfekmbalgkmeaaGreatDoor
namespace Go.Proofs.YtlfekmbalgkmeaaGreatDoor
open Go.RowKit
def GotInts (zs: List Int) (w: World) (e: Ending) (w': World): Prop :=
 ∃ A c,e = .returned (.slice A zs.length c) /\ Ints w' w'.heap.size A zs /\ Below w.heap.size w w'
theorem OwnI.down {w: World} {b b': Nat} {v: Value} {zs: List Int} (h: OwnI w b v zs) (hb: b' <= b): OwnI w b' v zs:=by
 refine ⟨h.1,?_⟩
 rcases h.2 with hn | ⟨g,cap,cur,rfl,hg,rest⟩
 ·exact .inl hn
 ·exact .inr ⟨g,cap,cur,rfl,by omega,rest⟩
theorem OwnI.ints {w: World} {b: Nat} {A: Option Addr} {n c: Nat} {zs: List Int} (h: OwnI w b (.slice A n c) zs): Ints w w.heap.size A zs:=by
 obtain ⟨A',c',e1,hI⟩:=h.slice
 injection e1 with e2 e3 e4
 rw [e2]
 exact hI
def GotOwn (zs: List Int) (w: World) (e: Ending) (w': World): Prop :=
 ∃ A c,e = .returned (.slice A zs.length c) /\ OwnI w' w.heap.size (.slice A zs.length c) zs /\ Below w.heap.size w w'
theorem GotOwn.ints {zs: List Int} {w: World} {e: Ending} {w': World} (h: GotOwn zs w e w'): GotInts zs w e w':=by
 obtain ⟨A,c,he,hO,b⟩:=h
 obtain ⟨A',c',e1,hI⟩:=hO.slice
 injection e1 with e2 e3 e4
 subst e2
 exact ⟨A,c,he,hI,b⟩
def nums (l: List Nat): List Int:=l.map Int.ofNat
theorem nums_length (l: List Nat): (nums l).length = l.length:=by unfold nums; rw [List.length_map]
theorem nums_snoc (l: List Nat) (a: Nat): nums (l ++ [a]) = nums l ++ [(a: Int)]:=by unfold nums; rw [List.map_append]; rfl
end Go.Proofs.YtlfekmbalgkmeaaGreatDoor
namespace Go.Proofs.YtlfekmbalgkmeaaGreatDoor
open Go Go.RowKit
theorem OwnI.blockC {w: World} {base gg nn cc: Nat} {zs: List Int} (h: OwnI w base (.slice (some ⟨gg,0,none⟩) nn cc) zs): ∃ cur,w.heap[gg]? = some (.cells cur 3 (0,0)) /\ base <= gg /\ nn <= cc /\ cur.size = cc * 1:=by
 rcases h.2 with ⟨e,_⟩ | ⟨g',cap,cur,e,hg,hgg,hnc,hcm,hcs,_⟩
 ·cases e
 ·injection e with e1 e2 e3
  injection e1 with e1
  injection e1 with e1
  subst e1 e3
  rw [<- e2] at hnc
  exact ⟨cur,hgg,hg,hnc,hcs⟩
theorem OwnI.frozenC {w: World} {base g n c: Nat} {zs: List Int} (h: OwnI w base (.slice (some ⟨g,0,none⟩) n c) zs) (j: Nat): w.frozen? ⟨g,j,none⟩ = false:=by
 obtain ⟨cur,h1,_⟩:=h.blockC
 exact frozen_of_row w g j _ _ h1
theorem OwnI.len_eq {w: World} {base nn cc: Nat} {A: Option Addr} {zs: List Int} (h: OwnI w base (.slice A nn cc) zs): zs.length = nn:=by
 rcases h.2 with ⟨e,hn⟩ | ⟨g',cap,cur,e,_⟩
 ·injection e with _ e2 _
  omega
 ·injection e with _ e2 _
  omega
theorem ownI_setC {w: World} {base g n c j: Nat} {zs: List Int} (h: OwnI w base (.slice (some ⟨g,0,none⟩) n c) zs) (hj: j < zs.length) (z: Int): OwnI (w.setCell ⟨g,j,none⟩ (.int .i64 z)) base (.slice (some ⟨g,0,none⟩) n c) (zs.set j z):=by
 unfold OwnI at h ⊢
 rw [List.length_set,List.map_set]
 refine ⟨by rw [List.length_set]; exact h.1,?_⟩
 rcases h.2 with ⟨e,_⟩ | ⟨g',cap,cur,e,hg,hgg,hnc,hcm,hcs,htake⟩
 ·cases e
 ·injection e with e1 e2 e3
  injection e1 with e1
  injection e1 with e1
  subst e1 e2 e3
  refine .inr ⟨g,_,cur.setIfInBounds j (.int .i64 z),rfl,hg,heap_setCell_same w g j _ _ _ hgg,hnc,hcm,by rw [Array.size_setIfInBounds]; exact hcs,?_⟩
  rw [Array.toList_setIfInBounds,<- htake,List.take_set]
theorem own_farC {w w': World} {base g: Nat} {v: Value} {zs: List Int} (h: OwnI w base v zs) (hne: v.ownBlock ≠ some g) (hk: ∀ k,k ≠ g -> w'.heap[k]? = w.heap[k]?): OwnI w' base v zs:=by
 refine ⟨h.1,?_⟩
 rcases h.2 with hn | ⟨g',cap,cur,rfl,hg,hgg,rest⟩
 ·exact .inl hn
 ·refine .inr ⟨g',cap,cur,rfl,hg,?_,rest⟩
  rw [hk g' (fun e => hne (by rw [e]; rfl))]
  exact hgg
theorem OwnI.cellC {w: World} {base g n c: Nat} {zs: List Int} (h: OwnI w base (.slice (some ⟨g,0,none⟩) n c) zs) {j: Nat} (hj: j < zs.length): ∃ z,w.cell? ⟨g,j,none⟩ = some (.int .i64 z):=by
 obtain ⟨b,off,z,e,_,_,hc⟩:=h.ints.at_ hj
 injection e with e
 injection e with e1 e2
 subst e1 e2
 exact ⟨z,by simpa using hc⟩
section
variable {n: Nat} (t: Nat -> Int)
def encF (x: Fin n): Value:=.int .i64 (x.val: Int)
def cmpF (x y: Fin n): Int:=if t y.val < t x.val then -1 else if t x.val < t y.val then 1 else 0
def valsF (d: Array (Fin n)): List Nat:=d.toList.map Fin.val
variable {t}
theorem ltOf_cmpF (x y: Fin n): ltOf (cmpF t) x y = decide (t y.val < t x.val):=by
 unfold ltOf cmpF
 by_cases h: t y.val < t x.val
 ·rw [if_pos h,decide_eq_true h]; rfl
 ·rw [if_neg h,decide_eq_false h]
  split <;> rfl
theorem valsF_len (d: Array (Fin n)): (valsF d).length = d.size:=by simp [valsF]
theorem valsF_at [Inhabited (Fin n)] {d: Array (Fin n)} {i: Nat} (h: i < d.size): (valsF d)[i]? = some d[i]!.val:=by
 unfold valsF
 rw [List.getElem?_map,Array.getElem?_toList,Array.getElem?_eq_getElem h,getElem!_pos d i h]; rfl
theorem valsF_swp [Inhabited (Fin n)] (d: Array (Fin n)) (i j: Nat): valsF (Sort.swp d i j) = ((valsF d).set i d[j]!.val).set j d[i]!.val:=by
 unfold valsF Sort.swp
 simp [Array.toList_setIfInBounds,List.map_set]
theorem inner_ord [Inhabited (Fin n)] {k : Nat} {tl : List Nat} : ∀ (j : Nat) (d : Array (Fin n)), j <= k -> valsF d = (ordO t k).take j ++ k :: (ordO t k).drop j ++ tl -> (∀ y ∈ (ordO t k).drop j, t y < t k) -> valsF (Sort.insInner (ltOf (cmpF t)) 0 j d) = ordO t (k + 1) ++ tl
  | 0, d, _, hd, hl => by
    unfold Sort.insInner
    rw [hd, ordO_at (j := 0) (Nat.zero_le _) (fun h => absurd h (by decide)) hl]
  | j + 1, d, hj, hd, hl => by
    have hP := ordO_len (t := t) k
    have hjl : j < (ordO t k).length := by omega
    have hlen := congrArg List.length hd
    rw [valsF_len] at hlen
    simp at hlen
    have e1 : d[j + 1]!.val = k := by
      have h1 := valsF_at (d := d) (i := j + 1) (by omega)
      rw [hd, List.append_assoc, List.getElem?_append_right (by simp; omega)] at h1
      have : j + 1 - ((ordO t k).take (j + 1)).length = 0 := by simp; omega
      rw [this] at h1
      simpa using h1.symm
    have e2 : (ordO t k)[j]? = some d[j]!.val := by
      have h1 := valsF_at (d := d) (i := j) (by omega)
      rw [hd, List.append_assoc, List.getElem?_append_left (by simp; omega), List.getElem?_take, if_pos (by omega)] at h1
      exact h1
    unfold Sort.insInner
    rw [ltOf_cmpF, e1]
    by_cases hlt : t d[j]!.val < t k
    · rw [decide_eq_true hlt]
      simp only [Nat.zero_lt_succ, gt_iff_lt, decide_true, Bool.and_self, if_true]
      refine inner_ord j (Sort.swp d (j + 1) j) (by omega) ?_ (fun y hy => ?_)
      · rw [valsF_swp, hd, e1]
        have h3 := swap_at (P := ordO t k) (x := k) (j := j + 1) (y := d[j]!.val) (by omega) (by simpa using e2)
        rw [Nat.add_sub_cancel] at h3
        rw [<- h3]
        rw [List.set_append_left _ _ (by simp; omega), List.set_append_left _ _ (by simp; omega)]
      · rw [List.drop_eq_getElem_cons hjl] at hy
        rcases List.mem_cons.mp hy with rfl | hy
        · have : (ordO t k)[j] = d[j]!.val := by rw [List.getElem?_eq_getElem hjl] at e2; exact Option.some.inj e2
          rw [this]; exact hlt
        · exact hl y hy
    · rw [decide_eq_false hlt]
      simp only [Bool.and_false, if_false, Bool.false_eq_true]
      rw [hd, ordO_at (j := j + 1) hj (fun _ y hy => by
        rw [Nat.add_sub_cancel] at hy
        rw [e2] at hy
        rw [<- Option.some.inj hy]; exact hlt) hl]
theorem outer_ord [Inhabited (Fin n)] : ∀ (r i : Nat) (d : Array (Fin n)), n - i = r -> i <= n -> valsF d = ordO t i ++ (List.range n).drop i -> valsF (Sort.insOuter (ltOf (cmpF t)) 0 n i d) = ordO t n
  | 0, i, d, hr, hi, hd => by
    obtain rfl : i = n := by omega
    unfold Sort.insOuter
    rw [if_neg (Nat.lt_irrefl _), hd, List.drop_of_length_le (by simp), List.append_nil]
  | r + 1, i, d, hr, hi, hd => by
    unfold Sort.insOuter
    rw [if_pos (by omega)]
    refine outer_ord r (i + 1) _ (by omega) (by omega) ?_
    have hP := ordO_len (t := t) i
    refine inner_ord i d (Nat.le_refl _) ?_ (fun y hy => by rw [List.drop_of_length_le (by omega)] at hy; cases hy)
    rw [hd, List.take_of_length_le (by omega), List.drop_of_length_le (i := i) (l := ordO t i) (by omega), List.append_assoc, List.drop_eq_getElem_cons (i := i) (by simp; omega), List.getElem_range]
    rfl
def idF (n: Nat): Array (Fin n):=(List.finRange n).toArray
theorem valsF_id: valsF (idF n) = List.range n:=by
 unfold valsF idF
 apply List.ext_getElem?
 intro i
 by_cases h: i < n
 ·simp [h]
 ·simp [h]
theorem idF_size: (idF n).size = n:=by simp [idF]
theorem sort_ord [Inhabited (Fin n)] (hn: 1 <= n): valsF (Sort.insertionSort (ltOf (cmpF t)) (idF n) 0 n) = ordO t n:=by
 unfold Sort.insertionSort
 refine outer_ord (n - 1) 1 (idF n) rfl hn ?_
 rw [valsF_id]
 obtain ⟨m,rfl⟩: ∃ m,n = m + 1:=⟨n - 1,by omega⟩
 rw [List.range_succ_eq_map]
 rfl
theorem sort_still [Inhabited (Fin n)] (d: Array (Fin n)): Sort.insertionSort (ltOf (cmpF t)) d n n = d:=by
 unfold Sort.insertionSort Sort.insOuter
 rw [if_neg (by omega)]
end
theorem own_cell16 {w: World} {base g n c: Nat} {zs: List Int} (h: OwnI w base (.slice (some ⟨g,0,none⟩) n c) zs) {j: Nat} {z: Int} (hj: zs[j]? = some z): w.cell? ⟨g,j,none⟩ = some (.int .i64 z):=by
 obtain ⟨b,off,z',e,_,hx,hc⟩:=h.ints.at_ (k:=j) (List.getElem?_eq_some_iff.1 hj).1
 injection e with e
 injection e with e1 e2
 subst e1 e2
 rw [hx] at hj
 rw [<- Option.some.inj hj]
 simpa using hc
def totE (es: List Shp) (k: Nat): Int:=match es[k]? with | some s => s.t | none => 0
theorem totE_at {es: List Shp} {k: Nat} {t l m d p: Int} (h: es[k]? = some ⟨t,l,m,d,p⟩): totE es k = t:=by unfold totE; rw [h]
section
variable {A: Option Addr} {n c: Nat} {es: List Shp}
theorem byTot_any (p i j B: Nat) (w: World) (hn: es.length = n) (hl: n <= 1000) (hi: i < n) (hj: j < n) (hS: Shps w B A es) (hc: w.cell? ⟨p,0,none⟩ = some (.slice A n c)) :
  Calls Tryz.prog 176 #[.int .i64 i,.int .i64 j,.pointer (some ⟨p,0,none⟩)] w fun e w' => e = .returned (.int .i64 (cmpI (totE es j) (totE es i))) /\ ∃ q,w' = w.drewN q:=by
 obtain ⟨b1,o1,t1,l1,m1,d1,p1,rfl,_,h1,x1,x2,x3,x4,x5⟩:=hS.at_ (k:=i) (by omega)
 obtain ⟨b2,o2,t2,l2,m2,d2,p2,e,_,h2,y1,y2,y3,y4,y5⟩:=hS.at_ (k:=j) (by omega)
 injection e with e
 injection e with e1 e2
 subst e1 e2
 rw [totE_at h1,totE_at h2]
 have C:=Lib.hid (compare_any t2 t1)
 generalize cmpI t2 t1 = r at C ⊢
 clear hS h1 h2 x2 x3 x4 x5 y2 y3 y4 y5
 go_enter Tryz.func176,Tryz.ntmps176
 go_wp2
 go_quiet (first
  | (go_at_call 173; exact Calls.quiet_of_same (C.out _)))
 go_wp2
 go_ret
 exact ⟨rfl,_,rfl⟩
theorem cmpF_is (t: Nat -> Int) (x y: Fin n): cmpF t x y = cmpI (t y.val) (t x.val):=rfl
theorem nums_vals (d: Array (Fin n)): d.toList.map (fun x => (x.val: Int)) = nums (valsF d):=by unfold nums valsF; rw [List.map_map]; rfl
theorem insSort_any [Inhabited (Fin n)] {t: Nat -> Int} {B g cap a b fn: Nat} {cb: Array Value} {w0 w: World} {d: Array (Fin n)} (eg: ∀ args w,(callFunc fn args).run Tryz.prog w = .ok (.enter fn args) w) (hs: d.size = n) (hl: n <= 1000)
  (hO: OwnI w0 B (.slice (some ⟨g,0,none⟩) n cap) (nums (List.range n))) (hB: B <= w0.heap.size) (hp: ∀ W,Below g w0 W -> ∀ x y: Fin n,Calls Tryz.prog fn (#[.int .i64 (x.val: Int),.int .i64 (y.val: Int)] ++ cb) W fun e w' => e = .returned (.int .i64 (cmpF t x y)) /\ ∃ q,w' = W.drewN q)
  (hS: SW encF w0 g 0 d w) (hab: a <= b) (hb: b <= n) :
  Calls Tryz.prog 183 #[.slice (some ⟨g,0,none⟩) n cap,.int .i64 a,.int .i64 b,.func (.func fn) #[] cb] w fun e w' => e = .returned (.tuple #[]) /\ SW encF w0 g 0 (Sort.insertionSort (ltOf (cmpF t)) d a b) w':=by
 obtain ⟨cur,hgg,hgB,hnc,hcs⟩:=hO.blockC
 have hglt:=(Array.getElem?_eq_some_iff.1 hgg).1
 have hH: Sort.Holds encF w0 g 0 (idF n):=fun j hj => by
  rw [idF_size] at hj
  refine ⟨?_,hO.frozenC _⟩
  have h1: (nums (List.range n))[j]? = some (j: Int):=by simp [nums,hj]
  have h2:=own_cell16 hO h1
  rw [Nat.zero_add,h2]
  have h3:=valsF_at (d:=idF n) (i:=j) (by rw [idF_size]; exact hj)
  rw [valsF_id,List.getElem?_range hj] at h3
  unfold encF
  rw [<- Option.some.inj h3]
 have h:=Tryz.insertionSortCmpFunc_s encF (cmpF t) fn cb g 0 cap a b (idF n) d w0 w eg (fun m os dk hk x y => (hp _ (below_sortWorld encF w0 g m dk os (Nat.le_refl _) (Nat.le_of_lt hglt)) x y).mono fun e w' ⟨he,q,hq⟩ => ⟨he,q,#[],by rw [Sort.grow_empty]; exact hq⟩)
  ⟨fun x => rfl,hH,hglt⟩ (by rw [idF_size,hs]) hS hab (by omega) (by omega)
 rw [hs] at h
 exact h
theorem sw_srt [Inhabited (Fin n)] {B g cap: Nat} {w0 w: World} {d: Array (Fin n)} (hS: SW encF w0 g 0 d w) (hd: d.size = n) (hO: OwnI w0 B (.slice (some ⟨g,0,none⟩) n cap) (nums (List.range n))) (hg: g <= w0.heap.size): OwnI w B (.slice (some ⟨g,0,none⟩) n cap) (nums (valsF d)) /\ Below g w0 w:=by
 obtain ⟨m,os,rfl⟩:=hS
 refine ⟨?_,below_sortWorld encF w0 g m d os (Nat.le_refl _) hg⟩
 rw [<- nums_vals]
 exact own_sortWorld (f:=fun x: Fin n => (x.val: Int)) (fun _ => rfl) m d os (by simp [nums]) hd hO
theorem insSort_none (fn: Fn) (cb: Array Value) (g cap: Nat) (w: World) :
  Calls Tryz.prog 183 #[.slice (some ⟨g,0,none⟩) 0 cap,.int .i64 0,.int .i64 0,.func fn #[] cb] w fun e w' => e = .returned (.tuple #[]) /\ w' = w:=by
 go_enter Tryz.func183,Tryz.ntmps183
 go_wp2
 go_loopw [8] (fun v wr => v = .int .i64 1 /\ wr = w) (fun v _ => 0)
 case atStart => exact ⟨rfl,rfl⟩
 case round =>
  obtain ⟨rfl,rfl⟩:=hrel
  go_wp2
  go_end0
  exact ⟨rfl,rfl⟩
end
section
variable {A: Option Addr} {n c: Nat} {es: List Shp}
theorem stable_any {t: Nat -> Int} {B g cap fn: Nat} {cb: Array Value} {w0: World} (eg: ∀ args w,(callFunc fn args).run Tryz.prog w = .ok (.enter fn args) w) (hl: n <= 20)
  (hO: OwnI w0 B (.slice (some ⟨g,0,none⟩) n cap) (nums (List.range n))) (hB: B <= w0.heap.size) (hp: ∀ W,Below g w0 W -> ∀ x y: Fin n,Calls Tryz.prog fn (#[.int .i64 (x.val: Int),.int .i64 (y.val: Int)] ++ cb) W fun e w' => e = .returned (.int .i64 (cmpF t x y)) /\ ∃ q,w' = W.drewN q) :
  Calls Tryz.prog 182 #[.slice (some ⟨g,0,none⟩) n cap,.int .i64 n,.func (.func fn) #[] cb] w0 fun e w' => e = .returned (.tuple #[]) /\ OwnI w' B (.slice (some ⟨g,0,none⟩) n cap) (nums (ordO t n)) /\ Below g w0 w':=by
 obtain ⟨cur,hgg,hgB,hnc,hcs⟩:=hO.blockC
 have hglt:=Nat.le_of_lt (Array.getElem?_eq_some_iff.1 hgg).1
 rcases Nat.eq_zero_or_pos n with h0 | h0
 ·subst h0
  have HO:=Lib.hid hO
  have C:=Lib.hid (insSort_none (.func fn) cb g cap w0)
  clear hO hB hp hgg hgB hnc hcs hglt
  go_enter Tryz.func182,Tryz.ntmps182
  go_wp2
  go_loopw [7,8] (fun v u wr => v = .int .i64 0 /\ u = .int .i64 20 /\ wr = w0) (fun _ _ _ => 0)
  case atStart => exact ⟨rfl,rfl,rfl⟩
  case round =>
   obtain ⟨rfl,rfl,rfl⟩:=hrel
   go_wp2_with fail
   refine C.out.mono ?_
   rintro e w' ⟨rfl,rfl⟩
   go_wp2
   go_loopw [6] (fun v wr2 => v = .int .i64 20 /\ wr2 = w') (fun _ _ => 0)
   case atStart => exact ⟨rfl,rfl⟩
   case round =>
    obtain ⟨rfl,rfl⟩:=hrel
    go_wp2
    go_end0
    exact ⟨rfl,HO.out,Below.refl _ _⟩
 ·haveI: Inhabited (Fin n):=⟨⟨0,h0⟩⟩
  have S0: SW encF w0 g 0 (idF n) w0:=SW.start (fun j hj => by
   rw [idF_size] at hj
   refine ⟨?_,hO.frozenC _⟩
   have h1: (nums (List.range n))[j]? = some (j: Int):=by simp [nums,hj]
   have h2:=own_cell16 hO h1
   rw [Nat.zero_add,h2]
   have h3:=valsF_at (d:=idF n) (i:=j) (by rw [idF_size]; exact hj)
   rw [valsF_id,List.getElem?_range hj] at h3
   unfold encF
   rw [<- Option.some.inj h3])
  have hsz: (Sort.insertionSort (ltOf (cmpF t)) (idF n) 0 n).size = n:=by rw [<- valsF_len,sort_ord h0,ordO_len]
  have C1:=Lib.hid (insSort_any eg idF_size (by omega) hO hB hp S0 (Nat.zero_le n) (Nat.le_refl n))
  have C2:=Lib.hid (fun W hW => insSort_any (d:=Sort.insertionSort (ltOf (cmpF t)) (idF n) 0 n) (w:=W) eg hsz (by omega) hO hB hp hW (Nat.le_refl n) (Nat.le_refl n))
  have HE:=Lib.hid (fun W (hW: SW encF w0 g 0 (Sort.insertionSort (ltOf (cmpF t)) (idF n) 0 n) W) => sw_srt hW hsz hO hglt)
  rw [sort_ord h0] at HE
  rw [sort_still] at C2
  clear hO hB hp hgg hgB hnc hcs S0 hsz
  by_cases h20: n = 20
  ·have hz: (n: Int) = 20:=by omega
   rw [hz] at C1 C2
   rw [hz]
   clear hz h20
   go_enter Tryz.func182,Tryz.ntmps182
   go_wp2
   go_loopw [7,8] (fun v u wr => (v = .int .i64 0 /\ u = .int .i64 20 /\ wr = w0) \/ (v = .int .i64 20 /\ u = .int .i64 40 /\ Hid (SW encF w0 g 0 (Sort.insertionSort (ltOf (cmpF t)) (idF n) 0 n) wr))) (fun _ u _ => 60 - (intOf u).toNat)
   case atStart => exact .inl ⟨rfl,rfl,rfl⟩
   case round =>
    rcases hrel with ⟨rfl,rfl,rfl⟩ | ⟨rfl,rfl,HS⟩
    ·go_wp2_with fail
     refine C1.out.mono ?_
     rintro e w1 ⟨rfl,hS1⟩
     have HS1:=Lib.hid hS1
     clear hS1
     go_wp2
     go_roundw
     case rel => exact .inr ⟨rfl,rfl,HS1⟩
     case measure => simp [intOf]
    ·go_wp2_with fail
     refine (C2.out _ HS.out).mono ?_
     rintro e w1 ⟨rfl,hS1⟩
     have HS1:=Lib.hid hS1
     clear hS1
     go_wp2
     go_loopw [6] (fun v wr2 => v = .int .i64 20 /\ wr2 = w1) (fun _ _ => 0)
     case atStart => exact ⟨rfl,rfl⟩
     case round =>
      obtain ⟨rfl,rfl⟩:=hrel
      go_wp2
      go_end0
      exact ⟨rfl,HE.out _ HS1.out⟩
  ·have hlt: n < 20:=by omega
   go_enter Tryz.func182,Tryz.ntmps182
   go_wp2
   go_loopw [7,8] (fun v u wr => v = .int .i64 0 /\ u = .int .i64 20 /\ wr = w0) (fun _ _ _ => 0)
   case atStart => exact ⟨rfl,rfl,rfl⟩
   case round =>
    obtain ⟨rfl,rfl,rfl⟩:=hrel
    go_wp2_with fail
    refine C1.out.mono ?_
    rintro e w1 ⟨rfl,hS1⟩
    have HS1:=Lib.hid hS1
    clear hS1
    go_wp2
    go_loopw [6] (fun v wr2 => v = .int .i64 20 /\ wr2 = w1) (fun _ _ => 0)
    case atStart => exact ⟨rfl,rfl⟩
    case round =>
     obtain ⟨rfl,rfl⟩:=hrel
     go_wp2
     go_end0
     exact ⟨rfl,HE.out _ HS1.out⟩
end
def idL (n k: Nat): List Int:=nums (List.range k) ++ List.replicate (n - k) 0
theorem idL_len {n k: Nat} (h: k <= n): (idL n k).length = n:=by simp [idL,nums]; omega
theorem idL_set {n k: Nat} (h: k < n): (idL n k).set k (k: Int) = idL n (k + 1):=by
 unfold idL
 rw [List.set_append_right _ _ (by simp [nums])]
 obtain ⟨m,hm⟩: ∃ m,n - k = m + 1:=⟨n - k - 1,by omega⟩
 rw [hm,List.replicate_succ]
 have: n - (k + 1) = m:=by omega
 rw [this,show (nums (List.range k)).length = k by simp [nums],Nat.sub_self,List.range_succ]
 simp [nums]
theorem idL_all (n: Nat): idL n n = nums (List.range n):=by simp [idL]
section
variable {A: Option Addr} {n c: Nat} {es: List Shp}
theorem sortStable_any {t: Nat -> Int} {B g cap fn: Nat} {cb: Array Value} {w0: World} (eg: ∀ args w,(callFunc fn args).run Tryz.prog w = .ok (.enter fn args) w) (hl: n <= 20)
  (hO: OwnI w0 B (.slice (some ⟨g,0,none⟩) n cap) (nums (List.range n))) (hB: B <= w0.heap.size) (hp: ∀ W,Below g w0 W -> ∀ x y: Fin n,Calls Tryz.prog fn (#[.int .i64 (x.val: Int),.int .i64 (y.val: Int)] ++ cb) W fun e w' => e = .returned (.int .i64 (cmpF t x y)) /\ ∃ q,w' = W.drewN q) :
  Calls Tryz.prog 175 #[.slice (some ⟨g,0,none⟩) n cap,.func (.func fn) #[] cb] w0 fun e w' => e = .returned (.tuple #[]) /\ OwnI w' B (.slice (some ⟨g,0,none⟩) n cap) (nums (ordO t n)) /\ Below g w0 w':=by
 have C:=Lib.hid (stable_any eg hl hO hB hp)
 clear hO hB hp
 go_enter Tryz.func175,Tryz.ntmps175
 go_wp2_with fail
 refine C.out.mono ?_
 rintro e w' ⟨rfl,h⟩
 have H:=Lib.hid h
 clear h
 go_wp2
 go_end0
 exact ⟨rfl,H.out⟩
theorem order_any (w: World) (hn: es.length = n) (hl: n <= 20) (hS: Shps w w.heap.size A es) :
  Calls Tryz.prog 157 #[.slice A n c] w fun e w' => ∃ g,e = .returned (.slice (some ⟨g,0,none⟩) n n) /\ OwnI w' w.heap.size (.slice (some ⟨g,0,none⟩) n n) (nums (ordO (totE es) n)) /\ Below w.heap.size w w':=by
 obtain ⟨w0,hw0⟩: ∃ w0,w0 = w.alloc (.cells #[.slice A n c] 25):=⟨_,rfl⟩
 have hb0: Below w.heap.size w w0:=by rw [hw0]; exact below_alloc _
 have hrow: RowV w.heap.size 25 [.slice A n c] w0:=by rw [hw0]; exact RowV.new w _ _
 have c0:=hrow.cell (j:=0) rfl
 have hmk:=make_ints16 n (by omega) w0
 have hs0: w0.heap.size = w.heap.size + 1:=by rw [hw0]; simp
 obtain ⟨w1,hw1⟩: ∃ w1,w1 = w0.alloc (.cells (List.replicate n (Value.int .i64 0)).toArray 3):=⟨_,rfl⟩
 obtain ⟨g,hg⟩: ∃ g,g = w0.heap.size:=⟨_,rfl⟩
 have hb1: Below g w0 w1:=by rw [hw1,hg]; exact below_alloc _
 have HO1: Hid (OwnI w1 w.heap.size (.slice (some ⟨g,0,none⟩) n n) (idL n 0)):=Lib.hid (by
  have h:=heap_alloc_new w0 (.cells (List.replicate n (Value.int .i64 0)).toArray 3)
  rw [<- hw1,<- hg] at h
  have e: idL n 0 = List.replicate n 0:=by simp [idL,nums]
  rw [e]
  unfold OwnI
  rw [List.length_replicate,List.map_replicate]
  exact ⟨by simp,.inr ⟨g,n,_,rfl,by omega,h,Nat.le_refl _,by unfold maxLen; omega,by simp,by simp⟩⟩)
 rw [<- hg,<- hw1] at hmk
 have HB01:=Lib.hid hb1
 have HG:=Lib.hid (show g = w.heap.size + 1 by omega)
 have HW:=Lib.hid hw0
 have HB0:=Lib.hid hb0
 have KC:=Lib.hid (fun (W2: World) (h2: Below g w0 W2) W (h: Below g W2 W) (x y: Fin n) => byTot_any (c:=c) w.heap.size x.val y.val w.heap.size W hn (by omega) x.isLt y.isLt (hS.below (hb0.trans ((h2.trans h).mono (by omega)))) (((h2.trans h).cell (p:=⟨w.heap.size,0,none⟩) (show w.heap.size < g by omega)).trans c0))
 clear hw0 hb0 hrow hs0 hw1 hg hb1 hn hS
 go_enter Tryz.func157,Tryz.ntmps157
 go_wp2_with fail
 rw [<- HW.out,hmk]
 go_wp2
 go_loopw [10] (fun v wr => ∃ k: Nat,k <= n /\ v = .int .i64 k /\ Hid (OwnI wr w.heap.size (.slice (some ⟨g,0,none⟩) n n) (idL n k)) /\ Hid (Below g w0 wr)) (fun v _ => n - (intOf v).toNat)
 case atStart => exact ⟨0,Nat.zero_le _,rfl,HO1,HB01⟩
 case round =>
  clear HO1 HB01
  obtain ⟨k,hk,rfl,HO,HB⟩:=hrel
  by_cases hlt: k < n
  ·obtain ⟨zz,hzz⟩:=HO.out.cellC (j:=k) (by rw [idL_len hk]; exact hlt)
   have hfz:=HO.out.frozenC k
   have HN:=Lib.hid (ownI_setC HO.out (j:=k) (by rw [idL_len hk]; exact hlt) (k: Int))
   rw [idL_set hlt] at HN
   have HBN:=Lib.hid (HB.out.setCell (p:=⟨g,k,none⟩) (Nat.le_refl _) (.int .i64 (k: Int)))
   go_wp2
   go_roundw
   case rel => exact ⟨k + 1,by omega,by go_num,HN,HBN⟩
   case measure => simp [intOf]; omega
  ·obtain rfl: n = k:=by omega
   rw [idL_all] at HO
   have CS:=Lib.hid (sortStable_any (t:=totE es) (B:=w.heap.size) (g:=g) (cap:=n) (cb:=#[.pointer (some ⟨w.heap.size,0,none⟩)]) (eg_of Tryz.func176 (by kernel_rfl) rfl) hl HO.out (Nat.le_trans HB0.out.size HB.out.size) (fun W h x y => by
    rw [cmpF_is]
    exact KC.out wr HB.out W h x y))
   go_wp2_with fail
   refine CS.out.mono ?_
   rintro e w2 ⟨rfl,ho,b⟩
   have HO2:=Lib.hid ho
   have HB2:=Lib.hid (HB0.out.trans ((HB.out.trans b).mono (by rw [HG.out]; omega)))
   clear ho b
   go_wp2
   go_ret
   exact ⟨g,rfl,HO2.out,HB2.out⟩
end
end Go.Proofs.YtlfekmbalgkmeaaGreatDoor
