import Derived.Test.YtfpnkcpjhbkgnaaGreatDoorZM7
import Derived.Test.YtfpnkcpjhbkgnaaGreatDoorZM4
import Derived.Laws.MakeOwn
import Derived.Deep.RegionWith
set_option linter.unusedSimpArgs false
set_option linter.unusedVariables false
set_option maxRecDepth 100000
set_option maxHeartbeats 8000000
namespace Go.Proofs.YtfpnkcpjhbkgnaaGreatDoor
open Go.RowKit
theorem total_add (z s: Int) (b: Nat) (w: World) (h0: 0 <= s + z) (h1: s + z <= 1000000) (hV: RowV b 3 [.int .i64 s] w) :
  Calls Tryz.prog 78 #[.int .i64 z,.pointer (some ⟨b,0,none⟩)] w fun e w' => e = .returned (.tuple #[]) /\ w' = w.setCell ⟨b,0,none⟩ (.int .i64 (s + z)):=by
 have hc:=hV.cell (j:=0) rfl
 have hf:=hV.frozen 0
 have hb:=hV.lt
 clear hV
 go_enter Tryz.func78,Tryz.ntmps78
 go_wp2
 go_end0
 exact ⟨rfl,rfl⟩
section
variable {A: Option Addr} {n c: Nat} {F: Option Addr} {m d: Nat} {W: List Int} {E: List (Int × Int)}
theorem total_done (w: World) (h: IsG w A n c F m d W E) :
  Calls Tryz.prog 37 #[.agg #[.slice A n c,.slice F m d]] w fun e w' => e = .returned (.int .i64 (totalV W E)) /\ Below w.heap.size w w':=by
 have H:=Lib.hid h
 have C:=Lib.hid (fun w' (h: IsG w' A n c F m d W E) => check_done w' h)
 by_cases hM: May W E
 ·have hn64: n <= 64:=by rw [<- h.hn]; exact hM.nodes
  have HW:=Lib.hid hM.work
  rw [chkE_zero.mpr hM] at C
  have HT:=Lib.hid (show totalV W E = W.sum by unfold totalV; rw [if_pos hM])
  obtain ⟨r,hr⟩: ∃ r,r = totalV W E:=⟨_,rfl⟩
  rw [<- hr] at HT ⊢
  obtain ⟨w0,hw0⟩: ∃ w0,w0 = w.alloc (.cells #[.slice A n c,.slice F m d] 25):=⟨_,rfl⟩
  have HW0:=Lib.hid hw0
  have HN:=Lib.hid h.hn
  clear h hM hr hw0
  go_enter Tryz.func37,Tryz.ntmps37
  go_wp2_with fail
  refine (C.out _ (H.out.below (below_alloc _))).mono ?_
  rintro e w1 ⟨rfl,b⟩
  have HB:=Lib.hid (show Below w0.heap.size w0 w1 by rw [HW0.out]; exact b)
  have HG:=Lib.hid ((H.out.below (below_alloc _)).below b)
  have hs1: w.heap.size < w1.heap.size:=by have:=b.size; simp at this; exact this
  have hbox0: w1.cell? ⟨w.heap.size,0,none⟩ = some (.slice A n c):=(b.cell (by simp)).trans (by rw [World.cell?_alloc_at _ _ _ _ rfl]; rfl)
  clear b
  go_wp2
  have H0: Hid (RowV w1.heap.size 3 [.int .i64 0] (w1.alloc (.cells #[.int .i64 0] 3))):=Lib.hid (RowV.new w1 3 [.int .i64 0])
  go_loopw [14] (fun i wr => ∃ (j: Nat) (q: Int),j <= n /\ i = .int .i64 j /\ 0 <= q /\ q <= 1000 * j /\ Hid (q = (W.take j).sum) /\ Hid (RowV w1.heap.size 3 [.int .i64 q] wr) /\ Hid (Below w1.heap.size w1 wr)) (fun i _ => n - (intOf i).toNat)
  case atStart => exact ⟨0,0,Nat.zero_le _,rfl,by omega,by omega,Lib.hid (by simp),H0,Lib.hid (below_alloc _)⟩
  case round =>
   obtain ⟨j,q,hj,rfl,hq0,hq1,hqe,HV,HB1⟩:=hrel
   clear H0
   have hbl:=HV.out.lt
   by_cases hlt: j < n
   ·obtain ⟨bk,o,z,rfl,hbg,hzj,hc1⟩:=HG.out.ints.at_ (k:=j) (by rw [HN.out]; exact hlt)
    have hd1: wr.cell? ⟨bk,o + j,none⟩ = some (.int .i64 z):=(HB1.out.cell hbg).trans hc1
    obtain ⟨z0,z1⟩:=HW.out z (List.mem_of_getElem? hzj)
    have HQ:=Lib.hid (show q + z = (W.take (j + 1)).sum by rw [take_snoc' hzj,List.sum_append,hqe.out]; simp)
    have C2:=Lib.hid (total_add z q w1.heap.size wr (by omega) (by omega) HV.out)
    clear hzj hc1
    go_wp2_with (go_at_call 78; refine C2.out.mono ?_; rintro e w3 ⟨rfl,rfl⟩)
    go_roundw
    case rel => exact ⟨j + 1,q + z,by omega,by go_num,by omega,by omega,HQ,Lib.hid (HV.out.set 0 (.int .i64 (q + z))),Lib.hid (HB1.out.setCell (Nat.le_refl _) _)⟩
    case measure => simp [intOf]; omega
   ·obtain rfl: j = n:=by omega
    have hl2: W.take j = W:=List.take_of_length_le (by rw [HN.out]; omega)
    rw [hl2] at hqe
    have hc:=HV.out.cell (j:=0) rfl
    go_wp2
    go_ret
    exact ⟨by rw [HT.out,<- hqe.out]; rfl,(below_alloc _).trans (by rw [<- HW0.out]; exact (HB.out.trans (HB1.out.mono HB.out.size)).mono (by rw [HW0.out]; simp))⟩
 ·have HO: totalV W E = 0:=by unfold totalV; rw [if_neg hM]
  rw [HO]
  have hc: (chkE W E != 0) = true:=by
   rw [bne_iff_ne]
   exact fun q => hM (chkE_zero.mp q)
  obtain ⟨r,hr⟩: ∃ r,r = chkE W E:=⟨_,rfl⟩
  rw [<- hr] at C hc
  clear h hM hr HO
  go_enter Tryz.func37,Tryz.ntmps37
  go_wp2_with fail
  refine (C.out _ (H.out.below (below_alloc _))).mono ?_
  rintro e w1 ⟨rfl,b⟩
  have HB:=Lib.hid ((below_alloc _).trans (b.mono (by simp)))
  clear b
  go_wp2
  go_ret
  exact ⟨rfl,HB.out⟩
end
theorem succsL_bits {n T: Nat} {E: List (Int × Int)} (hn: n <= 64) (hF: Fits n E) {y: Nat} (h: ∀ a,T.testBit a = (decide (a < n) && decide (ed E y a))): succsL n E y = nums (bitsL T):=by
 rw [bitsL_of hn h (fun a ha => by rw [Bool.and_eq_true,decide_eq_true_iff] at ha; exact ha.1)]
 unfold succsL
 apply List.filter_congr
 intro a ha
 obtain ⟨b,hb,rfl⟩:=List.mem_map.mp ha
 have hb2:=List.mem_range.mp hb
 show decide _ = (decide (b < n) && decide (ed E y b))
 rw [decide_eq_true hb2,Bool.true_and]
 rfl
theorem succ_step {T y j: Nat} {E: List (Int × Int)} (h: ∀ a,T.testBit a = (decide (a < j) && decide (ed E y a))) (he: ed E y j) (a: Nat): (T ||| 2 ^ j).testBit a = (decide (a < j + 1) && decide (ed E y a)):=by
 rw [or_bit_testBit,h,Bool.eq_iff_iff]
 simp only [Bool.or_eq_true,Bool.and_eq_true,decide_eq_true_iff]
 constructor
 ·rintro (⟨k1,k2⟩ | k)
  ·exact ⟨by omega,k2⟩
  ·exact ⟨by omega,k ▸ he⟩
 ·rintro ⟨k1,k2⟩
  by_cases hj: j = a
  ·exact .inr hj
  ·exact .inl ⟨by omega,k2⟩
theorem succ_skip {T y j: Nat} {E: List (Int × Int)} (h: ∀ a,T.testBit a = (decide (a < j) && decide (ed E y a))) (he: ¬ ed E y j) (a: Nat): T.testBit a = (decide (a < j + 1) && decide (ed E y a)):=by
 rw [h,Bool.eq_iff_iff]
 simp only [Bool.and_eq_true,decide_eq_true_iff]
 constructor
 ·rintro ⟨k1,k2⟩
  exact ⟨by omega,k2⟩
 ·rintro ⟨k1,k2⟩
  by_cases hj: j = a
  ·exact absurd (hj ▸ k2) he
  ·exact ⟨by omega,k2⟩
section
variable {A: Option Addr} {n c: Nat} {F: Option Addr} {m d: Nat} {W: List Int} {E: List (Int × Int)}
end
theorem nums_get {l : List Nat} {j : Nat} {z : Int} (h : (nums l)[j]? = some z) : ∃ x : Nat, z = (x : Int) /\ l[j]? = some x := by
  unfold nums at h
  rw [List.getElem?_map] at h
  cases hx : l[j]? with
  | none => rw [hx] at h; cases h
  | some x =>
    rw [hx] at h
    exact ⟨x, (Option.some.inj h).symm, rfl⟩
def Behind (E: List (Int × Int)) (a: Nat) (met: List Nat) (T: Nat): Prop:=∀ x,T.testBit x = true ↔ x ∈ met /\ Way E a x
section
variable {A: Option Addr} {n c: Nat} {F: Option Addr} {m d: Nat} {W: List Int} {E: List (Int × Int)}
end
def intsV (l: List Int): List Value:=l.map (Value.int .i64)
theorem intsV_at {l: List Int} {j: Nat} (h: j < l.length): (intsV l)[j]? = some (.int .i64 (l.getD j 0)):=by
 unfold intsV
 rw [List.getElem?_map,List.getElem?_eq_getElem h,List.getD_eq_getElem?_getD,List.getElem?_eq_getElem h]
 rfl
theorem intsV_set (l: List Int) (j: Nat) (z: Int): intsV (l.set j z) = (intsV l).set j (.int .i64 z):=by unfold intsV; rw [List.map_set]
theorem make_ints (n: Nat) (hn: n <= 1000) (W: World): (Instr.makeSlice 22 (.int .i64 n) (.int .i64 n)).run Tryz.prog W = .ok (.slice (some ⟨W.heap.size,0,none⟩) n n) (W.alloc (.cells (List.replicate n (Value.int .i64 0)).toArray 3)):=by
 obtain ⟨i0,hi,hz0,hz1,hz2⟩:=info_parts int_cell_info
 have h:=run_make (P:=Tryz.prog) W 22 3 i0 (.int .i64 0) Tryz.underlying22 hi hz0 .i64 .i64 n n (by omega) (by omega) (by rw [hz2]; omega) (by omega)
 rw [hz1] at h
 have e: madeCells (Value.int .i64 0).cells (((n: Int)).toNat * 1) = (List.replicate n (Value.int .i64 0)).toArray:=by
  apply Array.toList_inj.mp
  rw [show (Value.int .i64 0).cells = #[Value.int .i64 0] from rfl,toList_madeCells_one]
  simp
 rw [e] at h
 exact h
theorem most_spec (l: List Int): 0 <= most l /\ (∀ x ∈ l,x <= most l) /\ (most l = 0 \/ most l ∈ l):=foldl_max l 0
theorem most_sub {l l': List Int} (h: ∀ x ∈ l,x ∈ l'): most l <= most l':=by
 rcases (most_spec l).2.2 with k | k
 ·rw [k]; exact (most_spec l').1
 ·exact (most_spec l').2.1 _ (h _ k)
theorem most_same {l l': List Int} (h: ∀ x,x ∈ l ↔ x ∈ l'): most l = most l':=Int.le_antisymm (most_sub fun x hx => (h x).mp hx) (most_sub fun x hx => (h x).mpr hx)
def farAt (W: List Int) (E: List (Int × Int)) (x: Nat): Int:=(farK W E W.length).getD x 0
theorem far_step {W : List Int} {E : List (Int × Int)} (hF : Fits W.length E) (hA : Acyc E) {x : Nat} (hx : x < W.length) {l : List Nat} (hl : ∀ a, a ∈ l ↔ ed E a x) :
    farAt W E x = most (l.map (farAt W E)) + W.getD x 0 := by
  obtain ⟨m0, m1, m2⟩ := most_spec (l.map (farAt W E))
  have hS := farK_sound hF W.length
  apply Int.le_antisymm
  · obtain ⟨r, h1, h2, h3⟩ := hS.2 x hx
    have e : farAt W E x = wsum W (x :: r) := h3.symm
    rw [e]
    cases r with
    | nil =>
      simp only [wsum, List.map_cons, List.map_nil, List.sum_cons, List.sum_nil]
      omega
    | cons a r =>
      have hn := length_below W.length (x :: a :: r) (h1.nodup hA) h2
      simp only [List.length_cons] at hn
      have h4 : wsum W (a :: r) <= farAt W E a := farK_takes hF W.length a r h1.2 (by omega)
      have h5 := m1 (farAt W E a) (List.mem_map.mpr ⟨a, (hl a).mpr h1.1, rfl⟩)
      simp only [wsum, List.map_cons, List.sum_cons] at h4 ⊢
      omega
  · rcases m2 with k | k
    · have h4 := farK_takes (W := W) hF W.length x [] trivial (by simp)
      simp only [wsum, List.map_cons, List.map_nil, List.sum_cons, List.sum_nil] at h4
      show _ <= (farK W E W.length).getD x 0
      omega
    · obtain ⟨a, ha, he⟩ := List.mem_map.mp k
      have hed := (hl a).mp ha
      obtain ⟨r, h1, h2, h3⟩ := hS.2 a (ed_lt hF hed).1
      have hup : Up E (x :: a :: r) := ⟨hed, h1⟩
      have hin : In W.length (x :: a :: r) := fun y hy => by
        rcases List.mem_cons.mp hy with rfl | hy
        · exact hx
        · exact h2 y hy
      have hn := length_below W.length (x :: a :: r) (hup.nodup hA) hin
      simp only [List.length_cons] at hn
      have h4 := farK_takes (W := W) hF W.length x (a :: r) hup (by simp; omega)
      rw [<- he]
      show (farK W E W.length).getD a 0 + _ <= (farK W E W.length).getD x 0
      rw [<- h3]
      simp only [wsum, List.map_cons, List.sum_cons] at h4 ⊢
      omega
theorem far_bound {W: List Int} {E: List (Int × Int)} (hF: Fits W.length E) (hA: Acyc E) (hW: WorkOk W) {x: Nat} (hx: x < W.length): 0 <= farAt W E x /\ farAt W E x <= 1000 * W.length:=by
 have:=far_in hF hA hW W.length 0 x hx
 exact this
theorem long_order {W: List Int} {E: List (Int × Int)} {out: List Nat} (h: ∀ x,x ∈ out ↔ x < W.length): most (out.map (farAt W E)) = most (farK W E W.length):=by
 apply most_same
 intro z
 constructor
 ·intro hz
  obtain ⟨x,hx,rfl⟩:=List.mem_map.mp hz
  have hl: x < (farK W E W.length).length:=by rw [farK_length]; exact (h x).mp hx
  unfold farAt
  rw [List.getD_eq_getElem?_getD,List.getElem?_eq_getElem hl]
  exact List.getElem_mem hl
 ·intro hz
  obtain ⟨x,hx,rfl⟩:=List.getElem_of_mem hz
  refine List.mem_map.mpr ⟨x,(h x).mpr (by rw [farK_length] at hx; exact hx),?_⟩
  unfold farAt
  rw [List.getD_eq_getElem?_getD,List.getElem?_eq_getElem hx]
  rfl
structure StL (b0 gb vb ub g n c: Nat) (A: Option Addr) (A': Option Addr) (W: List Int) (ol: List Int) (ps: List Nat) (us: List Int) (w': World): Prop where
 d0: w'.cell? ⟨b0,0,none⟩ = some (.slice A n c)
 g0: w'.cell? ⟨gb,0,none⟩ = some (.slice (some ⟨g,0,none⟩) n n)
 v0: w'.cell? ⟨vb,0,none⟩ = some (.slice (some ⟨ub,0,none⟩) n n)
 row: RowN g ps w'
 up: RowV ub 3 (intsV us) w'
 ints: Ints w' ub A W
 out: Ints w' ub A' ol
 tab: Tab64 w'
 lb: b0 < ub
 lg: gb < ub
 lr: g < ub
 lt: 0 < ub
 lv: ub < vb
section
variable {b0 gb vb ub g n c: Nat} {A A': Option Addr} {W: List Int} {E: List (Int × Int)} {ol: List Int} {ps: List Nat} {us: List Int}
theorem StL.next {w1 w2 : World} (h : StL b0 gb vb ub g n c A A' W ol ps us w1) (hb : Below w1.heap.size w1 w2) : StL b0 gb vb ub g n c A A' W ol ps us w2 :=
  ⟨(hb.cell (World.block_lt_of_cell? _ _ h.d0)).trans h.d0, (hb.cell (World.block_lt_of_cell? _ _ h.g0)).trans h.g0, (hb.cell (World.block_lt_of_cell? _ _ h.v0)).trans h.v0, h.row.below hb h.row.lt, h.up.below hb h.up.lt,
    h.ints.below (hb.mono (Nat.le_of_lt h.up.lt)), h.out.below (hb.mono (Nat.le_of_lt h.up.lt)), h.tab.via hb, h.lb, h.lg, h.lr, h.lt, h.lv⟩
theorem StL.store {w1: World} (h: StL b0 gb vb ub g n c A A' W ol ps us w1) (j: Nat) (z: Int): StL b0 gb vb ub g n c A A' W ol ps (us.set j z) (w1.setCell ⟨ub,j,none⟩ (.int .i64 z)):=by
 have hb: Below ub w1 (w1.setCell ⟨ub,j,none⟩ (.int .i64 z)):=(Below.refl ub w1).setCell (Nat.le_refl _) _
 refine ⟨(hb.cell h.lb).trans h.d0,(hb.cell h.lg).trans h.g0,(World.cell?_setCell_other _ _ _ _ ?_).trans h.v0,h.row.below hb h.lr,by rw [intsV_set]; exact h.up.set j _,h.ints.below hb,h.out.below hb,h.tab.below hb h.lt,h.lb,h.lg,h.lr,h.lt,h.lv⟩
 intro e
 have h1: ub = vb:=congrArg Addr.block e
 have:=h.lv
 omega
theorem StL.cells {w': World} (h: StL b0 gb vb ub g n c A A' W ol ps us w'): w'.cell? ⟨b0,0,none⟩ = some (.slice A n c) /\ w'.cell? ⟨gb,0,none⟩ = some (.slice (some ⟨g,0,none⟩) n n) /\ w'.cell? ⟨vb,0,none⟩ = some (.slice (some ⟨ub,0,none⟩) n n):=⟨h.d0,h.g0,h.v0⟩
theorem sum_any (x: Nat) (w: World) (hn: W.length = n) (hl: n <= 64) (hx: x < n) (hF: Fits n E) (hW: WorkOk W) (hPS: PredsOf n E ps) (hus: us.length = n) (hub: ∀ y,y < n -> 0 <= us.getD y 0 /\ us.getD y 0 <= 64000) (h: StL b0 gb vb ub g n c A A' W ol ps us w) :
  Calls Tryz.prog 103 #[.int .i64 x,.pointer (some ⟨gb,0,none⟩),.pointer (some ⟨vb,0,none⟩),.pointer (some ⟨b0,0,none⟩)] w fun e w' => e = .returned (.int .i64 (most ((bitsL (ps.getD x 0)).map fun p => us.getD p 0) + W.getD x 0)) /\ Below w.heap.size w w':=by
 obtain ⟨z,hz⟩: ∃ z,W[x]? = some z:=⟨_,List.getElem?_eq_getElem (by rw [hn]; exact hx)⟩
 have hzd: W.getD x 0 = z:=by rw [List.getD_eq_getElem?_getD,hz]; rfl
 have hz2:=hW z (List.mem_of_getElem? hz)
 rw [hzd]
 have hrow:=h.row.cell (natsV_at (ps:=ps) (j:=x) (by rw [hPS.len]; exact hx))
 have C:=Lib.hid (set_row (ps.getD x 0) w (hPS.lt x hx) h.tab)
 have HMEM:=Lib.hid (fun p (hp: p ∈ bitsL (ps.getD x 0)) => (ed_lt hF (of_decide_eq_true ((hPS.bit x hx p).symm.trans (mem_bitsL.mp hp).2))).1)
 have HLEN:=Lib.hid (bitsL_length (ps.getD x 0))
 obtain ⟨l,hll⟩: ∃ l,l = bitsL (ps.getD x 0):=⟨_,rfl⟩
 obtain ⟨p0,hp0⟩: ∃ p,p = ps.getD x 0:=⟨_,rfl⟩
 rw [<- hll] at C HMEM HLEN ⊢
 rw [<- hp0] at C hrow
 obtain ⟨lf,hlf⟩: ∃ lf,lf = l.map fun p => us.getD p 0:=⟨_,rfl⟩
 have HLF:=Lib.hid hlf
 rw [<- hlf]
 obtain ⟨k,hk⟩: ∃ k,k = l.length:=⟨_,rfl⟩
 have HK:=Lib.hid hk
 have HKN:=Lib.hid (show (nums l).length = k by rw [nums_length,hk])
 have HFK:=Lib.hid (show lf.length = k by rw [hlf,List.length_map,hk])
 obtain ⟨mv,hmv⟩: ∃ mv,mv = most lf:=⟨_,rfl⟩
 rw [<- hmv]
 have HMV:=Lib.hid hmv
 have hk64: k <= 64:=by rw [hk]; exact HLEN.out
 have HS:=Lib.hid h
 have HZ:=Lib.hid hz
 have HN:=Lib.hid hn
 have HUS:=Lib.hid hus
 have HUB:=Lib.hid hub
 obtain ⟨c1,c2,c3⟩:=h.cells
 have hgl:=h.row.lt
 clear hF hW hPS hus hub h hz hzd hn hll hp0 hlf hk hmv
 go_enter Tryz.func103,Tryz.ntmps103
 go_wp2_with (go_at_call 104; refine C.out.mono ?_; rintro e w1 ⟨A3,c3',rfl,hI,b⟩; have HI:=Lib.hid hI; have HB:=Lib.hid b; have HNL: (nums l).length = k:=HKN.out; clear hI b)
 have HS1:=Lib.hid (HS.out.next HB.out)
 clear c1 c2 c3 hgl hrow C
 obtain ⟨c1,c2,c3⟩:=HS1.out.cells
 go_loop [6,16] (fun s i => ∃ (j: Nat) (v: Int),j <= k /\ i = .int .i64 j /\ 0 <= v /\ v <= 64000 /\ Hid (v = most (lf.take j)) /\ s = .int .i64 v) (fun _ i => k - (intOf i).toNat)
 case atStart => exact ⟨0,0,Nat.zero_le _,by simp,by omega,by omega,Lib.hid rfl,rfl⟩
 case round =>
  obtain ⟨j,v,hj,rfl,hv0,hv1,hve,rfl⟩:=hrel
  by_cases hlt: j < k
  ·obtain ⟨bk,o,q,rfl,hbg,hqj,hc1⟩:=HI.out.at_ (k:=j) (by rw [HKN.out]; exact hlt)
   obtain ⟨p,rfl,hp⟩:=nums_get hqj
   have hpn:=HMEM.out p (List.mem_of_getElem? hp)
   have hcu:=HS1.out.up.cell (intsV_at (l:=us) (j:=p) (by rw [HUS.out]; exact hpn))
   have hub:=HUB.out p hpn
   have hfj: lf[j]? = some (us.getD p 0):=by rw [HLF.out,List.getElem?_map,hp]; rfl
   have HMS:=Lib.hid (most_snoc hfj)
   have hul:=HS1.out.up.lt
   obtain ⟨u,hu⟩: ∃ u,u = us.getD p 0:=⟨_,rfl⟩
   rw [<- hu] at hcu hub HMS
   clear hqj hp hfj hu
   by_cases hvz: v < u
   ·have HMX:=Lib.hid (show u = most (lf.take (j + 1)) by rw [HMS.out,<- hve.out,Int.max_eq_right (by omega)])
    go_wp2
    go_round
    case rel => exact ⟨j + 1,u,by omega,by go_num,by omega,by omega,HMX,by first | rfl | (simp; omega)⟩
    case measure => simp [intOf]; omega
   ·have HMX:=Lib.hid (show v = most (lf.take (j + 1)) by rw [HMS.out,<- hve.out,Int.max_eq_left (by omega)])
    go_wp2
    go_round
    case rel => exact ⟨j + 1,v,by omega,by go_num,by omega,by omega,HMX,by first | rfl | (simp; omega)⟩
    case measure => simp [intOf]; omega
  ·obtain rfl: j = k:=by omega
   have hl2: lf.take j = lf:=List.take_of_length_le (by rw [HFK.out]; omega)
   rw [hl2] at hve
   obtain ⟨bw,ow,z2,hA2,hbw,hzx,hcz⟩:=HS1.out.ints.at_ (k:=x) (by rw [HN.out]; exact hx)
   obtain rfl: z2 = z:=by
    have:=HZ.out
    rw [hzx] at this
    exact Option.some.inj this
   subst hA2
   clear hzx
   go_wp2
   go_ret
   exact ⟨by rw [HMV.out,<- hve.out]; rfl,HB.out⟩
end
section
variable {A: Option Addr} {n c: Nat} {F: Option Addr} {m d: Nat} {W: List Int} {E: List (Int × Int)}
theorem preds_far {ps: List Nat} {us: List Int} {out: List Nat} (hO: Ordered n E out) (hP: PredsOf n E ps) (hn: n <= 64) (hF: Fits n E) {j x: Nat} (hx: out[j]? = some x) (hu: ∀ y ∈ out.take j,us.getD y 0 = farAt W E y) :
  ((bitsL (ps.getD x 0)).map fun p => us.getD p 0) = (bitsL (ps.getD x 0)).map (farAt W E):=by
 apply List.map_congr_left
 intro p hp
 have hxn: x < n:=hO.lt x (List.mem_of_getElem? hx)
 have he: ed E p x:=of_decide_eq_true ((hP.bit x hxn p).symm.trans (mem_bitsL.mp hp).2)
 obtain ⟨hj,e⟩:=List.getElem?_eq_some_iff.mp hx
 exact hu p (hO.behind j hj p (by rw [e]; exact he))
theorem mem_preds {ps: List Nat} (hP: PredsOf n E ps) (hn: n <= 64) (hF: Fits n E) {x: Nat} (hx: x < n) (a: Nat): a ∈ bitsL (ps.getD x 0) ↔ ed E a x:=by
 rw [mem_bitsL,hP.bit x hx a,decide_eq_true_iff]
 constructor
 ·exact And.right
 ·intro h
  have:=ed_lt hF h
  exact ⟨by omega,h⟩
theorem StL.start {b0 g n c: Nat} {A A': Option Addr} {c': Nat} {W ol: List Int} {ps: List Nat} {w1: World} (hb: b0 < w1.heap.size) (h0: w1.cell? ⟨b0,0,none⟩ = some (.slice A n c)) (hr: RowN g ps w1) (hi: Ints w1 w1.heap.size A W) (ho: Ints w1 w1.heap.size A' ol) (hT: Tab64 w1) :
  StL b0 w1.heap.size (w1.heap.size + 1 + 1) (w1.heap.size + 1) g n c A A' W ol ps (List.replicate n 0) (((w1.alloc (.cells #[.slice (some ⟨g,0,none⟩) n n,.slice A' n c'] 135)).alloc (.cells (Array.replicate n (Value.int .i64 0)) 3)).alloc (.cells #[.slice (some ⟨w1.heap.size + 1,0,none⟩) n n] 22)):=by
 obtain ⟨w2,h2⟩: ∃ w2,w2 = w1.alloc (.cells #[.slice (some ⟨g,0,none⟩) n n,.slice A' n c'] 135):=⟨_,rfl⟩
 obtain ⟨w3,h3⟩: ∃ w3,w3 = w2.alloc (.cells (Array.replicate n (Value.int .i64 0)) 3):=⟨_,rfl⟩
 obtain ⟨w4,h4⟩: ∃ w4,w4 = w3.alloc (.cells #[.slice (some ⟨w1.heap.size + 1,0,none⟩) n n] 22):=⟨_,rfl⟩
 rw [<- h2,<- h3,<- h4]
 have s2: w2.heap.size = w1.heap.size + 1:=by rw [h2]; simp
 have s3: w3.heap.size = w1.heap.size + 1 + 1:=by rw [h3]; simp [s2]
 have s4: w4.heap.size = w1.heap.size + 1 + 1 + 1:=by rw [h4]; simp [s3]
 have b3: Below w3.heap.size w3 w4:=by rw [h4]; exact below_alloc _
 have b2: Below w2.heap.size w2 w4:=(by rw [h3]; exact below_alloc _: Below w2.heap.size w2 w3).trans (b3.mono (by omega))
 have b1: Below w1.heap.size w1 w4:=(by rw [h2]; exact below_alloc _: Below w1.heap.size w1 w2).trans (b2.mono (by omega))
 have hu: RowV (w1.heap.size + 1) 3 (intsV (List.replicate n 0)) w3:=by
  have e: (intsV (List.replicate n 0)).toArray = Array.replicate n (Value.int .i64 0):=by simp [intsV]
  unfold RowV
  rw [e,h3,<- s2]
  exact heap_alloc_new w2 _
 have:=hT.lt
 have:=hr.lt
 refine ⟨(b1.cell hb).trans h0,?_,?_,hr.below b1 hr.lt,hu.below b3 (by omega),(hi.below b1).more (by omega),(ho.below b1).more (by omega),hT.via b1,by omega,by omega,by omega,by omega,by omega⟩
 ·refine (b2.cell (by show w1.heap.size < _; omega)).trans ?_
  rw [h2,World.cell?_alloc_at _ _ _ _ rfl]; rfl
 ·rw [h4,World.cell?_alloc_at _ _ _ _ s3.symm]; rfl
theorem long_done (w: World) (h: IsG w A n c F m d W E) :
  Calls Tryz.prog 59 #[.agg #[.slice A n c,.slice F m d]] w fun e w' => e = .returned (.int .i64 (longV W E)) /\ Below w.heap.size w w':=by
 have H:=Lib.hid h
 by_cases hM: May W E
 ·have C:=Lib.hid (fun w' (h: IsG w' A n c F m d W E) => read_ok w' h hM)
  have hF: Fits n E:=by rw [<- h.hn]; exact hM.fits
  have hn64: n <= 64:=by rw [<- h.hn]; exact hM.nodes
  have HF:=Lib.hid hF
  have HN:=Lib.hid h.hn
  have HM:=Lib.hid hM
  have HORD:=Lib.hid (ordK_ordered hF n)
  have HOL:=Lib.hid (show (ord n E).length = n from ordK_length hF hM.acyc n (Nat.le_refl _))
  have hmk:=fun W' => make_ints n (by omega) W'
  have HT:=Lib.hid (show longV W E = most ((ord n E).map (farAt W E)) by
   unfold longV
   rw [if_pos hM,long_order]
   intro x
   rw [h.hn]
   exact ⟨(ordK_ordered hF n).lt x,fun hx => (ordK_ordered hF n).all (ordK_length hF hM.acyc n (Nat.le_refl _)) x hx⟩)
  obtain ⟨r,hr⟩: ∃ r,r = longV W E:=⟨_,rfl⟩
  rw [<- hr] at HT ⊢
  clear h hM hr hF
  go_enter Tryz.func59,Tryz.ntmps59
  go_wp2_with fail
  refine (C.out _ (H.out.below (below_alloc _))).mono ?_
  rintro e w1 ⟨g,A',c',rfl,hR⟩
  have HB:=Lib.hid ((below_alloc (w:=w) (.cells #[.slice A n c,.slice F m d] 25)).trans (hR.bel.mono (by simp)))
  have HR:=Lib.hid hR
  have HG:=Lib.hid ((H.out.below (below_alloc (.cells #[.slice A n c,.slice F m d] 25))).below hR.bel)
  have hs1: w.heap.size < w1.heap.size:=by have:=hR.bel.size; simp at this; exact this
  have hbox0: w1.cell? ⟨w.heap.size,0,none⟩ = some (.slice A n c):=(hR.bel.cell (by simp)).trans (by rw [World.cell?_alloc_at _ _ _ _ rfl]; rfl)
  clear hR
  go_wp2
  obtain ⟨ps,hV,hPS⟩:=HR.out.row
  have HPS:=Lib.hid hPS
  have H0:=Lib.hid (StL.start (c':=c') hs1 hbox0 hV HG.out.ints HR.out.ints HG.out.tab)
  have HB0:=Lib.hid (((below_alloc (w:=w1) (.cells #[.slice (some ⟨g,0,none⟩) n n,.slice A' n c'] 135)).alloc (by simp) (.cells (Array.replicate n (Value.int .i64 0)) 3)).alloc (by simp; omega) (.cells #[.slice (some ⟨w1.heap.size + 1,0,none⟩) n n] 22))
  have HBND:=Lib.hid (fun x (hx: x < n) => far_bound (by rw [HN.out]; exact HF.out) HM.out.acyc HM.out.work (x:=x) (by rw [HN.out]; exact hx))
  obtain ⟨b0,hb0⟩: ∃ b0,b0 = w.heap.size:=⟨_,rfl⟩
  obtain ⟨gb,hgb⟩: ∃ gb,gb = w1.heap.size:=⟨_,rfl⟩
  clear hV hPS hbox0
  go_loopw [7,25] (fun s i wr => ∃ (j: Nat) (v: Int) (us: List Int),j <= n /\ i = .int .i64 j /\ 0 <= v /\ v <= 64000 /\ s = .int .i64 v /\ Hid (v = most (((ord n E).map (farAt W E)).take j)) /\ Hid (us.length = n) /\ Hid (∀ y,y < n -> 0 <= us.getD y 0 /\ us.getD y 0 <= 64000) /\ Hid (∀ y ∈ (ord n E).take j,us.getD y 0 = farAt W E y) /\ Hid (StL w.heap.size w1.heap.size (w1.heap.size + 1 + 1) (w1.heap.size + 1) g n c A A' W (nums (ord n E)) ps us wr) /\ Hid (Below w1.heap.size w1 wr)) (fun _ i _ => n - (intOf i).toNat)
  case atStart => exact ⟨0,0,_,Nat.zero_le _,rfl,by omega,by omega,rfl,Lib.hid rfl,Lib.hid (by simp),Lib.hid (fun y hy => by simp [List.getD_eq_getElem?_getD,hy]),Lib.hid (fun y hy => by simp at hy),H0,HB0⟩
  case round =>
   obtain ⟨j,v,us,hj,rfl,hv0,hv1,rfl,hve,HUL,HUB,HUF,HS,HB1⟩:=hrel
   clear H0 HB0
   by_cases hlt: j < n
   ·obtain ⟨bk,o,z,rfl,hbg,hzj,hc1⟩:=HS.out.out.at_ (k:=j) (by rw [nums_length,HOL.out]; exact hlt)
    obtain ⟨x,rfl,hx⟩:=nums_get hzj
    have hxn: x < n:=HORD.out.lt x (List.mem_of_getElem? hx)
    have hv:=preds_far HORD.out HPS.out hn64 HF.out hx HUF.out
    have hfs:=far_step (by rw [HN.out]; exact HF.out) HM.out.acyc (x:=x) (by rw [HN.out]; exact hxn) (l:=bitsL (ps.getD x 0)) (mem_preds HPS.out hn64 HF.out hxn)
    have C2:=Lib.hid (fun W' (hs: StL w.heap.size w1.heap.size (w1.heap.size + 1 + 1) (w1.heap.size + 1) g n c A (some ⟨bk,o,none⟩) W (nums (ord n E)) ps us W') => sum_any x W' HN.out hn64 hxn HF.out HM.out.work HPS.out HUL.out HUB.out hs)
    simp only [hv,<- hfs] at C2
    have hfb:=HBND.out x hxn
    have hfj: ((ord n E).map (farAt W E))[j]? = some (farAt W E x):=by rw [List.getElem?_map,hx]; rfl
    have HMS:=Lib.hid (most_snoc hfj)
    have HTK:=Lib.hid (take_snoc' hx)
    obtain ⟨fx,hfx⟩: ∃ fx,fx = farAt W E x:=⟨_,rfl⟩
    have HFX:=Lib.hid hfx
    rw [<- hfx] at hfb HMS
    simp only [<- hfx] at C2
    rw [HN.out] at hfb
    have hxu: x < us.length:=by rw [HUL.out]; exact hxn
    have HU2: Hid (∀ y,y < n -> 0 <= (us.set x fx).getD y 0 /\ (us.set x fx).getD y 0 <= 64000):=Lib.hid (fun y hy => by
     rw [getD_set]
     split
     ·omega
     ·exact HUB.out y hy)
    have HF2: Hid (∀ y ∈ (ord n E).take (j + 1),(us.set x fx).getD y 0 = farAt W E y):=Lib.hid (fun y hy => by
     rw [getD_set]
     split
     ·rename_i k
      rw [<- k.1]
      exact HFX.out
     ·rename_i k
      rw [HTK.out] at hy
      rcases List.mem_append.mp hy with hy | hy
      ·exact HUF.out y hy
      ·obtain rfl: y = x:=by simpa using hy
       exact absurd ⟨rfl,hxu⟩ k)
    clear hzj hx hv hfs hfj hfx hxu
    obtain ⟨c1,c2,c3⟩:=HS.out.cells
    go_wp2_with fail
    go_region_with (go_at_call 103; refine (C2.out _ (HS.out.next ((Below.refl _ _).drew))).mono ?_; rintro e w5 ⟨rfl,b⟩; have HS5:=Lib.hid ((HS.out.next ((Below.refl _ _).drew)).next b); have HB5:=Lib.hid b; have d3:=HS5.out.v0; have hul5:=HS5.out.up.lt; have hfr5:=HS5.out.up.frozen x; have hcx5:=HS5.out.up.cell (intsV_at (l:=us) (j:=x) (by rw [HUL.out]; exact hxn)); clear b)
    all_goals
     have HS6:=Lib.hid (HS5.out.store x fx)
     have e3:=HS6.out.v0
     have hgx: (us.set x fx).getD x 0 = fx:=by rw [getD_set,if_pos ⟨rfl,by rw [HUL.out]; exact hxn⟩]
     have e4:=HS6.out.up.cell (intsV_at (l:=us.set x fx) (j:=x) (by rw [List.length_set,HUL.out]; exact hxn))
     rw [hgx] at e4
     clear hgx d3 hcx5
     by_cases hvz: v < fx
     ·have HMX:=Lib.hid (show fx = most (((ord n E).map (farAt W E)).take (j + 1)) by rw [HMS.out,<- hve.out,Int.max_eq_right (by omega)])
      go_wp2
      go_roundw
      case rel => exact ⟨j + 1,fx,us.set x fx,by omega,by go_num,by omega,by omega,rfl,HMX,Lib.hid (by rw [List.length_set]; exact HUL.out),HU2,HF2,HS6,Lib.hid ((HB1.out.trans (((Below.refl _ _).drew.trans HB5.out).mono HB1.out.size)).setCell (by show w1.heap.size <= w1.heap.size + 1; omega) _)⟩
      case measure => simp [intOf]; omega
     ·have HMX:=Lib.hid (show v = most (((ord n E).map (farAt W E)).take (j + 1)) by rw [HMS.out,<- hve.out,Int.max_eq_left (by omega)])
      go_wp2
      go_roundw
      case rel => exact ⟨j + 1,v,us.set x fx,by omega,by go_num,by omega,by omega,rfl,HMX,Lib.hid (by rw [List.length_set]; exact HUL.out),HU2,HF2,HS6,Lib.hid ((HB1.out.trans (((Below.refl _ _).drew.trans HB5.out).mono HB1.out.size)).setCell (by show w1.heap.size <= w1.heap.size + 1; omega) _)⟩
      case measure => simp [intOf]; omega
   ·obtain rfl: j = n:=by omega
    have hl2: ((ord j E).map (farAt W E)).take j = (ord j E).map (farAt W E):=List.take_of_length_le (by rw [List.length_map,HOL.out]; exact Nat.le_refl _)
    rw [hl2] at hve
    go_wp2
    go_ret
    exact ⟨by rw [HT.out,<- hve.out]; rfl,HB.out.trans (HB1.out.mono HB.out.size)⟩
 ·have C:=Lib.hid (fun w' (h: IsG w' A n c F m d W E) => read_not w' h hM)
  have HO: longV W E = 0:=by unfold longV; rw [if_neg hM]
  rw [HO]
  have hc: (chkE W E != 0) = true:=by
   rw [bne_iff_ne]
   exact fun q => hM (chkE_zero.mp q)
  obtain ⟨r,hr⟩: ∃ r,r = chkE W E:=⟨_,rfl⟩
  rw [<- hr] at C hc
  clear h hM hr HO
  go_enter Tryz.func59,Tryz.ntmps59
  go_wp2_with fail
  refine (C.out _ (H.out.below (below_alloc _))).mono ?_
  rintro e w1 ⟨rfl,b⟩
  have HB:=Lib.hid ((below_alloc _).trans (b.mono (by simp)))
  clear b
  go_wp2
  go_ret
  exact ⟨rfl,HB.out.alloc HB.out.size _⟩
end
end Go.Proofs.YtfpnkcpjhbkgnaaGreatDoor
