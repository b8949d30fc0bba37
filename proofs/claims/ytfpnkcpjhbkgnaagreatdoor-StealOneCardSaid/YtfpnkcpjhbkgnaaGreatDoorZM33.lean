import Derived.Test.YtfpnkcpjhbkgnaaGreatDoorZM32
import Derived.Test.YtfpnkcpjhbkgnaaGreatDoorZM4
import Derived.Test.YtfpnkcpjhbkgnaaGreatDoorZM17
import Derived.Test.YtfpnkcpjhbkgnaaGreatDoorZM27
import Derived.BigQuiet
import Derived.Laws.StructEq
set_option linter.unusedSimpArgs false
set_option linter.unusedVariables false
set_option maxRecDepth 100000
set_option maxHeartbeats 8000000
namespace Go.Proofs.YtfpnkcpjhbkgnaaGreatDoor
open Go Go.RowKit
section
variable {gO gL: Nat} {FL: Option Addr} {n' m' cO cL: Nat} {O L: List Int}
structure StTi (Bq: Nat) (wf: World) (gO gL: Nat) (FL: Option Addr) (n' m' cO cL: Nat) (O L: List Int) (w: World): Prop where
 tn: Turn2 gO gL wf w
 lt: wf.heap.size < w.heap.size
 c0: w.cell? ⟨wf.heap.size,0,none⟩ = some (.slice (some ⟨gO,0,none⟩) n' cO)
 c1: w.cell? ⟨wf.heap.size,1,none⟩ = some (.slice FL m' cL)
 rows: RowsC Bq gO FL n' m' cO cL O L w
 lO: gO < wf.heap.size
 lL: gL < wf.heap.size
theorem own_later {w w': World} {base B: Nat} {v: Value} {zs: List Int} (h: OwnI w base v zs) (hv: ∀ b,v.ownBlock = some b -> b < B) (hb: Below B w w'): OwnI w' base v zs:=by
 refine ⟨h.1,?_⟩
 rcases h.2 with hn | ⟨g,cap,cur,rfl,hg,hgg,rest⟩
 ·exact .inl hn
 ·exact .inr ⟨g,cap,cur,rfl,hg,by rw [hb.block g (hv g rfl)]; exact hgg,rest⟩
theorem StTi.later {Bq: Nat} {wf w w': World} (h: StTi Bq wf gO gL FL n' m' cO cL O L w) (hLb: ∀ b,(Value.slice FL m' cL).ownBlock = some b -> b < wf.heap.size) (hb: Below (wf.heap.size + 1) w w'): StTi Bq wf gO gL FL n' m' cO cL O L w' :=
 ⟨⟨hb.os.trans h.tn.os,hb.tape.trans h.tn.tape,hb.output.trans h.tn.output,Nat.le_trans h.tn.size hb.size,fun k hk h1 h2 => (hb.block k (by omega)).trans (h.tn.block k hk h1 h2)⟩,Nat.lt_of_lt_of_le h.lt hb.size,(hb.cell (show wf.heap.size < wf.heap.size + 1 by omega)).trans h.c0,(hb.cell (show wf.heap.size < wf.heap.size + 1 by omega)).trans h.c1,
  ⟨own_later h.rows.rO (fun b e => by simp [Value.ownBlock] at e; have:=h.lO; omega) hb,own_later h.rows.rL (fun b e => by have:=hLb b e; omega) hb,h.rows.ne⟩,h.lO,h.lL⟩
theorem StTi.setO {Bq: Nat} {wf w: World} (h: StTi Bq wf gO gL FL n' m' cO cL O L w) {j: Nat} (hj: j < n') (z: Int): StTi Bq wf gO gL FL n' m' cO cL (O.set j z) L (w.setCell ⟨gO,j,none⟩ (.int .i64 z)):=by
 have hlo:=h.lO
 exact ⟨h.tn.setD j _,by simp [World.setCell]; exact h.lt,(((Turn2.refl gO gO w).setD j (.int .i64 z)).cell (p:=⟨wf.heap.size,0,none⟩) h.lt (show wf.heap.size ≠ gO by omega) (show wf.heap.size ≠ gO by omega)).trans h.c0,(((Turn2.refl gO gO w).setD j (.int .i64 z)).cell (p:=⟨wf.heap.size,1,none⟩) h.lt (show wf.heap.size ≠ gO by omega) (show wf.heap.size ≠ gO by omega)).trans h.c1,h.rows.setO hj z,h.lO,h.lL⟩
theorem StTi.setL {Bq: Nat} {wf w: World} (h: StTi Bq wf gO gL (some ⟨gL,0,none⟩) n' m' cO cL O L w) {j: Nat} (hj: j < m') (z: Int): StTi Bq wf gO gL (some ⟨gL,0,none⟩) n' m' cO cL O (L.set j z) (w.setCell ⟨gL,j,none⟩ (.int .i64 z)):=by
 have hlo:=h.lL
 have hL:=h.rows.rL.len_eq
 obtain ⟨gL',e,hne⟩:=h.rows.ne (by omega)
 obtain rfl: gL = gL':=by simpa using e
 exact ⟨h.tn.setV j _,by simp [World.setCell]; exact h.lt,(((Turn2.refl gL gL w).setD j (.int .i64 z)).cell (p:=⟨wf.heap.size,0,none⟩) h.lt (show wf.heap.size ≠ gL by omega) (show wf.heap.size ≠ gL by omega)).trans h.c0,(((Turn2.refl gL gL w).setD j (.int .i64 z)).cell (p:=⟨wf.heap.size,1,none⟩) h.lt (show wf.heap.size ≠ gL by omega) (show wf.heap.size ≠ gL by omega)).trans h.c1,
  ⟨own_farC h.rows.rO (fun e => hne (by simpa [Value.ownBlock] using e)) fun k hk => heap_setCell_other _ _ _ _ hk,ownI_setC h.rows.rL (by omega) z,h.rows.ne⟩,h.lO,h.lL⟩
theorem own_storeLo {w: World} {B g j: Nat} {v: Value} {zs: List Int} (h: OwnI w B v zs) (hg: g < B) (u: Value): OwnI (w.setCell ⟨g,j,none⟩ u) B v zs :=
 own_farC h (fun e => by have:=(h.blockLt g e).1; omega) fun k hk => heap_setCell_other _ _ _ _ hk
theorem ptick_any (Bq: Nat) (wf: World) (hr: RowsC Bq gO FL n' m' cO cL O L wf) (hx: ∀ x ∈ O,x = -1 \/ (0 <= x /\ x < (L.length: Int))) (h1: ∀ x,x ≠ -1 -> O.count x <= 1) (hz: ∀ z ∈ L,0 <= z /\ z <= 1000) (ln: n' <= 400) (lm: m' <= 400) :
  Calls Tryz.prog 122 #[.agg #[.slice (some ⟨gO,0,none⟩) n' cO,.slice FL m' cL]] wf fun e w' => ∃ A1 k1 c1 gL,e = .returned (.slice A1 k1 c1) /\ OwnI w' (wf.heap.size + 1) (.slice A1 k1 c1) (nums (doneT O L)) /\ (nums (doneT O L)).length = k1 /\ RowsC Bq gO FL n' m' cO cL (onT O L) (leftT O L) w' /\ (gL = gO \/ FL = some ⟨gL,0,none⟩) /\ Bq <= gL /\ Turn2 gO gL wf w':=by
 have hO:=hr.rO.len_eq
 have hm:=hr.rL.len_eq
 have hk:=hr.isC ln lm
 obtain ⟨cur,hgg,hgO,hncO,_⟩:=hr.rO.blockC
 have hgl: gO < wf.heap.size:=(Array.getElem?_eq_some_iff.1 hgg).1
 obtain ⟨gL,hgLw,hgLb,hFL,hwh⟩: ∃ gL,gL < wf.heap.size /\ Bq <= gL /\ (0 < m' -> FL = some ⟨gL,0,none⟩) /\ (gL = gO \/ FL = some ⟨gL,0,none⟩):=by
  rcases Nat.eq_zero_or_pos m' with h0 | h0
  ·exact ⟨gO,hgl,hgO,fun q => by omega,.inl rfl⟩
  ·obtain ⟨gL,rfl,_⟩:=hr.ne h0
   obtain ⟨cur2,h2,h3,_⟩:=hr.rL.blockC
   exact ⟨gL,(Array.getElem?_eq_some_iff.1 h2).1,h3,fun _ => rfl,.inr rfl⟩
 have hLb: ∀ b,(Value.slice FL m' cL).ownBlock = some b -> b < wf.heap.size:=fun b e => (hr.rL.blockLt b e).2
 obtain ⟨w0,hw0⟩: ∃ w0,w0 = wf.alloc (.cells #[.slice (some ⟨gO,0,none⟩) n' cO,.slice FL m' cL] 37):=⟨_,rfl⟩
 have B0: Hid (StTi Bq wf gO gL FL n' m' cO cL O L w0):=Lib.hid (by
  have h1:=BxK.start hk
  rw [<- hw0] at h1
  exact ⟨(Turn2.refl _ _ _).more h1.bel,h1.lt,h1.c0,h1.c1,hr.next h1.bel,hgl,hgLw⟩)
 have T0: Hid (TickC O L 0 O L []):=Lib.hid (TickC.start O L)
 have HW:=Lib.hid hw0
 have HO:=Lib.hid hO
 have HM:=Lib.hid hm
 have HX:=Lib.hid hx
 have H1:=Lib.hid h1
 have HZ:=Lib.hid hz
 have HLB:=Lib.hid hLb
 have HFL:=Lib.hid hFL
 have HWH:=Lib.hid hwh
 have HGB:=Lib.hid hgLb
 have HND: Hid (∀ k (x: Nat),O[k]? = some (x: Int) -> (x: Int) ∉ O.take k):=Lib.hid (fun k x hk hm => by
  obtain ⟨i,hi,he⟩:=List.getElem_of_mem hm
  rw [List.length_take] at hi
  rw [List.getElem_take] at he
  have h4: O[i]? = some (x: Int):=by rw [List.getElem?_eq_getElem (by omega)]; exact congrArg some he
  have:=idx_once (h1 x (by omega)) hk h4
  omega)
 clear hr hx h1 hz hO hm hk hgg hncO hLb hFL hgLb hwh hw0 hgO
 have q0:=B0.out.c0
 go_enter Tryz.func122,Tryz.ntmps122
 go_wp2_with fail
 rw [<- HW.out]
 clear HW
 go_wp2
 go_loopw [3,9] (fun v i wr => ∃ (j k: Nat) (A2: Option Addr) (c2: Nat) (Oc Lc Dc: List Int),j <= n' /\ k <= j /\ i = .int .i64 j /\ v = .slice A2 k c2 /\ Hid (Dc.length = k) /\ Hid (TickC O L j Oc Lc Dc) /\ Hid (OwnI wr (wf.heap.size + 1) (.slice A2 k c2) Dc) /\ Hid (StTi Bq wf gO gL FL n' m' cO cL Oc Lc wr)) (fun _ i _ => n' - (intOf i).toNat)
 case atStart => exact ⟨0,0,none,0,O,L,[],Nat.zero_le _,Nat.le_refl _,rfl,rfl,Lib.hid rfl,T0,Lib.hid ⟨rfl,.inl ⟨rfl,rfl⟩⟩,B0⟩
 case round =>
  clear B0 T0 q0
  obtain ⟨j,k,A2,c2,Oc,Lc,Dc,hj,hkj,rfl,rfl,HK,HT,HD,HB⟩:=hrel
  have hlt0: wf.heap.size < wr.heap.size:=HB.out.lt
  by_cases hlt: j < n'
  ·obtain ⟨x,hxO⟩: ∃ x,O[j]? = some x:=⟨_,List.getElem?_eq_getElem (by rw [HO.out]; exact hlt)⟩
   have hxc:=HT.out.here hxO
   obtain ⟨b3,o3,x',e3,hb3,hx',d3⟩:=HB.out.rows.rO.ints.at_ (k:=j) (by have:=HB.out.rows.rO.len_eq; omega)
   obtain rfl: x = x':=by rw [hxc] at hx'; exact Option.some.inj hx'
   obtain ⟨h31,h32⟩: gO = b3 /\ 0 = o3:=by
    injection e3 with e3
    injection e3 with e31 e32
    exact ⟨e31,e32⟩
   rw [<- h31,<- h32,Nat.zero_add] at d3
   have HXO:=Lib.hid hxO
   clear e3 hb3 hx' h31 h32 hxc
   by_cases hx1: x = -1
   ·subst hx1
    have HT2:=Lib.hid (HT.out.idle hxO)
    clear hxO
    go_wp2
    go_roundw
    case rel => exact ⟨j + 1,k,A2,c2,Oc,Lc,Dc,by omega,by omega,by go_num,rfl,HK,HT2,HD,HB⟩
    case measure => simp [intOf]; omega
   ·have hx1a: (x == -1) = false:=beq_eq_false_iff_ne.mpr hx1
    obtain ⟨h0x,hxm⟩:=(HX.out x (List.mem_of_getElem? hxO)).resolve_left hx1
    obtain ⟨q,rfl⟩: ∃ q: Nat,x = q:=⟨x.toNat,by omega⟩
    have hqm: q < m':=by have:=HM.out; omega
    obtain rfl:=HFL.out (by omega)
    obtain ⟨hlc,hT1,hT2⟩:=HT.out.node hxO (by rw [HM.out]; exact hqm) (HND.out j q hxO)
    have HT1:=Lib.hid hT1
    have HT2:=Lib.hid hT2
    have hgOL: gO ≠ gL:=by
     obtain ⟨g',e,hne⟩:=HB.out.rows.ne (by omega)
     obtain rfl: gL = g':=by simpa using e
     exact hne
    obtain ⟨b4,o4,y,e4,hb4,hy,d4⟩:=HB.out.rows.rL.ints.at_ (k:=q) (by have:=HB.out.rows.rL.len_eq; omega)
    obtain ⟨h41,h42⟩: gL = b4 /\ 0 = o4:=by
     injection e4 with e4
     injection e4 with e41 e42
     exact ⟨e41,e42⟩
    rw [<- h41,<- h42,Nat.zero_add] at d4
    have hy2: leftC L (q: Int) = y:=hlc.symm.trans (leftC_at hy)
    have hyb: 0 <= y /\ y <= 1000:=by
     rw [<- hy2]
     exact HZ.out _ (leftC_mem (by rw [HM.out]; exact hqm))
    obtain ⟨hy0,hy1000⟩:=hyb
    rw [hy2] at HT1 HT2
    have fL:=HB.out.rows.rL.frozenC q
    have q0:=HB.out.c0
    have q1:=HB.out.c1
    have hgLr: gL < wr.heap.size:=Nat.lt_trans hgLw hlt0
    have hgOr: gO < wr.heap.size:=Nat.lt_trans hgl hlt0
    clear e4 hb4 hy h41 h42 hlc hT1 hT2 hxO hx1 hy2 h0x hxm
    by_cases hy1: y = 1
    ·subst hy1
     have HS1:=Lib.hid (HB.out.setL hqm 0)
     have HS2:=Lib.hid (HS1.out.setO hlt (-1))
     have HT3:=Lib.hid (HT1.out rfl)
     have HD2:=Lib.hid (own_storeLo (j:=j) (own_storeLo (j:=q) HD.out (show gL < wf.heap.size + 1 by omega) (.int .i64 0)) (show gO < wf.heap.size + 1 by omega) (.int .i64 (-1)))
     have q0s:=HS1.out.c0
     have q1s:=HS1.out.c1
     have d4s: (wr.setCell ⟨gL,q,none⟩ (.int .i64 0)).cell? ⟨gL,q,none⟩ = some (.int .i64 0):=by
      obtain ⟨b5,o5,y5,e5,_,hy5,d5⟩:=HS1.out.rows.rL.ints.at_ (k:=q) (by have:=HS1.out.rows.rL.len_eq; omega)
      injection e5 with e5
      injection e5 with e51 e52
      rw [<- e51,<- e52,Nat.zero_add] at d5
      rw [List.getElem?_set_self (by have:=HB.out.rows.rL.len_eq; omega)] at hy5
      rw [<- Option.some.inj hy5] at d5
      exact d5
     have d3s: (wr.setCell ⟨gL,q,none⟩ (.int .i64 0)).cell? ⟨gO,j,none⟩ = some (.int .i64 q):=by
      rw [((Turn2.refl gL gL wr).setD q (.int .i64 0)).cell (p:=⟨gO,j,none⟩) hgOr hgOL hgOL]
      exact d3
     have fOs:=HS1.out.rows.rO.frozenC j
     have hsz2: wf.heap.size + 1 <= ((wr.setCell ⟨gL,q,none⟩ (.int .i64 0)).setCell ⟨gO,j,none⟩ (.int .i64 (-1))).heap.size:=by simp [World.setCell]; omega
     clear HT1 HT2 HS1 HB HT
     go_wp2_with (at_builtin; refine wpList_push rfl _ _ rfl ((wr.setCell ⟨gL,q,none⟩ (.int .i64 0)).setCell ⟨gO,j,none⟩ (.int .i64 (-1))) (wf.heap.size + 1) _ Dc (q: Int) k HK.out (by omega) HD2.out hsz2 (by first | rfl | simp [Act.eval]) (by first | rfl | simp [Act.eval]) ?_; intro A3 c3 w3 HO3 HB3; (have HO3':=Lib.hid HO3); (have HB3':=Lib.hid HB3); clear HO3 HB3)
     have HS3:=Lib.hid (HS2.out.later HLB.out HB3'.out)
     go_roundw
     case rel => exact ⟨j + 1,k + 1,A3,c3,_,_,_,by omega,by omega,by go_num,rfl,Lib.hid (by rw [List.length_append,HK.out]; rfl),HT3,HO3',HS3⟩
     case measure => simp [intOf]; omega
    ·obtain ⟨y1,hy1e⟩: ∃ y1,y - 1 = y1:=⟨_,rfl⟩
     have hne: (y1 == 0) = false:=by rw [beq_eq_false_iff_ne]; omega
     have hr1: -9223372036854775808 <= y1:=by omega
     have hr2: y1 <= 9223372036854775807:=by omega
     have HS1:=Lib.hid (HB.out.setL hqm y1)
     have HT3:=Lib.hid (HT2.out hy1)
     have HD2:=Lib.hid (own_storeLo (j:=q) HD.out (show gL < wf.heap.size + 1 by omega) (.int .i64 y1))
     have q0s:=HS1.out.c0
     have q1s:=HS1.out.c1
     have d4s: (wr.setCell ⟨gL,q,none⟩ (.int .i64 y1)).cell? ⟨gL,q,none⟩ = some (.int .i64 y1):=by
      obtain ⟨b5,o5,y5,e5,_,hy5,d5⟩:=HS1.out.rows.rL.ints.at_ (k:=q) (by have:=HS1.out.rows.rL.len_eq; omega)
      injection e5 with e5
      injection e5 with e51 e52
      rw [<- e51,<- e52,Nat.zero_add] at d5
      rw [List.getElem?_set_self (by have:=HB.out.rows.rL.len_eq; omega)] at hy5
      rw [<- Option.some.inj hy5] at d5
      exact d5
     rw [hy1e] at HT3
     clear HT1 HT2 HB HT hy1
     go_wp2
     go_roundw
     case rel => exact ⟨j + 1,k,A2,c2,_,_,_,by omega,by omega,by go_num,rfl,HK,HT3,HD2,HS1⟩
     case measure => simp [intOf]; omega
  ·obtain rfl: n' = j:=by omega
   obtain ⟨e1,e2,e3⟩:=TickC.end_ (by rw [HO.out]; exact HT.out: TickC O L O.length Oc Lc Dc) HX.out H1.out
   have CS:=Lib.hid (sortOwn_any wr (wf.heap.size + 1) A2 k c2 Dc HK.out (by omega) HD.out hlt0)
   have HE:=Lib.hid (And.intro e1 (And.intro e2 e3))
   have HLN: Hid ((nums (doneT O L)).length = k):=Lib.hid (by rw [<- e3,List.length_mergeSort]; exact HK.out)
   clear e1 e2 e3
   go_wp2_with fail
   refine CS.out.mono ?_
   rintro e w2 ⟨rfl,ho,hb⟩
   have HS:=Lib.hid (HB.out.later HLB.out hb)
   have HOO:=Lib.hid ho
   clear ho hb
   go_wp2
   go_ret
   exact ⟨A2,k,c2,gL,rfl,by rw [<- HE.out.2.2]; exact HOO.out,HLN.out,by rw [<- HE.out.1,<- HE.out.2.1]; exact HS.out.rows,HWH.out,HGB.out,HS.out.tn⟩
end
end Go.Proofs.YtfpnkcpjhbkgnaaGreatDoor
namespace Go.Proofs.YtfpnkcpjhbkgnaaGreatDoor
open Go.RowKit
section
variable {A: Option Addr} {n c: Nat} {F: Option Addr} {m d: Nat} {W: List Int} {E: List (Int × Int)} {A': Option Addr} {n' c': Nat} {F': Option Addr} {m' d': Nat} {W': List Int} {E': List (Int × Int)}
end
end Go.Proofs.YtfpnkcpjhbkgnaaGreatDoor
namespace Go.Proofs.YtfpnkcpjhbkgnaaGreatDoor
open Go Go.RowKit
theorem schedE_nil (W: List Int) (E: List (Int × Int)) (need: List Int) (cores: Int): schedE W E need cores [] = newE W E need cores:=by
 unfold schedE newE
 by_cases h: chkE W E = 0
 ·rw [if_neg (fun q => q h),if_pos h]
  by_cases h2: FormOk W need cores
  ·rw [if_neg (fun q => q ⟨h2,fun r hr => by simp at hr⟩),if_pos h2]; rfl
  ·rw [if_pos (fun q => h2 q.1),if_neg h2]
 ·rw [if_pos h,if_neg h]
def GotNewP (W: List Int) (E: List (Int × Int)) (need: List Int) (cores: Int) (w: World) (e: Ending) (w': World): Prop :=
 ∃ A1 n1 c1 F1 m1 d1,e = .returned (.tuple #[.agg #[.slice A1 n1 c1,.slice F1 m1 d1],.int .i64 (newE W E need cores)]) /\ OwnC w' w.heap.size A1 n1 c1 F1 m1 d1 (newO W E need cores) (newL W E need cores) /\ ApartV (.slice A1 n1 c1) (.slice F1 m1 d1) /\ Below w.heap.size w w'
theorem newP_bad {W: List Int} {E: List (Int × Int)} {need: List Int} {cores z: Int} {w w': World} (h: newE W E need cores = z) (hz: z ≠ 0) (hb: Below w.heap.size w w'): GotNewP W E need cores w (.returned (.tuple #[.agg #[.slice none 0 0,.slice none 0 0],.int .i64 z])) w':=by
 refine ⟨none,0,0,none,0,0,by rw [h],?_,fun b e => by simp [Value.ownBlock] at e,hb⟩
 unfold newO newL
 rw [if_neg (by rw [h]; exact hz),if_neg (by rw [h]; exact hz)]
 exact noOwnC _ _
section
variable {A: Option Addr} {n c: Nat} {F: Option Addr} {m d: Nat} {W: List Int} {E: List (Int × Int)} {N: Option Addr} {nn nc: Nat} {need: List Int}
theorem pnew_any (cores: Int) (wf: World) (hg: IsG wf A n c F m d W E) (hn: need.length = nn) (hl: nn <= 400) (hI: Ints wf wf.heap.size N need) (hN: N = none -> nn = 0 /\ nc = 0) :
  Calls Tryz.prog 73 #[.agg #[.slice A n c,.slice F m d],.slice N nn nc,.int .i64 cores] wf (GotNewP W E need cores wf):=by
 obtain ⟨w0,hw0⟩: ∃ w0,w0 = (wf.alloc (.cells #[.slice A n c,.slice F m d] 25)).alloc (.cells #[.slice none 0 0,.slice none 0 0] 37):=⟨_,rfl⟩
 have HB0: Hid (Below wf.heap.size wf w0):=Lib.hid (by rw [hw0]; exact below_alloc2c _ _)
 have hs: w0.heap.size = wf.heap.size + 1 + 1:=by rw [hw0]; simp
 have HR0: Hid (w0.heap[wf.heap.size + 1]? = some (.cells #[.slice none 0 0,.slice none 0 0] 37 (0,0))):=Lib.hid (by
  have h2:=heap_alloc_new (wf.alloc (.cells #[.slice A n c,.slice F m d] 25)) (.cells #[.slice none 0 0,.slice none 0 0] 37)
  rw [<- hw0] at h2
  simpa using h2)
 have HD0: Hid (w0.cell? ⟨wf.heap.size,0,none⟩ = some (.slice A n c) /\ w0.cell? ⟨wf.heap.size,1,none⟩ = some (.slice F m d)):=Lib.hid (by
  constructor <;> (rw [hw0,World.cell?_alloc_lt _ _ _ (by simp),World.cell?_alloc_at _ _ _ _ rfl]; rfl)
 )
 have HS0: Hid (w0.heap.size = wf.heap.size + 1 + 1):=Lib.hid hs
 have CK:=Lib.hid (scheck_any (nc:=nc) (t:=[]) (T:=none) (tn:=0) (tc:=0) cores w0 (hg.below HB0.out) ⟨hn,rfl,hl,by decide,fun r hr => by simp at hr,(hI.below HB0.out).more HB0.out.size,fun h => absurd h (by simp),hN,fun _ => ⟨rfl,rfl⟩⟩)
 rw [schedE_nil] at CK
 have HG:=Lib.hid hg
 have HI:=Lib.hid hI
 have HN:=Lib.hid hn
 have HNN:=Lib.hid hN
 have HW:=Lib.hid hw0
 obtain ⟨z,hz⟩: ∃ z,z = newE W E need cores:=⟨_,rfl⟩
 rw [<- hz] at CK
 have HZE:=Lib.hid hz
 have d0:=HD0.out.1
 have d1:=HD0.out.2
 clear hg hI hn hN hw0 hs hz
 by_cases he: z = 0
 ·subst he
  have HE: Hid (newE W E need cores = 0):=Lib.hid HZE.out.symm
  have hf:=(newE_zero.mp HE.out).2
  obtain ⟨k,rfl⟩: ∃ k: Nat,cores = k:=⟨cores.toNat,by have:=hf.2.2.1; omega⟩
  have hk1: 1 <= k:=by have:=hf.2.2.1; omega
  have hk8: k <= 8:=by have:=hf.2.2.2; omega
  clear hf
  go_enter Tryz.func73,Tryz.ntmps73
  go_wp2_with fail
  rw [<- HW.out]
  refine CK.out.mono ?_
  rintro e w2 ⟨rfl,b1⟩
  have HB2:=Lib.hid (HB0.out.trans (b1.mono HB0.out.size))
  have HR2: Hid (w2.heap[wf.heap.size + 1]? = _):=Lib.hid ((b1.block _ (Array.getElem?_eq_some_iff.1 HR0.out).1).trans HR0.out)
  have hlo: wf.heap.size + 1 + 1 <= w2.heap.size:=(Array.getElem?_eq_some_iff.1 HR2.out).1
  have HI2:=Lib.hid ((HI.out.below HB2.out).more HB2.out.size)
  have CC:=Lib.hid (clone_i w2 N nn nc need HN.out (by omega) HI2.out HNN.out)
  clear b1 d0 d1 CK
  go_wp2_with fail
  refine CC.out.mono ?_
  rintro e w3 ⟨A1,c1,he,ho,hb3⟩
  rw [HN.out] at he ho
  subst he
  have HO3:=Lib.hid ho
  have HB3':=Lib.hid hb3
  clear ho hb3 CC
  obtain ⟨g,hg⟩: ∃ g,g = w3.heap.size:=⟨_,rfl⟩
  obtain ⟨w4,hw4⟩: ∃ w4,w4 = w3.alloc (.cells #[.slice none 0 0,.slice A1 nn c1] 37):=⟨_,rfl⟩
  have H4: Hid (StNw wf w2.heap.size g (.slice none 0 0) (.slice A1 nn c1) (List.replicate 0 (-1)) need w4):=Lib.hid (by
   have hba:=below_alloc (w:=w3) (.cells #[.slice none 0 0,.slice A1 nn c1] 37)
   have hna:=heap_alloc_new w3 (.cells #[.slice none 0 0,.slice A1 nn c1] 37)
   rw [<- hw4] at hba hna
   rw [<- hg] at hna
   have hbb: Below wf.heap.size wf w3:=HB2.out.trans (HB3'.out.mono HB2.out.size)
   refine ⟨hbb.trans (hba.mono hbb.size),hlo,?_,hna,by rw [hg]; exact HB3'.out.size,⟨rfl,.inl ⟨rfl,rfl⟩⟩,own_below HO3.out hba,fun q e => by simp [Value.ownBlock] at e⟩
   rw [hba.block _ (by have:=HB3'.out.size; omega),HB3'.out.block _ (by omega)]
   exact HR2.out)
  have HG3:=Lib.hid hg
  have HW4:=Lib.hid hw4
  clear hg hw4 HR2 HO3 HB3' HI2
  go_wp2
  rw [<- HW4.out,<- HG3.out]
  clear HW4 HG3
  go_loopw [22] (fun i wr => ∃ (j: Nat) (A2: Option Addr) (c2: Nat),j <= k /\ i = .int .i64 j /\ Hid (StNw wf w2.heap.size g (.slice A2 j c2) (.slice A1 nn c1) (List.replicate j (-1)) need wr)) (fun i _ => k - (intOf i).toNat)
  case atStart => exact ⟨0,none,0,Nat.zero_le _,rfl,H4⟩
  case round =>
   clear H4
   obtain ⟨j,A2,c2,hj,rfl,HB⟩:=hrel
   have x0:=cell_of_row wr g 0 _ _ _ HB.out.b
   have x1:=cell_of_row wr g 1 _ _ _ HB.out.b
   simp at x0 x1
   by_cases hlt: j < k
   ·have hsz: w2.heap.size <= wr.heap.size:=by have:=(Array.getElem?_eq_some_iff.1 HB.out.b).1; have:=HB.out.hg; omega
    have hon: wr.ownsRow w2.heap.size 3 1 (.slice A2 j c2) j ((List.replicate j (-1: Int)).map (Value.int .i64)):=by have h:=HB.out.on; unfold OwnI at h; rw [List.length_replicate] at h; exact h
    have HON:=Lib.hid hon
    clear hon
    go_wp2_with (at_builtin; refine wpList_pushXs rfl _ _ 3 22 1 8 (.int .i64 0) Tryz.underlying22 new_cell_info rfl (by omega) (by omega) rfl rfl wr w2.heap.size j _ ((List.replicate j (-1: Int)).map (Value.int .i64)) [.int .i64 (-1)] HON.out rfl (by simp [Value.oneCell']) (by omega) hsz (by first | rfl | simp [Act.eval]) (by first | rfl | simp [Act.eval]) ?_; intro F5 d5 w5 ho5 hr5 hat5; (have HO5:=Lib.hid ho5); (have HR5:=Lib.hid hr5); (have HA5:=Lib.hid hat5); (have hb5:=hr5.heap HB.out.b (by decide)); (have q0:=cell_of_row w5 g 0 _ _ _ hb5); (have q1:=frozen_of_row w5 g 0 _ _ hb5); simp at q0; clear ho5 hr5 hat5 hb5)
    go_roundw
    case rel => exact ⟨j + 1,F5,d5,by omega,by go_num,Lib.hid (HB.out.push hsz (by unfold OwnI; rw [List.length_replicate,List.replicate_succ',List.map_append]; exact HO5.out) HR5.out HA5.out)⟩
    case measure => simp [intOf]; omega
   ·obtain rfl: k = j:=by omega
    have r0:=cell_of_row wr (wf.heap.size + 1) 0 _ _ _ HB.out.r
    have r1:=cell_of_row wr (wf.heap.size + 1) 1 _ _ _ HB.out.r
    have z0:=frozen_of_row wr (wf.heap.size + 1) 0 _ _ HB.out.r
    have z1:=frozen_of_row wr (wf.heap.size + 1) 1 _ _ HB.out.r
    simp at r0 r1
    have HF2:=Lib.hid (row_setC HB.out.r (.slice A2 k c2) (.slice A1 nn c1))
    have HGT: Hid (GotNewP W E need k wf (.returned (.tuple #[.agg #[.slice A2 k c2,.slice A1 nn c1],.int .i64 0])) ((wr.setCell ⟨wf.heap.size + 1,0,none⟩ (.slice A2 k c2)).setCell ⟨wf.heap.size + 1,1,none⟩ (.slice A1 nn c1))):=Lib.hid (by
     have hoth:=other_setC wr (wf.heap.size + 1) (.slice A2 k c2) (.slice A1 nn c1)
     have o1:=other_ownC HB.out.on HB.out.r (by decide) hoth
     have o2:=other_ownC HB.out.left HB.out.r (by decide) hoth
     refine ⟨A2,k,c2,A1,nn,c1,by rw [HE.out],?_,HB.out.ap,HB.out.bel.trans (below_setC (by omega) _ _)⟩
     unfold newO newL
     rw [if_pos HE.out,if_pos HE.out,Int.toNat_natCast]
     have hlo2:=HB.out.lo
     exact ⟨OwnI.down o1 (by omega),OwnI.down o2 (by omega),by simp,HN.out,by omega,hl⟩)
    go_wp2
    refine bodyPost_ret (v:=.tuple #[.agg #[.slice A2 k c2,.slice A1 nn c1],.int .i64 0]) ?_ rfl HGT.out
    rw [results_cell_tmp rfl]
    simp [asAddr,run_loadVar_row _ (wf.heap.size + 1) _ _ _ _ _ HF2.out Tryz.underlying37 rfl (by kernel_rfl),Result.andThen]
 ·have HE: Hid (newE W E need cores = z):=Lib.hid HZE.out.symm
  have heb: (z != 0) = true:=bne_iff_ne.mpr he
  have HZ:=Lib.hid he
  clear he
  go_enter Tryz.func73,Tryz.ntmps73
  go_wp2_with fail
  rw [<- HW.out]
  refine CK.out.mono ?_
  rintro e w2 ⟨rfl,b1⟩
  have HB2:=Lib.hid (HB0.out.trans (b1.mono HB0.out.size))
  have HR2: Hid (w2.heap[wf.heap.size + 1]? = _):=Lib.hid ((b1.block _ (Array.getElem?_eq_some_iff.1 HR0.out).1).trans HR0.out)
  have hsz: wf.heap.size + 1 + 1 <= w2.heap.size:=(Array.getElem?_eq_some_iff.1 HR2.out).1
  clear b1 d0 d1
  have r0:=cell_of_row w2 (wf.heap.size + 1) 0 _ _ _ HR2.out
  have r1:=cell_of_row w2 (wf.heap.size + 1) 1 _ _ _ HR2.out
  have z0:=frozen_of_row w2 (wf.heap.size + 1) 0 _ _ HR2.out
  have z1:=frozen_of_row w2 (wf.heap.size + 1) 1 _ _ HR2.out
  simp at r0 r1
  have HE2:=Lib.hid (row_setC HR2.out (.slice none 0 0) (.slice none 0 0))
  go_wp2
  refine bodyPost_ret (v:=.tuple #[.agg #[.slice none 0 0,.slice none 0 0],.int .i64 z]) ?_ rfl (newP_bad HE.out HZ.out (HB2.out.trans (below_setC (by omega) _ _)))
  rw [results_cell_tmp rfl]
  simp [asAddr,run_loadVar_row _ (wf.heap.size + 1) _ _ _ _ _ HE2.out Tryz.underlying37 rfl (by kernel_rfl),Result.andThen]
end
section
variable {A: Option Addr} {n c: Nat} {F: Option Addr} {m d: Nat} {O L: List Int} {A': Option Addr} {n' c': Nat} {F': Option Addr} {m' d': Nat} {O' L': List Int}
theorem csame_any (w: World) (h: IsC w A n c F m d O L) (h': IsC w A' n' c' F' m' d' O' L') :
  Calls Tryz.prog 68 #[.agg #[.slice A n c,.slice F m d],.agg #[.slice A' n' c',.slice F' m' d']] w fun e w' => e = .returned (.bool (decide (O = O' /\ L = L'))) /\ Below w.heap.size w w':=by
 obtain ⟨w0,hw0⟩: ∃ w0,w0 = (w.alloc (.cells #[.slice A n c,.slice F m d] 37)).alloc (.cells #[.slice A' n' c',.slice F' m' d'] 37):=⟨_,rfl⟩
 have hb0: Below w.heap.size w w0:=by rw [hw0]; exact below_alloc2c _ _
 have C1:=eq_ints w0.heap.size A A' c c' O O' w0 (by rw [h.hn]; have:=h.ln; omega) (by rw [h'.hn]; have:=h'.ln; omega) ((h.below hb0).on) ((h'.below hb0).on)
 have C2:=Lib.hid (fun N => eq_ints w0.heap.size F F' d d' L L' (w0.drewN N) (by rw [h.hm]; have:=h.lm; omega) (by rw [h'.hm]; have:=h'.lm; omega) ((h.below hb0).left.below (below_drewN (Below.refl _ _) N)) ((h'.below hb0).left.below (below_drewN (Below.refl _ _) N)))
 rw [h.hn,h'.hn] at C1
 simp only [h.hm,h'.hm] at C2
 rw [hw0] at C1 C2
 have HB:=Lib.hid (fun N => below_drewN (below_alloc2c (w:=w) (.cells #[.slice A n c,.slice F m d] 37) (.cells #[.slice A' n' c',.slice F' m' d'] 37)) N)
 have HC1:=Lib.hid C1
 clear h h' hw0 C1 hb0
 by_cases h1: O = O'
 ·rw [decide_eq_true h1] at HC1
  have hr: decide (O = O' /\ L = L') = decide (L = L'):=by simp [h1]
  rw [hr]
  obtain ⟨r,hr⟩: ∃ r,r = decide (L = L'):=⟨_,rfl⟩
  simp only [<- hr] at C2 ⊢
  clear h1 hr
  go_enter Tryz.func68,Tryz.ntmps68
  go_wp2_with fail
  refine HC1.out.mono ?_
  rintro e w' ⟨rfl,N1,rfl⟩
  go_wp2_with fail
  refine (C2.out _).mono ?_
  rintro e w' ⟨rfl,M,rfl⟩
  go_wp2
  go_ret
  exact ⟨rfl,HB.out _⟩
 ·rw [decide_eq_false h1] at HC1
  rw [decide_eq_false (fun q: O = O' /\ L = L' => h1 q.1)]
  clear h1
  go_enter Tryz.func68,Tryz.ntmps68
  go_wp2_with fail
  refine HC1.out.mono ?_
  rintro e w' ⟨rfl,N1,rfl⟩
  go_wp2
  go_ret
  exact ⟨rfl,HB.out N1⟩
end
section
variable {base m: Nat} {g g': Gng} {L L': List Int} {ad ad': GAd}
theorem IsGng.isQ {w: World} (h: IsGng w base m g L ad) (hrl: ∀ j,j < m -> (g.R j).length = 64) {j: Nat} (hj: j < m): ∃ A c,ad.Rv j = .slice A 64 c /\ IsQ w A 64 c (g.R j):=by
 obtain ⟨A,c,hv,_⟩:=(h.ring j hj).slice
 have ho:=h.ring j hj
 rw [hrl j hj] at hv
 rw [hv] at ho
 exact ⟨A,c,hv,own_isQ ho (hrl j hj) (by decide)⟩
theorem eqf_self (w: World) (h: IsGng w base m g L ad) (hm: m <= 8) (hrl: ∀ j,j < m -> (g.R j).length = 64) :
  Calls Tryz.prog 69 #[.slice (some ⟨ad.gD,0,none⟩) m ad.cD,.slice (some ⟨ad.gD,0,none⟩) m ad.cD,.func (.func 70) #[] #[]] w fun e w' => e = .returned (.bool true) /\ Below w.heap.size w w':=by
 have H:=Lib.hid h
 have HRL:=Lib.hid hrl
 clear h hrl
 go_enter Tryz.func69,Tryz.ntmps69
 go_wp2
 go_loopw [17] (fun v wr => ∃ k: Nat,k <= m /\ v = .int .i64 k /\ Hid (Below w.heap.size w wr)) (fun v _ => m - (intOf v).toNat)
 case atStart => exact ⟨0,Nat.zero_le _,rfl,Lib.hid (Below.refl _ _)⟩
 case round =>
  obtain ⟨k,hk,rfl,HB⟩:=hrel
  by_cases hlt: k < m
  ·have hr:=H.out.below HB.out
   obtain ⟨A,c,hv,hq⟩:=hr.isQ HRL.out hlt
   have c0:=hr.dq hlt (i:=0) rfl
   have c1:=hr.dq hlt (i:=1) rfl
   have c2:=hr.dq hlt (i:=2) rfl
   rw [hv] at c0
   simp only [Nat.add_zero] at c0
   have e3: k * 3 = 3 * k:=Nat.mul_comm _ _
   have hn: ¬ ((m: Int) <= (k: Int)):=by omega
   obtain ⟨w2,hw2⟩: ∃ x,x = (wr.alloc (.cells #[.slice A 64 c,.int .i64 (g.T k),.int .i64 (g.B k)] 86)).alloc (.cells #[.slice A 64 c,.int .i64 (g.T k),.int .i64 (g.B k)] 86):=⟨_,rfl⟩
   have hb2: Below wr.heap.size wr w2:=by rw [hw2]; exact (below_alloc _).trans ((below_alloc _).mono (by simp))
   have C:=Lib.hid (dsame_d (g.T k) (g.B k) (g.T k) (g.B k) w2 (hq.below hb2) (hq.below hb2))
   rw [decide_eq_true (show SameQ (g.R k) (g.T k) (g.B k) (g.R k) (g.T k) (g.B k) from ⟨rfl,rfl,rfl⟩),hw2] at C
   have HB2: Hid (Below w.heap.size w w2):=Lib.hid (HB.out.trans (hb2.mono HB.out.size))
   have HW2:=Lib.hid hw2
   have hdl: ad.gD < wr.heap.size:=hr.lts.2.1.2
   obtain ⟨tk,htk⟩: ∃ t,t = g.T k:=⟨_,rfl⟩
   obtain ⟨bk,hbk⟩: ∃ t,t = g.B k:=⟨_,rfl⟩
   rw [<- htk,<- hbk] at C HW2
   rw [<- htk] at c1
   rw [<- hbk] at c2
   clear hr hv hq hb2 hw2 htk hbk
   go_wp2_with fail
   refine C.out.mono ?_
   rintro e w3 ⟨rfl,hb⟩
   have HB3:=Lib.hid hb
   clear hb
   go_wp2
   go_roundw
   case rel => exact ⟨k + 1,by omega,by go_num,Lib.hid (HB2.out.trans ((by rw [HW2.out]; exact HB3.out: Below w2.heap.size w2 _).mono HB2.out.size))⟩
   case measure => simp [intOf]; omega
  ·obtain rfl: m = k:=by omega
   go_wp2
   go_ret
   exact ⟨rfl,HB.out⟩
theorem eqt_self (w: World) (h: IsGng w base m g L ad) (hm: m <= 8) :
  Calls Tryz.prog 71 #[.slice (some ⟨ad.gT,0,none⟩) m ad.cT,.slice (some ⟨ad.gT,0,none⟩) m ad.cT] w fun e w' => e = .returned (.bool true) /\ Below w.heap.size w w':=by
 have H:=Lib.hid h
 clear h
 go_enter Tryz.func71,Tryz.ntmps71
 go_wp2
 go_loopw [13] (fun v wr => ∃ k: Nat,k <= m /\ v = .int .i64 k /\ Hid (Below w.heap.size w wr)) (fun v _ => m - (intOf v).toNat)
 case atStart => exact ⟨0,Nat.zero_le _,rfl,Lib.hid (Below.refl _ _)⟩
 case round =>
  obtain ⟨k,hk,rfl,HB⟩:=hrel
  by_cases hlt: k < m
  ·have hr:=H.out.below HB.out
   obtain ⟨t,ht⟩: ∃ t,t = g.tk k:=⟨_,rfl⟩
   have c0:=hr.tk hlt (i:=0) (v:=.bool t.steal) (by rw [ht]; rfl)
   have c1:=hr.tk hlt (i:=1) (v:=.int .i64 t.at_) (by rw [ht]; rfl)
   have c2:=hr.tk hlt (i:=2) (v:=.int .i64 t.top) (by rw [ht]; rfl)
   have c3:=hr.tk hlt (i:=3) (v:=.int .i64 t.bot) (by rw [ht]; rfl)
   have c4:=hr.tk hlt (i:=4) (v:=.int .i64 t.got) (by rw [ht]; rfl)
   have c5:=hr.tk hlt (i:=5) (v:=.int .i64 t.end_) (by rw [ht]; rfl)
   simp only [Nat.add_zero] at c0
   have e6: k * 6 = 6 * k:=Nat.mul_comm _ _
   have hn: ¬ ((m: Int) <= (k: Int)):=by omega
   clear hr ht
   go_wp2
   go_quiet (fail)
   go_wp2
   go_roundw
   case rel => exact ⟨k + 1,by omega,by go_num,Lib.hid (HB.out.trans ((below_drewN (Below.refl _ _) _).mono HB.out.size))⟩
   case measure => simp [intOf]; omega
  ·obtain rfl: m = k:=by omega
   go_wp2
   go_ret
   exact ⟨rfl,HB.out⟩
theorem same_self (w: World) (h: IsGng w base m g L ad) (hm: m <= 8) (hl: L.length <= 64) (hrl: ∀ j,j < m -> (g.R j).length = 64) :
  Calls Tryz.prog 35 #[.agg #[.slice (some ⟨ad.gO,0,none⟩) m ad.cO,ad.vL,.slice (some ⟨ad.gD,0,none⟩) m ad.cD,.slice (some ⟨ad.gT,0,none⟩) m ad.cT,.slice (some ⟨ad.gF,0,none⟩) m ad.cF],.agg #[.slice (some ⟨ad.gO,0,none⟩) m ad.cO,ad.vL,.slice (some ⟨ad.gD,0,none⟩) m ad.cD,.slice (some ⟨ad.gT,0,none⟩) m ad.cT,.slice (some ⟨ad.gF,0,none⟩) m ad.cF]] w fun e w' => e = .returned (.bool true) /\ Below w.heap.size w w':=by
 obtain ⟨AL,cL,hvL,hC⟩:=h.crew hm (by omega)
 obtain ⟨nL,hnL⟩: ∃ x,x = L.length:=⟨_,rfl⟩
 rw [<- hnL] at hvL hC
 obtain ⟨w1,hw1⟩: ∃ x,x = (w.alloc (.cells #[.slice (some ⟨ad.gO,0,none⟩) m ad.cO,.slice AL nL cL,.slice (some ⟨ad.gD,0,none⟩) m ad.cD,.slice (some ⟨ad.gT,0,none⟩) m ad.cT,.slice (some ⟨ad.gF,0,none⟩) m ad.cF] 41)).alloc (.cells #[.slice (some ⟨ad.gO,0,none⟩) m ad.cO,.slice AL nL cL,.slice (some ⟨ad.gD,0,none⟩) m ad.cD,.slice (some ⟨ad.gT,0,none⟩) m ad.cT,.slice (some ⟨ad.gF,0,none⟩) m ad.cF] 41):=⟨_,rfl⟩
 have hb1: Below w.heap.size w w1:=by rw [hw1]; exact (below_alloc _).trans ((below_alloc _).mono (by simp))
 have HB1:=Lib.hid hb1
 have R1: RowV w.heap.size 41 [.slice (some ⟨ad.gO,0,none⟩) m ad.cO,.slice AL nL cL,.slice (some ⟨ad.gD,0,none⟩) m ad.cD,.slice (some ⟨ad.gT,0,none⟩) m ad.cT,.slice (some ⟨ad.gF,0,none⟩) m ad.cF] w1:=by rw [hw1]; exact (RowV.new w _ [.slice (some ⟨ad.gO,0,none⟩) m ad.cO,.slice AL nL cL,.slice (some ⟨ad.gD,0,none⟩) m ad.cD,.slice (some ⟨ad.gT,0,none⟩) m ad.cT,.slice (some ⟨ad.gF,0,none⟩) m ad.cF]).alloc _
 have R2: RowV (w.heap.size + 1) 41 [.slice (some ⟨ad.gO,0,none⟩) m ad.cO,.slice AL nL cL,.slice (some ⟨ad.gD,0,none⟩) m ad.cD,.slice (some ⟨ad.gT,0,none⟩) m ad.cT,.slice (some ⟨ad.gF,0,none⟩) m ad.cF] w1:=by
  have:=RowV.new (w.alloc (.cells #[.slice (some ⟨ad.gO,0,none⟩) m ad.cO,.slice AL nL cL,.slice (some ⟨ad.gD,0,none⟩) m ad.cD,.slice (some ⟨ad.gT,0,none⟩) m ad.cT,.slice (some ⟨ad.gF,0,none⟩) m ad.cF] 41)) 41 [.slice (some ⟨ad.gO,0,none⟩) m ad.cO,.slice AL nL cL,.slice (some ⟨ad.gD,0,none⟩) m ad.cD,.slice (some ⟨ad.gT,0,none⟩) m ad.cT,.slice (some ⟨ad.gF,0,none⟩) m ad.cF]
  rw [hw1]
  simpa using this
 have HR1:=Lib.hid R1
 have HR2:=Lib.hid R2
 have C1:=Lib.hid (csame_any w1 (hC.below hb1) (hC.below hb1))
 rw [decide_eq_true (show g.O = g.O /\ L = L from ⟨rfl,rfl⟩)] at C1
 have C2:=Lib.hid (fun (W: World) (hb: Below w1.heap.size w1 W) => eqf_self W ((h.below hb1).below hb) hm hrl)
 have C3:=Lib.hid (fun (W: World) (hb: Below w1.heap.size w1 W) => eqt_self W ((h.below hb1).below hb) hm)
 have C4: Hid (∀ (W: World),Below w1.heap.size w1 W -> Calls Tryz.prog 72 #[.slice (some ⟨ad.gF,0,none⟩) m ad.cF,.slice (some ⟨ad.gF,0,none⟩) m ad.cF] W fun e w' => e = .returned (.bool true) /\ Below W.heap.size W w'):=Lib.hid (fun W hb => by
  have hi: Ints W W.heap.size (some ⟨ad.gF,0,none⟩) (frL m g):=OwnI.ints (show OwnI W base (.slice (some ⟨ad.gF,0,none⟩) m ad.cF) (frL m g) from ((h.below hb1).below hb).frm)
  have:=eq_ints W.heap.size (some ⟨ad.gF,0,none⟩) (some ⟨ad.gF,0,none⟩) ad.cF ad.cF (frL m g) (frL m g) W (by rw [frL_len]; omega) (by rw [frL_len]; omega) hi hi
  rw [frL_len,decide_eq_true rfl] at this
  exact this.mono fun e w' ⟨he,N,hw⟩ => ⟨he,by rw [hw]; exact below_drewN (Below.refl _ _) N⟩)
 have HW1:=Lib.hid hw1
 rw [hvL]
 clear h hC hvL hnL hl hb1 hw1 R1 R2 hrl
 go_enter Tryz.func35,Tryz.ntmps35
 go_upto_region 1 with fail
 rw [<- HW1.out]
 have a0:=HR1.out.cell (j:=0) rfl
 have a1:=HR1.out.cell (j:=1) rfl
 have a2:=HR1.out.cell (j:=2) rfl
 have a3:=HR1.out.cell (j:=3) rfl
 have a4:=HR1.out.cell (j:=4) rfl
 have b0:=HR2.out.cell (j:=0) rfl
 have b1:=HR2.out.cell (j:=1) rfl
 have b2:=HR2.out.cell (j:=2) rfl
 have b3:=HR2.out.cell (j:=3) rfl
 have b4:=HR2.out.cell (j:=4) rfl
 go_wp2_with (first
  | (go_at_call 68; refine C1.out.mono ?_; rintro e w2 ⟨rfl,hb⟩; (have HB2:=Lib.hid hb); clear hb a0 a1 a2 a3 a4 b0 b1 b2 b3 b4; (have R1:=HR1.out.below HB2.out HR1.out.lt); (have R2:=HR2.out.below HB2.out HR2.out.lt); (have a2:=R1.cell (j:=2) rfl); (have a3:=R1.cell (j:=3) rfl); (have a4:=R1.cell (j:=4) rfl); (have b2:=R2.cell (j:=2) rfl); (have b3:=R2.cell (j:=3) rfl); (have b4:=R2.cell (j:=4) rfl); clear R1 R2)
  | (go_at_call 69; refine (C2.out _ HB2.out).mono ?_; rintro e w3 ⟨rfl,hb⟩; (have HB3:=Lib.hid (HB2.out.trans (hb.mono HB2.out.size))); clear hb a2 a3 a4 b2 b3 b4; (have R1:=HR1.out.below HB3.out HR1.out.lt); (have R2:=HR2.out.below HB3.out HR2.out.lt); (have a3:=R1.cell (j:=3) rfl); (have a4:=R1.cell (j:=4) rfl); (have b3:=R2.cell (j:=3) rfl); (have b4:=R2.cell (j:=4) rfl); clear R1 R2)
  | (go_at_call 71; refine (C3.out _ HB3.out).mono ?_; rintro e w4 ⟨rfl,hb⟩; (have HB4:=Lib.hid (HB3.out.trans (hb.mono HB3.out.size))); clear hb a3 a4 b3 b4; (have R1:=HR1.out.below HB4.out HR1.out.lt); (have R2:=HR2.out.below HB4.out HR2.out.lt); (have a4:=R1.cell (j:=4) rfl); (have b4:=R2.cell (j:=4) rfl); clear R1 R2)
  | (go_at_call 72; refine (C4.out _ HB4.out).mono ?_; rintro e w5 ⟨rfl,hb⟩; (have HB5:=Lib.hid (HB4.out.trans (hb.mono HB4.out.size))); clear hb a4 b4))
 go_ret
 exact ⟨rfl,HB1.out.trans (HB5.out.mono HB1.out.size)⟩
theorem same_not (w: World) {base2: Nat} {g2: Gng} {L2: List Int} {ad2: GAd} (h: IsGng w base m g L ad) (h2: IsGng w base2 m g2 L2 ad2) (hm: m <= 8) (hl: L.length <= 64) (hl2: L2.length <= 64) (hne: g.O ≠ g2.O) :
  Calls Tryz.prog 35 #[.agg #[.slice (some ⟨ad.gO,0,none⟩) m ad.cO,ad.vL,.slice (some ⟨ad.gD,0,none⟩) m ad.cD,.slice (some ⟨ad.gT,0,none⟩) m ad.cT,.slice (some ⟨ad.gF,0,none⟩) m ad.cF],.agg #[.slice (some ⟨ad2.gO,0,none⟩) m ad2.cO,ad2.vL,.slice (some ⟨ad2.gD,0,none⟩) m ad2.cD,.slice (some ⟨ad2.gT,0,none⟩) m ad2.cT,.slice (some ⟨ad2.gF,0,none⟩) m ad2.cF]] w fun e w' => e = .returned (.bool false) /\ Below w.heap.size w w':=by
 obtain ⟨AL,cL,hvL,hC⟩:=h.crew hm (by omega)
 obtain ⟨AL2,cL2,hvL2,hC2⟩:=h2.crew hm (by omega)
 obtain ⟨nL,hnL⟩: ∃ x,x = L.length:=⟨_,rfl⟩
 obtain ⟨nL2,hnL2⟩: ∃ x,x = L2.length:=⟨_,rfl⟩
 rw [<- hnL] at hvL hC
 rw [<- hnL2] at hvL2 hC2
 obtain ⟨w1,hw1⟩: ∃ x,x = (w.alloc (.cells #[.slice (some ⟨ad.gO,0,none⟩) m ad.cO,.slice AL nL cL,.slice (some ⟨ad.gD,0,none⟩) m ad.cD,.slice (some ⟨ad.gT,0,none⟩) m ad.cT,.slice (some ⟨ad.gF,0,none⟩) m ad.cF] 41)).alloc (.cells #[.slice (some ⟨ad2.gO,0,none⟩) m ad2.cO,.slice AL2 nL2 cL2,.slice (some ⟨ad2.gD,0,none⟩) m ad2.cD,.slice (some ⟨ad2.gT,0,none⟩) m ad2.cT,.slice (some ⟨ad2.gF,0,none⟩) m ad2.cF] 41):=⟨_,rfl⟩
 have hb1: Below w.heap.size w w1:=by rw [hw1]; exact (below_alloc _).trans ((below_alloc _).mono (by simp))
 have HB1:=Lib.hid hb1
 have R1: RowV w.heap.size 41 [.slice (some ⟨ad.gO,0,none⟩) m ad.cO,.slice AL nL cL,.slice (some ⟨ad.gD,0,none⟩) m ad.cD,.slice (some ⟨ad.gT,0,none⟩) m ad.cT,.slice (some ⟨ad.gF,0,none⟩) m ad.cF] w1:=by rw [hw1]; exact (RowV.new w _ [.slice (some ⟨ad.gO,0,none⟩) m ad.cO,.slice AL nL cL,.slice (some ⟨ad.gD,0,none⟩) m ad.cD,.slice (some ⟨ad.gT,0,none⟩) m ad.cT,.slice (some ⟨ad.gF,0,none⟩) m ad.cF]).alloc _
 have R2: RowV (w.heap.size + 1) 41 [.slice (some ⟨ad2.gO,0,none⟩) m ad2.cO,.slice AL2 nL2 cL2,.slice (some ⟨ad2.gD,0,none⟩) m ad2.cD,.slice (some ⟨ad2.gT,0,none⟩) m ad2.cT,.slice (some ⟨ad2.gF,0,none⟩) m ad2.cF] w1:=by
  have:=RowV.new (w.alloc (.cells #[.slice (some ⟨ad.gO,0,none⟩) m ad.cO,.slice AL nL cL,.slice (some ⟨ad.gD,0,none⟩) m ad.cD,.slice (some ⟨ad.gT,0,none⟩) m ad.cT,.slice (some ⟨ad.gF,0,none⟩) m ad.cF] 41)) 41 [.slice (some ⟨ad2.gO,0,none⟩) m ad2.cO,.slice AL2 nL2 cL2,.slice (some ⟨ad2.gD,0,none⟩) m ad2.cD,.slice (some ⟨ad2.gT,0,none⟩) m ad2.cT,.slice (some ⟨ad2.gF,0,none⟩) m ad2.cF]
  rw [hw1]
  simpa using this
 have HR1:=Lib.hid R1
 have HR2:=Lib.hid R2
 have C1:=Lib.hid (csame_any w1 (hC.below hb1) (hC2.below hb1))
 rw [decide_eq_false (fun q: g.O = g2.O /\ L = L2 => hne q.1)] at C1
 have HW1:=Lib.hid hw1
 rw [hvL,hvL2]
 clear h h2 hC hC2 hvL hvL2 hnL hnL2 hl hl2 hb1 hw1 R1 R2 hne
 go_enter Tryz.func35,Tryz.ntmps35
 go_upto_region 1 with fail
 rw [<- HW1.out]
 have a0:=HR1.out.cell (j:=0) rfl
 have a1:=HR1.out.cell (j:=1) rfl
 have b0:=HR2.out.cell (j:=0) rfl
 have b1:=HR2.out.cell (j:=1) rfl
 go_wp2_with (go_at_call 68; refine C1.out.mono ?_; rintro e w2 ⟨rfl,hb⟩; (have HB2:=Lib.hid hb); clear hb a0 a1 b0 b1)
 go_ret
 exact ⟨rfl,HB1.out.trans (HB2.out.mono HB1.out.size)⟩
end
end Go.Proofs.YtfpnkcpjhbkgnaaGreatDoor
