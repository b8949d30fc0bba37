import Derived.Test.YtngdbbligebcbabGreatDoorZM22
import Derived.Test.YtngdbbligebcbabGreatDoorZM11
import Derived.Test.YtngdbbligebcbabGreatDoorZM6
import Derived.Lib.Hide
import Derived.Laws.ResultCell
set_option linter.unusedVariables false
set_option linter.unusedSimpArgs false
set_option maxRecDepth 100000
set_option maxHeartbeats 16000000
namespace Go.Proofs.YtngdbbligebcbabGreatDoor
open Go Go.RowKit
def PhiSs(b:Nat)(s:Int×Int×Int×Tkr)(R2:List Int)(gx gD j:Nat)(A:Option Addr)(c:Nat)(T B:Int)(t0:Tkr):Nat->Value->World->Prop
 |0,v,w=>v= .pointer (some ⟨gx,0,none⟩)
 |1,v,w=>v= .pointer (some ⟨gD,3 * j,none⟩)
 |2,v,w=>v= .pointer (some ⟨gD,3 * j,none⟩)
 |3,v,w=>v= .agg #[.slice A 64 c,.int .i64 T,.int .i64 B]
 |4,v,w=>v=vT t0
 |5,v,w=> ∃A2 n2 c2,v= .tuple #[.agg #[.slice A2 n2 c2,.int .i64 s.2.1,.int .i64 s.2.2.1],vT s.2.2.2,.int .i64 s.1]/\OwnI w b (.slice A2 n2 c2) R2/\R2.length=n2/\n2<=1000
 |6,v,w=> ∃A2 n2 c2,v= .tuple #[.agg #[.slice A2 n2 c2,.int .i64 s.2.1,.int .i64 s.2.2.1],vT s.2.2.2,.int .i64 s.1]/\OwnI w b (.slice A2 n2 c2) R2/\R2.length=n2/\n2<=1000
 |7,v,w=> ∃A2 n2 c2,v= .agg #[.slice A2 n2 c2,.int .i64 s.2.1,.int .i64 s.2.2.1]/\OwnI w b (.slice A2 n2 c2) R2/\R2.length=n2/\n2<=1000
 |8,v,w=>True
 |9,v,w=>True
 |10,v,w=> ∃x,v= .pointer (some ⟨x,0,none⟩)/\RowV x 81 [.slice none 0 0,.int .i64 0,.int .i64 0] w/\b<=x
 |_,_,_=>True
theorem phiSs_below{b:Nat}{s:Int×Int×Int×Tkr}{R2:List Int}{gx gD j:Nat}{A:Option Addr}{c:Nat}{T B:Int}{t0:Tkr}: ∀kq v w w',PhiSs b s R2 gx gD j A c T B t0 kq v w->Below w.heap.size w w'->PhiSs b s R2 gx gD j A c T B t0 kq v w':=by
 intro kq v w w' h hb
 match kq,h with
 |0,h=>exact h
 |1,h=>exact h
 |2,h=>exact h
 |3,h=>exact h
 |4,h=>exact h
 |5,h=>exact(by obtain⟨A2,n2,c2,e,ho,q⟩:=h;exact⟨A2,n2,c2,e,OwnI.below ho hb,q⟩)
 |6,h=>exact(by obtain⟨A2,n2,c2,e,ho,q⟩:=h;exact⟨A2,n2,c2,e,OwnI.below ho hb,q⟩)
 |7,h=>exact(by obtain⟨A2,n2,c2,e,ho,q⟩:=h;exact⟨A2,n2,c2,e,OwnI.below ho hb,q⟩)
 |8,h=>exact h
 |9,h=>exact h
 |10,h=>exact(by obtain⟨x,e,hr,hx⟩:=h;exact⟨x,e,hr.below hb hr.lt,hx⟩)
 |kq+11,h=>exact trivial
def ThtSs(b:Nat)(wr:World)(s:Int×Int×Int×Tkr)(R2:List Int)(gt:Nat)(t0:Tkr)(t:Nat)(f:Nat->Value)(w:World):Prop:=
 11<=t/\t<=14/\Kp [gt] wr w/\b<=w.heap.size/\ ∃A2 n2 c2 x8,f 15= .agg #[.slice A2 n2 c2,.int .i64 s.2.1,.int .i64 s.2.2.1]/\f 6= .pointer (some ⟨x8,0,none⟩)/\b<=x8/\
  OwnI w b (.slice A2 n2 c2) R2/\R2.length=n2/\n2<=1000/\(t=11->RowV x8 81 [.slice none 0 0,.int .i64 0,.int .i64 0] w)/\(12<=t->RowV x8 81 [.slice A2 n2 c2,.int .i64 s.2.1,.int .i64 s.2.2.1] w)/\
  (t<=12->RowV gt 65 (cT t0) w)/\(13<=t->RowV gt 65 (cT s.2.2.2) w)/\(t=14->f 7= .int .i64 s.1)
theorem results_cell2{fn:Func}{p u:Tmp}{ty:TypeId}(h:fn.results= #[.cell p ty,.tmp u])(tmps:Array Value)(P:Program)(w:World):
  (results fn tmps).run P w=((asAddr (tmps.getD p undef)).run P w).andThen fun q w₁=>((loadVar ty q).run P w₁).andThen fun v w₂=> .ok (.tuple #[v,tmps.getD u undef]) w₂:=by
 simp only[results,h];simp[Sem.run_bind,Result.andThen]
theorem ret_te{fn:Func}{p u:Tmp}(h:fn.results= #[.cell p 65,.tmp u]){tmps:Array Value}{w:World}{q:Nat}{cs:List Value}{z:Value}(hp:tmps.getD p undef= .pointer (some ⟨q,0,none⟩))(hu:tmps.getD u undef=z)(h1:RowV q 65 cs w)(l1:cs.length=6):
  (results fn tmps).run Tryz.prog w= .ok (.tuple #[.agg cs.toArray,z]) w:=by
 rw[results_cell2 h,hp,hu];simp[asAddr,load_tk h1 l1,Result.andThen]
theorem IsGng.gD_row{w:World}{base m:Nat}{g:Gng}{L:List Int}{a:GAd}(h:IsGng w base m g L a){q:Nat}{t:TypeId}{vs:List Value}(hr:RowV q t vs w)(hne:t≠81):q≠a.gD:=by
 obtain⟨cur,hb,_⟩:=rowN_block h.dqs;rintro rfl;unfold RowV at hr;rw[hb]at hr;injection hr with hr;injection hr with _ h3 _;exact hne h3.symm
theorem IsGng.far1{w:World}{base m:Nat}{g:Gng}{L:List Int}{a:GAd}(h:IsGng w base m g L a){b:Nat}(hb:b≠a.gO/\b≠a.gD/\b≠a.gT/\b≠a.gF)(hL:a.vL.ownBlock≠some b)(hR: ∀j,j<m->(a.Rv j).ownBlock≠some b)(k:Nat)(v:Value):IsGng (w.setCell ⟨b,k,none⟩ v) base m g L a:=by
 obtain⟨h1,h2,h3,h4⟩:=hb;have ne: ∀{q c:Nat},b≠q->(Value.slice (some ⟨q,0,none⟩) m c).ownBlock≠some b:=fun{q c} hn e=>hn (Option.some.inj (show some q=some b from e)).symm
 exact⟨h.ol,rowN_far h.on (ne h1),rowN_far h.left hL,rowN_far h.dqs (ne h2),rowN_far h.tks (ne h3),rowN_far h.frm (ne h4),fun j hj=>rowN_far (h.ring j hj) (hR j hj),h.oL,h.oF,h.oR,h.fL,h.fR⟩
theorem IsGng.below6{w:World}{base m:Nat}{g:Gng}{L:List Int}{a:GAd}(h:IsGng w base m g L a){b:Nat}{vs:List Value}(hb:RowV b 65 vs w)(hT:b≠a.gT)(x0 x1 x2 x3 x4 x5:Value):
  IsGng ((((((w.setCell ⟨b,0,none⟩ x0).setCell ⟨b,1,none⟩ x1).setCell ⟨b,2,none⟩ x2).setCell ⟨b,3,none⟩ x3).setCell ⟨b,4,none⟩ x4).setCell ⟨b,5,none⟩ x5) base m g L a:=by
 have ty: ∀{e:TypeId} {s n:Nat} {v:Value} {xs:List Value},w.ownsRow base e s v n xs->e≠65->v.ownBlock≠some b:=fun ho hne=>rowN_types ho hb hne
 have hn:b≠a.gO/\b≠a.gD/\b≠a.gT/\b≠a.gF:=⟨fun e=>ty h.on (by decide) (by rw[e];rfl),fun e=>ty h.dqs (by decide) (by rw[e];rfl),hT,fun e=>ty h.frm (by decide) (by rw[e];rfl)⟩
 have hL:a.vL.ownBlock≠some b:=ty h.left (by decide)
 have hR: ∀j,j<m->(a.Rv j).ownBlock≠some b:=fun j hj=>ty (h.ring j hj) (by decide)
 exact(((((h.far1 hn hL hR 0 x0).far1 hn hL hR 1 x1).far1 hn hL hR 2 x2).far1 hn hL hR 3 x3).far1 hn hL hR 4 x4).far1 hn hL hR 5 x5
theorem Kp.setNew{w w':World}{bs:List Nat}(h:Kp bs w w'){b k:Nat}(hb:w.heap.size<=b)(v:Value):Kp bs w (w'.setCell ⟨b,k,none⟩ v):=by
 refine⟨?_,?_,?_,?_,fun j hj hn=> ?_⟩
 ·exact((Below.refl 0 w').setCell (p:=⟨b,k,none⟩) (Nat.zero_le b) v).os.trans h.os
 ·exact((Below.refl 0 w').setCell (p:=⟨b,k,none⟩) (Nat.zero_le b) v).tape.trans h.tape
 ·exact((Below.refl 0 w').setCell (p:=⟨b,k,none⟩) (Nat.zero_le b) v).output.trans h.output
 ·exact Nat.le_trans h.size ((Below.refl 0 w').setCell (p:=⟨b,k,none⟩) (Nat.zero_le b) v).size
 ·rw [heap_setCell_other _ _ _ _ (fun q => by have q: j = b:=q; omega)]
  exact h.block j hj hn
section
variable {base gw m: Nat} {g: Gng} {L: List Int} {a: GAd} {vW vE: Value}
theorem sstep_any{j:Nat}(t0:Tkr)(w:World)(hj:j<m)(hm:m<=8)(hT:DTab w)(h:IsWk w base gw m g L a vW vE)(hl:(g.R j).length=64)(hs:stepQ (g.R j) (g.T j) (g.B j) t0=(0,moveD (g.R j) (g.T j) (g.B j) t0)):
    Calls Tryz.prog 91 #[.agg #[.pointer (some ⟨a.gD,3 * j,none⟩)],vT t0] w fun e w'=>e= .returned (.tuple #[vT (moveD (g.R j) (g.T j) (g.B j) t0).2.2, .int .i64 0])/\
      ∃v,IsWk w' base gw m {g with R:=updG g.R j (g.R j),T:=updG g.T j (moveD (g.R j) (g.T j) (g.B j) t0).1,B:=updG g.B j (moveD (g.R j) (g.T j) (g.B j) t0).2.1} L {a with Rv:=updG a.Rv j v} vW vE/\Kp [a.gD] w w':=by
  obtain⟨A,c,hv,_⟩:=(h.gng.ring j hj).slice;rw[hl]at hv;have hown:=h.gng.ring j hj;rw[hv]at hown;have hq0:IsQ w A 64 c (g.R j):=own_isQ hown hl (by decide)
  obtain⟨T,hTT⟩: ∃T,T=g.T j:=⟨_,rfl⟩;obtain⟨B,hBB⟩: ∃B,B=g.B j:=⟨_,rfl⟩;obtain⟨R,hRR⟩: ∃R,R=g.R j:=⟨_,rfl⟩;have HTT:=Lib.hid hTT;have HBB:=Lib.hid hBB;have HRR:=Lib.hid hRR;rw[<-hTT,<-hBB,<-hRR]at hs⊢;rw[<-hRR]at hq0 hl;obtain⟨s,hss⟩: ∃s,s=stepQ R T B t0:=⟨_,rfl⟩;rw[<-hss]at hs;obtain⟨R2,hR2⟩: ∃R2,R2=if s.1=0 then R else []:=⟨_,rfl⟩
  have HS:=Lib.hid hss;have HR2:=Lib.hid hR2;have HS0:=Lib.hid hs;have HQ:=Lib.hid hq0;have HT:=Lib.hid hT;have H:=Lib.hid h;have HV:=Lib.hid hv;have HTK:Hid (vT t0= .agg #[.bool t0.steal, .int .i64 t0.at_, .int .i64 t0.top, .int .i64 t0.bot, .int .i64 t0.got, .int .i64 t0.end_]):=Lib.hid rfl;obtain⟨w1,hw1⟩: ∃w1,w1=((w.alloc (.cells #[.pointer (some ⟨a.gD,3 * j,none⟩)] 109)).alloc (.cells #[.bool t0.steal, .int .i64 t0.at_, .int .i64 t0.top, .int .i64 t0.bot, .int .i64 t0.got, .int .i64 t0.end_] 65)).alloc (.cells #[.bool false, .int .i64 0, .int .i64 0, .int .i64 0, .int .i64 0, .int .i64 0] 65):=⟨_,rfl⟩;have hb1:Below w.heap.size w w1:=by rw[hw1];exact(((Below.refl _ _).alloc (Nat.le_refl _) _).alloc (by simp) _).alloc (by simp;omega) _
  have RX:Hid (RowV w.heap.size 109 [.pointer (some ⟨a.gD,3 * j,none⟩)] w1):=Lib.hid (by rw[hw1];exact((RowV.new w 109 [.pointer (some ⟨a.gD,3 * j,none⟩)]).alloc _).alloc _)
  have RT:Hid (RowV (w.heap.size+1) 65 (cT t0) w1):=Lib.hid (by
    rw[hw1];have:=(RowV.new (w.alloc (.cells #[.pointer (some ⟨a.gD,3 * j,none⟩)] 109)) 65 (cT t0)).alloc (.cells #[.bool false, .int .i64 0, .int .i64 0, .int .i64 0, .int .i64 0, .int .i64 0] 65)
    simpa[cT]using this)
  have RR:Hid (RowV (w.heap.size+1+1) 65 (cT (newTk false)) w1):=Lib.hid (by
    rw[hw1];have:=RowV.new ((w.alloc (.cells #[.pointer (some ⟨a.gD,3 * j,none⟩)] 109)).alloc (.cells #[.bool t0.steal, .int .i64 t0.at_, .int .i64 t0.top, .int .i64 t0.bot, .int .i64 t0.got, .int .i64 t0.end_] 65)) 65 (cT (newTk false))
    simpa[cT,newTk]using this)
  have W1:=Lib.hid (h.below hb1);have HB1:=Lib.hid hb1;have HSZ1:Hid (w.heap.size+2<w1.heap.size):=Lib.hid RR.out.lt;have HW1:=Lib.hid hw1;unfold vT;clear hT hown hq0 hs hss hR2 h hv hTT hBB hRR hb1 hw1;go_enter Tryz.func91,Tryz.ntmps91;go_upto_region 1 with fail;rw[<-HW1.out];obtain⟨gx,hgx⟩: ∃gx,gx=w.heap.size:=⟨_,rfl⟩;obtain⟨gt,hgt⟩: ∃gt,gt=w.heap.size+1:=⟨_,rfl⟩;obtain⟨gr,hgr⟩: ∃gr,gr=w.heap.size+1+1:=⟨_,rfl⟩;rw[<-hgr]at RR;rw[<-hgt]at RT;rw[<-hgx]at RX;have HGX:=Lib.hid hgx;have HGT:=Lib.hid hgt;have HGR:=Lib.hid hgr;clear hgx hgt hgr;refine wp_region_tail 11 [9,10,11,12,13,14,8,15,16,17,6,1000,1001,7] [8,9] (by kernel_rfl) (by kernel_rfl) (by intro d hd;simp at hd⊢;omega) (fun z=>IsWk z base gw m g L a vW vE/\RowV gx 109 [.pointer (some ⟨a.gD,3 * j,none⟩)] z/\RowV gt 65 (cT t0) z/\Below w1.heap.size w1 z) (PhiSs w1.heap.size s R2 gx a.gD j A c T B t0) (fun q v=>v=if q=8 then vT s.2.2.2 else .int .i64 s.1) (ThtSs w1.heap.size w1 s R2 gt t0)
    (fun z z' h hb=>⟨h.1.below hb,h.2.1.below hb h.2.1.lt,h.2.2.1.below hb h.2.2.1.lt,h.2.2.2.trans (hb.mono h.2.2.2.size)⟩) phiSs_below (⟨W1.out.below (Below.refl _ _).drew,RX.out.drewN 1,RT.out.drewN 1,(Below.refl _ _).drew⟩) ?hstep ?hloose ?hmid ?htail ?hcon ?hend
  case hstep=>
    intro kq o hkm hkF ho a1 w hI hA hd K hK;obtain⟨ρ,hρ⟩: ∃ρ,a1.eval=ρ:=⟨_,rfl⟩;rw[hρ]at hA hd
    match kq,hkm,hkF,ho with
    | 0, _, _, ho =>
      have hoo:=Option.some.inj ho;subst hoo;have hp:ρ (.tmp 2)= .pointer (some ⟨gx,0,none⟩):=by rw[HGX.out];exact hA.tmp 2 (by decide)
      exact fx_val hK hρ (.pointer (some ⟨gx,0,none⟩)) (by simp[execOp,hp,go_sem]) rfl
    | 1, _, _, ho =>
      have hoo:=Option.some.inj ho;subst hoo;have f0:ρ (.tmp 9)= .pointer (some ⟨gx,0,none⟩):=hd ⟨0, .data⟩ (by simp) (by rfl) (by decide)
      have h0:=hI.2.1.cell (j:=0) rfl;exact fx_val hK hρ (.pointer (some ⟨a.gD,3 * j,none⟩)) (by simp[execOp,f0,h0,go_sem]) rfl
    | 2, _, _, ho =>
      have hoo:=Option.some.inj ho;subst hoo;have f1:ρ (.tmp 10)= .pointer (some ⟨a.gD,3 * j,none⟩):=hd ⟨1, .data⟩ (by simp) (by rfl) (by decide)
      exact fx_val hK hρ (.pointer (some ⟨a.gD,3 * j,none⟩)) (by simp[execOp,f1,go_sem]) rfl
    | 3, _, _, ho =>
      have hoo:=Option.some.inj ho;subst hoo;have f2:ρ (.tmp 11)= .pointer (some ⟨a.gD,3 * j,none⟩):=hd ⟨2, .data⟩ (by simp) (by rfl) (by decide)
      have h0:=hI.1.gng.dq hj (i:=0) rfl;have h1:=hI.1.gng.dq hj (i:=1) rfl;have h2:=hI.1.gng.dq hj (i:=2) rfl;simp only[Nat.add_zero]at h0;rw[HV.out]at h0;rw[<-HTT.out]at h1;rw[<-HBB.out]at h2;exact fx_val hK hρ (.agg #[.slice A 64 c, .int .i64 T, .int .i64 B]) (by simp[execOp,f2,h0,h1,h2,go_sem]) rfl
    | 4, _, _, ho =>
      have hoo:=Option.some.inj ho;subst hoo;have hp:ρ (.tmp 3)= .pointer (some ⟨gt,0,none⟩):=by rw[HGT.out];exact hA.tmp 3 (by decide)
      have h0:=hI.2.2.1.cell (j:=0) rfl;have h1:=hI.2.2.1.cell (j:=1) rfl;have h2:=hI.2.2.1.cell (j:=2) rfl;have h3:=hI.2.2.1.cell (j:=3) rfl;have h4:=hI.2.2.1.cell (j:=4) rfl;have h5:=hI.2.2.1.cell (j:=5) rfl;exact fx_val hK hρ (vT t0) (by simp[execOp,hp,h0,h1,h2,h3,h4,h5,vT,go_sem]) rfl
    | 5, _, _, ho =>
      have hoo:=Option.some.inj ho;subst hoo;have f3:ρ (.tmp 12)= .agg #[.slice A 64 c, .int .i64 T, .int .i64 B]:=hd ⟨3, .data⟩ (by simp) (by rfl) (by decide)
      have f4:ρ (.tmp 13)=vT t0:=hd ⟨4, .data⟩ (by simp) (by rfl) (by decide)
      exact fx_call hK hρ 120 _ _ #[.agg #[.slice A 64 c, .int .i64 T, .int .i64 B],vT t0] rfl (by simp only[List.map_toArray,List.map_cons,List.map_nil,hA.const,f3,f4]) (eg_of Tryz.func120 (by kernel_rfl) rfl) ((dstep_any T B t0 w ((HQ.out.below HB1.out).below (hI.2.2.2.mono (Nat.le_refl _))) (HT.out.via (HB1.out.trans (hI.2.2.2.mono HB1.out.size)))).mono fun e w' hg=>(by
        obtain⟨A2,n2,c2,he,ho,hn2,hl2,hb⟩:=hg;rw[<-HS.out]at he ho hn2;rw[<-HR2.out]at ho hn2;exact⟨_,he,⟨A2,n2,c2,rfl,OwnI.down ho hI.2.2.2.size,hn2,hl2⟩,hb⟩))
    | 6, _, _, ho =>
      have hoo:=Option.some.inj ho;subst hoo;have f5: ∃A2 n2 c2,(ρ (.tmp 14))= .tuple #[.agg #[.slice A2 n2 c2, .int .i64 s.2.1, .int .i64 s.2.2.1],vT s.2.2.2, .int .i64 s.1]/\OwnI w w1.heap.size (.slice A2 n2 c2) R2/\R2.length=n2/\n2<=1000:=hd ⟨5, .data⟩ (by simp) (by rfl) (by decide)
      obtain⟨A2,n2,c2,e3,q⟩:=f5;exact fx_val hK hρ _ (by simp[execOp,e3,go_sem]) ⟨A2,n2,c2,rfl,q⟩
    | 7, _, _, ho =>
      have hoo:=Option.some.inj ho;subst hoo;have f6: ∃A2 n2 c2,(ρ (.tmp 8))= .tuple #[.agg #[.slice A2 n2 c2, .int .i64 s.2.1, .int .i64 s.2.2.1],vT s.2.2.2, .int .i64 s.1]/\OwnI w w1.heap.size (.slice A2 n2 c2) R2/\R2.length=n2/\n2<=1000:=hd ⟨6, .data⟩ (by simp) (by rfl) (by decide)
      obtain⟨A2,n2,c2,e3,q⟩:=f6;exact fx_val hK hρ (.agg #[.slice A2 n2 c2, .int .i64 s.2.1, .int .i64 s.2.2.1]) (by simp[execOp,e3,go_sem]) ⟨A2,n2,c2,rfl,q⟩
    |8,_,hkF,_=>exact absurd (by decide) hkF
    |9,_,hkF,_=>exact absurd (by decide) hkF
    | 10, _, _, ho =>
      have hoo:=Option.some.inj ho;subst hoo;exact fx_make hK hρ (.pointer (some ⟨w.heap.size,0,none⟩)) (w.alloc (.cells #[.slice none 0 0, .int .i64 0, .int .i64 0] 81)) (by simp[execOp,go_sem]) ⟨w.heap.size,rfl,RowV.new w _ [.slice none 0 0, .int .i64 0, .int .i64 0],hI.2.2.2.size⟩ (below_alloc _)
    |kq+11,h,_,_=>exact absurd h (by omega)
  case hloose=>
    intro kq o hkF ho ρ w hA hd;simp only[List.mem_cons,List.not_mem_nil,or_false]at hkF;rcases hkF with rfl|rfl
    · have hoo:=Option.some.inj ho;subst hoo;obtain⟨w1,A2,n2,c2,e3,_⟩:=hd ⟨6, .data⟩ (by simp) (by rfl) (by decide)
      have e4:ρ (.tmp 8)=_:=e3;exact⟨vT s.2.2.2,by simp[execOp,e4,go_sem],rfl⟩
    · have hoo:=Option.some.inj ho;subst hoo;obtain⟨w1,A2,n2,c2,e3,_⟩:=hd ⟨6, .data⟩ (by simp) (by rfl) (by decide)
      have e4:ρ (.tmp 8)=_:=e3;exact⟨.int .i64 s.1,by simp[execOp,e4,go_sem],rfl⟩
  case hmid=>
    intro vals w hI hF;obtain⟨A2,n2,c2,e5,ho,hn,hl2⟩:=hF 7 (by decide) (by decide)
    obtain⟨x8,e8,r8,b8⟩:=hF 10 (by decide) (by decide)
    exact⟨Nat.le_refl _,by decide,Kp.of_below hI.2.2.2 _,hI.2.2.2.size,A2,n2,c2,x8,e5,e8,b8,ho,hn,hl2,fun _=>r8,fun h=>absurd h (by decide),fun _=>hI.2.2.1,fun h=>absurd h (by decide),fun h=>absurd h (by decide)⟩
  case htail=>
    intro t o htm ho a1 w hA hT hL K hK;have htl:t<14:=(Array.getElem?_eq_some_iff.1 ho).1
    obtain⟨ρ,hρ⟩: ∃ρ,a1.eval=ρ:=⟨_,rfl⟩;rw[hρ]at hA
    try rw[hρ]at hL
    obtain rfl|rfl|rfl:t=11\/t=12\/t=13:=by omega
    · have hoo:=Option.some.inj ho;subst hoo;obtain⟨t1,t2,hkp,hsz,A2,n2,c2,x8,e5,e8,b8,ho,hn,hl2,r8,r8b,r9,r9b,e12⟩:=hT;simp only[hρ]at e5 e8 e12;have hr:=r8 rfl;have q0:=hr.cell (j:=0) rfl;have q1:=hr.cell (j:=1) rfl;have q2:=hr.cell (j:=2) rfl;have z0:=hr.frozen 0;have z1:=hr.frozen 1;have z2:=hr.frozen 2;have hne:gt≠x8:=fun e=>by have:=r9 (by decide);rw[e]at this;exact rowV_types hr this (by decide)
      have hx:x8∉ [gt]:=by simpa using hne.symm
      unfold Oper.wp;rw[show(execOp a1.eval _).run Tryz.prog w= .ok .skip (((w.setCell ⟨x8,0,none⟩ (.slice A2 n2 c2)).setCell ⟨x8,1,none⟩ (.int .i64 s.2.1)).setCell ⟨x8,2,none⟩ (.int .i64 s.2.2.1))from by rw[hρ];simp[execOp,e8,e5,q0,q1,q2,z0,z1,z2,go_sem],Oper.upon_skip]
      refine hK undef _ ⟨by decide,by decide,?_,?_,A2,n2,c2,x8,?_⟩
      · exact((hkp.setNew b8 _).setNew b8 _).setNew b8 _
      · simpa using hsz
      simp only[reduceCtorEq,if_false,hρ];exact⟨e5,e8,b8,own_store3 ho hr (by decide),hn,hl2,fun h=>absurd h (by decide),fun _=>((hr.set 0 _).set 1 _).set 2 _,fun _=>(((r9 (by decide)).far hne).far hne).far hne,fun h=>absurd h (by decide),fun h=>absurd h (by decide)⟩
    · have hoo:=Option.some.inj ho;subst hoo;obtain⟨t1,t2,hkp,hsz,A2,n2,c2,x8,e5,e8,b8,ho,hn,hl2,r8,r8b,r9,r9b,e12⟩:=hT;simp only[hρ]at e5 e8 e12;have hr:=r9 (by decide)
      have q0:=hr.cell (j:=0) rfl;have z0:=hr.frozen 0;have q1:=hr.cell (j:=1) rfl;have z1:=hr.frozen 1;have q2:=hr.cell (j:=2) rfl;have z2:=hr.frozen 2;have q3:=hr.cell (j:=3) rfl;have z3:=hr.frozen 3;have q4:=hr.cell (j:=4) rfl;have z4:=hr.frozen 4;have q5:=hr.cell (j:=5) rfl;have z5:=hr.frozen 5;have h8:=r8b (by decide)
      have hne:x8≠gt:=fun e=>by rw[e]at h8;exact rowV_types h8 hr (by decide)
      have hl1:ρ (.tmp 16)=vT s.2.2.2:=hL ⟨8, .data⟩ (by simp) (by rfl) (by decide)
      have hp:ρ (.tmp 3)= .pointer (some ⟨gt,0,none⟩):=by rw[HGT.out];exact hA.tmp 3 (by decide)
      unfold vT at hl1;unfold Oper.wp;rw[show(execOp a1.eval _).run Tryz.prog w= .ok .skip ((((((w.setCell ⟨gt,0,none⟩ (.bool s.2.2.2.steal)).setCell ⟨gt,1,none⟩ (.int .i64 s.2.2.2.at_)).setCell ⟨gt,2,none⟩ (.int .i64 s.2.2.2.top)).setCell ⟨gt,3,none⟩ (.int .i64 s.2.2.2.bot)).setCell ⟨gt,4,none⟩ (.int .i64 s.2.2.2.got)).setCell ⟨gt,5,none⟩ (.int .i64 s.2.2.2.end_))from by rw[hρ];simp[execOp,hp,hl1,q0,q1,q2,q3,q4,q5,z0,z1,z2,z3,z4,z5,go_sem],Oper.upon_skip]
      refine hK undef _ ⟨by decide,by decide,(((((hkp.set _ (by simp)).set _ (by simp)).set _ (by simp)).set _ (by simp)).set _ (by simp)).set _ (by simp),by simpa using hsz,A2,n2,c2,x8,?_⟩
      simp only[reduceCtorEq,if_false,hρ];exact⟨e5,e8,b8,own_store6 ho hr (by decide),hn,hl2,fun h=>absurd h (by decide),fun _=>(((((h8.far hne).far hne).far hne).far hne).far hne).far hne,fun h=>absurd h (by decide),fun _=>(((((hr.set 0 _).set 1 _).set 2 _).set 3 _).set 4 _).set 5 _,fun h=>absurd h (by decide)⟩
    · have hoo:=Option.some.inj ho;subst hoo;obtain⟨t1,t2,hkp,hsz,A2,n2,c2,x8,e5,e8,b8,ho,hn,hl2,r8,r8b,r9,r9b,e12⟩:=hT;simp only[hρ]at e5 e8 e12;have hlz:ρ (.tmp 17)= .int .i64 s.1:=hL ⟨9, .data⟩ (by simp) (by rfl) (by decide)
      unfold Oper.wp;rw[show(execOp a1.eval _).run Tryz.prog w= .ok (.value (.int .i64 s.1)) (w)from by rw[hρ];simp[execOp,hlz,go_sem],Oper.upon_value]
      refine hK _ _ ⟨by decide,by decide,hkp,hsz,A2,n2,c2,x8,?_⟩
      simp only[Option.some.injEq,Nat.reduceEqDiff,if_false,if_true,hρ];exact⟨e5,e8,b8,ho,hn,hl2,fun h=>absurd h (by decide),fun _=>r8b (by decide),fun h=>absurd h (by decide),fun _=>r9b (by decide),fun _=>rfl⟩
  case hcon=>
    intro t f g w h hT;obtain⟨t1,t2,hkp,hsz,A2,n2,c2,x8,e5,e8,b8,ho,hn,hl2,r8,r8b,r9,r9b,e12⟩:=hT;have q5:=h 7 (by omega) (by simp)
    have q8:=h 10 (by omega) (by simp)
    simp only[List.getD_cons_zero,List.getD_cons_succ]at q5 q8;refine⟨t1,t2,hkp,hsz,A2,n2,c2,x8,q5▸e5,q8▸e8,b8,ho,hn,hl2,r8,r8b,r9,r9b,fun e=> ?_⟩
    have q12:=h 13 (by omega) (by simp)
    simp only[List.getD_cons_zero,List.getD_cons_succ]at q12;exact q12▸e12 e
  case hend=>
    intro vals w3 hT;obtain⟨_,_,hkp,hsz,A2,n2,c2,x8,e5,e8,b8,ho,hn2,hl2,_,r8,_,r9,e12⟩:=hT;have X8:=Lib.hid (r8 (by decide))
    have X9:=Lib.hid (r9 (by decide))
    have hnx:gt∉ [gt]->False:=fun q=>q (by simp)
    have HGXT:Hid (w.heap.size<w1.heap.size):=Lib.hid (by have:=HSZ1.out;omega)
    have hgx:gx∉ [gt]:=by rw[HGX.out,HGT.out];simp
    have hgr:gr∉ [gt]:=by rw[HGR.out,HGT.out];simp
    have X2:=Lib.hid (hkp.row RX.out hgx);have X4:=Lib.hid (hkp.row RR.out hgr);have hbw:Below w.heap.size w w3:=HB1.out.trans (hkp.below (base:=w.heap.size) (fun b hb=>by rw[List.mem_singleton]at hb;rw[hb,HGT.out];omega) HB1.out.size)
    have W3:=Lib.hid (H.out.below hbw);have HBW:=Lib.hid hbw;have HO:=Lib.hid (OwnI.down ho HB1.out.size);have HN2:=Lib.hid hn2;have q12:=e12 rfl;clear r8 r9 ho hkp hsz e12 hn2 hl2 hgx hgr hbw hnx;simp only[fillA,fillL,List.contains_cons,List.contains_nil,Nat.reduceBEq,Bool.or_false,Bool.false_or,Bool.or_true,Bool.true_or,cond_true,cond_false,Nat.zero_add,Nat.reduceAdd];rw[e8,q12];clear e5 e8 q12;rw[<-HGR.out,<-HGT.out,<-HGX.out];have hz0:s.1=0:=by rw[HS0.out]
    have hs1:s.2.1=(moveD R T B t0).1:=by rw[HS0.out]
    have hs2:s.2.2.1=(moveD R T B t0).2.1:=by rw[HS0.out]
    have hs3:s.2.2.2=(moveD R T B t0).2.2:=by rw[HS0.out]
    have hRR2:R2=R:=by rw[HR2.out,if_pos hz0]
    rw[hz0];have x0:=X8.out.cell (j:=0) rfl;have x1:=X8.out.cell (j:=1) rfl;have x2:=X8.out.cell (j:=2) rfl;have b0:=X2.out.cell (j:=0) rfl;have dc0:=W3.out.gng.dq hj (i:=0) rfl;have dc1:=W3.out.gng.dq hj (i:=1) rfl;have dc2:=W3.out.gng.dq hj (i:=2) rfl;have z0:=(W3.out.gng.frozen (3 * j)).1;have z1:=(W3.out.gng.frozen (3 * j+1)).1;have z2:=(W3.out.gng.frozen (3 * j+2)).1;simp only[Nat.add_zero]at dc0;go_upto_region 5 with fail;obtain⟨u,hu⟩: ∃u,u=moveD R T B t0:=⟨_,rfl⟩;rw[<-hu]at hs1 hs2 hs3⊢;have HU:=Lib.hid hu;obtain⟨w4,hw4⟩: ∃w4,w4=((w3.setCell ⟨a.gD,3 * j,none⟩ (.slice A2 n2 c2)).setCell ⟨a.gD,3 * j+1,none⟩ (.int .i64 u.1)).setCell ⟨a.gD,3 * j+2,none⟩ (.int .i64 u.2.1):=⟨_,rfl⟩;have hlts:=H.out.gng.lts;have W4:=Lib.hid (W3.out.putD hj (R':=R2) u.1 u.2.1 (HO.out.down (by omega)) (fun b hb=>by
      have:=(row_lts HO.out b hb).1;omega))
    have hn9:=W3.out.gng.gD_row X9.out (by decide)
    have hn4:=W3.out.gng.gD_row X4.out (by decide)
    have X94:=Lib.hid (((X9.out.far (v:= .slice A2 n2 c2) (j:=3 * j) hn9).far (v:= .int .i64 u.1) (j:=3 * j+1) hn9).far (v:= .int .i64 u.2.1) (j:=3 * j+2) hn9);have X44:=Lib.hid (((X4.out.far (v:= .slice A2 n2 c2) (j:=3 * j) hn4).far (v:= .int .i64 u.1) (j:=3 * j+1) hn4).far (v:= .int .i64 u.2.1) (j:=3 * j+2) hn4);have HK4:=Lib.hid ((Kp.of_below HBW.out [a.gD]).set3 (b:=a.gD) (i:=3 * j) (j:=3 * j+1) (k:=3 * j+2) (.slice A2 n2 c2) (.int .i64 u.1) (.int .i64 u.2.1) (by simp))
    rw[<-hw4]at W4 X94 X44 HK4⊢;have HGR4:Hid (w.heap.size<=gr):=Lib.hid (by rw[HGR.out];omega)
    rw[hs3]at X94;clear hu hw4 hlts hn9 hn4 X9 X4 X8 X2 HO HBW W3 x0 x1 x2 b0 dc0 dc1 dc2 z0 z1 z2 hs1 hs2 hs3 hz0;obtain⟨T1,B1,tu⟩:=u;dsimp only at X94 W4 HK4⊢;obtain⟨st,at',tp,bt,gg,en⟩:=tu;unfold cT at X94 X44;have t0:=X94.out.cell (j:=0) rfl;have r0:=X44.out.cell (j:=0) rfl;have zr0:=X44.out.frozen 0;have t1:=X94.out.cell (j:=1) rfl;have r1:=X44.out.cell (j:=1) rfl;have zr1:=X44.out.frozen 1;have t2:=X94.out.cell (j:=2) rfl;have r2:=X44.out.cell (j:=2) rfl;have zr2:=X44.out.frozen 2;have t3:=X94.out.cell (j:=3) rfl;have r3:=X44.out.cell (j:=3) rfl;have zr3:=X44.out.frozen 3;have t4:=X94.out.cell (j:=4) rfl;have r4:=X44.out.cell (j:=4) rfl;have zr4:=X44.out.frozen 4;have t5:=X94.out.cell (j:=5) rfl;have r5:=X44.out.cell (j:=5) rfl;have zr5:=X44.out.frozen 5;have hret:=Lib.hid ((((((X44.out.set 0 (.bool st)).set 1 (.int .i64 at')).set 2 (.int .i64 tp)).set 3 (.int .i64 bt)).set 4 (.int .i64 gg)).set 5 (.int .i64 en));have hnr:gw≠gr:=fun e=>rowV_types (e▸W4.out.row) X44.out (by decide)
    have W5:=Lib.hid (IsWk.mk ((((((W4.out.row.far (v:= .bool st) (j:=0) hnr).far (v:= .int .i64 at') (j:=1) hnr).far (v:= .int .i64 tp) (j:=2) hnr).far (v:= .int .i64 bt) (j:=3) hnr).far (v:= .int .i64 gg) (j:=4) hnr).far (v:= .int .i64 en) (j:=5) hnr) W4.out.hw (W4.out.gng.below6 X44.out (by have:=H.out.gng.lts;have:=HGR4.out;show gr≠a.gT;omega) (.bool st) (.int .i64 at') (.int .i64 tp) (.int .i64 bt) (.int .i64 gg) (.int .i64 en)))
    go_wp2;refine bodyPost_ret (ret_te rfl rfl rfl hret.out rfl) rfl ?_
    have HU2:=HU.out.symm;rw[HU2];refine⟨rfl,⟨.slice A2 n2 c2,?_⟩,((((((HK4.out.setNew HGR4.out _).setNew HGR4.out _).setNew HGR4.out _).setNew HGR4.out _).setNew HGR4.out _).setNew HGR4.out _)⟩
    rw[hRR2]at W5;exact W5.out
end
end Go.Proofs.YtngdbbligebcbabGreatDoor
namespace Go.Proofs.YtngdbbligebcbabGreatDoor
open Go.RowKit
def waitV(E:List (Int×Int))(L:List Int):List Value:=(List.range 64).map fun n:Nat=>Value.bool (decide (¬OverC E L (n:Int)))
theorem waitV_length(E:List (Int×Int))(L:List Int):(waitV E L).length=64:=by simp[waitV]
theorem waitV_at{E:List (Int×Int)}{L:List Int}{n:Nat}(h:n<64):(waitV E L)[n]? =some (.bool (decide (¬OverC E L (n:Int)))):=by
 unfold waitV;rw[List.getElem?_map,List.getElem?_range h];rfl
theorem waitV_nil(L:List Int):waitV [] L=List.replicate 64 (Value.bool false):=by
 apply List.ext_getElem?
 intro i;rcases Nat.lt_or_ge i 64 with h|h
 ·rw [waitV_at h,List.getElem?_replicate,if_pos h,decide_eq_false]
  exact fun q=>q (fun e he=>absurd he (by simp))
 ·rw[List.getElem?_eq_none (by rw[waitV_length];exact h),List.getElem?_eq_none (by simpa using h)]
theorem overC_snoc{E:List (Int×Int)}{L:List Int}{x y:Int}{n:Int}:OverC (E++ [(x,y)]) L n↔OverC E L n/\(y=n-> ¬0<leftC L x):=by
 unfold OverC;constructor
 ·intro h
  exact⟨fun e he=>h e (List.mem_append_left _ he),fun q=>h (x,y) (List.mem_append_right _ (by simp)) q⟩
 ·rintro ⟨h1,h2⟩ e he
  rcases List.mem_append.mp he with h|h
  ·exact h1 e h
  ·obtain rfl: e = (x,y):=by simpa using h
   exact h2
theorem waitV_step{E:List (Int×Int)}{L:List Int}{x:Int}{m:Nat}(hm:m<64)(hx:0<leftC L x):waitV (E++ [(x,(m:Int))]) L=(waitV E L).set m (.bool true):=by
 apply List.ext_getElem?
 intro i;rcases Nat.lt_or_ge i 64 with h|h
 ·rw [waitV_at h,List.getElem?_set]
  by_cases e:m=i
  ·rw [if_pos e,if_pos (by rw [waitV_length]; omega),decide_eq_true]
   rw[overC_snoc];exact fun q=>q.2 (by rw[e]) hx
  ·rw [if_neg e,waitV_at h]
   congr 2
   exact decide_eq_decide.mpr ⟨fun q r=>q (overC_snoc.mpr ⟨r,fun e2=>by omega⟩),fun q r=>q (overC_snoc.mp r).1⟩
 ·rw[List.getElem?_eq_none (by rw[waitV_length];exact h),List.getElem?_eq_none (by rw[List.length_set,waitV_length];exact h)]
theorem waitV_still{E:List (Int×Int)}{L:List Int}{x y:Int}(hx: ¬0<leftC L x):waitV (E++ [(x,y)]) L=waitV E L:=by
 apply List.ext_getElem?
 intro i;rcases Nat.lt_or_ge i 64 with h|h
 ·rw [waitV_at h,waitV_at h]
  congr 2
  exact decide_eq_decide.mpr ⟨fun q r=>q (overC_snoc.mpr ⟨r,fun _=>hx⟩),fun q r=>q (overC_snoc.mp r).1⟩
 ·rw[List.getElem?_eq_none (by rw[waitV_length];exact h),List.getElem?_eq_none (by rw[waitV_length];exact h)]
def WaitB(g:Nat)(E:List (Int×Int))(L:List Int)(w:World):Prop:=RowV g 165 (waitV E L) w
theorem WaitB.below{g:Nat}{E:List (Int×Int)}{L:List Int}{w w':World}(h:WaitB g E L w)(hb:Below w.heap.size w w'):WaitB g E L w':=RowV.below h hb (RowV.lt h)
theorem waits_any{g:Nat}{E:List (Int×Int)}{L:List Int}(n:Nat)(w:World)(h:WaitB g E L w)(hn:n<64):
  Calls Tryz.prog 137 #[.int .i64 n,.pointer (some ⟨g,0,none⟩)] w fun e w'=>e= .returned (.bool (decide (¬OverC E L (n:Int))))/\w'=w:=by
 have d1:=RowV.cell h (waitV_at (E:=E) (L:=L) hn);obtain⟨b,hb⟩: ∃b,b=decide (¬OverC E L (n:Int)):=⟨_,rfl⟩;rw[<-hb]at d1⊢;clear hb h;go_enter Tryz.func137,Tryz.ntmps137;go_wp2;go_ret;exact⟨rfl,rfl⟩
section
variable {A: Option Addr} {n c: Nat} {F: Option Addr} {m d: Nat} {W: List Int} {E: List (Int × Int)} {B: Option Addr} {k q: Nat} {L: List Int}
theorem leftC_at{L:List Int}{n:Nat}{z:Int}(h:L[n]? =some z):leftC L (n:Int)=z:=by
 rw[leftC_nat,List.getD_eq_getElem?_getD,h];rfl
theorem waiting_any(w:World)(hg:IsG w A n c F m d W E)(hF:Fits W.length E)(h64:W.length<=64)(hk:L.length=k)(hL:L.length=W.length)(hI:Ints w w.heap.size B L):
  Calls Tryz.prog 117 #[.agg #[.slice A n c,.slice F m d],.slice B k q] w fun e w'=> ∃g,e= .returned (.func (.func 137) #[] #[.pointer (some ⟨g,0,none⟩)])/\WaitB g E L w'/\w.heap.size<=g/\Below w.heap.size w w':=by
 have HP:=Lib.hid hg.pairs;have HM:=Lib.hid hg.hm;have hm4:=hg.lm;have HI:=Lib.hid hI;have HK:=Lib.hid hk;have hk64:k<=64:=by omega
 have HFX:Hid (∀e∈E,∃a b:Nat,e=((a:Int),(b:Int))/\a<k/\b<64):=Lib.hid (fun e he=>by
  obtain⟨h1,h2,h3,h4⟩:=hF e he;refine⟨e.1.toNat,e.2.toNat,?_,by omega,by omega⟩
  rw[Int.toNat_of_nonneg h1,Int.toNat_of_nonneg (by omega)])
 clear hg hF hL hI hk;go_enter Tryz.func117,Tryz.ntmps117;go_wp2;obtain⟨w1,hw1⟩: ∃w1,w1=w.alloc (.cells #[.slice A n c,.slice F m d] 25):=⟨_,rfl⟩;have s1:w1.heap.size=w.heap.size+1:=by rw[hw1];simp
 have b1:Below w.heap.size w w1:=by rw[hw1];exact below_alloc _
 rw[<-hw1];have hz:(#[Value.bool false,Value.bool false,Value.bool false,Value.bool false,Value.bool false,Value.bool false,Value.bool false,Value.bool false,Value.bool false,Value.bool false,Value.bool false,Value.bool false,Value.bool false,Value.bool false,Value.bool false,Value.bool false,Value.bool false,Value.bool false,Value.bool false,Value.bool false,Value.bool false,Value.bool false,Value.bool false,Value.bool false,Value.bool false,Value.bool false,Value.bool false,Value.bool false,Value.bool false,Value.bool false,Value.bool false,Value.bool false,Value.bool false,Value.bool false,Value.bool false,Value.bool false,Value.bool false,Value.bool false,Value.bool false,Value.bool false,Value.bool false,Value.bool false,Value.bool false,Value.bool false,Value.bool false,Value.bool false,Value.bool false,Value.bool false,Value.bool false,Value.bool false,Value.bool false,Value.bool false,Value.bool false,Value.bool false,Value.bool false,Value.bool false,Value.bool false,Value.bool false,Value.bool false,Value.bool false,Value.bool false,Value.bool false,Value.bool false,Value.bool false]:Array Value)=(waitV (E.take 0) L).toArray:=by rw[List.take_zero,waitV_nil];rfl
 rw[hz];obtain⟨w2,hw2⟩: ∃w2,w2=w1.alloc (.cells (waitV (E.take 0) L).toArray 165):=⟨_,rfl⟩;have b2:Below w1.heap.size w1 w2:=by rw[hw2];exact below_alloc _
 have hp:WaitB (w.heap.size+1) (E.take 0) L w2:=by
  have:=RowV.new w1 165 (waitV (E.take 0) L);rw[s1,<-hw2]at this;exact this
 rw[<-hw2];have d0:w2.cell? ⟨w.heap.size,0,none⟩=some (.slice A n c):=by
  rw[b2.cell (show(⟨w.heap.size,0,none⟩:Addr).block<_ by rw[s1];show w.heap.size<_;omega),hw1,World.cell?_alloc_at _ _ _ _ rfl];rfl
 have d1:w2.cell? ⟨w.heap.size,1,none⟩=some (.slice F m d):=by
  rw[b2.cell (show(⟨w.heap.size,1,none⟩:Addr).block<_ by rw[s1];show w.heap.size<_;omega),hw1,World.cell?_alloc_at _ _ _ _ rfl];rfl
 have B0:Hid (Below w.heap.size w w2):=Lib.hid (b1.trans (b2.mono b1.size));have HP0:=Lib.hid hp;clear hw1 hw2 s1 b1 b2 hp hz w1;go_wp2;go_loopw [11] (fun v wr=> ∃j:Nat,j<=m/\v= .int .i64 j/\Hid (WaitB (w.heap.size+1) (E.take j) L wr)/\Hid (Below w.heap.size w wr)) (fun v _=>m - (intOf v).toNat)
 case atStart=>exact⟨0,Nat.zero_le _,rfl,HP0,B0⟩
 case round=>
  clear d0 d1 HP0 B0;obtain⟨j,hj,rfl,HW,HB⟩:=hrel
  by_cases hlt:j<m
  ·obtain ⟨bk,off,e,rfl,hbg,hek,e1,e2⟩:=HP.out.at_ (k:=j) (by rw [HM.out]; exact hlt)
   obtain⟨a,b,rfl,ha,hb⟩:=HFX.out e (List.mem_of_getElem? hek)
   have d1:=(HB.out.cell (show(⟨bk,off+j * 2,none⟩:Addr).block<_ from hbg)).trans e1
   have d2:=(HB.out.cell (show(⟨bk,off+j * 2+1,none⟩:Addr).block<_ from hbg)).trans e2
   simp only at d1 d2;have hbr:bk<wr.heap.size:=Nat.lt_of_lt_of_le hbg HB.out.size;obtain⟨bl,ofl,z,rfl,hbl,hz,e3⟩:=HI.out.at_ (k:=a) (by rw[HK.out];exact ha)
   have d3:=(HB.out.cell (show(⟨bl,ofl+a,none⟩:Addr).block<_ from hbl)).trans e3
   have hbr2:bl<wr.heap.size:=Nat.lt_of_lt_of_le hbl HB.out.size;have HZ:=Lib.hid (leftC_at hz);have HT:Hid (E.take (j+1)=E.take j++ [((a:Int),(b:Int))]):=Lib.hid (by rw[List.take_add_one,hek];rfl)
   have hgl:w.heap.size+1<wr.heap.size:=RowV.lt HW.out;have f1:=RowV.frozen HW.out b;obtain⟨u,hu⟩: ∃u,(waitV (E.take j) L)[b]? =some u:=⟨_,waitV_at hb⟩
   have c1:=RowV.cell HW.out hu;clear e1 e2 e3 hek hz hu hbg hbl
   by_cases hz0:0<z
   ·have HN:=Lib.hid (waitV_step (E:=E.take j) (L:=L) hb (show 0 < leftC L (a: Int) by rw [HZ.out]; exact hz0))
    go_wp2;go_roundw
    case rel=>exact⟨j+1,by omega,by go_num,Lib.hid (by
     rw[HT.out];unfold WaitB;rw[HN.out];exact RowV.alloc (RowV.set HW.out b _) _),Lib.hid ((HB.out.setCell (by show w.heap.size<=w.heap.size+1;omega) _).alloc (by simp[World.setCell];omega) _)⟩
    case measure=>simp[intOf];omega
   ·have hzf: decide (0 < z) = false:=decide_eq_false hz0
    have HN:=Lib.hid (waitV_still (E:=E.take j) (L:=L) (y:=(b:Int)) (show¬0<leftC L (a:Int) by rw[HZ.out];exact hz0))
    go_wp2;go_roundw
    case rel=>exact⟨j+1,by omega,by go_num,Lib.hid (by
     rw[HT.out];unfold WaitB;rw[HN.out];exact RowV.alloc HW.out _),Lib.hid (HB.out.trans ((below_alloc _).mono HB.out.size))⟩
    case measure=>simp[intOf];omega
  ·obtain rfl: j = m:=by omega
   have HW2:Hid (WaitB (w.heap.size+1) E L wr):=Lib.hid (by
    have:=HW.out
    rwa [List.take_of_length_le (by rw[HM.out];exact Nat.le_refl _)]at this)
   go_wp2;go_ret
   exact⟨_,rfl,HW2.out,by omega,HB.out⟩
end
end Go.Proofs.YtngdbbligebcbabGreatDoor
