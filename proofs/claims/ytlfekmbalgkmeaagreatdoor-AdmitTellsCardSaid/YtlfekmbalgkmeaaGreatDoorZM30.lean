import Derived.Test.YtlfekmbalgkmeaaGreatDoorZM4
import Derived.Test.YtlfekmbalgkmeaaGreatDoorZM13
import Derived.Test.YtlfekmbalgkmeaaGreatDoorZM9
import Derived.Test.YtlfekmbalgkmeaaGreatDoorZM29
import Derived.Test.YtlfekmbalgkmeaaGreatDoorZM28
set_option linter.unusedSimpArgs false
set_option linter.unnecessarySimpa false
set_option linter.unusedVariables false
set_option maxRecDepth 100000
set_option maxHeartbeats 32000000
namespace Go.Proofs.YtlfekmbalgkmeaaGreatDoor
open Go Go.RowKit
theorem Rwk.set5{w0 w:World}{L:List (TypeId×List Value)}(h:Rwk w0 L w)(i:Nat){t:TypeId}{a b c d e:Value}(hi:L[i]? =some (t,[a,b,c,d,e]))(u v x y z:Value):
  Rwk w0 (L.set i (t,[u,v,x,y,z])) (((((w.setCell ⟨w0.heap.size+i,0,none⟩ u).setCell ⟨w0.heap.size+i,1,none⟩ v).setCell ⟨w0.heap.size+i,2,none⟩ x).setCell ⟨w0.heap.size+i,3,none⟩ y).setCell ⟨w0.heap.size+i,4,none⟩ z):=by
 have hl:i<L.length:=(List.getElem?_eq_some_iff.mp hi).1
 have h1:=h.set i 0 hi u;have h2:=h1.set i 1 (List.getElem?_set_self hl) v
 rw[List.set_set]at h2;have h3:=h2.set i 2 (List.getElem?_set_self hl) x
 rw[List.set_set]at h3;have h4:=h3.set i 3 (List.getElem?_set_self hl) y
 rw[List.set_set]at h4;have h5:=h4.set i 4 (List.getElem?_set_self hl) z
 rw[List.set_set]at h5;exact h5
structure BxShp(wf:World)(L:List (TypeId×List Value))(g:Nat)(A:Option Addr)(n c:Nat)(F:Option Addr)(m d:Nat)(vR:Value)(W:List Int)(E:List (Int×Int))(w:World):Prop where
 b:Rwk wf L w
 r:RowV g 91 [.slice A n c,.slice F m d,vR] w
 l:IsG w A n c F m d W E
theorem BxShp.next{wf:World}{L:List (TypeId×List Value)}{g:Nat}{A:Option Addr}{n c:Nat}{F:Option Addr}{m d:Nat}{vR:Value}{W:List Int}{E:List (Int×Int)}{w w':World}(h:BxShp wf L g A n c F m d vR W E w)(hb:Below w.heap.size w w'):BxShp wf L g A n c F m d vR W E w':=
 ⟨h.b.next hb,h.r.below hb h.r.lt,h.l.below hb⟩
def PhiSp(wf:World)(g:Nat)(A:Option Addr)(n c:Nat)(F:Option Addr)(m d:Nat)(tot lg mx D P:Int):Nat->Value->World->Prop
 |0,v,w=>v= .pointer (some ⟨g,0,none⟩)
 |1,v,w=>v= .agg #[.slice A n c,.slice F m d]
 |2,v,w=>v= .int .i64 tot
 |3,v,w=>v= .pointer (some ⟨g,0,none⟩)
 |4,v,w=>v= .agg #[.slice A n c,.slice F m d]
 |5,v,w=>v= .int .i64 lg
 |6,v,w=>v= .pointer (some ⟨g,0,none⟩)
 |7,v,w=>v= .pointer (some ⟨g,0,none⟩)
 |8,v,w=>v= .slice A n c
 |9,v,w=>v= .int .i64 mx
 |10,v,w=>v= .pointer (some ⟨wf.heap.size,1,none⟩)
 |11,v,w=>v= .int .i64 D
 |12,v,w=>v= .pointer (some ⟨wf.heap.size,0,none⟩)
 |13,v,w=>v= .int .i64 P
 |14,v,w=>v= .agg #[.int .i64 tot,.int .i64 lg,.int .i64 mx,.int .i64 D,.int .i64 P]
 |_,_,_=>True
theorem phiSp_below{wf:World}{g:Nat}{A:Option Addr}{n c:Nat}{F:Option Addr}{m d:Nat}{tot lg mx D P:Int}: ∀kq v w w',PhiSp wf g A n c F m d tot lg mx D P kq v w->Below w.heap.size w w'->PhiSp wf g A n c F m d tot lg mx D P kq v w':=by
 intro kq v w w' h hb
 match kq,h with
 |0,h=>exact h
 |1,h=>exact h
 |2,h=>exact h
 |3,h=>exact h
 |4,h=>exact h
 |5,h=>exact h
 |6,h=>exact h
 |7,h=>exact h
 |8,h=>exact h
 |9,h=>exact h
 |10,h=>exact h
 |11,h=>exact h
 |12,h=>exact h
 |13,h=>exact h
 |14,h=>exact h
 |kq+15,h=>exact trivial
def ThtSp(wf:World)(dv:List Value)(g:Nat)(A:Option Addr)(n c:Nat)(F:Option Addr)(m d:Nat)(vR:Value)(W:List Int)(E:List (Int×Int))(tot lg mx D P:Int)(t:Nat)(f:Nat->Value)(w:World):Prop:=
 15<=t/\t<=17/\f 29= .agg #[.int .i64 tot,.int .i64 lg,.int .i64 mx,.int .i64 D,.int .i64 P]/\(t<=15->BxShp wf [(57,dv),(44,[.int .i64 0,.int .i64 0,.int .i64 0,.int .i64 0,.int .i64 0])] g A n c F m d vR W E w)/\(16<=t->Rwk wf [(57,dv),(44,[.int .i64 tot,.int .i64 lg,.int .i64 mx,.int .i64 D,.int .i64 P])] w)/\(t=17->f 3= .int .i64 0)
theorem load_shape{w:World}{q:Nat}{a b c d e:Value}(h:RowV q 44 [a,b,c,d,e] w):(loadVar 44 ⟨q,0,none⟩).run Tryz.prog w= .ok (.agg #[a,b,c,d,e]) w:=
 run_loadVar_row _ q _ _ _ _ _ h Tryz.underlying44 rfl (by kernel_rfl)
theorem ret_shape{fn:Func}{p u:Tmp}(h:fn.results= #[.cell p 44,.tmp u]){tmps:Array Value}{w:World}{q:Nat}{a b c d e x:Value}(hp:tmps.getD p undef= .pointer (some ⟨q,0,none⟩))(hu:tmps.getD u undef=x)(h1:RowV q 44 [a,b,c,d,e] w):
  (results fn tmps).run Tryz.prog w= .ok (.tuple #[.agg #[a,b,c,d,e],x]) w:=by
 rw[results_cell_tmp h,hp,hu];simp[asAddr,load_shape h1,Result.andThen]
open Classical in
noncomputable def shapeT (T:Task):Shp:=if LowOk T then⟨totalV (lowWv T) (lowEv T),longV (lowWv T) (lowEv T),maxL (lowWv T),T.deadline,T.period⟩else⟨0,0,0,0,0⟩
theorem low_work{T:Task}(h:LowOk T):1<=(lowWv T).length/\ ∀z∈lowWv T,0<=z/\z<=1000000:=by
 have hM:=h.2;have e:=(low_yes h).1;rw[e];refine⟨?_,fun z hz=>by have:=hM.work z hz;omega⟩
 rw[lowW_len h.1];have:=h.1.few;unfold ManyT at this;omega
theorem cshape_any(s:Sh)(T:Task)(wf:World)(hD:IsD wf s T):Calls Tryz.prog 29 #[s.arg T.period T.deadline] wf
    fun e w'=>e= .returned (.tuple #[(shapeT T).val, .int .i64 (lowX T)])/\Below wf.heap.size wf w':=by
  have HLW:=Lib.hid (fun W (b:Below wf.heap.size wf W)=>lower_got s T W (hD.below b))
  have hsz:=lows_few (T:=T);obtain⟨sP,np,pc,sE,ne,ec,sF,nf,fc,sR,nr,rc⟩:=s;clear hD
  by_cases hX:lowX T=0
  · have hOK:=lowX_zero.mp hX;obtain⟨hw1,hw2⟩:=low_work hOK;have hw3:=hsz hX;have hsv:shapeT T=⟨totalV (lowWv T) (lowEv T),longV (lowWv T) (lowEv T),maxL (lowWv T),T.deadline,T.period⟩:=if_pos hOK;rw[hX]at HLW;rw[hsv,hX];unfold Shp.val;obtain⟨P,hP⟩: ∃P,P=T.period:=⟨_,rfl⟩;obtain⟨D,hDe⟩: ∃P,P=T.deadline:=⟨_,rfl⟩;obtain⟨tot,htot⟩: ∃P,P=totalV (lowWv T) (lowEv T):=⟨_,rfl⟩;obtain⟨lg,hlg⟩: ∃P,P=longV (lowWv T) (lowEv T):=⟨_,rfl⟩;obtain⟨mx,hmx⟩: ∃P,P=maxL (lowWv T):=⟨_,rfl⟩;obtain⟨n,hn⟩: ∃n,n=(lowWv T).length:=⟨_,rfl⟩;obtain⟨m,hm⟩: ∃n,n=(lowEv T).length:=⟨_,rfl⟩;obtain⟨z,hz⟩: ∃n,n=(lowPv T).length:=⟨_,rfl⟩;obtain⟨W,hW⟩: ∃W,W=lowWv T:=⟨_,rfl⟩;obtain⟨E,hE⟩: ∃W,W=lowEv T:=⟨_,rfl⟩;obtain⟨Q,hQ⟩: ∃W,W=lowPv T:=⟨_,rfl⟩;dsimp only;rw[<-hP,<-hDe,<-hn,<-hm,<-hz,<-hW,<-hE,<-hQ]at HLW;rw[<-hn]at hw1 hw3;rw[<-hP,<-hDe,<-htot,<-hlg,<-hmx];rw[<-hW]at hw2 hn hmx;rw[<-hW,<-hE]at htot hlg;have HTO: ∀{A c F d} (w:World),IsG w A n c F m d W E->Calls Tryz.prog 58 #[.agg #[.slice A n c, .slice F m d]] w fun e w'=>e= .returned (.int .i64 tot)/\Below w.heap.size w w':=fun{A c F d} w h=>by rw[htot];exact total_done w h
    have HLO: ∀{A c F d} (w:World),IsG w A n c F m d W E->Calls Tryz.prog 59 #[.agg #[.slice A n c, .slice F m d]] w fun e w'=>e= .returned (.int .i64 lg)/\Below w.heap.size w w':=fun{A c F d} w h=>by rw[hlg];exact long_done w h
    have HMX: ∀{A c F d} (w:World),IsG w A n c F m d W E->Calls Tryz.prog 60 #[.slice A n c] w fun e w'=>e= .returned (.int .i64 mx)/\w=w':=fun{A c F d} w h=>by rw[hmx];exact smax_any A n c W w hn.symm hw1 (by omega) hw2 h.ints
    clear hm htot hlg hmx hsv hOK hw2 hX hsz hP hDe hz hW hE hQ;have B0:=Lib.hid (Rwk.start wf [(57, [.int .i64 P, .int .i64 D, .slice sP np pc, .slice sE ne ec, .slice sF nf fc, .slice sR nr rc]),(44, [.int .i64 0, .int .i64 0, .int .i64 0, .int .i64 0, .int .i64 0])]);obtain⟨dv,hdv⟩: ∃dv:List Value,dv= [.int .i64 P, .int .i64 D, .slice sP np pc, .slice sE ne ec, .slice sF nf fc, .slice sR nr rc]:=⟨_,rfl⟩;dsimp only[Sh.arg]at HLW⊢;have HTO':= @HTO;have HLO':= @HLO;have HMX':= @HMX;clear HTO HLO HMX;have HN:=Lib.hid hn;clear hn;go_enter Tryz.func29,Tryz.ntmps29;go_wp2_with fail;refine(HLW.out _ B0.out.bel).mono ?_
    rintro e w1 ⟨A,c,F,d,R,k,rfl,hL,b⟩;have HTO:=Lib.hid (fun w h=>HTO' (A:=A) (c:=c) (F:=F) (d:=d) w h)
    have HLO:=Lib.hid (fun w h=>HLO' (A:=A) (c:=c) (F:=F) (d:=d) w h)
    have HMX:=Lib.hid (fun w h=>HMX' (A:=A) (c:=c) (F:=F) (d:=d) w h)
    clear HTO' HLO' HMX' HLW;have HB:=Lib.hid (show BxShp wf _ w1.heap.size A n c F m d (.slice R z k) W E (w1.alloc (.cells #[.slice A n c, .slice F m d, .slice R z k] 91))from⟨(B0.out.next b).next (below_alloc _),RowV.new _ _ _,hL.g.below (below_alloc _)⟩)
    clear b hL B0;rw[<-hdv]at HB;go_wp2_with fail;obtain⟨g,hg⟩: ∃g,g=w1.heap.size:=⟨_,rfl⟩;obtain⟨w2,hw2⟩: ∃w2,w2=w1.alloc (.cells #[.slice A n c, .slice F m d, .slice R z k] 91):=⟨_,rfl⟩;rw[<-hw2,<-hg]at HB;rw[<-hw2,<-hg];clear hw2 hg;refine wp_region_tail 15 [15,16,17,18,19,20,21,22,23,24,25,26,27,28,29,1000,3] [] (by kernel_rfl) (by kernel_rfl) (by intro d hd;simp at hd⊢;omega) (BxShp wf [(57,dv),(44, [.int .i64 0, .int .i64 0, .int .i64 0, .int .i64 0, .int .i64 0])] g A n c F m d (.slice R z k) W E) (PhiSp wf g A n c F m d tot lg mx D P) (fun _ _=>True) (ThtSp wf dv g A n c F m d (.slice R z k) W E tot lg mx D P)
      (fun y y' h hb=>h.next hb) phiSp_below (HB.out.next (Below.refl _ _).drew) ?hstep ?hloose ?hmid ?htail ?hcon ?hend
    case hstep=>
      intro kq o hkm hkF ho a1 w hI hA hd K hK;obtain⟨ρ,hρ⟩: ∃ρ,a1.eval=ρ:=⟨_,rfl⟩;rw[hρ]at hA hd
      match kq,hkm,hkF,ho with
      | 0, _, _, ho =>
        have hoo:=Option.some.inj ho;subst hoo;exact fx_val hK hρ (.pointer (some ⟨g,0,none⟩)) (by have h:=hA.tmp 4 (by decide);simp[execOp,h,go_sem]) rfl
      | 1, _, _, ho =>
        have hoo:=Option.some.inj ho;subst hoo;have f0:ρ (.tmp 15)= .pointer (some ⟨g,0,none⟩):=hd ⟨0, .data⟩ (by simp) (by rfl) (by decide)
        have q0:=hI.r.cell (j:=0) rfl;have q1:=hI.r.cell (j:=1) rfl;exact fx_val hK hρ (.agg #[.slice A n c, .slice F m d]) (by simp[execOp,f0,q0,q1,go_sem]) rfl
      | 2, _, _, ho =>
        have hoo:=Option.some.inj ho;subst hoo;have f1:ρ (.tmp 16)= .agg #[.slice A n c, .slice F m d]:=hd ⟨1, .data⟩ (by simp) (by rfl) (by decide)
        exact fx_call hK hρ 58 _ _ #[.agg #[.slice A n c, .slice F m d]] rfl (by simp only[List.map_toArray,List.map_cons,List.map_nil,hA.const,f1]) (eg_of Tryz.func58 (by kernel_rfl) rfl) ((HTO.out w hI.l).mono fun e w' ⟨he,hb⟩=>⟨_,he,rfl,hb⟩)
      | 3, _, _, ho =>
        have hoo:=Option.some.inj ho;subst hoo;exact fx_val hK hρ (.pointer (some ⟨g,0,none⟩)) (by have h:=hA.tmp 4 (by decide);simp[execOp,h,go_sem]) rfl
      | 4, _, _, ho =>
        have hoo:=Option.some.inj ho;subst hoo;have f3:ρ (.tmp 18)= .pointer (some ⟨g,0,none⟩):=hd ⟨3, .data⟩ (by simp) (by rfl) (by decide)
        have q0:=hI.r.cell (j:=0) rfl;have q1:=hI.r.cell (j:=1) rfl;exact fx_val hK hρ (.agg #[.slice A n c, .slice F m d]) (by simp[execOp,f3,q0,q1,go_sem]) rfl
      | 5, _, _, ho =>
        have hoo:=Option.some.inj ho;subst hoo;have f4:ρ (.tmp 19)= .agg #[.slice A n c, .slice F m d]:=hd ⟨4, .data⟩ (by simp) (by rfl) (by decide)
        exact fx_call hK hρ 59 _ _ #[.agg #[.slice A n c, .slice F m d]] rfl (by simp only[List.map_toArray,List.map_cons,List.map_nil,hA.const,f4]) (eg_of Tryz.func59 (by kernel_rfl) rfl) ((HLO.out w hI.l).mono fun e w' ⟨he,hb⟩=>⟨_,he,rfl,hb⟩)
      | 6, _, _, ho =>
        have hoo:=Option.some.inj ho;subst hoo;exact fx_val hK hρ (.pointer (some ⟨g,0,none⟩)) (by have h:=hA.tmp 4 (by decide);simp[execOp,h,go_sem]) rfl
      | 7, _, _, ho =>
        have hoo:=Option.some.inj ho;subst hoo;have f6:ρ (.tmp 21)= .pointer (some ⟨g,0,none⟩):=hd ⟨6, .data⟩ (by simp) (by rfl) (by decide)
        exact fx_val hK hρ (.pointer (some ⟨g,0,none⟩)) (by simp[execOp,f6,go_sem]) rfl
      | 8, _, _, ho =>
        have hoo:=Option.some.inj ho;subst hoo;have f7:ρ (.tmp 22)= .pointer (some ⟨g,0,none⟩):=hd ⟨7, .data⟩ (by simp) (by rfl) (by decide)
        have q0:=hI.r.cell (j:=0) rfl;exact fx_val hK hρ (.slice A n c) (by simp[execOp,f7,q0,go_sem]) rfl
      | 9, _, _, ho =>
        have hoo:=Option.some.inj ho;subst hoo;have f8:ρ (.tmp 23)= .slice A n c:=hd ⟨8, .data⟩ (by simp) (by rfl) (by decide)
        exact fx_call hK hρ 60 _ _ #[.slice A n c] rfl (by simp only[List.map_toArray,List.map_cons,List.map_nil,hA.const,f8]) (eg_of Tryz.func60 (by kernel_rfl) rfl) ((HMX.out w hI.l).mono fun e w' ⟨he,hb⟩=>⟨_,he,rfl,hb▸Below.refl _ _⟩)
      | 10, _, _, ho =>
        have hoo:=Option.some.inj ho;subst hoo;exact fx_val hK hρ (.pointer (some ⟨wf.heap.size,1,none⟩)) (by have h:=hA.tmp 1 (by decide);simp[execOp,h,go_sem]) rfl
      | 11, _, _, ho =>
        have hoo:=Option.some.inj ho;subst hoo;have f10:ρ (.tmp 25)= .pointer (some ⟨wf.heap.size,1,none⟩):=hd ⟨10, .data⟩ (by simp) (by rfl) (by decide)
        have q0:=hI.b.cell 0 1 rfl (by rw[hdv];rfl)
        simp only[Nat.add_zero]at q0;exact fx_val hK hρ (.int .i64 D) (by simp[execOp,f10,q0,go_sem]) rfl
      | 12, _, _, ho =>
        have hoo:=Option.some.inj ho;subst hoo;exact fx_val hK hρ (.pointer (some ⟨wf.heap.size,0,none⟩)) (by have h:=hA.tmp 1 (by decide);simp[execOp,h,go_sem]) rfl
      | 13, _, _, ho =>
        have hoo:=Option.some.inj ho;subst hoo;have f12:ρ (.tmp 27)= .pointer (some ⟨wf.heap.size,0,none⟩):=hd ⟨12, .data⟩ (by simp) (by rfl) (by decide)
        have q0:=hI.b.cell 0 0 rfl (by rw[hdv];rfl)
        simp only[Nat.add_zero]at q0;exact fx_val hK hρ (.int .i64 P) (by simp[execOp,f12,q0,go_sem]) rfl
      | 14, _, _, ho =>
        have hoo:=Option.some.inj ho;subst hoo;have f2:ρ (.tmp 17)= .int .i64 tot:=hd ⟨2, .data⟩ (by simp) (by rfl) (by decide)
        have f5:ρ (.tmp 20)= .int .i64 lg:=hd ⟨5, .data⟩ (by simp) (by rfl) (by decide)
        have f9:ρ (.tmp 24)= .int .i64 mx:=hd ⟨9, .data⟩ (by simp) (by rfl) (by decide)
        have f11:ρ (.tmp 26)= .int .i64 D:=hd ⟨11, .data⟩ (by simp) (by rfl) (by decide)
        have f13:ρ (.tmp 28)= .int .i64 P:=hd ⟨13, .data⟩ (by simp) (by rfl) (by decide)
        exact fx_val hK hρ (.agg #[.int .i64 tot, .int .i64 lg, .int .i64 mx, .int .i64 D, .int .i64 P]) (by simp[execOp,f2,f5,f9,f11,f13,hA.const,go_sem]) rfl
      |kq+15,h,_,_=>exact absurd h (by omega)
    case hloose=>
      intro kq o hkF ho ρ w hA hd;exact absurd hkF (by simp)
    case hmid=>
      intro vals w hI hF;exact⟨by decide,by decide,hF 14 (by decide) (by decide),fun _=>hI,fun h=>absurd h (by decide),fun h=>absurd h (by decide)⟩
    case htail=>
      intro t o htm ho a1 w hA hT hL K hK;have htl:t<17:=(Array.getElem?_eq_some_iff.1 ho).1
      obtain⟨ρ,hρ⟩: ∃ρ,a1.eval=ρ:=⟨_,rfl⟩;rw[hρ]at hA;obtain rfl|rfl:t=15\/t=16:=by omega
      · have hoo:=Option.some.inj ho;subst hoo;obtain⟨t1,t2,g29,hb, -, -⟩:=hT;simp only[hρ]at g29;have hb:=hb (by decide)
        have hs:=hA.tmp 2 (by decide)
        have e0:=hb.b.frozen 1 0 rfl;have e1:=hb.b.frozen 1 1 rfl;have e2:=hb.b.frozen 1 2 rfl;have e3:=hb.b.frozen 1 3 rfl;have e4:=hb.b.frozen 1 4 rfl;have q0:=hb.b.cell 1 0 rfl rfl;have q1:=hb.b.cell 1 1 rfl rfl;have q2:=hb.b.cell 1 2 rfl rfl;have q3:=hb.b.cell 1 3 rfl rfl;have q4:=hb.b.cell 1 4 rfl rfl;unfold Oper.wp;rw[show(execOp a1.eval _).run Tryz.prog w= .ok .skip (((((w.setCell ⟨wf.heap.size+1,0,none⟩ (.int .i64 tot)).setCell ⟨wf.heap.size+1,1,none⟩ (.int .i64 lg)).setCell ⟨wf.heap.size+1,2,none⟩ (.int .i64 mx)).setCell ⟨wf.heap.size+1,3,none⟩ (.int .i64 D)).setCell ⟨wf.heap.size+1,4,none⟩ (.int .i64 P))from by rw[hρ];simp[execOp,hs,g29,e0,e1,e2,e3,e4,q0,q1,q2,q3,q4,go_sem],Oper.upon_skip]
        refine hK undef _ ⟨by decide,by decide,?_⟩
        simp only[reduceCtorEq,if_false,hρ];exact⟨g29,fun h=>absurd h (by decide),fun _=>hb.b.set5 1 rfl _ _ _ _ _,fun h=>absurd h (by decide)⟩
      · have hoo:=Option.some.inj ho;subst hoo;obtain⟨t1,t2,g29, -,hb, -⟩:=hT;simp only[hρ]at g29;have hb:=hb (by decide)
        unfold Oper.wp;rw[show(execOp a1.eval _).run Tryz.prog w= .ok (.value (.int .i64 0)) w from by rw[hρ];simp[execOp,hA.const,go_sem],Oper.upon_value]
        refine hK _ _ ⟨by decide,by decide,?_⟩
        simp only[Option.some.injEq,Nat.reduceEqDiff,if_false,if_true,hρ];exact⟨g29,fun h=>absurd h (by decide),fun _=>hb,fun _=>if_pos rfl⟩
    case hcon=>
      intro t f g w h hT;obtain⟨t1,t2,g29,hb,hb2,h3⟩:=hT;have q14:=h 14 (by omega) (by simp)
      simp only[List.getD_cons_zero,List.getD_cons_succ]at q14;refine⟨t1,t2,q14▸g29,hb,hb2,fun e=> ?_⟩
      have q16:=h 16 (by omega) (by simp)
      simp only[List.getD_cons_zero,List.getD_cons_succ]at q16;exact q16▸h3 e
    case hend=>
      intro vals w3 hT;obtain⟨_,_,_,_,hb2,h3⟩:=hT;have B4:=Lib.hid (hb2 (by decide))
      have h3:=h3 rfl;clear hb2;simp only[fillA,fillL,List.contains_cons,List.contains_nil,Nat.reduceBEq,Bool.or_false,Bool.false_or,Bool.or_true,Bool.true_or,cond_true,cond_false,Nat.zero_add,Nat.reduceAdd,h3];go_wp2;refine bodyPost_ret (ret_shape rfl rfl rfl (B4.out.row 1 _ _ rfl)) rfl ?_
      exact⟨rfl,B4.out.bel⟩
  · have hN: ¬LowOk T:=fun h=>hX (lowX_zero.mpr h)
    have hsv:shapeT T=⟨0,0,0,0,0⟩:=if_neg hN;rw[hsv];unfold Shp.val;dsimp only;obtain⟨P,hP⟩: ∃P,P=T.period:=⟨_,rfl⟩;obtain⟨D,hDe⟩: ∃P,P=T.deadline:=⟨_,rfl⟩;obtain⟨n,hn⟩: ∃n,n=(lowWv T).length:=⟨_,rfl⟩;obtain⟨m,hm⟩: ∃n,n=(lowEv T).length:=⟨_,rfl⟩;obtain⟨z,hz⟩: ∃n,n=(lowPv T).length:=⟨_,rfl⟩;obtain⟨x,hx⟩: ∃n,n=lowX T:=⟨_,rfl⟩;rw[<-hP,<-hDe,<-hn,<-hm,<-hz,<-hx]at HLW;rw[<-hx]at hX;rw[<-hP,<-hDe,<-hx];have hb:(x !=0)=true:=bne_iff_ne.mpr hX;clear hsv hN hsz hP hDe hn hm hz hx hX;have B0:=Lib.hid (Rwk.start wf [(57, [.int .i64 P, .int .i64 D, .slice sP np pc, .slice sE ne ec, .slice sF nf fc, .slice sR nr rc]),(44, [.int .i64 0, .int .i64 0, .int .i64 0, .int .i64 0, .int .i64 0])]);dsimp only[Sh.arg]at HLW⊢;go_enter Tryz.func29,Tryz.ntmps29;go_wp2_with fail;refine(HLW.out _ B0.out.bel).mono ?_
    rintro e w1 ⟨A,c,F,d,R,k,rfl,hL,b⟩;have B1:=Lib.hid ((B0.out.next b).alloc (.cells #[.slice A n c, .slice F m d, .slice R z k] 91));clear b hL B0 HLW;have c10:=B1.out.cell 1 0 rfl rfl;have c11:=B1.out.cell 1 1 rfl rfl;have c12:=B1.out.cell 1 2 rfl rfl;have c13:=B1.out.cell 1 3 rfl rfl;have c14:=B1.out.cell 1 4 rfl rfl;have z10:=B1.out.frozen 1 0 rfl;have z11:=B1.out.frozen 1 1 rfl;have z12:=B1.out.frozen 1 2 rfl;have z13:=B1.out.frozen 1 3 rfl;have z14:=B1.out.frozen 1 4 rfl;go_upto_region 3 with(fail);obtain⟨w2,hw2⟩: ∃w2,w2=w1.alloc (.cells #[.slice A n c, .slice F m d, .slice R z k] 91):=⟨_,rfl⟩;rw[<-hw2]at B1 c10 c11 c12 c13 c14 z10 z11 z12 z13 z14;rw[<-hw2];clear hw2;go_wp2;have B2:=B1.out.set5 1 rfl (.int .i64 0) (.int .i64 0) (.int .i64 0) (.int .i64 0) (.int .i64 0);refine bodyPost_ret (ret_shape rfl rfl rfl (B2.row 1 _ _ rfl)) rfl ?_
    exact⟨rfl,B2.bel⟩
end Go.Proofs.YtlfekmbalgkmeaaGreatDoor
namespace Go.Proofs.YtlfekmbalgkmeaaGreatDoor
theorem stepW_sum: ∀(b:Int) (l:List Int) (z:Int),(stepW b (l++ [z])).sum=z - b
  |b, [],z=>by simp[stepW]
  | b, e :: l, z => by
    rw[List.cons_append,stepW,List.sum_cons,stepW_sum e l z];omega
def workK(ps:List (Int×Int×Int))(j:Nat):Int:=((ps.take j).map fun e=>e.2.2).sum
theorem workK_succ{ps:List (Int×Int×Int)}{j:Nat}{e:Int×Int×Int}(h:ps[j]? =some e):workK ps (j+1)=workK ps j+e.2.2:=by
 unfold workK;rw[List.take_add_one,h,List.map_append,List.sum_append];simp
theorem wPs_sum(fs ps:List (Int×Int×Int)): ∀j,j<=ps.length->(wPs fs ps j).sum=workK ps j
  |0,_=>rfl
  | j + 1, h => by
    have hj:ps[j]? =some ps[j]:=List.getElem?_eq_getElem (by omega)
    rw[wPs,List.sum_append,wPs_sum fs ps j (by omega),workK_succ hj]
    unfold endsL;rw[stepW_sum,List.getD_eq_getElem?_getD,hj]
    simp
theorem ones_sum: ∀n:Nat,(List.replicate n (1:Int)).sum=n
 |0=>rfl
 |n+1=>by rw[List.replicate_succ,List.sum_cons,ones_sum n];omega
theorem lowW_sum(T:Task):(lowW T).sum=workK T.parts T.parts.length+T.bars.length:=by
 unfold lowW;rw[List.sum_append,wPs_sum _ _ _ (Nat.le_refl _),ones_sum]
theorem workK_bound{ps:List (Int×Int×Int)}(hp:partsOk ps): ∀j,j<=ps.length->0<=workK ps j/\workK ps j<=100 * j
  |0,_=>by simp[workK]
  | j + 1, h => by
    have hj:ps[j]? =some ps[j]:=List.getElem?_eq_getElem (by omega)
    have h1:=workK_bound hp j (by omega)
    have h2:partOk ps[j]:=hp _ (List.getElem_mem _);unfold partOk at h2;rw[workK_succ hj];omega
theorem stepW_pos: ∀(b:Int) (l:List Int),l.Pairwise (· < ·)->(∀e∈l,b<e)-> ∀z∈stepW b l,1<=z
  |b, [],_,_,z,hz=>by simp[stepW]at hz
  | b, e :: l, hp, hb, z, hz => by
    rw[stepW]at hz;rcases List.mem_cons.mp hz with rfl|hz
    · have:=hb e (by simp)
      omega
    · exact stepW_pos e l (List.pairwise_cons.mp hp).2 (fun x hx=>(List.pairwise_cons.mp hp).1 x hx) z hz
theorem touK_rises7{fs:List (Int×Int×Int)}{x:Int}(hn:(fs.map fun f=>f.2).Nodup): ∀a,(touK fs x a).Pairwise fun i j=>(futAt fs i).2.2<(futAt fs j).2.2
  |0=>List.Pairwise.nil
  | a + 1 => by
    show(touK fs x a++selF fs x (a+1) fs.length).Pairwise _
    rw[List.pairwise_append];refine⟨touK_rises7 hn a,?_,fun i hi j hj=> ?_⟩
    · have hone: ∀i∈selF fs x (a+1) fs.length,∀j∈selF fs x (a+1) fs.length,i=j:=fun i hi j hj=>by
        obtain⟨h1,h2,h3⟩:=mem_selF.mp hi;obtain⟨k1,k2,k3⟩:=mem_selF.mp hj;have e:(futAt fs i).2=(futAt fs j).2:=Prod.ext (h2.trans k2.symm) (h3.trans k3.symm);unfold futAt at e;rw[List.getD_eq_getElem?_getD,List.getElem?_eq_getElem h1,List.getD_eq_getElem?_getD,List.getElem?_eq_getElem k1]at e
        have h4:i<(fs.map fun f=>f.2).length:=by simpa using h1
        have h5:j<(fs.map fun f=>f.2).length:=by simpa using k1
        refine(List.getElem_inj (h₀:=h4) (h₁:=h5) hn).mp ?_
        simpa using e
      have hnd:=selF_nodup fs x (a+1) fs.length;rcases hs:selF fs x (a+1) fs.length with _|⟨i,_|⟨j,l⟩⟩
      · exact List.Pairwise.nil
      · exact List.pairwise_singleton _ _
      · rw[hs]at hone hnd;have:=hone i (by simp) j (by simp)
        subst this;simp at hnd
    · have h1:=(mem_touK.mp hi).2.2.2;have h2:=(mem_selF.mp hj).2.2;omega
theorem ends_rise{ps fs:List (Int×Int×Int)}(hp:partsOk ps)(hf:FutsOk ps fs){x:Nat}(hx:x<ps.length):(endsL fs ps x).Pairwise (· < ·)/\ ∀e∈endsL fs ps x,0<e:=by
 have hpx:ps[x]? =some ps[x]:=List.getElem?_eq_getElem hx
 have hw:partOk ps[x]:=hp _ (List.getElem_mem _);unfold partOk at hw;have hg:(ps.getD x (0,0,0)).2.2=ps[x].2.2:=by rw[List.getD_eq_getElem?_getD,hpx];rfl
 have hone: ∀k∈touL fs (x:Int),0<(futAt fs k).2.2/\(futAt fs k).2.2<ps[x].2.2:=fun k hk=>by
  obtain⟨h1,h2,h3,_⟩:=mem_touK.mp hk;have e:futAt fs k=fs[k]:=by unfold futAt;rw[List.getD_eq_getElem?_getD,List.getElem?_eq_getElem h1];rfl
  have hF:=hf.each fs[k] (List.getElem_mem h1);rw[e]at h2⊢;refine⟨by have:=hF.first;omega,hF.last ps[x] ?_⟩
  rw[h2];exact hpx
 unfold endsL;rw[hg];refine⟨?_,fun e he=> ?_⟩
 ·rw [List.pairwise_append]
  refine⟨?_,List.pairwise_singleton _ _,fun a ha b hb=> ?_⟩
  ·rw [List.pairwise_map]
   exact touK_rises7 hf.once 99
  ·obtain ⟨k,hk,rfl⟩:=List.mem_map.mp ha
   obtain rfl:b=ps[x].2.2:=by simpa using hb
   exact(hone k hk).2
 ·rcases List.mem_append.mp he with he | he
  ·obtain ⟨k,hk,rfl⟩:=List.mem_map.mp he
   exact(hone k hk).1
  ·obtain rfl: e = ps[x].2.2:=by simpa using he
   omega
theorem wPs_pos{ps fs:List (Int×Int×Int)}(hp:partsOk ps)(hf:FutsOk ps fs): ∀j,j<=ps.length-> ∀z∈wPs fs ps j,1<=z
  |0,_,z,hz=>by simp[wPs]at hz
  | j + 1, h, z, hz => by
    rw[wPs]at hz;rcases List.mem_append.mp hz with hz|hz
    · exact wPs_pos hp hf j (by omega) z hz
    · have:=ends_rise hp hf (x:=j) (by omega)
      exact stepW_pos 0 _ this.1 this.2 z hz
theorem lowW_pos{T:Task}(h:MayT T): ∀z∈lowW T,1<=z:=by
 intro z hz;unfold lowW at hz;rcases List.mem_append.mp hz with hz|hz
 ·exact wPs_pos h.parts h.futures _ (Nat.le_refl _) z hz
 ·have:=(List.mem_replicate.mp hz).2
  omega
end Go.Proofs.YtlfekmbalgkmeaaGreatDoor
namespace Go.Proofs.YtlfekmbalgkmeaaGreatDoor
open Go Go.RowKit
theorem maxL_mem: ∀{l:List Int},l≠ []->maxL l∈l/\ ∀x∈l,x<=maxL l:=by
  intro l hl
  match l,hl with
  | a :: l, _ =>
    show l.foldl max a∈a::l/\ ∀x∈a::l,x<=l.foldl max a
    obtain⟨h1,h2,h3⟩:=foldl_max l a;refine⟨?_,fun x hx=> ?_⟩
    · rcases h3 with h|h
      · rw[h];simp
      · exact List.mem_cons_of_mem _ h
    · rcases List.mem_cons.mp hx with rfl|hx
      · exact h1
      · exact h2 x hx
theorem shape_ok{T:Task}(h:LowOk T):(shapeT T).Ok:=by
 have hs:shapeT T=⟨totalV (lowWv T) (lowEv T),longV (lowWv T) (lowEv T),maxL (lowWv T),T.deadline,T.period⟩:=if_pos h;rw[hs];obtain⟨e1,e2,-⟩:=low_yes h;rw[e1,e2];have hM:=h.1;have hG:=h.2;have hpos:=lowW_pos hM;have hsum:=lowW_sum T;have hfew:=hM.few;unfold ManyT at hfew;have hwk:=workK_bound hM.parts T.parts.length (Nat.le_refl _);have hlen:=lowW_len hM;have hne:lowW T≠ []:=fun e=>by rw[e]at hlen;simp at hlen;omega
 have ht:totalV (lowW T) (lowE T)=(lowW T).sum:=if_pos hG;have hl:IsLong (lowW T) (lowE T) (longV (lowW T) (lowE T)):=by
  have e:longV (lowW T) (lowE T)=most (farK (lowW T) (lowE T) (lowW T).length):=if_pos hG;rw[e];exact long_is hG.fits hG.acyc fun z hz=>by have:=hpos z hz;omega
 obtain⟨hm1,hm2⟩:=maxL_mem hne;obtain⟨W,hW⟩: ∃W,W=lowW T:=⟨_,rfl⟩;obtain⟨E,hE⟩: ∃E,E=lowE T:=⟨_,rfl⟩;rw[<-hW]at hpos hsum hne ht hl hm1 hm2⊢;rw[<-hE]at ht hl⊢;have hA:Acyc E:=by rw[hE];exact hG.acyc
 have mx1:=hpos _ hm1;have hlt:longV W E<=W.sum:=by
  rcases hl.2 with⟨hw,-⟩|⟨p,hp,hi,hq⟩
  ·exact absurd hw hne
  ·rw [<- hq]
   exact wsum_le (fun z hz=>by have:=hpos z hz;omega) (hp.nodup hA) hi
 have hml:maxL W<=longV W E:=by
  obtain⟨x,hx,hxe⟩:=List.mem_iff_getElem.mp hm1;have q:=hl.1 [x] trivial (fun y hy=>by simp at hy;omega)
  have e:wsum W [x]=maxL W:=by
   unfold wsum;simp[List.getD_eq_getElem?_getD,List.getElem?_eq_getElem hx,hxe]
  rw[e]at q;exact q
 have htime:=hM.time;unfold timeE at htime;simp only[Bool.and_eq_true,decide_eq_true_eq]at htime;obtain⟨⟨⟨h1,h2⟩,h3⟩,h4⟩:=htime;have hper:isP T.period=true:=by
  obtain⟨k,hk,e⟩:=isTwo_iff.mp h1;rw[e,isP_pow];rw[e]at h2;exact decide_eq_true h2
 rw[ht];have hl1:1<=longV W E:=Int.le_trans mx1 hml;have hs1:1<=W.sum:=Int.le_trans hl1 hlt;have hs2:W.sum<=4096:=by rw[hsum];omega
 exact⟨⟨hs1,hs2⟩,⟨hl1,hlt⟩,⟨mx1,hml⟩,hper,h3,h4⟩
end Go.Proofs.YtlfekmbalgkmeaaGreatDoor
