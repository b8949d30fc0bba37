import Derived.Test.YtfahabphncmbfaaGreatDoorZQ17
import Derived.Laws.Rows
set_option linter.all false
set_option maxRecDepth 100000
set_option maxHeartbeats 32000000
namespace Go.Proofs.YtfahabphncmbfaaGreatDoor
open Go Go.RowKit
open Go.Lib renaming hid→Zf
open List renaming getD_cons_succ→ZG,getD_cons_zero→ZI,getD_eq_getElem?_getD→Zi,getElem?_eq_getElem→Zh,getElem?_set_self→ZJ,getElem_mem→Zz,length_set→ZU,map_cons→ZM,map_nil→Yd,map_toArray→ZW,mem_append→Z2,mem_cons→ZT,mem_map→YG,set_set→Ys,sum_append→YK,sum_cons→ZY
open Nat renaming add_zero→Zy,le_refl→Zm
open Go.Proofs.Tryz renaming prog→Zg
open Go renaming bodyPost_ret→Yal,execOp→Yae
open Go.Proofs.Tryz
theorem Rwk.set5{w0 w:World}{L:List (TypeId×List Value)}(h:Rwk w0 L w)(i:Nat){t:TypeId}{a b c d e:Value}(hi:L[i]?=some (t,[a,b,c,d,e]))(u v x y z:Value):
  Rwk w0 (L.set i (t,[u,v,x,y,z])) (((((w.setCell ⟨w0.heap.size+i,0,none⟩ u).setCell ⟨w0.heap.size+i,1,none⟩ v).setCell ⟨w0.heap.size+i,2,none⟩ x).setCell ⟨w0.heap.size+i,3,none⟩ y).setCell ⟨w0.heap.size+i,4,none⟩ z):=by
 have hl:i<L.length:=(List.getElem?_eq_some_iff.mp hi).1;have h1:=h.set i 0 hi u;have h2:=h1.set i 1 (ZJ hl) v;rw[Ys]at h2;have h3:=h2.set i 2 (ZJ hl) x;rw[Ys]at h3;have h4:=h3.set i 3 (ZJ hl) y;rw[Ys]at h4;have h5:=h4.set i 4 (ZJ hl) z;rw[Ys]at h5;exact h5
structure BxShp(wf:World)(L:List (TypeId×List Value))(g:Nat)(A:Option Addr)(n c:Nat)(F:Option Addr)(m d:Nat)(vR:Value)(W:List Int)(E:List (Int×Int))(w:World):Prop where
 b:Rwk wf L w
 r:RowV g 76 [.slice A n c,.slice F m d,vR] w
 l:IsG w A n c F m d W E
theorem BxShp.next{wf:World}{L:List (TypeId×List Value)}{g:Nat}{A:Option Addr}{n c:Nat}{F:Option Addr}{m d:Nat}{vR:Value}{W:List Int}{E:List (Int×Int)}{w w':World}(h:BxShp wf L g A n c F m d vR W E w)(hb:Below w.heap.size w w'):BxShp wf L g A n c F m d vR W E w':=
 ⟨h.b.next hb,h.r.below hb h.r.lt,h.l.below hb⟩
def ZqO(wf:World)(g:Nat)(A:Option Addr)(n c:Nat)(F:Option Addr)(m d:Nat)(tot lg mx D P:Int):Nat->Value->World->Prop
 |0,v,w=>v=.pointer (some ⟨g,0,none⟩)
 |1,v,w=>v=.agg #[.slice A n c,.slice F m d]
 |2,v,w=>v=.int .i64 tot
 |3,v,w=>v=.pointer (some ⟨g,0,none⟩)
 |4,v,w=>v=.agg #[.slice A n c,.slice F m d]
 |5,v,w=>v=.int .i64 lg
 |6,v,w=>v=.pointer (some ⟨g,0,none⟩)
 |7,v,w=>v=.pointer (some ⟨g,0,none⟩)
 |8,v,w=>v=.slice A n c
 |9,v,w=>v=.int .i64 mx
 |10,v,w=>v=.pointer (some ⟨wf.heap.size,1,none⟩)
 |11,v,w=>v=.int .i64 D
 |12,v,w=>v=.pointer (some ⟨wf.heap.size,0,none⟩)
 |13,v,w=>v=.int .i64 P
 |14,v,w=>v=.agg #[.int .i64 tot,.int .i64 lg,.int .i64 mx,.int .i64 D,.int .i64 P]
 |_,_,_=>True
theorem Zjj{wf:World}{g:Nat}{A:Option Addr}{n c:Nat}{F:Option Addr}{m d:Nat}{tot lg mx D P:Int}:∀kq v w w',ZqO wf g A n c F m d tot lg mx D P kq v w->Below w.heap.size w w'->ZqO wf g A n c F m d tot lg mx D P kq v w':=by
 intro kq v w w' h hb
 match kq,h with
 |0,h=>exact h
 |1,h=>exact h
 |2,h=>exact h
 |3,h=>exact h
 |4,h=>exact h
 |5,h=>exact h
 |6,h=>exact h
 |7,h=>exact h
 |8,h=>exact h
 |9,h=>exact h
 |10,h=>exact h
 |11,h=>exact h
 |12,h=>exact h
 |13,h=>exact h
 |14,h=>exact h
 |kq+15,h=>exact trivial
def ZsE(wf:World)(dv:List Value)(g:Nat)(A:Option Addr)(n c:Nat)(F:Option Addr)(m d:Nat)(vR:Value)(W:List Int)(E:List (Int×Int))(tot lg mx D P:Int)(t:Nat)(f:Nat->Value)(w:World):Prop:=
 15<=t/\t<=17/\f 29=.agg #[.int .i64 tot,.int .i64 lg,.int .i64 mx,.int .i64 D,.int .i64 P]/\(t<=15->BxShp wf [(64,dv),(67,[.int .i64 0,.int .i64 0,.int .i64 0,.int .i64 0,.int .i64 0])] g A n c F m d vR W E w)/\(16<=t->Rwk wf [(64,dv),(67,[.int .i64 tot,.int .i64 lg,.int .i64 mx,.int .i64 D,.int .i64 P])] w)/\(t=17->f 3=.int .i64 0)
theorem ZlC{w:World}{q:Nat}{a b c d e:Value}(h:RowV q 67 [a,b,c,d,e] w):(loadVar 67 ⟨q,0,none⟩).run Zg w=.ok (.agg #[a,b,c,d,e]) w:=
 run_loadVar_row _ q _ _ _ _ _ h underlying67 rfl (by kernel_rfl)
theorem Zif{fn:Func}{p u:Tmp}(h:fn.results= #[.cell p 67,.tmp u]){tmps:Array Value}{w:World}{q:Nat}{a b c d e x:Value}(hp:tmps.getD p undef=.pointer (some ⟨q,0,none⟩))(hu:tmps.getD u undef=x)(h1:RowV q 67 [a,b,c,d,e] w):
  (results fn tmps).run Zg w=.ok (.tuple #[.agg #[a,b,c,d,e],x]) w:=by
 rw[results_cell_tmp h,hp,hu];simp[asAddr,ZlC h1,Result.andThen]
open Classical in
noncomputable def ZcF (T:Task):Shp:=if ZdO T then⟨ZbF (Zau T) (ZaH T),Zb4 (Zau T) (ZaH T),maxL (Zau T),T.deadline,T.period⟩else⟨0,0,0,0,0⟩
theorem ZkL{T:Task}(h:ZdO T):1<=(Zau T).length/\∀z∈Zau T,0<=z/\z<=1000000:=by have hM:=h.2;have e:=(Zhw h).1;rw[e];refine⟨?_,fun z hz=>by have:=hM.work z hz;omega⟩;rw[ZhA h.1];have:=h.1.few;unfold ZhK at this;omega
theorem ZgT(s:Sh)(T:Task)(wf:World)(hD:IsD wf s T):Calls Zg 30 #[s.arg T.period T.deadline] wf
    fun e w'=>e=.returned (.tuple #[(ZcF T).val,.int .i64 (lowX T)])/\Below wf.heap.size wf w':=by
  have HLW:=Zf (fun W (b:Below wf.heap.size wf W)=>Zip s T W (hD.below b));have hsz:=Zhv (T:=T);obtain⟨sP,np,pc,sE,ne,ec,sF,nf,fc,sR,nr,rc⟩:=s;clear hD;by_cases hX:lowX T=0
  · have hOK:=lowX_zero.mp hX;obtain⟨hw1,hw2⟩:=ZkL hOK;have hw3:=hsz hX;have hsv:ZcF T=⟨ZbF (Zau T) (ZaH T),Zb4 (Zau T) (ZaH T),maxL (Zau T),T.deadline,T.period⟩:=Zc hOK;rw[hX]at HLW;rw[hsv,hX];unfold Shp.val;obtain⟨P,hP⟩:∃P,P=T.period:=⟨_,rfl⟩;obtain⟨D,hDe⟩:∃P,P=T.deadline:=⟨_,rfl⟩;obtain⟨tot,htot⟩:∃P,P=ZbF (Zau T) (ZaH T):=⟨_,rfl⟩;obtain⟨lg,hlg⟩:∃P,P=Zb4 (Zau T) (ZaH T):=⟨_,rfl⟩;obtain⟨mx,hmx⟩:∃P,P=maxL (Zau T):=⟨_,rfl⟩;obtain⟨n,hn⟩:∃n,n=(Zau T).length:=⟨_,rfl⟩;obtain⟨m,hm⟩:∃n,n=(ZaH T).length:=⟨_,rfl⟩;obtain⟨z,hz⟩:∃n,n=(ZbY T).length:=⟨_,rfl⟩;obtain⟨W,hW⟩:∃W,W=Zau T:=⟨_,rfl⟩;obtain⟨E,hE⟩:∃W,W=ZaH T:=⟨_,rfl⟩;obtain⟨Q,hQ⟩:∃W,W=ZbY T:=⟨_,rfl⟩;dsimp only;rw[<-hP,<-hDe,<-hn,<-hm,<-hz,<-hW,<-hE,<-hQ]at HLW;rw[<-hn]at hw1 hw3;rw[<-hP,<-hDe,<-htot,<-hlg,<-hmx];rw[<-hW]at hw2 hn hmx;rw[<-hW,<-hE]at htot hlg;have HTO:∀{A c F d} (w:World),IsG w A n c F m d W E->Calls Zg 41 #[.agg #[.slice A n c,.slice F m d]] w fun e w'=>e=.returned (.int .i64 tot)/\Below w.heap.size w w':=fun{A c F d} w h=>by rw[htot];exact ZeI w h
    have HLO:∀{A c F d} (w:World),IsG w A n c F m d W E->Calls Zg 64 #[.agg #[.slice A n c,.slice F m d]] w fun e w'=>e=.returned (.int .i64 lg)/\Below w.heap.size w w':=fun{A c F d} w h=>by rw[hlg];exact Zm9 w h
    have HMX:∀{A c F d} (w:World),IsG w A n c F m d W E->Calls Zg 65 #[.slice A n c] w fun e w'=>e=.returned (.int .i64 mx)/\w=w':=fun{A c F d} w h=>by rw[hmx];exact Zo9 A n c W w hn.symm hw1 (by omega) hw2 h.ints
    clear hm htot hlg hmx hsv hOK hw2 hX hsz hP hDe hz hW hE hQ;have B0:=Zf (Rwk.start wf [(64, [.int .i64 P,.int .i64 D,.slice sP np pc,.slice sE ne ec,.slice sF nf fc,.slice sR nr rc]),(67, [.int .i64 0,.int .i64 0,.int .i64 0,.int .i64 0,.int .i64 0])]);obtain⟨dv,hdv⟩:∃dv:List Value,dv= [.int .i64 P,.int .i64 D,.slice sP np pc,.slice sE ne ec,.slice sF nf fc,.slice sR nr rc]:=⟨_,rfl⟩;dsimp only[Sh.arg]at HLW⊢;have HTO':= @HTO;have HLO':= @HLO;have HMX':= @HMX;clear HTO HLO HMX;have HN:=Zf hn;clear hn;go_enter func30,ntmps30;go_wp2_with fail;refine(HLW.out _ B0.out.bel).mono ?_;rintro e w1 ⟨A,c,F,d,R,k,rfl,hL,b⟩;have HTO:=Zf (fun w h=>HTO' (A:=A) (c:=c) (F:=F) (d:=d) w h);have HLO:=Zf (fun w h=>HLO' (A:=A) (c:=c) (F:=F) (d:=d) w h);have HMX:=Zf (fun w h=>HMX' (A:=A) (c:=c) (F:=F) (d:=d) w h);clear HTO' HLO' HMX' HLW;have HB:=Zf (show BxShp wf _ w1.heap.size A n c F m d (.slice R z k) W E (w1.alloc (.cells #[.slice A n c,.slice F m d,.slice R z k] 76))from⟨(B0.out.next b).next (Zaa _),RowV.new _ _ _,hL.g.below (Zaa _)⟩);clear b hL B0;rw[<-hdv]at HB;go_wp2_with fail;obtain⟨g,hg⟩:∃g,g=w1.heap.size:=⟨_,rfl⟩;obtain⟨w2,hw2⟩:∃w2,w2=w1.alloc (.cells #[.slice A n c,.slice F m d,.slice R z k] 76):=⟨_,rfl⟩;rw[<-hw2,<-hg]at HB;rw[<-hw2,<-hg];clear hw2 hg;refine Zas 15 [15,16,17,18,19,20,21,22,23,24,25,26,27,28,29,1000,3] [] (by kernel_rfl) (by kernel_rfl) (by intro d hd;simp at hd⊢;omega) (BxShp wf [(64,dv),(67, [.int .i64 0,.int .i64 0,.int .i64 0,.int .i64 0,.int .i64 0])] g A n c F m d (.slice R z k) W E) (ZqO wf g A n c F m d tot lg mx D P) (fun _ _=>True) (ZsE wf dv g A n c F m d (.slice R z k) W E tot lg mx D P)
      (fun y y' h hb=>h.next hb) Zjj (HB.out.next (Below.refl _ _).drew) ?hstep ?hloose ?hmid ?htail ?hcon ?hend
    case hstep=>
      intro kq o hkm hkF ho a1 w hI hA hd K hK;obtain⟨ρ,hρ⟩:∃ρ,a1.eval=ρ:=⟨_,rfl⟩;rw[hρ]at hA hd
      match kq,hkm,hkF,ho with
      | 0, _, _, ho =>cases ho;exact Zab hK hρ (.pointer (some ⟨g,0,none⟩)) (by have h:=hA.tmp 4 (by decide);simp[Yae,h,go_sem]) rfl
      | 1, _, _, ho =>
        cases ho;have f0:ρ (.tmp 15)=.pointer (some ⟨g,0,none⟩):=hd ⟨0,.data⟩ (by simp) (by rfl) (by decide)
        have q0:=hI.r.cell (j:=0) rfl;have q1:=hI.r.cell (j:=1) rfl;exact Zab hK hρ (.agg #[.slice A n c,.slice F m d]) (by simp[Yae,f0,q0,q1,go_sem]) rfl
      | 2, _, _, ho =>
        cases ho;have f1:ρ (.tmp 16)=.agg #[.slice A n c,.slice F m d]:=hd ⟨1,.data⟩ (by simp) (by rfl) (by decide)
        exact ZaU hK hρ 41 _ _ #[.agg #[.slice A n c,.slice F m d]] rfl (by simp only[ZW,ZM,Yd,hA.const,f1]) (Za1 func41 (by kernel_rfl) rfl) ((HTO.out w hI.l).mono fun e w' ⟨he,hb⟩=>⟨_,he,rfl,hb⟩)
      | 3, _, _, ho =>cases ho;exact Zab hK hρ (.pointer (some ⟨g,0,none⟩)) (by have h:=hA.tmp 4 (by decide);simp[Yae,h,go_sem]) rfl
      | 4, _, _, ho =>
        cases ho;have f3:ρ (.tmp 18)=.pointer (some ⟨g,0,none⟩):=hd ⟨3,.data⟩ (by simp) (by rfl) (by decide)
        have q0:=hI.r.cell (j:=0) rfl;have q1:=hI.r.cell (j:=1) rfl;exact Zab hK hρ (.agg #[.slice A n c,.slice F m d]) (by simp[Yae,f3,q0,q1,go_sem]) rfl
      | 5, _, _, ho =>
        cases ho;have f4:ρ (.tmp 19)=.agg #[.slice A n c,.slice F m d]:=hd ⟨4,.data⟩ (by simp) (by rfl) (by decide)
        exact ZaU hK hρ 64 _ _ #[.agg #[.slice A n c,.slice F m d]] rfl (by simp only[ZW,ZM,Yd,hA.const,f4]) (Za1 func64 (by kernel_rfl) rfl) ((HLO.out w hI.l).mono fun e w' ⟨he,hb⟩=>⟨_,he,rfl,hb⟩)
      | 6, _, _, ho =>cases ho;exact Zab hK hρ (.pointer (some ⟨g,0,none⟩)) (by have h:=hA.tmp 4 (by decide);simp[Yae,h,go_sem]) rfl
      | 7, _, _, ho =>
        cases ho;have f6:ρ (.tmp 21)=.pointer (some ⟨g,0,none⟩):=hd ⟨6,.data⟩ (by simp) (by rfl) (by decide)
        exact Zab hK hρ (.pointer (some ⟨g,0,none⟩)) (by simp[Yae,f6,go_sem]) rfl
      | 8, _, _, ho =>
        cases ho;have f7:ρ (.tmp 22)=.pointer (some ⟨g,0,none⟩):=hd ⟨7,.data⟩ (by simp) (by rfl) (by decide)
        have q0:=hI.r.cell (j:=0) rfl;exact Zab hK hρ (.slice A n c) (by simp[Yae,f7,q0,go_sem]) rfl
      | 9, _, _, ho =>
        cases ho;have f8:ρ (.tmp 23)=.slice A n c:=hd ⟨8,.data⟩ (by simp) (by rfl) (by decide)
        exact ZaU hK hρ 65 _ _ #[.slice A n c] rfl (by simp only[ZW,ZM,Yd,hA.const,f8]) (Za1 func65 (by kernel_rfl) rfl) ((HMX.out w hI.l).mono fun e w' ⟨he,hb⟩=>⟨_,he,rfl,hb▸Below.refl _ _⟩)
      | 10, _, _, ho =>cases ho;exact Zab hK hρ (.pointer (some ⟨wf.heap.size,1,none⟩)) (by have h:=hA.tmp 1 (by decide);simp[Yae,h,go_sem]) rfl
      | 11, _, _, ho =>
        cases ho;have f10:ρ (.tmp 25)=.pointer (some ⟨wf.heap.size,1,none⟩):=hd ⟨10,.data⟩ (by simp) (by rfl) (by decide);have q0:=hI.b.cell 0 1 rfl (by rw[hdv];rfl)
        simp only[Zy]at q0;exact Zab hK hρ (.int .i64 D) (by simp[Yae,f10,q0,go_sem]) rfl
      | 12, _, _, ho =>cases ho;exact Zab hK hρ (.pointer (some ⟨wf.heap.size,0,none⟩)) (by have h:=hA.tmp 1 (by decide);simp[Yae,h,go_sem]) rfl
      | 13, _, _, ho =>
        cases ho;have f12:ρ (.tmp 27)=.pointer (some ⟨wf.heap.size,0,none⟩):=hd ⟨12,.data⟩ (by simp) (by rfl) (by decide);have q0:=hI.b.cell 0 0 rfl (by rw[hdv];rfl)
        simp only[Zy]at q0;exact Zab hK hρ (.int .i64 P) (by simp[Yae,f12,q0,go_sem]) rfl
      | 14, _, _, ho =>
        cases ho;have f2:ρ (.tmp 17)=.int .i64 tot:=hd ⟨2,.data⟩ (by simp) (by rfl) (by decide);have f5:ρ (.tmp 20)=.int .i64 lg:=hd ⟨5,.data⟩ (by simp) (by rfl) (by decide);have f9:ρ (.tmp 24)=.int .i64 mx:=hd ⟨9,.data⟩ (by simp) (by rfl) (by decide);have f11:ρ (.tmp 26)=.int .i64 D:=hd ⟨11,.data⟩ (by simp) (by rfl) (by decide);have f13:ρ (.tmp 28)=.int .i64 P:=hd ⟨13,.data⟩ (by simp) (by rfl) (by decide)
        exact Zab hK hρ (.agg #[.int .i64 tot,.int .i64 lg,.int .i64 mx,.int .i64 D,.int .i64 P]) (by simp[Yae,f2,f5,f9,f11,f13,hA.const,go_sem]) rfl
      |kq+15,h,_,_=>exact absurd h (by omega)
    case hloose=>intro kq o hkF ho ρ w hA hd;exact absurd hkF (by simp)
    case hmid=>intro vals w hI hF;exact⟨by decide,by decide,hF 14 (by decide) (by decide),fun _=>hI,fun h=>Za h,fun h=>Za h⟩
    case htail=>
      intro t o htm ho a1 w hA hT hL K hK;have htl:t<17:=(Array.getElem?_eq_some_iff.1 ho).1;obtain⟨ρ,hρ⟩:∃ρ,a1.eval=ρ:=⟨_,rfl⟩;rw[hρ]at hA;obtain rfl|rfl:t=15\/t=16:=by omega
      · cases ho;obtain⟨t1,t2,g29,hb, -, -⟩:=hT;simp only[hρ]at g29;have hb:=hb (by decide);have hs:=hA.tmp 2 (by decide);have e0:=hb.b.frozen 1 0 rfl;have e1:=hb.b.frozen 1 1 rfl;have e2:=hb.b.frozen 1 2 rfl;have e3:=hb.b.frozen 1 3 rfl;have e4:=hb.b.frozen 1 4 rfl;have q0:=hb.b.cell 1 0 rfl rfl;have q1:=hb.b.cell 1 1 rfl rfl;have q2:=hb.b.cell 1 2 rfl rfl;have q3:=hb.b.cell 1 3 rfl rfl;have q4:=hb.b.cell 1 4 rfl rfl;unfold Oper.wp;rw[show(Yae a1.eval _).run Zg w=.ok .skip (((((w.setCell ⟨wf.heap.size+1,0,none⟩ (.int .i64 tot)).setCell ⟨wf.heap.size+1,1,none⟩ (.int .i64 lg)).setCell ⟨wf.heap.size+1,2,none⟩ (.int .i64 mx)).setCell ⟨wf.heap.size+1,3,none⟩ (.int .i64 D)).setCell ⟨wf.heap.size+1,4,none⟩ (.int .i64 P))from by rw[hρ];simp[Yae,hs,g29,e0,e1,e2,e3,e4,q0,q1,q2,q3,q4,go_sem],Oper.upon_skip];refine hK undef _ ⟨by decide,by decide,?_⟩;simp only[reduceCtorEq,if_false,hρ];exact⟨g29,fun h=>Za h,fun _=>hb.b.set5 1 rfl _ _ _ _ _,fun h=>Za h⟩
      · cases ho;obtain⟨t1,t2,g29, -,hb, -⟩:=hT;simp only[hρ]at g29;have hb:=hb (by decide);unfold Oper.wp;rw[show(Yae a1.eval _).run Zg w=.ok (.value (.int .i64 0)) w from by rw[hρ];simp[Yae,hA.const,go_sem],Oper.upon_value];refine hK _ _ ⟨by decide,by decide,?_⟩;simp only[Option.some.injEq,Nat.reduceEqDiff,if_false,if_true,hρ];exact⟨g29,fun h=>Za h,fun _=>hb,fun _=>Zc rfl⟩
    case hcon=>intro t f g w h hT;obtain⟨t1,t2,g29,hb,hb2,h3⟩:=hT;have q14:=h 14 (by omega) (by simp);simp only[ZI,ZG]at q14;refine⟨t1,t2,q14▸g29,hb,hb2,fun e=> ?_⟩;have q16:=h 16 (by omega) (by simp);simp only[ZI,ZG]at q16;exact q16▸h3 e
    case hend=>intro vals w3 hT;obtain⟨_,_,_,_,hb2,h3⟩:=hT;have B4:=Zf (hb2 (by decide));have h3:=h3 rfl;clear hb2;simp only[ZaW,Zba,List.contains_cons,List.contains_nil,Nat.reduceBEq,Bool.or_false,Bool.false_or,Bool.or_true,Bool.true_or,cond_true,cond_false,Nat.zero_add,Nat.reduceAdd,h3];go_wp2;refine Yal (Zif rfl rfl rfl (B4.out.row 1 _ _ rfl)) rfl ?_;exact⟨rfl,B4.out.bel⟩
  · have hN:¬ZdO T:=fun h=>hX (lowX_zero.mpr h);have hsv:ZcF T=⟨0,0,0,0,0⟩:=Zb hN;rw[hsv];unfold Shp.val;dsimp only;obtain⟨P,hP⟩:∃P,P=T.period:=⟨_,rfl⟩;obtain⟨D,hDe⟩:∃P,P=T.deadline:=⟨_,rfl⟩;obtain⟨n,hn⟩:∃n,n=(Zau T).length:=⟨_,rfl⟩;obtain⟨m,hm⟩:∃n,n=(ZaH T).length:=⟨_,rfl⟩;obtain⟨z,hz⟩:∃n,n=(ZbY T).length:=⟨_,rfl⟩;obtain⟨x,hx⟩:∃n,n=lowX T:=⟨_,rfl⟩;rw[<-hP,<-hDe,<-hn,<-hm,<-hz,<-hx]at HLW;rw[<-hx]at hX;rw[<-hP,<-hDe,<-hx];have hb:(x !=0)=true:=bne_iff_ne.mpr hX;clear hsv hN hsz hP hDe hn hm hz hx hX;have B0:=Zf (Rwk.start wf [(64, [.int .i64 P,.int .i64 D,.slice sP np pc,.slice sE ne ec,.slice sF nf fc,.slice sR nr rc]),(67, [.int .i64 0,.int .i64 0,.int .i64 0,.int .i64 0,.int .i64 0])]);dsimp only[Sh.arg]at HLW⊢;go_enter func30,ntmps30;go_wp2_with fail;refine(HLW.out _ B0.out.bel).mono ?_;rintro e w1 ⟨A,c,F,d,R,k,rfl,hL,b⟩;have B1:=Zf ((B0.out.next b).alloc (.cells #[.slice A n c,.slice F m d,.slice R z k] 76));clear b hL B0 HLW;have c10:=B1.out.cell 1 0 rfl rfl;have c11:=B1.out.cell 1 1 rfl rfl;have c12:=B1.out.cell 1 2 rfl rfl;have c13:=B1.out.cell 1 3 rfl rfl;have c14:=B1.out.cell 1 4 rfl rfl;have z10:=B1.out.frozen 1 0 rfl;have z11:=B1.out.frozen 1 1 rfl;have z12:=B1.out.frozen 1 2 rfl;have z13:=B1.out.frozen 1 3 rfl;have z14:=B1.out.frozen 1 4 rfl;go_upto_region 3 with(fail);obtain⟨w2,hw2⟩:∃w2,w2=w1.alloc (.cells #[.slice A n c,.slice F m d,.slice R z k] 76):=⟨_,rfl⟩;rw[<-hw2]at B1 c10 c11 c12 c13 c14 z10 z11 z12 z13 z14;rw[<-hw2];clear hw2;go_wp2;have B2:=B1.out.set5 1 rfl (.int .i64 0) (.int .i64 0) (.int .i64 0) (.int .i64 0) (.int .i64 0);refine Yal (Zif rfl rfl rfl (B2.row 1 _ _ rfl)) rfl ?_;exact⟨rfl,B2.bel⟩
theorem Zjk{ρ:Operand->Value}{o:Oper}{x y:Operand}{lb lo n c k:Nat}{w:World}(ho:o.op=.indexAddr 22 x y)(hx:ρ x=.slice (some ⟨lb,lo,none⟩) n c)(hy:ρ y=.int .i64 (k:Int))(hk:k<n):
  (Yae ρ o).run Zg w=.ok (.value (.pointer (some ⟨lb,lo+k,none⟩))) w:=by
 have hk2:(k:Int)<(n:Int):=by omega
 simp[Yae,ho,hx,hy,hk2,go_sem]
theorem ZkM(x y:Int):(if x<y then y else x)=max x y:=by split<;>omega
structure BxSs(w:World)(s:Sh)(T:Task)(g:Nat)(u:Shp)(z:World):Prop where
 b:Bx1D w s T z
 r:RowV g 67 [.int .i64 u.t,.int .i64 u.l,.int .i64 u.m,.int .i64 u.d,.int .i64 u.p] z
theorem BxSs.next{w:World}{s:Sh}{T:Task}{g:Nat}{u:Shp}{z z':World}(h:BxSs w s T g u z)(hb:Below z.heap.size z z'):BxSs w s T g u z':=⟨h.b.next hb,h.r.below hb h.r.lt⟩
theorem BxSs.cells{w:World}{s:Sh}{T:Task}{g:Nat}{u:Shp}{z:World}(h:BxSs w s T g u z):(z.cell? ⟨g,0,none⟩=some (.int .i64 u.t)/\z.cell? ⟨g,1,none⟩=some (.int .i64 u.l))/\z.cell? ⟨g,2,none⟩=some (.int .i64 u.m)/\z.cell? ⟨g,3,none⟩=some (.int .i64 u.d)/\z.cell? ⟨g,4,none⟩=some (.int .i64 u.p):=
 ⟨⟨h.r.cell (j:=0) rfl,h.r.cell (j:=1) rfl⟩,h.r.cell (j:=2) rfl,h.r.cell (j:=3) rfl,h.r.cell (j:=4) rfl⟩
theorem BxSs.start{w:World}{s:Sh}{T:Task}{u:Shp}{z:World}(h:Bx1D w s T z):BxSs w s T z.heap.size u (z.alloc (.cells #[.int .i64 u.t,.int .i64 u.l,.int .i64 u.m,.int .i64 u.d,.int .i64 u.p] 67)):=⟨h.next (Zaa _),RowV.new z _ _⟩
def exC:Task:=⟨8,5,[(0,0,2),(0,0,3)],[],[],[]⟩
theorem Zr3:FewT exC:=⟨by decide,by decide,by decide,by decide,by decide⟩
theorem Zr4:MayT exC where
 few:=by unfold ZhK;decide
 time:=by decide
 parts:=by decide
 edges:=⟨by unfold Fits;decide,by decide,by decide⟩
 futures:=⟨fun f hf=>by simp[exC]at hf,by decide⟩
 bars:=fun b hb=>by simp[exC]at hb
theorem exCW:lowW exC= [2,3]:=by decide+kernel
theorem exCE:lowE exC= []:=by decide+kernel
theorem ZmI:Fits 2 []:=by unfold Fits;decide
theorem Zjl:May [2,3] []:=⟨by decide,by decide,by unfold ZbG;decide,ZmI,by decide,by decide,Zq2 ZmI (by decide)⟩
theorem ZoT:ZdO exC:=⟨Zr4,by rw[exCW,exCE];exact Zjl⟩
theorem exCX:lowX exC=0:=lowX_zero.mpr ZoT
theorem ZsF:Zau exC= [2,3]:=by unfold Zau;rw[Zc ZoT,exCW]
theorem ZsG:ZaH exC= []:=by unfold ZaH;rw[Zc ZoT,exCE]
theorem Zr5:ZbF [2,3] []=5:=by unfold ZbF;rw[Zc Zjl];decide
theorem ZqP:Zb4 [2,3] []=3:=by unfold Zb4;rw[Zc Zjl];decide
theorem ZoU:ZcF exC=⟨5,3,3,5,8⟩:=by have h:ZcF exC=⟨ZbF (Zau exC) (ZaH exC),Zb4 (Zau exC) (ZaH exC),maxL (Zau exC),5,8⟩:=Zc ZoT;rw[h,ZsF,ZsG,Zr5,ZqP];rfl
def s1C:Shp:=⟨20,4,4,8,8⟩
def s2C:Shp:=⟨5,3,3,5,8⟩
def s3C:Shp:=⟨20,8,4,8,8⟩
theorem ZoV:ZbW s1C=4:=by decide+kernel
theorem ZoW:Zcu s1C=0:=by decide+kernel
theorem ZoX:ZbW s2C=1:=by decide+kernel
theorem ZoY:Zcu s2C=0:=by decide+kernel
theorem ZoZ:ZbW s3C=0:=by decide+kernel
theorem Zo0:Zcu s3C=141:=by decide+kernel
theorem Zo1:ZgR s1C=true:=by decide+kernel
theorem Zo2:ZgR s2C=false:=by decide+kernel
theorem Zo3:Zib s1C 4=8:=by decide+kernel
theorem Zo4:chkS s1C=0:=by decide+kernel
theorem ZlD:(Zg.fieldsOf 67).toList.map (fun f=>(f.name,f.type,f.offset))= [("Total",3,0),("Long",3,1),("Most",3,2),("Deadline",3,3),("Period",3,4)]:=by kernel_rfl
theorem Zo5(a b c d e:Int)(W:World):(Op.equalIn 10000 67 (.agg #[.int .i64 a,.int .i64 b,.int .i64 c,.int .i64 d,.int .i64 e]) (.agg #[.int .i64 a,.int .i64 b,.int .i64 c,.int .i64 d,.int .i64 e])).run Zg W=.ok true W:=by
  have hf:=ZlD;rw[run_equalIn_agg (d:=9999) W 67 _ _ (by kernel_rfl) (by kernel_rfl)];generalize (Zg.fieldsOf 67).toList=fs at hf;have e1:=fun a b W=>run_equalIn_int (P:=Zg) W 9998 3 .i64 .i64 a b underlying3;have p0:∀W,(part 3 #[.int .i64 a,.int .i64 b,.int .i64 c,.int .i64 d,.int .i64 e] 0).run Zg W=.ok (.int .i64 a) W:=fun W=>by kernel_rfl
  have p1:∀W,(part 3 #[.int .i64 a,.int .i64 b,.int .i64 c,.int .i64 d,.int .i64 e] 1).run Zg W=.ok (.int .i64 b) W:=fun W=>by kernel_rfl
  have p2:∀W,(part 3 #[.int .i64 a,.int .i64 b,.int .i64 c,.int .i64 d,.int .i64 e] 2).run Zg W=.ok (.int .i64 c) W:=fun W=>by kernel_rfl
  have p3:∀W,(part 3 #[.int .i64 a,.int .i64 b,.int .i64 c,.int .i64 d,.int .i64 e] 3).run Zg W=.ok (.int .i64 d) W:=fun W=>by kernel_rfl
  have p4:∀W,(part 3 #[.int .i64 a,.int .i64 b,.int .i64 c,.int .i64 d,.int .i64 e] 4).run Zg W=.ok (.int .i64 e) W:=fun W=>by kernel_rfl
  match fs,hf with
  | [],hf=>simp at hf
  | [_],hf=>simp at hf
  | [_,_],hf=>simp at hf
  | [_,_,_],hf=>simp at hf
  | [_,_,_,_],hf=>simp at hf
  |_::_::_::_::_::_::_,hf=>simp at hf
  | [f0, f1, f2, f3, f4], hf =>simp only[ZM,Yd,List.cons.injEq,Prod.mk.injEq,and_true]at hf;obtain⟨⟨n0,t0,o0⟩,⟨n1,t1,o1⟩,⟨n2,t2,o2⟩,⟨n3,t3,o3⟩,n4,t4,o4⟩:=hf;simp only[Op.eqFields,n0,n1,n2,n3,n4,t0,t1,t2,t3,t4,o0,o1,o2,o3,o4];simp[p0,p1,p2,p3,p4,e1]
theorem Zig(a b c d e:Int)(W:World):(binOp .eql 67 (.agg #[.int .i64 a,.int .i64 b,.int .i64 c,.int .i64 d,.int .i64 e]) (.agg #[.int .i64 a,.int .i64 b,.int .i64 c,.int .i64 d,.int .i64 e])).run Zg W=.ok (.bool true) W:=by rw[run_eql_struct,Zo5];rfl
theorem ZmJ(op:BinOp)(o1 o2:Operand)(xs ys:Array Value)(W:World):(eqGuard op 67 o1 o2 (.agg xs) (.agg ys)).run Zg W=.ok () W:=
 run_eqGuard_agg W op _ o1 o2 _ _ (by kernel_rfl)
theorem ZdA(s:Shp)(w:World)(hT:DTab w):Calls Zg 34 #[s.val] w
  fun e w'=>e=.returned (.tuple #[.int .i64 (ZbW s),.int .i64 (Zcu s)])/\Below w.heap.size w w':=by
 have TT:=Zf (fun W (b:Below w.heap.size w W)=>(ZcS s W (hT.via b)));clear hT;have B:=Zf (Rwk.start w [(67,[.int .i64 s.t,.int .i64 s.l,.int .i64 s.m,.int .i64 s.d,.int .i64 s.p])]);by_cases hs:s.Ok
 ·rw [Zhr hs] at TT
  by_cases hd:s.d<s.t
  ·have e1: ZbW s = Zc2 s:=by unfold ZbW; rw [Zb (fun q => q hs),Zc hd]
   have e2:Zcu s=Zc3 s:=by unfold Zcu;rw[Zb (fun q=>q hs),Zc hd]
   have K1:=Zf (fun W=>ZgW s W hd);have K2:=Zf (fun W=>Zio s W hs hd);rw[e1,e2];obtain⟨x,hx⟩:∃x,x=Zc2 s:=⟨_,rfl⟩;obtain⟨y,hy⟩:∃x,x=Zc3 s:=⟨_,rfl⟩;rw[<-hx,<-hy]at K2⊢;clear e1 e2 hx hy hs hd;obtain⟨t,l,m,d,p⟩:=s;unfold Shp.val at TT K1 K2⊢;unfold ZcB at K2;dsimp only at TT K1 K2 B⊢;go_enter func34,ntmps34;go_wp2_with fail;refine(TT.out _ B.out.bel).mono ?_;rintro e w1 ⟨rfl,b⟩;have B:=Zf (B.out.next b);clear b TT;obtain⟨⟨c0,c1⟩,c2,c3,c4⟩:=Zax (s:=⟨t,l,m,d,p⟩) B.out;dsimp only at c0 c1 c2 c3 c4;go_wp2_with fail;refine(K1.out _).mono ?_;rintro e w2 ⟨rfl,b⟩;have B:=Zf (B.out.next b);clear b c0 c1 c2 c3 c4 K1;go_wp2_with fail;refine(K2.out _).mono ?_;rintro e w3 ⟨rfl,b⟩;have B:=Zf (B.out.next b);clear b K2;go_wp2_with fail
   go_quiet (fail)
   go_wp2;go_ret2;exact⟨rfl,((B.out.alloc _).drew _).bel⟩
  ·have e1: ZbW s = 1:=by unfold ZbW; rw [Zb (fun q => q hs),Zb hd]
   have e2:Zcu s=0:=by unfold Zcu;rw[Zb (fun q=>q hs),Zb hd]
   have K1:=Zf (fun W=>ZgV s W (by omega));have K2:=Zf (fun W=>ZfQ s W);rw[e1,e2];clear e1 e2 hs hd;obtain⟨t,l,m,d,p⟩:=s;unfold Shp.val at TT K1 K2⊢;unfold ZcB at K2;dsimp only at TT K1 K2 B⊢;go_enter func34,ntmps34;go_wp2_with fail;refine(TT.out _ B.out.bel).mono ?_;rintro e w1 ⟨rfl,b⟩;have B:=Zf (B.out.next b);clear b TT;obtain⟨⟨c0,c1⟩,c2,c3,c4⟩:=Zax (s:=⟨t,l,m,d,p⟩) B.out;dsimp only at c0 c1 c2 c3 c4;go_wp2_with fail;refine(K1.out _).mono ?_;rintro e w2 ⟨rfl,b⟩;have B:=Zf (B.out.next b);clear b c0 c1 c2 c3 c4 K1;go_wp2_with fail;refine(K2.out _).mono ?_;rintro e w3 ⟨rfl,b⟩;have B:=Zf (B.out.next b);clear b K2;go_wp2_with fail
   go_quiet (fail)
   go_wp2;go_ret2;exact⟨rfl,((B.out.alloc _).drew _).bel⟩
 ·have e1: ZbW s = 0:=Zc hs
  have e2:Zcu s=140:=Zc hs;rw[Zc6 hs]at TT;rw[e1,e2];clear e1 e2 hs;obtain⟨t,l,m,d,p⟩:=s;unfold Shp.val at TT⊢;dsimp only at TT B⊢;go_enter func34,ntmps34;go_wp2_with fail;refine(TT.out _ B.out.bel).mono ?_;rintro e w1 ⟨rfl,b⟩;have B:=Zf (B.out.next b);clear b;go_wp2;go_ret2;exact⟨rfl,B.out.bel⟩
theorem ZmK{s:Shp}(h:s.Ok){m:Int}(h1:1<=m)(h8:m<=8):0<=(m - 1) * s.l/\(m - 1) * s.l<=28672:=by
 obtain⟨⟨t0,t1⟩,⟨l0,l1⟩,-⟩:=h;have:m=1\/m=2\/m=3\/m=4\/m=5\/m=6\/m=7\/m=8:=by omega
 rcases this with rfl|rfl|rfl|rfl|rfl|rfl|rfl|rfl<;>constructor<;>omega
theorem ZlE(s:Shp)(m:Int)(w:World)(hT:DTab w):Calls Zg 63 #[s.val,.int .i64 m] w
  fun e w'=>e=.returned (.int .i64 (Zib s m))/\Below w.heap.size w w':=by
 have TT:=Zf (fun W (b:Below w.heap.size w W)=>(ZcS s W (hT.via b)));clear hT;have B:=Zf (Rwk.start w [(67,[.int .i64 s.t,.int .i64 s.l,.int .i64 s.m,.int .i64 s.d,.int .i64 s.p])]);by_cases hs:s.Ok
 ·rw [Zhr hs] at TT
  by_cases hm:1<=m/\m<=8
  ·obtain ⟨g0,g1⟩:=ZmK hs hm.1 hm.2
   have hs2:=hs;obtain⟨⟨t0,t1⟩,⟨l0,l1⟩,-⟩:=hs2;have e0:Zib s m=(s.t+(m - 1) * s.l)/m:=Zc ⟨hs,hm⟩;have M:∀W,Calls Zg 121 #[.int .i64 (m - 1),.int .i64 s.l] W fun e w'=>e=.returned (.tuple #[.int .i64 ((m - 1) * s.l),.int .i64 0])/\Below W.heap.size W w':=fun W=>by have q:=ZqM (m - 1) s.l W;rw[ZfG (Zbh (by omega) (by omega) (by omega) (by omega)) (by omega),ZfH (Zbh (by omega) (by omega) (by omega) (by omega)) (by omega)]at q;exact q
   obtain⟨z,hz⟩:∃z,z=(m - 1) * s.l:=⟨_,rfl⟩;rw[<-hz]at M g0 g1 e0;have hff:ff [s.t,z]=0:=Zbh (by omega) (by omega) (by omega) (by omega);have htt:Zbx [s.t,z]=s.t+z:=by simp[Zbx]
   have AD:∀(W:World),Calls Zg 122 #[.slice (some ⟨W.heap.size,0,none⟩) 2 2] (W.alloc (.cells #[.int .i64 s.t,.int .i64 z] 3)) fun e w'=>e=.returned (.tuple #[.int .i64 (s.t+z),.int .i64 0])/\Below W.heap.size W w':=fun W=>by have q:=ZoP (some ⟨W.heap.size,0,none⟩) 2 [s.t,z] (W.alloc (.cells #[.int .i64 s.t,.int .i64 z] 3)) (by simp) ((Ints.new2 W _ s.t z).more (by simp));rw[Zh7 hff (by omega),Zh8 hff (by omega),htt]at q;exact q.mono fun e w' h=>⟨h.1,(Zaa _).trans (h.2.mono (by simp))⟩
   obtain⟨y,hy⟩:∃y,y=s.t+z:=⟨_,rfl⟩;rw[<-hy]at AD e0;have DN:∀(W:World),Calls Zg 123 #[.int .i64 y,.int .i64 m] W fun e w'=>e=.returned (.tuple #[.int .i64 (y/m),.int .i64 0])/\Below W.heap.size W w':=fun W=>by have q:=Zie y m W;rw[ZeF (Zbh (by omega) (by omega) (by omega) (by omega)) (by omega),ZcD (Zbh (by omega) (by omega) (by omega) (by omega)) (by omega)]at q;exact q
   rw[e0];obtain⟨x,hx⟩:∃x,x=y/m:=⟨_,rfl⟩;rw[<-hx]at DN⊢;have M:=Zf M;have AD:=Zf AD;have DN:=Zf DN;have hwm:wrap64 (m - 1)=m - 1:=by go_arith
   clear e0 hs hff htt hy hx hz t0 t1 l0 l1 g0 g1;obtain⟨t,l,mm,d,p⟩:=s;unfold Shp.val at TT⊢;dsimp only at TT M AD DN B⊢;go_enter func63,ntmps63;go_wp2_with fail;refine(TT.out _ B.out.bel).mono ?_;rintro e w1 ⟨rfl,b⟩;have B:=Zf (B.out.next b);clear b TT;obtain⟨⟨c0,c1⟩,c2,c3,c4⟩:=Zax (s:=⟨t,l,mm,d,p⟩) B.out;dsimp only at c0 c1 c2 c3 c4;go_wp2_with(go_at_call 69;refine(Zca _ _ _ _ hm).mono ?_;rintro e w2 ⟨rfl,rfl⟩);refine(M.out _).mono ?_;rintro e w3 ⟨rfl,b⟩;have B:=Zf (B.out.next b);clear b M c0 c1 c2 c3 c4;obtain⟨⟨c0,c1⟩,c2,c3,c4⟩:=Zax (s:=⟨t,l,mm,d,p⟩) B.out;dsimp only at c0 c1 c2 c3 c4;go_wp2_with fail;refine(AD.out _).mono ?_;rintro e w4 ⟨rfl,b⟩;have B:=Zf (B.out.next b);clear b AD c0 c1 c2 c3 c4;go_wp2_with fail;refine(DN.out _).mono ?_;rintro e w5 ⟨rfl,b⟩;have B:=Zf (B.out.next b);clear b DN;go_wp2;go_ret;exact⟨rfl,B.out.bel⟩
  ·have e0: Zib s m = 0:=Zb fun q => hm q.2
   rw[e0];clear e0 hs;obtain⟨t,l,mm,d,p⟩:=s;unfold Shp.val at TT⊢;dsimp only at TT B⊢;go_enter func63,ntmps63;go_wp2_with fail;refine(TT.out _ B.out.bel).mono ?_;rintro e w1 ⟨rfl,b⟩;have B:=Zf (B.out.next b);clear b TT;go_wp2_with(go_at_call 69;refine(Zda _ _ _ _ hm).mono ?_;rintro e w2 ⟨rfl,rfl⟩);go_ret;exact⟨rfl,B.out.bel⟩
 ·have e0: Zib s m = 0:=Zb fun q => hs q.1
  rw[Zc6 hs]at TT;rw[e0];clear e0 hs;obtain⟨t,l,mm,d,p⟩:=s;unfold Shp.val at TT⊢;dsimp only at TT B⊢;go_enter func63,ntmps63;go_wp2_with fail;refine(TT.out _ B.out.bel).mono ?_;rintro e w1 ⟨rfl,b⟩;have B:=Zf (B.out.next b);clear b TT;go_wp2;go_ret;exact⟨rfl,B.out.bel⟩
theorem ZsH(w:World)(t:TypeId)(a b c d e f:Int):Trips (w.alloc (.cells #[.int .i64 a,.int .i64 b,.int .i64 c,.int .i64 d,.int .i64 e,.int .i64 f] t)) (w.heap.size+1) (some ⟨w.heap.size,0,none⟩) [(a,b,c),(d,e,f)]:=Trips.two7 w t a b c d e f
theorem Zr6(w1:World)(hT:DTab w1)(W:World)(hW:W=(w1.alloc (.cells #[.int .i64 0,.int .i64 0,.int .i64 2,.int .i64 0,.int .i64 0,.int .i64 3] 118)).alloc (.cells #[.int .i64 8,.int .i64 5,.slice (some ⟨w1.heap.size,0,none⟩) 2 2,.slice none 0 0,.slice none 0 0,.slice none 0 0] 64)):
  IsD W ⟨(some ⟨w1.heap.size,0,none⟩),2,2,none,0,0,none,0,0,none,0,0⟩ exC:=by
 obtain⟨w2,h2⟩:∃w2,w2=w1.alloc (.cells #[.int .i64 0,.int .i64 0,.int .i64 2,.int .i64 0,.int .i64 0,.int .i64 3] 118):=⟨_,rfl⟩;rw[<-h2]at hW;have s2:w2.heap.size=w1.heap.size+1:=by rw[h2];simp
 have b2:Below w2.heap.size w2 W:=by rw[hW];exact Zaa _
 have b1:Below w1.heap.size w1 W:=(by rw[h2];exact Zaa _:Below w1.heap.size w1 w2).trans (b2.mono (by omega));have t1:Trips w2 w2.heap.size (some ⟨w1.heap.size,0,none⟩) exC.parts:=by have h:=ZsH w1 118 0 0 2 0 0 3;rw[<-h2]at h;exact h.more (by omega)
 exact⟨⟨rfl,rfl,rfl,rfl,(t1.below b2).more b2.size,(fun h=>Za h),(fun h=>Za h),(fun h=>Za h),(fun e=>by cases e),(fun _=>⟨rfl,rfl⟩),(fun _=>⟨rfl,rfl⟩),(fun _=>⟨rfl,rfl⟩)⟩,Zr3,hT.via b1,Zm _,Zm _⟩
structure Aw14(w w2 W:World):Prop where
 a:Rwk w [(67,[.int .i64 20,.int .i64 4,.int .i64 4,.int .i64 8,.int .i64 8])] W
 x:Rwk w2 [(67,[.int .i64 5,.int .i64 3,.int .i64 3,.int .i64 5,.int .i64 8])] W
theorem Aw14.next{w w2 W W':World}(h:Aw14 w w2 W)(hb:Below W.heap.size W W'):Aw14 w w2 W':=⟨h.a.next hb,h.x.next hb⟩
theorem ZaT(w:World)(hT:DTab w):Calls Zg 28 #[] w fun e w'=>e=.returned (.bool true)/\Below w.heap.size w w':=by have TT:=Zf (fun W (b:Below w.heap.size w W)=>(hT.via b:DTab W));clear hT;have K1:=Zf (fun W (b:Below w.heap.size w W)=>ZdA s1C W (TT.out W b));have K2:=Zf (fun W (b:Below w.heap.size w W)=>ZdA s2C W (TT.out W b));have K3:=Zf (fun W (b:Below w.heap.size w W)=>ZdA s3C W (TT.out W b));have H1:=Zf (fun W (b:Below w.heap.size w W)=>ZgY s1C W (TT.out W b));have H2:=Zf (fun W (b:Below w.heap.size w W)=>ZgY s2C W (TT.out W b));have BB:=Zf (fun W (b:Below w.heap.size w W)=>ZlE s1C 4 W (TT.out W b));have CC:=Zf (fun W (b:Below w.heap.size w W)=>ZcS s1C W (TT.out W b));rw[ZoV,ZoW]at K1;rw[ZoX,ZoY]at K2;rw[ZoZ,Zo0]at K3;rw[Zo1]at H1;rw[Zo2]at H2;rw[Zo3]at BB;rw[Zo4]at CC;unfold Shp.val s1C at K1 H1 BB CC;unfold Shp.val s2C at K2 H2;unfold Shp.val s3C at K3;dsimp only at K1 K2 K3 H1 H2 BB CC;have EQ:=Zig 5 3 3 5 8;have EG:=fun o1 o2 xs ys W=>ZmJ .eql o1 o2 xs ys W;have R:=Zf (Rwk.start w [(67,[.int .i64 20,.int .i64 4,.int .i64 4,.int .i64 8,.int .i64 8])]);go_enter func28,ntmps28;go_wp2_with fail;refine(K1.out _ R.out.bel).mono ?_;rintro e w1 ⟨rfl,b⟩;have R:=Zf (R.out.next b);clear b K1;have HD:=Zf (Zr6 w1 (TT.out _ R.out.bel) _ rfl);have R:=Zf ((R.out.alloc (.cells #[.int .i64 0,.int .i64 0,.int .i64 2,.int .i64 0,.int .i64 0,.int .i64 3] 118)).alloc (.cells #[.int .i64 8,.int .i64 5,.slice (some ⟨w1.heap.size,0,none⟩) 2 2,.slice none 0 0,.slice none 0 0,.slice none 0 0] 64));have SH:=Zf (ZgT _ _ _ HD.out);rw[ZoU,exCX]at SH;unfold Shp.val at SH;dsimp only[Sh.arg,exC]at SH;go_wp2_with fail;refine SH.out.mono ?_;rintro e w2 ⟨rfl,b⟩;have R:=Zf (R.out.next b);clear b SH HD;have A:=Zf (show Aw14 w w2 (w2.alloc (.cells #[.int .i64 5,.int .i64 3,.int .i64 3,.int .i64 5,.int .i64 8] 67))from⟨R.out.alloc _,Rwk.start w2 _⟩);have AB:=Zf A.out.a.bel;go_wp2_with fail;refine(K2.out _ A.out.a.bel).mono ?_;rintro e w3 ⟨rfl,b⟩;have A:=Zf (A.out.next b);clear b K2;go_wp2_with fail;refine(K3.out _ A.out.a.bel).mono ?_;rintro e w4 ⟨rfl,b⟩;have A:=Zf (A.out.next b);clear b K3;obtain⟨⟨c0,c1⟩,c2,c3,c4⟩:=Zax (s:=⟨20,4,4,8,8⟩) A.out.a;obtain⟨⟨d0,d1⟩,d2,d3,d4⟩:=Zax (s:=⟨5,3,3,5,8⟩) A.out.x;dsimp only at c0 c1 c2 c3 c4 d0 d1 d2 d3 d4;go_wp2_with fail;refine(H1.out _ A.out.a.bel).mono ?_;rintro e w5 ⟨rfl,b⟩;have A:=Zf (A.out.next b);clear b H1 c0 c1 c2 c3 c4 d0 d1 d2 d3 d4;obtain⟨⟨c0,c1⟩,c2,c3,c4⟩:=Zax (s:=⟨20,4,4,8,8⟩) A.out.a;obtain⟨⟨d0,d1⟩,d2,d3,d4⟩:=Zax (s:=⟨5,3,3,5,8⟩) A.out.x;dsimp only at c0 c1 c2 c3 c4 d0 d1 d2 d3 d4;go_wp2_with fail;refine(H2.out _ A.out.a.bel).mono ?_;rintro e w6 ⟨rfl,b⟩;have A:=Zf (A.out.next b);clear b H2 c0 c1 c2 c3 c4 d0 d1 d2 d3 d4;obtain⟨⟨c0,c1⟩,c2,c3,c4⟩:=Zax (s:=⟨20,4,4,8,8⟩) A.out.a;obtain⟨⟨d0,d1⟩,d2,d3,d4⟩:=Zax (s:=⟨5,3,3,5,8⟩) A.out.x;dsimp only at c0 c1 c2 c3 c4 d0 d1 d2 d3 d4;go_wp2_with fail;refine(BB.out _ A.out.a.bel).mono ?_;rintro e w7 ⟨rfl,b⟩;have A:=Zf (A.out.next b);clear b BB c0 c1 c2 c3 c4 d0 d1 d2 d3 d4;obtain⟨⟨c0,c1⟩,c2,c3,c4⟩:=Zax (s:=⟨20,4,4,8,8⟩) A.out.a;obtain⟨⟨d0,d1⟩,d2,d3,d4⟩:=Zax (s:=⟨5,3,3,5,8⟩) A.out.x;dsimp only at c0 c1 c2 c3 c4 d0 d1 d2 d3 d4;go_wp2_with fail;refine(CC.out _ A.out.a.bel).mono ?_;rintro e w8 ⟨rfl,b⟩;have A:=Zf (A.out.next b);clear b CC c0 c1 c2 c3 c4 d0 d1 d2 d3 d4;go_wp2;go_ret;exact⟨rfl,A.out.a.bel⟩
theorem Zih:∀(b:Int) (l:List Int) (z:Int),(Zb5 b (l++ [z])).sum=z - b
  |b, [],z=>by simp[Zb5]
  | b, e :: l, z => by
    rw[List.cons_append,Zb5,ZY,Zih e l z];omega
def Zii(ps:List (Int×Int×Int))(j:Nat):Int:=((ps.take j).map fun e=>e.2.2).sum
theorem ZgU{ps:List (Int×Int×Int)}{j:Nat}{e:Int×Int×Int}(h:ps[j]?=some e):Zii ps (j+1)=Zii ps j+e.2.2:=by unfold Zii;rw[List.take_add_one,h,List.map_append,YK];simp
theorem ZmL(fs ps:List (Int×Int×Int)):∀j,j<=ps.length->(wPs fs ps j).sum=Zii ps j
  |0,_=>rfl
  | j + 1, h => by
    have hj:ps[j]?=some ps[j]:=Zh (by omega);rw[wPs,YK,ZmL fs ps j (by omega),ZgU hj];unfold Zbs;rw[Zih,Zi,hj];simp
theorem ZkN:∀n:Nat,(List.replicate n (1:Int)).sum=n
 |0=>rfl
 |n+1=>by rw[List.replicate_succ,ZY,ZkN n];omega
theorem Zo6(T:Task):(lowW T).sum=Zii T.parts T.parts.length+T.bars.length:=by unfold lowW;rw[YK,ZmL _ _ _ (Zm _),ZkN]
theorem ZfN{ps:List (Int×Int×Int)}(hp:ZaM ps):∀j,j<=ps.length->0<=Zii ps j/\Zii ps j<=100 * j
  |0,_=>by simp[Zii]
  | j + 1, h => by
    have hj:ps[j]?=some ps[j]:=Zh (by omega);have h1:=ZfN hp j (by omega);have h2:ZcG ps[j]:=hp _ (Zz _);unfold ZcG at h2;rw[ZgU hj];omega
theorem Zij:∀(b:Int) (l:List Int),l.Pairwise (· < ·)->(∀e∈l,b<e)->∀z∈Zb5 b l,1<=z
  |b, [],_,_,z,hz=>by simp[Zb5]at hz
  | b, e :: l, hp, hb, z, hz => by
    rw[Zb5]at hz;rcases ZT.mp hz with rfl|hz
    · have:=hb e (by simp);omega
    · exact Zij e l (List.pairwise_cons.mp hp).2 (fun x hx=>(List.pairwise_cons.mp hp).1 x hx) z hz
theorem ZfO{fs:List (Int×Int×Int)}{x:Int}(hn:(fs.map fun f=>f.2).Nodup):∀a,(touK fs x a).Pairwise fun i j=>(Zap fs i).2.2<(Zap fs j).2.2
  |0=>List.Pairwise.nil
  | a + 1 => by
    show(touK fs x a++selF fs x (a+1) fs.length).Pairwise _;rw[List.pairwise_append];refine⟨ZfO hn a,?_,fun i hi j hj=> ?_⟩
    · have hone:∀i∈selF fs x (a+1) fs.length,∀j∈selF fs x (a+1) fs.length,i=j:=fun i hi j hj=>by
        obtain⟨h1,h2,h3⟩:=mem_selF.mp hi;obtain⟨k1,k2,k3⟩:=mem_selF.mp hj;have e:(Zap fs i).2=(Zap fs j).2:=Prod.ext (h2.trans k2.symm) (h3.trans k3.symm);unfold Zap at e;rw[Zi,Zh h1,Zi,Zh k1]at e;have h4:i<(fs.map fun f=>f.2).length:=by simpa using h1
        have h5:j<(fs.map fun f=>f.2).length:=by simpa using k1
        refine(List.getElem_inj (h₀:=h4) (h₁:=h5) hn).mp ?_;simpa using e
      have hnd:=ZeK fs x (a+1) fs.length;rcases hs:selF fs x (a+1) fs.length with _|⟨i,_|⟨j,l⟩⟩
      · exact List.Pairwise.nil
      · exact List.pairwise_singleton _ _
      · rw[hs]at hone hnd;have:=hone i (by simp) j (by simp);subst this;simp at hnd
    · have h1:=(mem_touK.mp hi).2.2.2;have h2:=(mem_selF.mp hj).2.2;omega
theorem ZmM{ps fs:List (Int×Int×Int)}(hp:ZaM ps)(hf:FutsOk ps fs){x:Nat}(hx:x<ps.length):(Zbs fs ps x).Pairwise (· < ·)/\∀e∈Zbs fs ps x,0<e:=by
 have hpx:ps[x]?=some ps[x]:=Zh hx;have hw:ZcG ps[x]:=hp _ (Zz _);unfold ZcG at hw;have hg:(ps.getD x (0,0,0)).2.2=ps[x].2.2:=by rw[Zi,hpx];rfl
 have hone:∀k∈touL fs (x:Int),0<(Zap fs k).2.2/\(Zap fs k).2.2<ps[x].2.2:=fun k hk=>by
  obtain⟨h1,h2,h3,_⟩:=mem_touK.mp hk;have e:Zap fs k=fs[k]:=by unfold Zap;rw[Zi,Zh h1];rfl
  have hF:=hf.each fs[k] (Zz h1);rw[e]at h2⊢;refine⟨by have:=hF.first;omega,hF.last ps[x] ?_⟩;rw[h2];exact hpx
 unfold Zbs;rw[hg];refine⟨?_,fun e he=> ?_⟩
 ·rw [List.pairwise_append]
  refine⟨?_,List.pairwise_singleton _ _,fun a ha b hb=> ?_⟩
  ·rw [List.pairwise_map]
   exact ZfO hf.once 99
  ·obtain ⟨k,hk,rfl⟩:=YG.mp ha
   obtain rfl:b=ps[x].2.2:=by simpa using hb
   exact(hone k hk).2
 ·rcases Z2.mp he with he | he
  ·obtain ⟨k,hk,rfl⟩:=YG.mp he
   exact(hone k hk).1
  ·obtain rfl: e = ps[x].2.2:=by simpa using he
   omega
theorem ZmN{ps fs:List (Int×Int×Int)}(hp:ZaM ps)(hf:FutsOk ps fs):∀j,j<=ps.length->∀z∈wPs fs ps j,1<=z
  |0,_,z,hz=>by simp[wPs]at hz
  | j + 1, h, z, hz => by
    rw[wPs]at hz;rcases Z2.mp hz with hz|hz
    · exact ZmN hp hf j (by omega) z hz
    · have:=ZmM hp hf (x:=j) (by omega);exact Zij 0 _ this.1 this.2 z hz
theorem ZkO{T:Task}(h:MayT T):∀z∈lowW T,1<=z:=by
 intro z hz;unfold lowW at hz;rcases Z2.mp hz with hz|hz
 ·exact ZmN h.parts h.futures _ (Zm _) z hz
 ·have:=(List.mem_replicate.mp hz).2
  omega
theorem Zo7:∀{l:List Int},l≠ []->maxL l∈l/\∀x∈l,x<=maxL l:=by
  intro l hl
  match l,hl with
  | a :: l, _ =>
    show l.foldl max a∈a::l/\∀x∈a::l,x<=l.foldl max a;obtain⟨h1,h2,h3⟩:=ZfZ l a;refine⟨?_,fun x hx=> ?_⟩
    · rcases h3 with h|h
      · rw[h];simp
      · exact List.mem_cons_of_mem _ h
    · rcases ZT.mp hx with rfl|hx
      · exact h1
      · exact h2 x hx
theorem ZkP{T:Task}(h:ZdO T):(ZcF T).Ok:=by
 have hs:ZcF T=⟨ZbF (Zau T) (ZaH T),Zb4 (Zau T) (ZaH T),maxL (Zau T),T.deadline,T.period⟩:=Zc h;rw[hs];obtain⟨e1,e2,-⟩:=Zhw h;rw[e1,e2];have hM:=h.1;have hG:=h.2;have hpos:=ZkO hM;have hsum:=Zo6 T;have hfew:=hM.few;unfold ZhK at hfew;have hwk:=ZfN hM.parts T.parts.length (Zm _);have hlen:=ZhA hM;have hne:lowW T≠ []:=fun e=>by rw[e]at hlen;simp at hlen;omega
 have ht:ZbF (lowW T) (lowE T)=(lowW T).sum:=Zc hG;have hl:Zg8 (lowW T) (lowE T) (Zb4 (lowW T) (lowE T)):=by have e:Zb4 (lowW T) (lowE T)=most (farK (lowW T) (lowE T) (lowW T).length):=Zc hG;rw[e];exact ZjE hG.fits hG.acyc fun z hz=>by have:=hpos z hz;omega
 obtain⟨hm1,hm2⟩:=Zo7 hne;obtain⟨W,hW⟩:∃W,W=lowW T:=⟨_,rfl⟩;obtain⟨E,hE⟩:∃E,E=lowE T:=⟨_,rfl⟩;rw[<-hW]at hpos hsum hne ht hl hm1 hm2⊢;rw[<-hE]at ht hl⊢;have hA:Acyc E:=by rw[hE];exact hG.acyc
 have mx1:=hpos _ hm1;have hlt:Zb4 W E<=W.sum:=by
  rcases hl.2 with⟨hw,-⟩|⟨p,hp,hi,hq⟩
  ·exact absurd hw hne
  ·rw [<- hq]
   exact Znw (fun z hz=>by have:=hpos z hz;omega) (hp.nodup hA) hi
 have hml:maxL W<=Zb4 W E:=by
  obtain⟨x,hx,hxe⟩:=List.mem_iff_getElem.mp hm1;have q:=hl.1 [x] trivial (fun y hy=>by simp at hy;omega);have e:wsum W [x]=maxL W:=by unfold wsum;simp[Zi,Zh hx,hxe]
  rw[e]at q;exact q
 have htime:=hM.time;unfold Zjq at htime;simp only[Bool.and_eq_true,decide_eq_true_eq]at htime;obtain⟨⟨⟨h1,h2⟩,h3⟩,h4⟩:=htime;have hper:isP T.period=true:=by obtain⟨k,hk,e⟩:=isTwo_iff.mp h1;rw[e,ZmG];rw[e]at h2;exact Ze h2
 rw[ht];have hl1:1<=Zb4 W E:=Int.le_trans mx1 hml;have hs1:1<=W.sum:=Int.le_trans hl1 hlt;have hs2:W.sum<=4096:=by rw[hsum];omega
 exact⟨⟨hs1,hs2⟩,⟨hl1,hlt⟩,⟨mx1,hml⟩,hper,h3,h4⟩
theorem OwnI.blockC{w:World}{base gg nn cc:Nat}{zs:List Int}(h:OwnI w base (.slice (some ⟨gg,0,none⟩) nn cc) zs):∃cur,w.heap[gg]?=some (.cells cur 3 (0,0))/\base<=gg/\nn<=cc/\cur.size=cc * 1:=by
 rcases h.2 with⟨e,_⟩|⟨g',cap,cur,e,hg,hgg,hnc,hcm,hcs,_⟩
 ·cases e
 ·injection e with e1 e2 e3
  injection e1 with e1;injection e1 with e1;subst e1 e3;rw[<-e2]at hnc;exact⟨cur,hgg,hg,hnc,hcs⟩
theorem OwnI.frozenC{w:World}{base g n c:Nat}{zs:List Int}(h:OwnI w base (.slice (some ⟨g,0,none⟩) n c) zs)(j:Nat):w.frozen? ⟨g,j,none⟩=false:=by obtain⟨cur,h1,_⟩:=h.blockC;exact frozen_of_row w g j _ _ h1
theorem OwnI.len_eq{w:World}{base nn cc:Nat}{A:Option Addr}{zs:List Int}(h:OwnI w base (.slice A nn cc) zs):zs.length=nn:=by
 rcases h.2 with⟨e,hn⟩|⟨g',cap,cur,e,_⟩
 ·injection e with _ e2 _
  omega
 ·injection e with _ e2 _
  omega
theorem Zc7{w:World}{base g n c j:Nat}{zs:List Int}(h:OwnI w base (.slice (some ⟨g,0,none⟩) n c) zs)(hj:j<zs.length)(z:Int):OwnI (w.setCell ⟨g,j,none⟩ (.int .i64 z)) base (.slice (some ⟨g,0,none⟩) n c) (zs.set j z):=by
 unfold OwnI at h⊢;rw[ZU,List.map_set];refine⟨by rw[ZU];exact h.1,?_⟩;rcases h.2 with⟨e,_⟩|⟨g',cap,cur,e,hg,hgg,hnc,hcm,hcs,htake⟩
 ·cases e
 ·injection e with e1 e2 e3
  injection e1 with e1;injection e1 with e1;subst e1 e2 e3;refine .inr ⟨g,_,cur.setIfInBounds j (.int .i64 z),rfl,hg,heap_setCell_same w g j _ _ _ hgg,hnc,hcm,by rw[Array.size_setIfInBounds];exact hcs,?_⟩;rw[Array.toList_setIfInBounds,<-htake,List.take_set]
theorem Zhs{w w':World}{base g:Nat}{v:Value}{zs:List Int}(h:OwnI w base v zs)(hne:v.ownBlock≠some g)(hk:∀k,k≠g->w'.heap[k]?=w.heap[k]?):OwnI w' base v zs:=by
 refine⟨h.1,?_⟩;rcases h.2 with hn|⟨g',cap,cur,rfl,hg,hgg,rest⟩
 ·exact .inl hn
 ·refine .inr ⟨g',cap,cur,rfl,hg,?_,rest⟩
  rw[hk g' (fun e=>hne (by rw[e];rfl))];exact hgg
theorem OwnI.cellC{w:World}{base g n c:Nat}{zs:List Int}(h:OwnI w base (.slice (some ⟨g,0,none⟩) n c) zs){j:Nat}(hj:j<zs.length):∃z,w.cell? ⟨g,j,none⟩=some (.int .i64 z):=by obtain⟨b,off,z,e,_,_,hc⟩:=h.ints.at_ hj;injection e with e;injection e with e1 e2;subst e1 e2;exact⟨z,by simpa using hc⟩
theorem OwnI.someC{w:World}{base n c:Nat}{A:Option Addr}{zs:List Int}(h:OwnI w base (.slice A n c) zs)(hn:0<zs.length):∃g,A=some ⟨g,0,none⟩/\base<=g/\g<w.heap.size:=by
 rcases h.2 with⟨e,h0⟩|⟨g',cap,cur,e,hg,hgg,_⟩
 ·omega
 ·injection e with e1 _ _
  exact⟨g',e1,hg,(Array.getElem?_eq_some_iff.1 hgg).1⟩
end Go.Proofs.YtfahabphncmbfaaGreatDoor
