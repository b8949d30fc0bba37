import Derived.Test.YtfahabphncmbfaaGreatDoorZQ45
import Derived.Deep.SlicePairs
import Derived.Lib.SmallJoins
set_option linter.all false
set_option maxRecDepth 100000
set_option maxHeartbeats 16000000
namespace Go.Proofs.YtfahabphncmbfaaGreatDoor
open Go Go.RowKit
open _root_.Array renaming getElem?_eq_some_iff→Zk
open Int renaming le_refl→ZX,le_trans→YW,toNat_natCast→Z9
open Go.Lib renaming hid→Zf
open List renaming getD_eq_getElem?_getD→Zi,getElem?_append_left→Ym,getElem?_eq_getElem→Zh,getElem?_eq_some_iff→Zs,getElem?_map→ZO,getElem?_range→Y3,getElem_mem→Zz,getElem_of_mem→ZA,map_cons→ZM,mem_cons_of_mem→Z1,mem_cons_self→Z3,range→Zo,replicate→Zj,sum_cons→ZY
open Nat renaming le_refl→Zm,lt_or_ge→Zv
open Go.Proofs.Tryz renaming prog→Zg
open Go renaming bodyPost_ret→Yal,cell_of_row→Yaf
open Go.Proofs.Tryz
theorem ZpM{W:List Int}{E:List (Int×Int)}{need:List Int}{cores:Int}(h:newE W E need cores=0):RunOk W.length E need cores.toNat (runV W E need cores):=by obtain⟨hm,hf⟩:=newE_zero.mp h;obtain⟨h1,h2,h3,h4⟩:=hf;unfold runV;rw[Zc h];exact Zso hm.fits hm.acyc h2 (by omega) (by omega) h1
theorem ZiJ{s:Shp}(h:s.Ok)(hf:Zcu s=0):1<=ZbW s/\ZbW s<=8/\s.t+(ZbW s - 1) * s.l<=ZbW s * s.d:=by
 unfold Zcu at hf;unfold ZbW;rw[Zb (fun q=>q h)]at hf⊢;by_cases hd:s.d<s.t
 ·rw [Zc hd] at hf ⊢
  unfold Zc3 at hf;unfold Zc2;by_cases hl:s.d<=s.l
  ·rw[Zc hl]at hf;exact Za hf
  ·rw [Zb hl] at hf ⊢
   by_cases h8:8<ZdX s
   ·rw[Zc h8]at hf;exact Za hf
   ·rw [Zb h8]
    obtain⟨h2,h3,h4⟩:=ZfJ h hd (by omega);obtain⟨n,hn⟩:∃n,n=ZdX s:=⟨_,rfl⟩;rw[<-hn]at h2 h3 h4 h8⊢;clear hn;have:n=2\/n=3\/n=4\/n=5\/n=6\/n=7\/n=8:=by omega
    refine⟨by omega,by omega,?_⟩;rcases this with rfl|rfl|rfl|rfl|rfl|rfl|rfl<;>omega
 ·rw [Zb hd]
  refine⟨by decide,by decide,?_⟩;omega
def Under(W zs:List Int):Prop:=zs.length=W.length/\∀i,i<W.length->1<=zs.getD i 0/\zs.getD i 0<=W.getD i 0
theorem Under.start{W:List Int}(h:∀z∈W,1<=z):Under W W:=⟨rfl,fun i hi=>⟨by
 rw[Zi,Zh hi];exact h _ (Zz hi),ZX _⟩⟩
theorem Under.set{W zs:List Int}(h:Under W zs){k:Nat}(hk:k<W.length){x:Int}(h1:1<=x)(h2:x<=zs.getD k 0):Under W (zs.set k x):=by
 refine⟨by rw[List.length_set];exact h.1,fun i hi=> ?_⟩;obtain⟨a,b⟩:=h.2 i hi;rw[Zi,List.getElem?_set];by_cases e:k=i
 ·subst e
  rw[Zc rfl,Zc (by rw[h.1];exact hk)];exact⟨h1,YW h2 b⟩
 ·rw [Zb e,<- Zi]
  exact⟨a,b⟩
theorem Under.mem{W zs:List Int}(h:Under W zs)(hW:∀z∈W,z<=1000):∀z∈zs,1<=z/\z<=1000:=by
 intro z hz;obtain⟨i,hi,rfl⟩:=ZA hz;have hiW:i<W.length:=by rw[<-h.1];exact hi
 obtain⟨a,b⟩:=h.2 i hiW;rw[Zi,Zh hi]at a b;rw[Zi,Zh hiW]at b;have:=hW _ (Zz hiW);simp only[Option.getD_some]at a b;exact⟨a,by omega⟩
theorem Zf6:∀{W zs:List Int},zs.length=W.length->(∀i,i<W.length->zs.getD i 0<=W.getD i 0)->zs.sum<=W.sum
  | [], [],_,_=>ZX _
  | w :: W, z :: zs, hl, h => by
    have h0:=h 0 (by simp);have h1:=Zf6 (W:=W) (zs:=zs) (by simpa using hl) (fun i hi=>by have:=h (i+1) (by simp;omega);simpa using this)
    simp at h0;simp only[ZY];omega
theorem Zhb{W zs:List Int}(h:Under W zs):∀{p:List Nat},In W.length p->wsum zs p<=wsum W p
  | [],_=>ZX _
  | a :: p, hp => by
    have h1:=Zhb h (p:=p) (fun y hy=>hp y (Z1 _ hy));have h2:=(h.2 a (hp a (Z3 ..))).2;simp only[wsum,ZM,ZY]at h1⊢;omega
theorem ZiK{T:Task}(hL:ZdO T){zs:List Int}(hu:Under (Zau T) zs)(hf:Zcu (ZcF T)=0){t:List (List Int)}{m:Nat}(hm:(m:Int)=ZbW (ZcF T))(hr:RunOk (Zau T).length (ZaH T) zs m t):(t.length:Int)<=T.deadline:=by
  have hok:=ZkP hL;obtain⟨c1,c2,c3⟩:=ZiJ hok hf;have hs:ZcF T=⟨ZbF (Zau T) (ZaH T),Zb4 (Zau T) (ZaH T),maxL (Zau T),T.deadline,T.period⟩:=Zc hL;rw[<-hm]at c1 c2 c3;rw[hs]at c3;dsimp only at c3;have hyes:=Zhw hL;have hG:May (Zau T) (ZaH T):=by rw[hyes.1,hyes.2.1];exact hL.2
  obtain⟨W,hW⟩:∃W,W=Zau T:=⟨_,rfl⟩;obtain⟨E,hE⟩:∃E,E=ZaH T:=⟨_,rfl⟩;rw[<-hW]at hu hr hG c3;rw[<-hE]at hr hG c3;have ht:ZbF W E=W.sum:=Zc hG;have hWL:Zg8 W E (Zb4 W E):=by have e:Zb4 W E=most (farK W E W.length):=Zc hG;rw[e];exact ZjE hG.fits hG.acyc fun z hz=>(hG.work z hz).1
  have hz1:∀z∈zs,1<=z/\z<=1000:=hu.mem fun z hz=>(hG.work z hz).2;have hzL:Zg8 zs E (most (farK zs E zs.length)):=ZjE (by rw[hu.1];exact hG.fits) hG.acyc fun z hz=>by have:=hz1 z hz;omega
  obtain⟨M,hM⟩:∃M,M=most (farK zs E zs.length):=⟨_,rfl⟩;rw[<-hM]at hzL;have hM0:0<=M:=by rw[hM];exact(Zdd _).1
  have hMle:M<=Zb4 W E:=by
    rcases hzL.2 with⟨-,h0⟩|⟨p,hp,hi,hq⟩
    · rw[h0];rcases hWL.2 with⟨-,h1⟩|⟨p,hp,hi,hq⟩
      · rw[h1];exact ZX _
      · rw[<-hq];have:0<=wsum W p:=by
          unfold wsum;have:∀l:List Nat,0<=(l.map fun a=>W.getD a 0).sum:=by
            intro l
            induction l with
            |nil=>exact ZX _
            | cons a l ih =>
              simp only[ZM,ZY];have:0<=W.getD a 0:=by
                rw[Zi]
                cases e:W[a]? with
                |none=>exact ZX _
                |some z=>exact(hG.work z (List.mem_of_getElem? e)).1
              omega
          exact this p
        exact this
    · rw[hu.1]at hi;rw[<-hq];exact YW (Zhb hu hi) (hWL.1 p hp hi)
  have hsum:zs.sum<=W.sum:=Zf6 hu.1 fun i hi=>(hu.2 i hi).2;have hz0:0<=zs.sum:=Zbz (fun z hz=>by have:=hz1 z hz;omega);have hmul:((m:Int) - 1) * M<=((m:Int) - 1) * Zb4 W E:=Int.mul_le_mul_of_nonneg_left hMle (by omega);have hmul0:0<=((m:Int) - 1) * M:=Int.mul_nonneg (by omega) hM0;have hb:=hr.bound hG.fits hz1 (by omega) hu.1 M hzL (by omega);rw[ht]at c3;have h5:(t.length:Int) * m<=zs.sum+((m:Int) - 1) * M:=(Int.le_ediv_iff_mul_le (by omega)).mp hb;have h6:(t.length:Int) * m<=T.deadline * m:=by rw[Int.mul_comm T.deadline];omega
  exact Int.le_of_mul_le_mul_right h6 (by omega)
def lenV:Value->Nat
 | .slice _ n _=>n
 |_=>0
theorem ZnG(z:Int)(w:World):Calls Zg 76 #[.int .i64 z] w fun e w'=>e=.returned (.bool (decide (0<z)))/\w'=w:=by
 go_enter func76,ntmps76;go_wp2
 all_goals
  go_ret;exact⟨rfl,rfl⟩
theorem ZiL(w:World){N:Option Addr}{nn nc:Nat}{L:List Int}(hn:L.length=nn)(hl:nn<=1000)(hI:Ints w w.heap.size N L)(h0:∀z∈L,0<=z):
    Calls Zg 43 #[.slice N nn nc,.func (.func 76) #[] #[]] w fun e w'=>e=.returned (.bool (decide (0<L.sum)))/\w'=w:=by
  refine(ZhR N nc nn L 76 #[] (Za1 func76 (by kernel_rfl) rfl) (fun k=>match L[k]? with|some z=>decide (0<z)|none=>false) (fun _ x=>x=w) w.heap.size hn hl (fun _ x hx=>hx▸hI) (fun k x W' hk hW=> ?_) (decide (0<L.sum)) ?_ w rfl).mono ?_
  · subst hW;have:=ZnG x W';simp only[hk];exact this.mono fun e w' h=>h
  · rw[decide_eq_true_iff];constructor
    · intro hs;apply Classical.byContradiction;intro hno;have hz:∀z∈L,z=0:=fun z hz=>by
        obtain⟨j,hj,he⟩:=ZA hz;have h1:=h0 z hz;apply Classical.byContradiction;intro q;exact hno ⟨j,by omega,by rw[Zh hj,he];exact Ze (by omega)⟩
      have:∀l:List Int,(∀z∈l,z=0)->l.sum=0:=fun l=>by
        induction l with
        |nil=>intro _;rfl
        | cons a l ih =>intro h;rw[ZY,h a Z3,ih fun z hz=>h z (Z1 _ hz)];rfl
      have:=this L hz;omega
    · rintro⟨j,hj,hb⟩;have hj':j<L.length:=by omega
      rw[Zh hj']at hb;have hb':0<L[j]:=of_decide_eq_true hb;have:∀l:List Int,(∀z∈l,0<=z)->∀z∈l,z<=l.sum:=fun l=>by
        induction l with
        |nil=>intro _ z hz;simp at hz
        | cons a l ih =>
          intro h z hz;have h1:=h a Z3;have h2:=Zbz (l:=l) fun z hz=>h z (Z1 _ hz);rw[ZY];rcases List.mem_cons.mp hz with rfl|hz
          · omega
          · have:=ih (fun z hz=>h z (Z1 _ hz)) z hz;omega
      have:=this L h0 _ (Zz hj');omega
  · rintro e w' ⟨rfl,k,hk⟩;exact⟨rfl,hk⟩
structure StRp(wf:World)(A:Option Addr)(n c:Nat)(F:Option Addr)(m d:Nat)(W:List Int)(E:List (Int×Int))(gc gO:Nat)(FL:Option Addr)(n1 m1 cO cL:Nat)(O L:List Int)(x:World):Prop where
 bel:Below wf.heap.size wf x
 g0:IsG wf A n c F m d W E
 q0:x.cell? ⟨wf.heap.size,0,none⟩=some (.slice A n c)
 q1:x.cell? ⟨wf.heap.size,1,none⟩=some (.slice F m d)
 cr:x.heap[gc]?=some (.cells #[.slice (some ⟨gO,0,none⟩) n1 cO,.slice FL m1 cL] 37 (0,0))
 hc:wf.heap.size+1<=gc
 k:RowsC (wf.heap.size+1) gO FL n1 m1 cO cL O L x
 lO:wf.heap.size+1<=gO/\gO<gc
 lL:∀gL,FL=some ⟨gL,0,none⟩->wf.heap.size+1<=gL/\gL<gc
section
variable {wf x y: World}{A: Option Addr}{n c: Nat}{F: Option Addr}{m d: Nat}{W: List Int}{E: List (Int × Int)}{gc gO: Nat}{FL: Option Addr}{n1 m1 cO cL: Nat}{O L: List Int}
theorem StRp.lt(h:StRp wf A n c F m d W E gc gO FL n1 m1 cO cL O L x):gc+1<=x.heap.size:=(Zk.1 h.cr).1
theorem StRp.g(h:StRp wf A n c F m d W E gc gO FL n1 m1 cO cL O L x):IsG x A n c F m d W E:=h.g0.below h.bel
theorem StRp.next(h:StRp wf A n c F m d W E gc gO FL n1 m1 cO cL O L x)(b:Below x.heap.size x y):StRp wf A n c F m d W E gc gO FL n1 m1 cO cL O L y:=by have hlt:=h.lt;have hc:=h.hc;exact⟨h.bel.trans (b.mono h.bel.size),h.g0,(b.cell (by show wf.heap.size<_;omega)).trans h.q0,(b.cell (by show wf.heap.size<_;omega)).trans h.q1,by rw[b.block _ (Zk.1 h.cr).1];exact h.cr,h.hc,h.k.next b,h.lO,h.lL⟩
theorem StRp.turn(h:StRp wf A n c F m d W E gc gO FL n1 m1 cO cL O L x){gL:Nat}(hw:gL=gO\/FL=some ⟨gL,0,none⟩)(t:Turn2 gO gL x y){O' L':List Int}(k:RowsC (wf.heap.size+1) gO FL n1 m1 cO cL O' L' y):StRp wf A n c F m d W E gc gO FL n1 m1 cO cL O' L' y:=by
 have hlt:=h.lt;have hc:=h.hc;have hO:=h.lO;have hL:wf.heap.size+1<=gL/\gL<gc:=by
  rcases hw with rfl|hw
  ·exact hO
  ·exact h.lL gL hw
 exact⟨h.bel.trans (t.below (by have:=h.bel.size;omega) (by omega) (by omega)),h.g0,(t.cell (by show wf.heap.size<_;omega) (by show wf.heap.size≠_;omega) (by show wf.heap.size≠_;omega)).trans h.q0,(t.cell (by show wf.heap.size<_;omega) (by show wf.heap.size≠_;omega) (by show wf.heap.size≠_;omega)).trans h.q1,
  by rw[t.block gc (by omega) (by omega) (by omega)];exact h.cr,h.hc,k,h.lO,h.lL⟩
theorem ZiM{t:TypeId}{s k base gL:Nat}{v:Value}{xs:List Value}(ho:x.ownsRow base t s v k xs)(ht:Turn2 gO gL x y)(h1:gO<base)(h2:gL<base):y.ownsRow base t s v k xs:=by
 refine⟨ho.1,?_⟩;rcases ho.2 with hn|⟨g,cap,cur,rfl,hg,hgg,rest⟩
 ·exact .inl hn
 ·exact .inr ⟨g,cap,cur,rfl,hg,by rw[ht.block g (Zk.1 hgg).1 (by omega) (by omega)];exact hgg,rest⟩
theorem OwnTr.turn{b gL:Nat}{v:Value}{t:List (List Int)}(h:OwnTr x b v t)(ht:Turn2 gO gL x y)(h1:gO<b)(h2:gL<b):OwnTr y b v t:=by
 obtain⟨vs,e1,e2⟩:=h;exact⟨vs,ZiM e1 ht h1 h2,fun k r hr=>by obtain⟨A1,c1,e3,e4⟩:=e2 k r hr;exact⟨A1,c1,e3,ZiM e4 ht h1 h2⟩⟩
theorem StRp.wb(h:StRp wf A n c F m d W E gc gO FL n1 m1 cO cL O L x){gL:Nat}(hw:gL=gO\/FL=some ⟨gL,0,none⟩):gO<gc+1/\gL<gc+1:=by
 have:=h.lO;rcases hw with rfl|hw
 ·omega
 ·have:=h.lL gL hw;omega
theorem StRp.grow(h:StRp wf A n c F m d W E gc gO FL n1 m1 cO cL O L x){row:Option Nat}(hr:RXs 22 (gc+1) row x y):StRp wf A n c F m d W E gc gO FL n1 m1 cO cL O L y:=by have hlt:=h.lt;have hc:=h.hc;have hb:=hr.below hlt;exact⟨h.bel.trans (hb.mono (by omega)),h.g0,(hb.cell (by show wf.heap.size<_;omega)).trans h.q0,(hb.cell (by show wf.heap.size<_;omega)).trans h.q1,hr.heap h.cr (by decide),h.hc,⟨hr.own h.k.rO (by decide),hr.own h.k.rL (by decide),h.k.ne⟩,h.lO,h.lL⟩
end
section
variable {A: Option Addr}{n c: Nat}{F: Option Addr}{m d: Nat}{W: List Int}{E: List (Int × Int)}{N: Option Addr}{nn nc: Nat}{need: List Int}
theorem Zla(cores:Int)(wf:World)(hg:IsG wf A n c F m d W E)(hn:need.length=nn)(hl:nn<=400)(hI:Ints wf wf.heap.size N need)(hN:N=none->nn=0/\nc=0)(hs:newE W E need cores=0->need.sum<=300):
  Calls Zg 36 #[.agg #[.slice A n c,.slice F m d],.slice N nn nc,.int .i64 cores] wf fun e w'=>∃v,e=.returned (.tuple #[v,.int .i64 (newE W E need cores)])/\GotT (runV W E need cores) v w'/\Below wf.heap.size wf w':=by
 obtain⟨w0,hw0⟩:∃w0,w0=wf.alloc (.cells #[.slice A n c,.slice F m d] 25):=⟨_,rfl⟩;have HB0:Hid (Below wf.heap.size wf w0):=Zf (by rw[hw0];exact Zaa _);have HS0:Hid (w0.heap.size=wf.heap.size+1):=Zf (by rw[hw0];simp);have HD0:Hid (w0.cell? ⟨wf.heap.size,0,none⟩=some (.slice A n c)/\w0.cell? ⟨wf.heap.size,1,none⟩=some (.slice F m d)):=Zf (by
  constructor<;>(rw[hw0,World.cell?_alloc_at _ _ _ _ rfl];rfl))
 have CN:=Zf (Zlk (nc:=nc) cores w0 (hg.below HB0.out) hn hl ((hI.below HB0.out).more HB0.out.size) hN);have HG:=Zf hg;have HI:=Zf hI;have HN:=Zf hn;have HW:=Zf hw0;have HNN:=Zf hN;have dd0:=HD0.out.1;have dd1:=HD0.out.2;obtain⟨ne,hne⟩:∃z,z=newE W E need cores:=⟨_,rfl⟩;rw[<-hne]at hs⊢;have HNE:=Zf hne;clear hg hI hn hw0 hne hN;by_cases h0:ne=0
 ·subst h0
  obtain⟨hM,hFo⟩:=newE_zero.mp HNE.out.symm;obtain⟨kc,rfl⟩:∃k:Nat,cores=k:=⟨cores.toNat,by have:=hFo.2.2.1;omega⟩;have hk1:1<=kc:=by have:=hFo.2.2.1;omega
  have hk8:kc<=8:=by have:=hFo.2.2.2;omega
  have HMN:=Zf (Zlv hM hFo);obtain⟨nW,hnW⟩:∃z,z=W.length:=⟨_,rfl⟩;have HRUN:Hid (runV W E need kc=runR nW E (Zj kc (-1)) need (lenR nW E (Zj kc (-1)) need)):=Zf (by unfold runV;rw[Zc HNE.out.symm,Z9,hnW]);have HINV:=Zf (RunInv.all (n:=nW) (E:=E) (need:=need) (cores:=kc) (by rw[hnW];exact hM.fits) hFo.2.1 hk1 hk8 (by rw[hnW];exact hFo.1));have HEND:=Zf (fun k=>Zrl (n:=nW) (E:=E) (need:=need) (cores:=kc) (k:=k) (by rw[hnW];exact hM.fits) hM.acyc hFo.2.1 hk1 hk8 (by rw[hnW];exact hFo.1));have HKEY:=Zf (Zrk (n:=nW) (E:=E) (need:=need) (cores:=kc) (by rw[hnW];exact hM.fits) hM.acyc hFo.2.1 hk1 hk8 (by rw[hnW];exact hFo.1));have HFIT:=Zf (And.intro hM.fits hM.nodes);have HNW:=Zf hnW;have HND:Hid (∀z∈need,0<=z):=Zf (fun z hz=>by have:=hFo.2.1 z hz;omega);obtain⟨S,hS⟩:∃z,z=need.sum:=⟨_,rfl⟩;have hS3:S<=300:=by rw[hS];exact hs rfl
  have HSS:=Zf hS;have HO0:Hid (newO W E need kc=Zj kc (-1)/\newL W E need kc=need):=Zf (by
   unfold newO newL;rw[Zc HNE.out.symm,Zc HNE.out.symm,Z9];exact⟨rfl,rfl⟩)
  clear hM hFo hs hS hnW;go_enter func36,ntmps36;go_wp2_with fail;rw[<-HW.out];refine CN.out.mono ?_;rintro e w1 ⟨A1,n1,c1,F1,m1,d1,he,hk,hap,b1⟩;rw[<-HNE.out]at he;subst he;rw[HO0.out.1,HO0.out.2,HS0.out]at hk;obtain rfl:n1=kc:=by have:=hk.hn;simpa using this.symm
  obtain⟨gO,rfl⟩:∃g,A1=some ⟨g,0,none⟩:=by
   rcases hk.on.2 with⟨e,h⟩|⟨g,cap,cur,e,_⟩
   ·simp at h;omega
   ·injection e with e1 _ _
    exact⟨g,e1⟩
  have hkO:=hk.on.blockLt gO rfl;have hkL:=hk.left.blockLt;have hrows:RowsC (wf.heap.size+1) gO F1 n1 m1 c1 d1 (Zj n1 (-1)) need w1:=⟨hk.on,hk.left,fun hm=>by
   rcases hk.left.2 with⟨e,h⟩|⟨g,cap,cur,e,_⟩
   ·have:=hk.hm;omega
   ·injection e with e1 _ _
    exact⟨g,e1,fun q=>hap gO rfl (by rw[e1,<-q];rfl)⟩⟩
  obtain⟨gc,hgc⟩:∃g,g=w1.heap.size:=⟨_,rfl⟩;obtain⟨w2,hw2⟩:∃w2,w2=w1.alloc (.cells #[.slice (some ⟨gO,0,none⟩) n1 c1,.slice F1 m1 d1] 37):=⟨_,rfl⟩;have H2:Hid (StRp wf A n c F m d W E gc gO F1 n1 m1 c1 d1 (ZaN nW E (Zj n1 (-1)) need 0).1 (ZaN nW E (Zj n1 (-1)) need 0).2 w2):=Zf (by
   have hba:=Zaa (w:=w1) (.cells #[.slice (some ⟨gO,0,none⟩) n1 c1,.slice F1 m1 d1] 37);have hna:=heap_alloc_new w1 (.cells #[.slice (some ⟨gO,0,none⟩) n1 c1,.slice F1 m1 d1] 37);rw[<-hw2]at hba hna;rw[<-hgc]at hna;have hb2:Below w0.heap.size w0 w2:=b1.trans (hba.mono b1.size);have:=HS0.out;refine⟨HB0.out.trans (hb2.mono HB0.out.size),HG.out,(hb2.cell (by show wf.heap.size<_;omega)).trans HD0.out.1,(hb2.cell (by show wf.heap.size<_;omega)).trans HD0.out.2,hna,by have:=b1.size;omega,hrows.next hba,by omega,fun gL e=> ?_⟩;subst e;have:=hkL gL rfl;omega)
  have HM1:=Zf hk.hm;have hm4:=hk.lm;have CT:Hid (Calls Zg 41 #[.agg #[.slice N nn nc,.slice none 0 0]] w2 fun e w'=>e=.returned (.int .i64 S)/\Below w2.heap.size w2 w'):=Zf (by
   have hI2:=(HI.out.below H2.out.bel).more H2.out.bel.size;have hgN:IsG w2 N nn nc none 0 0 need []:=⟨HN.out,rfl,hl,by decide,hI2,fun h=>absurd h (by simp),HNN.out,fun _=>⟨rfl,rfl⟩,H2.out.g.tab⟩;have hmay:May need []:=⟨HMN.out.nodes,by simp,HMN.out.work,fun e he=>by simp at he,fun e he=>by simp at he,List.nodup_nil,fun a h=>by obtain⟨c,h1,_⟩:=h.last;exact absurd h1 (by unfold ed;simp)⟩
   have:=ZeI w2 hgN;unfold ZbF at this;rw[Zc hmay,<-HSS.out]at this;exact this)
  have HGC:=Zf hgc;have HW2:=Zf hw2;clear hk b1 hgc hw2 hap hrows hkO hkL CN dd0 dd1;go_wp2_with fail;rw[<-HW2.out,<-HGC.out];refine CT.out.mono ?_;rintro e w3 ⟨rfl,b3⟩;have H3:=Zf (H2.out.next b3);have hgt:decide ((4096:Int)<S)=false:=Zd (by omega);clear b3 H2 CT HW2 HGC;go_wp2;go_loopw [10] (fun vt wr=>∃(k:Nat) (tA:Option Addr) (tc:Nat) (Ok Lk:List Int),vt=.slice tA k tc/\Hid (Ok=(ZaN nW E (Zj n1 (-1)) need k).1/\Lk=(ZaN nW E (Zj n1 (-1)) need k).2/\∀j,j<k->0<(ZaN nW E (Zj n1 (-1)) need j).2.sum)/\
   Hid (StRp wf A n c F m d W E gc gO F1 n1 m1 c1 d1 Ok Lk wr)/\Hid (OwnTr wr (gc+1) (.slice tA k tc) (runR nW E (Zj n1 (-1)) need k))) (fun v _=>301 - lenV v)
  case atStart=>exact⟨0,none,0,_,_,rfl,Zf ⟨rfl,rfl,fun j hj=>absurd hj (by omega)⟩,H3,Zf ⟨[],⟨rfl,.inl ⟨rfl,rfl⟩⟩,fun k r hr=>by simp[runR]at hr⟩⟩
  case round=>
   clear H3;obtain⟨k,tA,tc,Ok,Lk,rfl,HC,HB,HT⟩:=hrel;have x0:=Yaf wr gc 0 _ _ _ HB.out.cr;have x1:=Yaf wr gc 1 _ _ _ HB.out.cr;simp at x0 x1;have hok:CrewOk nW E Ok Lk:=by rw[HC.out.1,HC.out.2.1];exact(HINV.out k).ok
   have HOK:=Zf hok;have hmW:m1=nW:=by rw[<-HB.out.k.rL.len_eq,hok.ln]
   have CH:=Zf (ZiL (nc:=d1) wr HB.out.k.rL.len_eq (by omega) HB.out.k.rL.ints (fun z hz=>(hok.left z hz).1));have HMW:=Zf hmW;clear hmW;by_cases hp:0<Lk.sum
   ·rw [Ze hp] at CH
    have hk3:k<=299:=by have:=HKEY.out k HC.out.2.2;rw[<-HC.out.2.1,<-HSS.out]at this;omega
    have hLW:Lk.length=W.length:=by rw[hok.ln,HNW.out]
    have HNX:Hid (rowK nW E (Zj n1 (-1)) need k=ZcJ nW E Lk Ok):=Zf (by unfold rowK;rw[<-HC.out.1,<-HC.out.2.1]);have HPOS:Hid (0<(ZaN nW E (Zj n1 (-1)) need k).2.sum):=Zf (by rw[<-HC.out.2.1];exact hp);have q0:=HB.out.q0;have q1:=HB.out.q1;have CF:=Zf (Zn4 wf wr HB.out.g0 HB.out.bel ⟨HB.out.k.rO.down (by omega),HB.out.k.rL.down (by omega),HB.out.k.ne⟩ HFIT.out.1 HFIT.out.2 hLW (by omega));clear hok hp;go_wp2_with fail;refine CH.out.mono ?_;rintro e wx ⟨rfl,rfl⟩;clear CH;go_wp2_with fail;refine CF.out.mono ?_;rintro e w5 ⟨rfl,hr5,ht5⟩;obtain⟨R,hR⟩:∃z,z=ZcJ nW E Lk Ok:=⟨_,rfl⟩;have hfc:ZcJ m1 E Lk Ok=R:=by rw[HMW.out,hR]
    rw[hfc]at hr5;have HRR:=Zf hR;have hO5:=HB.out.lO;have hrow5:RowsC (wf.heap.size+1) gO F1 n1 m1 c1 d1 R Lk w5:=⟨by
      rcases hr5.rO.2 with h|⟨g,cap,cur,e,hg,rest⟩
      ·exact⟨hr5.rO.1,.inl h⟩
      ·refine ⟨hr5.rO.1,.inr ⟨g,cap,cur,e,?_,rest⟩⟩
       injection e with e1 _ _;injection e1 with e1;injection e1 with e1;omega,by
      rcases hr5.rL.2 with h|⟨g,cap,cur,e,hg,rest⟩
      ·exact⟨hr5.rL.1,.inl h⟩
      ·refine ⟨hr5.rL.1,.inr ⟨g,cap,cur,e,?_,rest⟩⟩
       injection e with e1 _ _;exact(HB.out.lL g e1).1,hr5.ne⟩
    have HB5:=Zf (HB.out.turn (.inl rfl) ht5 hrow5);have HT5:=Zf (HT.out.turn ht5 (by omega) (by omega));have hRn:R.length=n1:=hr5.rO.len_eq;have HRN:=Zf hRn;clear hr5 ht5 hrow5 hR hRn hfc x0 x1 q0 q1 CF hO5;have x0:=Yaf w5 gc 0 _ _ _ HB5.out.cr;have x1:=Yaf w5 gc 1 _ _ _ HB5.out.cr;simp at x0 x1;have CC:=Zf (Zd1 w5 (some ⟨gO,0,none⟩) n1 c1 R HRN.out (by omega) HB5.out.k.rO.ints (fun q=>by cases q));go_wp2_with fail;refine CC.out.mono ?_;rintro e w6 ⟨A6,c6,he6,ho6,b6⟩;rw[HRN.out]at he6 ho6;subst he6;have HO6:=Zf (ho6.down HB5.out.lt);have HB6:=Zf (HB5.out.next b6);have HT6:=Zf (HT5.out.below b6);have hl6:=HB6.out.lt;obtain⟨vs,hv1,hv2⟩:=HT6.out;have HV2:=Zf hv2;rw[Zbw]at hv1;have HVL:=Zf hv1.1;have HV1:=Zf hv1;clear ho6 b6 HB5 HT5 CC x0 x1 hv1 hv2;go_wp2_with(at_builtin;refine ZcV rfl _ _ 22 30 1 24 (.slice none 0 0) underlying30 Zdl rfl (by omega) (by omega) rfl rfl w6 (gc+1) k _ vs [.slice A6 n1 c6] HV1.out rfl (by simp[Value.oneCell']) (by omega) hl6 (by first|rfl|simp[Act.eval]) (by first|rfl|simp[Act.eval]) ?_;intro T7 tc7 w7 ho7 hr7 ha7;(have HO7:=Zf ho7);(have HR7:=Zf hr7);(have HB7:=Zf (HB6.out.grow hr7));(have x0:=Yaf w7 gc 0 _ _ _ HB7.out.cr);(have x1:=Yaf w7 gc 1 _ _ _ HB7.out.cr);simp at x0 x1;clear ho7 hr7 ha7);have HT7:Hid (OwnTr w7 (gc+1) (.slice T7 (k+1) tc7) (runR nW E (Zj n1 (-1)) need (k+1))):=Zf (by
     refine⟨vs++ [.slice A6 n1 c6],?_,fun j r hj=> ?_⟩
     ·rw[Zbw];exact HO7.out
     ·have hvl: vs.length = k:=by have:=HVL.out; omega
      rw[Zel]at hj;rcases Zv j k with h1|h1
      ·rw [Ym (by rw [Zbw]; exact h1)] at hj
       obtain⟨A8,c8,e1,e2⟩:=HV2.out j r hj;exact⟨A8,c8,by rw[Ym (by omega)];exact e1,HR7.out.own e2 (by decide)⟩
      ·rw [List.getElem?_append_right (by rw [Zbw]; exact h1),Zbw] at hj
       obtain rfl:j=k:=by have:=(Zs.1 hj).1;simp at this;omega
       rw[Nat.sub_self]at hj;obtain rfl:rowK nW E (Zj n1 (-1)) need j=r:=Option.some.inj hj;rw[HNX.out,<-HRR.out,HRN.out];exact⟨A6,c6,by rw[<-hvl];simp,HR7.out.own HO6.out (by decide)⟩)
    clear HO7 HR7 HB6 HT6 HV2 HVL HV1 HO6 HB HT;have HOK2:=Zf HOK.out.fill;rw[<-HRR.out]at HOK2;have hL3:Lk.length=nW:=HOK.out.ln;refine(ZiY (wf.heap.size+1) w7 HB7.out.k (fun x hx=>by rw[hL3];exact(HOK2.out.on x hx).imp id (fun h=>h.1)) HOK2.out.once HOK.out.left (by omega) hm4).mono ?_;rintro e w8 ⟨A8,k8,c8,gL,rfl,hd8,hk8',hr8,hw8,hgL8,ht8⟩;have HB8:=Zf (HB7.out.turn hw8 ht8 hr8);have HT8:=Zf (HT7.out.turn ht8 (HB7.out.wb hw8).1 (HB7.out.wb hw8).2);have hNXT:onT R Lk=(ZaN nW E (Zj n1 (-1)) need (k+1)).1/\ZaC R Lk=(ZaN nW E (Zj n1 (-1)) need (k+1)).2:=by
     constructor
     ·show _ = onT (rowK nW E (Zj n1 (-1)) need k) (ZaN nW E (Zj n1 (-1)) need k).2
      rw[HNX.out,<-HRR.out,<-HC.out.2.1]
     ·show _ = ZaC (rowK nW E (Zj n1 (-1)) need k) (ZaN nW E (Zj n1 (-1)) need k).2
      rw[HNX.out,<-HRR.out,<-HC.out.2.1]
    have HNXT:=Zf hNXT;clear hd8 hk8' hr8 ht8 hNXT HB7 HT7 x0 x1;go_wp2;go_roundw
    case rel=>exact⟨k+1,T7,tc7,_,_,by go_num,Zf ⟨HNXT.out.1,HNXT.out.2,fun j hj=>by
     rcases Zv j k with h|h
     ·exact HC.out.2.2 j h
     ·obtain rfl: j = k:=by omega
      exact HPOS.out⟩,HB8,HT8⟩
    case measure=>simp[lenV];omega
   ·rw [Zd hp] at CH
    have hlen:lenR nW E (Zj n1 (-1)) need=k:=HEND.out k HC.out.2.2 (by rw[<-HC.out.2.1];omega);have HR:Hid (runV W E need n1=runR nW E (Zj n1 (-1)) need k):=Zf (by rw[HRUN.out,hlen]);clear hlen hok hp;obtain⟨A5,c5,e5,h51,h52,h53⟩:=HT.out.open;obtain⟨h54,h55,h56⟩:tA=A5/\k=(runR nW E (Zj n1 (-1)) need k).length/\tc=c5:=by injection e5 with e1 e2 e3;exact⟨e1,e2,e3⟩
    have HX:Hid (Trc wr wr.heap.size tA (runV W E need n1)/\(tA=none->(runV W E need n1).length=0/\tc=0)/\(runV W E need n1).length=k):=Zf (by
     rw[HR.out,h54,h56];exact⟨h51,h52,h55.symm⟩)
    clear e5 h51 h52 h53 h54 h55 h56;go_wp2_with fail;refine CH.out.mono ?_;rintro e wx ⟨rfl,rfl⟩;clear CH;go_wp2;refine Yal (v:=.tuple #[.slice tA k tc,.int .i64 0]) (by simp[results,Tryz.results36,go_sem]) rfl ⟨_,rfl,⟨tA,tc,by rw[HX.out.2.2],HX.out.1,HX.out.2.1⟩,HB.out.bel⟩
 ·have HRV: Hid (runV W E need cores = []):=Zf (by unfold runV; rw [<- HNE.out,Zb h0])
  have h0b:(ne !=0)=true:=bne_iff_ne.mpr h0;have HZ:=Zf h0;clear h0 hs;go_enter func36,ntmps36;go_wp2_with fail;rw[<-HW.out];refine CN.out.mono ?_;rintro e w1 ⟨A1,n1,c1,F1,m1,d1',he,hk,hap,b1⟩;rw[<-HNE.out]at he;subst he;have HB1:Hid (Below wf.heap.size wf (w1.alloc (.cells #[.slice A1 n1 c1,.slice F1 m1 d1'] 37))):=Zf ((HB0.out.trans (b1.mono HB0.out.size)).trans ((Zaa _).mono (HB0.out.trans (b1.mono HB0.out.size)).size));clear hk b1;go_wp2;refine Yal (v:=.tuple #[.slice none 0 0,.int .i64 ne]) (by simp[results,Tryz.results36,go_sem]) rfl ?_;exact⟨_,rfl,⟨none,0,by rw[HRV.out];rfl,by rw[HRV.out];exact Trc.nil_ _ _ _,fun _=>⟨by rw[HRV.out];rfl,rfl⟩⟩,HB1.out⟩
end
open Go.ChangeShapes Go.WideShapes Go.ChangeAt Go.Joins Go.Deep
structure InN(w:World)(N:Option Addr)(nn nc:Nat)(need:List Int):Prop where
 hn:need.length=nn
 ln:nn<=9223372036854775807
 ints:Ints w w.heap.size N need
 hN:N=none->nn=0/\nc=0
structure InT(w:World)(T:Option Addr)(tn tc:Nat)(t:List (List Int)):Prop where
 ht:t.length=tn
 lt:tn<=9223372036854775807
 lr:∀r∈t,r.length<=9223372036854775807
 rows:Trc w w.heap.size T t
 hT:T=none->tn=0/\tc=0
 cT:tn<=tc
theorem InN.with{w:World}{N:Option Addr}{nn nc:Nat}{need:List Int}{T:Option Addr}{tn tc:Nat}{t:List (List Int)}(h:InN w N nn nc need)(g:InT w T tn tc t):InS w N nn nc T tn tc need t:=
 ⟨h.hn,g.ht,h.ln,g.lt,g.lr,h.ints,g.rows,h.hN,g.hT,g.cT⟩
section
variable {H: Type}{enc: TypeId × Value -> H}{W: World}
theorem Zl3{fuel:Nat}{cs:List Value}{x:DataW H×List MemPlace}(h1:DataW.trod enc Zg W 0 (fun _=>true) true fuel 22 cs=some x):
  ∃A n c,∃zs:List Int,cs= [.slice A n c]/\zs.length=n/\Ints W W.heap.size A zs/\n<=9223372036854775807/\n<=c/\(A=none->n=0/\c=0):=by
 obtain⟨A,n,c,zs,rfl,hrow⟩:∃A n c zs,cs= [.slice A n c]/\ZqF .i64 W A n c zs:=by
  rcases open_ints underlying22 underlying3 (by kernel_rfl) h1 with⟨hcs,_⟩|⟨x,l,c,zs,hcs,_,hl,hm,hz,_,hcell,hwz⟩
  ·exact⟨none,0,0,[],hcs,.inl ⟨rfl,rfl,rfl,rfl⟩⟩
  ·exact⟨_,_,_,zs,hcs,.inr ⟨_,rfl,hl,hm,by simpa using hz,hcell,hwz⟩⟩
 obtain⟨r1,r2,r3,r4,r5⟩:=ZkH hrow;refine⟨A,n,c,zs.take n,rfl,r2,r1,r4,r5,fun e=> ?_⟩;have:=r3 e;omega
theorem ZiN{base:Nat}{v:Value}{d:DataW H}{p:List MemPlace}
  (hv:Value.okWide Zg W .any base 22 v)(h:DataW.Trod enc Zg W 0 (fun _=>true) true 22 v d p):
  ∃A n c zs,v=.slice A n c/\InN W A n c zs:=by
 obtain⟨a0,len0,cap0,rfl⟩:=okWide_slice underlying22 hv;obtain⟨fuel,hf⟩:=h;obtain⟨A,n,c,zs,e0,l0,m0,b0,s0,w0⟩:=Zl3 hf;simp[Value.cells]at e0;obtain⟨rfl,rfl,rfl⟩:=e0;exact⟨_,_,_,zs,rfl,⟨l0,b0,m0,w0⟩⟩
end
section
variable {P: Program}{ops: Array Oper}{Q: Exit -> Act -> World -> Prop}
end
section
variable {H: Type}{enc: TypeId × Value -> H}{W: World}
theorem ZhO{a:Addr}{v:Value}(h:W.cell? a=some v):∃b off,a=⟨b,off,none⟩:=by obtain⟨b,off,spot⟩:=a;have hspot:spot=none:=World.cell?_spot h;exact⟨b,off,by rw[hspot]⟩
theorem Zhc{t e:TypeId}{f0 f1 f2:Field}{fuel:Nat}{cs:List Value}{x:DataW H×List MemPlace}(ht:Zg.underlying t=some (.slice e))(he:Zg.underlying e=some (.struct #[f0,f1,f2]))
    (ce:Zg.cellsOf e=3)(o0:f0.offset=0)(o1:f1.offset=1)(o2:f2.offset=2)(c0:Zg.cellsOf f0.type=1)(c1:Zg.cellsOf f1.type=1)(c2:Zg.cellsOf f2.type=1)
    (u0:Zg.underlying f0.type=some (.int .i64))(u1:Zg.underlying f1.type=some (.int .i64))(u2:Zg.underlying f2.type=some (.int .i64))
    (h:DataW.trod enc Zg W 0 (fun _=>true) true fuel t cs=some x):
    ∃A n c,∃es:List (Int×Int×Int),cs= [.slice A n c]/\es.length=n/\Trips W W.heap.size A es/\n<=c/\(A=none->n=0/\c=0):=by
  rcases open_slice ht h with⟨h0,_⟩|⟨a,len,cap,m,n,D,Pl,rfl,_,hl,_,hmm,_,hx⟩
  · exact⟨none,0,0, [],h0,rfl,fun hp=>absurd hp (by simp),Zm _,fun _=>⟨rfl,rfl⟩⟩
  · have hlm:len<=m:=by rw[hmm];simpa using hl
    have each:∀i,i<m->∃q:Int×Int×Int,W.cell? (a.add (i * 3))=some (.int .i64 q.1)/\W.cell? (a.add (i * 3+1))=some (.int .i64 q.2.1)/\W.cell? (a.add (i * 3+2))=some (.int .i64 q.2.2):=by
      intro i hi;obtain⟨cs',h1,h2⟩:=hx i hi;rw[ce]at h1;obtain⟨_,hlen,hcell⟩:=World.cells?_some h1;obtain⟨xs,k,_,_,_,hxl,hf⟩:=DataW.trod_struct he h2
      match xs,hxl,cs',hlen with
      | [y0, y1, y2], _, [v0, v1, v2], _ =>have g0:=hf 0 f0 rfl;have g1:=hf 1 f1 rfl;have g2:=hf 2 f2 rfl;simp[o0,o1,o2,c0,c1,c2]at g0 g1 g2;obtain⟨z0,e0,_,_⟩:=DataW.trod_int u0 g0;obtain⟨z1,e1,_,_⟩:=DataW.trod_int u1 g1;obtain⟨z2,e2,_,_⟩:=DataW.trod_int u2 g2;simp at e0 e1 e2;subst e0 e1 e2;have q0:=hcell 0 (by omega);have q1:=hcell 1 (by omega);have q2:=hcell 2 (by omega);rw[add_add]at q0 q1 q2;exact⟨(z0,z1,z2),by simpa using q0,by simpa using q1,by simpa using q2⟩
    obtain⟨q,hq⟩:=choose_lt each;refine⟨some a,len,cap,(Zo len).map q,rfl,by simp,fun hp=> ?_,hl,fun e=>by cases e⟩;have hp:0<len:=by simpa using hp
    obtain⟨b,off,rfl⟩:=ZhO (by simpa[Addr.add]using(hq 0 (by omega)).1);refine⟨b,off,rfl,Zdy (hq 0 (by omega)).1,fun k x hx=> ?_⟩;have hk:k<len:=by have:=(Zs.1 hx).1;simpa using this
    rw[ZO,Y3 hk]at hx;obtain rfl:q k=x:=by simpa using hx
    obtain⟨q0,q1,q2⟩:=hq k (by omega);rw[Za3]at q0 q1 q2;exact⟨q0,by rw[show off+k * 3+1=off+(k * 3+1) by omega];exact q1,by rw[show off+k * 3+2=off+(k * 3+2) by omega];exact q2⟩
theorem Zl4{fuel:Nat}{cs:List Value}{x:DataW H×List MemPlace}(h1:DataW.trod enc Zg W 0 (fun _=>true) true fuel 23 cs=some x):
  ∃A n c,∃es:List (Int×Int),cs= [.slice A n c]/\es.length=n/\Pairs W W.heap.size A es/\n<=c/\(A=none->n=0/\c=0):=by
 rcases open_slice_pairs underlying23 underlying179 (by kernel_rfl) rfl rfl (by kernel_rfl) (by kernel_rfl) h1 with⟨hcs,_⟩|⟨a,len,cap,m,nn,V0,V1,D0,D1,P0,P1,hcs,_,hl,hm,hmm,_,hx⟩
 ·exact⟨none,0,0,[],hcs,rfl,fun h=>absurd h (by simp),Zm _,fun _=>⟨rfl,rfl⟩⟩
 ·have hlm: len <= m:=by rw [hmm]; simpa using hl
  have each:∀i,i<m->∃q:Int×Int,W.cell? (a.add (i * 2))=some (.int .i64 q.1)/\W.cell? (a.add (i * 2+1))=some (.int .i64 q.2):=fun i hi=>by obtain⟨c0,c1,t0,t1⟩:=hx i hi;obtain⟨n0,e0,_,w0⟩:=DataW.trod_int underlying3 t0;obtain⟨n1,e1,_,w1⟩:=DataW.trod_int underlying3 t1;simp at e0 e1;rw[e0]at c0;rw[e1]at c1;exact⟨(n0,n1),c0,c1⟩
  obtain⟨q,hq⟩:=choose_lt each;refine⟨some a,len,cap,(Zo len).map q,hcs,by simp,fun hp=> ?_,hl,fun e=>by cases e⟩;have hp:0<len:=by simpa using hp
  obtain⟨b,off,rfl⟩:=ZhO (by simpa[Addr.add]using(hq 0 (by omega)).1);refine⟨b,off,rfl,Zdy (hq 0 (by omega)).1,fun k x hx=> ?_⟩;have hk:k<len:=by have:=(Zs.1 hx).1;simpa using this
  rw[ZO,Y3 hk]at hx;obtain rfl:q k=x:=by simpa using hx
  obtain⟨q0,q1⟩:=hq k (by omega);rw[Za3]at q0 q1;exact⟨q0,by rw[show off+k * 2+1=off+(k * 2+1) by omega];exact q1⟩
theorem Zhd{fuel:Nat}{cs:List Value}{x:DataW H×List MemPlace}(h0:DataW.trod enc Zg W 0 (fun _=>true) true fuel 22 cs=some x):
  ∃A n c,∃zs:List Int,cs= [.slice A n c]/\zs.length=n/\Ints W W.heap.size A zs/\(A=none->n=0/\c=0):=by
 obtain⟨A,n,c,zs,hcs,hrow⟩:∃A n c zs,cs= [.slice A n c]/\ZqF .i64 W A n c zs:=by
  rcases open_ints underlying22 underlying3 (by kernel_rfl) h0 with⟨hcs,_⟩|⟨x,l,c,zs,hcs,_,hl,hm,hz,_,hcell,hwz⟩
  ·exact⟨none,0,0,[],hcs,.inl ⟨rfl,rfl,rfl,rfl⟩⟩
  ·exact⟨_,_,_,zs,hcs,.inr ⟨_,rfl,hl,hm,by simpa using hz,hcell,hwz⟩⟩
 obtain⟨r1,r2,r3,r4,r5⟩:=ZkH hrow;refine⟨A,n,c,zs.take n,hcs,r2,r1,fun e=> ?_⟩;have:=r3 e;omega
theorem ZnH{fuel:Nat}{cs:List Value}{x:DataW H×List MemPlace}(h1:DataW.trod enc Zg W 0 (fun _=>true) true fuel 62 cs=some x):
  ∃A n c,∃bs:List (List Int×List Int),cs= [.slice A n c]/\bs.length=n/\Bars W W.heap.size A bs/\n<=c/\(A=none->n=0/\c=0):=by
 rcases open_slice_pairs underlying62 underlying122 (by kernel_rfl) rfl rfl (by kernel_rfl) (by kernel_rfl) h1 with⟨hcs,_⟩|⟨a,len,cap,m,nn,V0,V1,D0,D1,P0,P1,hcs,_,hl,hm,hmm,_,hx⟩
 ·exact⟨none,0,0,[],hcs,rfl,fun h=>absurd h (by simp),Zm _,fun _=>⟨rfl,rfl⟩⟩
 ·have hlm: len <= m:=by rw [hmm]; simpa using hl
  have each:∀i,i<m->∃q:List Int×List Int,∃A1 c1 A2 c2,W.cell? (a.add (i * 2))=some (.slice A1 q.1.length c1)/\W.cell? (a.add (i * 2+1))=some (.slice A2 q.2.length c2)/\
    Ints W W.heap.size A1 q.1/\Ints W W.heap.size A2 q.2/\(A1=none->q.1.length=0/\c1=0)/\(A2=none->q.2.length=0/\c2=0):=fun i hi=>by
   obtain⟨c0,c1,t0,t1⟩:=hx i hi;obtain⟨A1,n1,k1,z1,e1,hl1,hi1,hn1⟩:=Zhd t0;obtain⟨A2,n2,k2,z2,e2,hl2,hi2,hn2⟩:=Zhd t1;simp at e1 e2;rw[e1]at c0;rw[e2]at c1;subst hl1 hl2;exact⟨(z1,z2),A1,k1,A2,k2,c0,c1,hi1,hi2,hn1,hn2⟩
  obtain⟨q,hq⟩:=choose_lt each;refine⟨some a,len,cap,(Zo len).map q,hcs,by simp,fun hp=> ?_,hl,fun e=>by cases e⟩;have hp:0<len:=by simpa using hp
  obtain⟨_,_,_,_,hh,_⟩:=hq 0 (by omega);obtain⟨b,off,rfl⟩:=ZhO (by simpa[Addr.add]using hh);refine⟨b,off,rfl,Zdy hh,fun k x hx=> ?_⟩;have hk:k<len:=by have:=(Zs.1 hx).1;simpa using this
  rw[ZO,Y3 hk]at hx;obtain rfl:q k=x:=by simpa using hx
  obtain⟨A1,c1,A2,c2,q0,q1,rest⟩:=hq k (by omega);rw[Za3]at q0 q1;exact⟨A1,c1,A2,c2,q0,by rw[show off+k * 2+1=off+(k * 2+1) by omega];exact q1,rest⟩
theorem ZnI{base:Nat}{v:Value}{d:DataW H}{p:List MemPlace}
    (hv:Value.okWide Zg W .any base 64 v)(h:DataW.Trod enc Zg W 0 (fun _=>true) true 64 v d p):
    ∃(s:Sh) (T:Task),v=s.arg T.period T.deadline/\InD W s T:=by
  obtain⟨cs,rfl,hsz⟩:=okWide_struct underlying64 hv;have hC:Zg.cellsOf 64=6:=by kernel_rfl
  obtain⟨fuel,hf⟩:=h;obtain⟨xs,k,_,_,_,hxl,hg⟩:=DataW.trod_struct underlying64 hf;rw[hC]at hsz;obtain⟨l⟩:=cs
  match xs,hxl,l,hsz with
  | [y0, y1, y2, y3, y4, y5], _, [v0, v1, v2, v3, v4, v5], _ =>
    have g0:=hg 0 _ rfl;have g1:=hg 1 _ rfl;have g2:=hg 2 _ rfl;have g3:=hg 3 _ rfl;have g4:=hg 4 _ rfl;have g5:=hg 5 _ rfl;have k0:Zg.cellsOf 3=1:=by kernel_rfl
    have k2:Zg.cellsOf 60=1:=by kernel_rfl
    have k3:Zg.cellsOf 23=1:=by kernel_rfl
    have k4:Zg.cellsOf 61=1:=by kernel_rfl
    have k5:Zg.cellsOf 62=1:=by kernel_rfl
    simp[Value.cells,k0,k2,k3,k4,k5]at g0 g1 g2 g3 g4 g5;obtain⟨z0,e0,_,_⟩:=DataW.trod_int underlying3 g0;obtain⟨z1,e1,_,_⟩:=DataW.trod_int underlying3 g1;obtain⟨A2,n2,c2,es2,e2,l2,m2,b2,s2⟩:=Zhc underlying60 underlying118 (by kernel_rfl) rfl rfl rfl (by kernel_rfl) (by kernel_rfl) (by kernel_rfl) underlying116 underlying3 underlying3 g2;obtain⟨A3,n3,c3,es3,e3,l3,m3,b3,s3⟩:=Zl4 g3;obtain⟨A4,n4,c4,es4,e4,l4,m4,b4,s4⟩:=Zhc underlying61 underlying220 (by kernel_rfl) rfl rfl rfl (by kernel_rfl) (by kernel_rfl) (by kernel_rfl) underlying3 underlying3 underlying3 g4;obtain⟨A5,n5,c5,es5,e5,l5,m5,b5,s5⟩:=ZnH g5;simp at e0 e1 e2 e3 e4 e5;subst e0 e1 e2 e3 e4 e5;exact⟨⟨A2,n2,c2,A3,n3,c3,A4,n4,c4,A5,n5,c5⟩,⟨z0,z1,es2,es3,es4,es5⟩,rfl,⟨⟨l2,l3,l4,l5,m2,m3,m4,m5,s2,s3,s4,s5⟩,b3,b4⟩⟩
end
end Go.Proofs.YtfahabphncmbfaaGreatDoor
