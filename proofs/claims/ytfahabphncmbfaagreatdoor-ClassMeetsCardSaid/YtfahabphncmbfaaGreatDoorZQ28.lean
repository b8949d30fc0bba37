import Derived.Test.YtfahabphncmbfaaGreatDoorZQ27
set_option linter.all false
namespace Go.Proofs.YtfahabphncmbfaaGreatDoor
open Classical renaming byContradiction→Zn
open Int renaming le_refl→ZX,toNat_natCast→Z9
open List renaming append_assoc→Yr,count_eq_zero→Yi,count_nil→Y5,getD_eq_getElem?_getD→Zi,getElem?_eq_getElem→Zh,getElem?_eq_none→Zt,getElem_mem→Zz,getElem_of_mem→ZA,length_append→Zq,length_replicate→Yv,length_set→ZU,mem_append→Z2,mem_cons_of_mem→Z1,mem_cons_self→Z3,mem_filter→YQ,mem_singleton→ZV,nodup_cons→YJ,range→Zo,replicate→Zj
open Nat renaming le_refl→Zm,le_trans→ZK,lt_or_ge→Zv,zero_add→Yg,zero_le→Zu
def ZeZ(g:Gng)(i:Nat)(x:Int):Gng:=
 {g with R:=updG g.R i ((g.R i).set ((g.B i).toNat%(g.R i).length) x),B:=updG g.B i (g.B i+1)}
def Zbg(g:Gng)(i:Nat):List Nat->Gng
 | []=>g
 |x::r=>Zbg (ZeZ g i (x:Int)) i r
def Zku(n:Nat)(E:List (Int×Int))(x:Int):List Nat:=(Zo n).filter fun(y:Nat)=>decide ((x,(y:Int))∈E)
theorem Zor{n:Nat}{E:List (Int×Int)}{x:Int}{y:Nat}:y∈Zku n E x↔y<n/\(x,(y:Int))∈E:=by unfold Zku;rw[YQ,List.mem_range,decide_eq_true_iff]
def Zb0(n:Nat)(E:List (Int×Int))(O L:List Int)(D:List Nat)(k:Nat):List Nat:=
 if O.getD k 0≠ -1/\Zaj L (O.getD k 0)=1 then(Zku n E (O.getD k 0)).filter fun y=>decide (y∈Zaw n E (onT O L) (ZaC O L)/\y∉D)else []
def ZaA(n:Nat)(E:List (Int×Int))(L:List Int)(g:Gng):Nat->Gng×List Nat
 |0=>({g with O:=onT g.O L},[])
 |k+1=>(Zbg (ZaA n E L g k).1 k (Zb0 n E g.O L (ZaA n E L g k).2 k),(ZaA n E L g k).2++Zb0 n E g.O L (ZaA n E L g k).2 k)
def Zcq(n m:Nat)(E:List (Int×Int))(L:List Int)(g:Gng):Gng:=(ZaA n E L g m).1
theorem Zc1{f:Nat->Nat}{m j:Nat}(hj:j<m):f j<=sumN f m:=by
  induction m with
  |zero=>omega
  | succ m ih =>
    show f j<=sumN f m+f m;by_cases h:j=m
    · subst h;omega
    · have:=ih (by omega);omega
structure TkInv(n m:Nat)(E:List (Int×Int))(O L:List Int)(g0 g:Gng)(D:List Nat):Prop where
 same:g.T=g0.T/\g.tk=g0.tk/\g.fr=g0.fr/\g.O=onT O L
 rl:∀j,j<m->(g.R j).length=64
 lo:∀j,j<m->g.T j<=g.B j
 once:∀x:Int,sumN (fun j=>(Zaz (g.R j) (g.T j) (g.B j)).count x) m=if(0<=x/\x<n)/\ZaD E (onT O L) (ZaC O L) x.toNat/\(OverC E L x\/x.toNat∈D)then 1 else 0
 few:sumN (fun j=>(g.B j).toNat) m<=sumN (fun x=>if OverC E L (x:Int)\/(OverC E (ZaC O L) (x:Int)/\x∈D)then 1 else 0) n
section
variable {n m: Nat}{E: List (Int × Int)}{L: List Int}{g: Gng}{c: Nat}{picks: List Int}
theorem Zmp(h:CrewOk n E g.O L)(hF:Fits n E){x:Nat}(hx:x<n):ZaD E g.O L x↔ZaD E (onT g.O L) (ZaC g.O L) x/\OverC E L (x:Int):=by
 have hl:=ZbJ (O:=g.O) (L:=L) (x:=x) (by rw[h.ln];exact hx);constructor
 ·rintro ⟨a,b,d⟩
  rw[Zb b]at hl;exact⟨⟨by omega,fun q=>b ((Zgb (by omega)).mp q).1,d.mono hF fun m hm=>ZhQ (by rw[h.ln];exact hm)⟩,d⟩
 ·rintro ⟨⟨a,b,_⟩,d⟩
  have hnO:(x:Int)∉g.O:=fun q=>by
   rw[Zc q]at hl;have:=mt (Zgb (O:=g.O) (L:=L) (x:=(x:Int)) (by omega)).mpr b;by_cases h1:Zaj L (x:Int)=1
   ·omega
   ·exact this ⟨q,h1⟩
  rw[Zb hnO]at hl;exact⟨by omega,hnO,d⟩
theorem TkInv.start(h:GOk n m E L g)(hF:Fits n E)(h0:∀c,c<m->(g.tk c).at_=0):TkInv n m E g.O L g {g with O:=onT g.O L} []:=by
 have hat:∀j,j<m->(owG g j).at_=0:=fun j hj=>by
  unfold owG;split
  ·exact h0 j hj
  ·rfl
 have hv:∀j,j<m->virG g j=g.B j:=fun j hj=>Zc (hat j hj);refine⟨⟨rfl,rfl,rfl,rfl⟩,h.rl,fun j hj=> ?_,fun x=> ?_,?_⟩
 ·have:=(h.dq j hj).lo
  show g.T j<=g.B j;rw[<-hv j hj];exact this
 ·have h1:=h.once x
  have h2:sumN (fun j=>lftG g j x) m=sumN (fun j=>(Zaz (g.R j) (g.T j) (g.B j)).count x) m:=ZaP fun j hj=>by unfold lftG lftD Zkw virD;rw[Zb (by rw[hat j hj];decide),Zc (hat j hj),Y5,Yg]
  rw[h2]at h1;show sumN (fun j=>(Zaz (g.R j) (g.T j) (g.B j)).count x) m=_;rw[h1];by_cases hx:0<=x/\x<n
  ·have hr:=Zmp h.crew hF (x:=x.toNat) (by omega)
   rw[show((x.toNat:Nat):Int)=x by omega]at hr;by_cases hq:ZaD E g.O L x.toNat
   ·rw[Zc ⟨hx,hq⟩,Zc ⟨hx,(hr.mp hq).1,.inl (hr.mp hq).2⟩]
   ·rw [Zb (fun q => hq q.2),Zb]
    rintro⟨_,q1,q2|q2⟩
    ·exact hq (hr.mpr ⟨q1,q2⟩)
    ·simp at q2
  ·rw[Zb (fun q=>hx q.1),Zb (fun q=>hx q.1)]
 ·refine ZK (Nat.le_of_eq ?_) (ZK h.few (ZbZ fun x hx => ?_))
  ·exact ZaP fun j hj=>by rw[hv j hj]
  ·by_cases hq: OverC E L (x: Int)
   ·rw[Zc hq,Zc (.inl hq)];exact Zm _
   ·rw[Zb hq];exact Zu _
theorem TkInv.room{O:List Int}{g0:Gng}{D:List Nat}(h:TkInv n m E O L g0 g D)(n64:n<=64){y:Nat}(hy:y<n)(hno:¬OverC E L (y:Int))(hD:y∉D){i:Nat}(hi:i<m):(g.B i).toNat<64:=by
 have h1:=Zc1 (f:=fun j=>(g.B j).toNat) hi;have h2:=h.few;have h3:sumN (fun x=>if OverC E L (x:Int)\/(OverC E (ZaC O L) (x:Int)/\x∈D)then 1 else 0) n+1<=sumN (fun _=>1) n:=by
  have h4:=ZbV (f:=fun x=>if OverC E L (x:Int)\/(OverC E (ZaC O L) (x:Int)/\x∈D)then 1 else 0) (f':=fun x=>if x=y then 1 else if OverC E L (x:Int)\/(OverC E (ZaC O L) (x:Int)/\x∈D)then 1 else 0) hy fun k _ hk=>Zb hk;have h5:(if OverC E L (y:Int)\/(OverC E (ZaC O L) (y:Int)/\y∈D)then 1 else 0)=0:=Zb fun q=>q.elim hno fun q=>hD q.2;simp only[h5,if_true]at h4;have h6:sumN (fun x=>if x=y then 1 else if OverC E L (x:Int)\/(OverC E (ZaC O L) (x:Int)/\x∈D)then 1 else 0) n<=sumN (fun _=>1) n:=ZbZ fun k _=>by
   split
   ·omega
   ·split<;>omega
  omega
 rw[Zce]at h3;omega
theorem TkInv.push{O:List Int}{g0:Gng}{D:List Nat}(h:TkInv n m E O L g0 g D)(hT:∀j,j<m->0<=g.T j)(n64:n<=64){y:Nat}(hy:y<n)(hr:ZaD E (onT O L) (ZaC O L) y)(hno:¬OverC E L (y:Int))(hD:y∉D){i:Nat}(hi:i<m):
  TkInv n m E O L g0 (ZeZ g i (y:Int)) (D++ [y]):=by
 have hroom:=h.room n64 hy hno hD hi;have hTi:=hT i hi;have hlo:=h.lo i hi;have hlen:=h.rl i hi;have hit:=ZgD (R:=g.R i) (T:=g.T i) (B:=g.B i) (v:=(y:Int)) hTi hlo (by rw[hlen];omega);refine⟨h.same,fun j hj=> ?_,fun j hj=> ?_,fun x=> ?_,?_⟩
 ·show (updG g.R i _ j).length = 64
  by_cases hji:j=i
  ·rw[hji,Zae,ZU];exact hlen
  ·rw[Zad _ _ hji];exact h.rl j hj
 ·show g.T j <= updG g.B i (g.B i + 1) j
  by_cases hji:j=i
  ·rw[hji,Zae];omega
  ·rw[Zad _ _ hji];exact h.lo j hj
 ·have h1:=ZbV (f:=fun j => (Zaz (g.R j) (g.T j) (g.B j)).count x) (f':=fun j => (Zaz (updG g.R i ((g.R i).set ((g.B i).toNat % (g.R i).length) (y: Int)) j) (g.T j) (updG g.B i (g.B i + 1) j)).count x) hi fun k _ hk => by
   rw[Zad _ _ hk,Zad _ _ hk]
  simp only[Zae]at h1;rw[hit,ZgE]at h1;show sumN (fun j=>(Zaz (updG g.R i ((g.R i).set ((g.B i).toNat%(g.R i).length) (y:Int)) j) (g.T j) (updG g.B i (g.B i+1) j)).count x) m=_;have h2:=h.once x;by_cases hyx:(y:Int)=x
  ·subst hyx
   rw[Zc rfl]at h1;rw[Zb (fun q=>q.2.2.elim hno fun q2=>hD (by rw[Z9]at q2;exact q2))]at h2;rw[Zc ⟨⟨by omega,by omega⟩,by rw[Z9];exact hr,.inr (by rw[Z9];simp)⟩];omega
  ·rw [Zb hyx] at h1
   have h3:sumN (fun j=>(Zaz (updG g.R i ((g.R i).set ((g.B i).toNat%(g.R i).length) (y:Int)) j) (g.T j) (updG g.B i (g.B i+1) j)).count x) m=sumN (fun j=>(Zaz (g.R j) (g.T j) (g.B j)).count x) m:=by omega
   rw[h3,h2];by_cases hx:0<=x/\x<n
   ·have hm: x.toNat ∈ D ++ [y] ↔ x.toNat ∈ D:=by
     rw[Z2,ZV];exact⟨fun q=>q.elim id fun q=>by omega,.inl⟩
    simp only[hm]
   ·rw[Zb (fun q=>hx q.1),Zb (fun q=>hx q.1)]
 ·have h1:=ZbV (f:=fun j => (g.B j).toNat) (f':=fun j => (updG g.B i (g.B i + 1) j).toNat) hi fun k _ hk => by rw [Zad _ _ hk]
  simp only[Zae]at h1;show sumN (fun j=>(updG g.B i (g.B i+1) j).toNat) m<=_;have h2:=ZbV (f:=fun x=>if OverC E L (x:Int)\/(OverC E (ZaC O L) (x:Int)/\x∈D)then 1 else 0) (f':=fun x=>if OverC E L (x:Int)\/(OverC E (ZaC O L) (x:Int)/\x∈D++ [y])then 1 else 0) hy fun k _ hk=>by
   have hm:k∈D++ [y]↔k∈D:=by rw[Z2,ZV];exact⟨fun q=>q.elim id fun q=>absurd q hk,.inl⟩
   simp only[hm]
  have h5:(if OverC E L (y:Int)\/(OverC E (ZaC O L) (y:Int)/\y∈D)then 1 else 0)=0:=Zb fun q=>q.elim hno fun q=>hD q.2;have h6:(if OverC E L (y:Int)\/(OverC E (ZaC O L) (y:Int)/\y∈D++ [y])then 1 else 0)=1:=Zc (.inr ⟨hr.2.2,by simp⟩);simp only[h5,h6]at h2;have h7:=h.few;have h8:(g.B i+1).toNat=(g.B i).toNat+1:=by omega
  omega
theorem TkInv.pushes{O:List Int}{g0:Gng}{i:Nat}(hi:i<m)(n64:n<=64):∀{l D:List Nat}{g:Gng},TkInv n m E O L g0 g D->(∀j,j<m->0<=g0.T j)->l.Nodup->
    (∀y∈l,y<n/\ZaD E (onT O L) (ZaC O L) y/\¬OverC E L (y:Int)/\y∉D)->TkInv n m E O L g0 (Zbg g i l) (D++l)
  | [],D,g,h,_,_,_=>by rw[List.append_nil];exact h
  | y :: r, D, g, h, hT, hnd, hl => by
    obtain⟨a,b,d,e⟩:=hl y Z3;have h1:=h.push (fun j hj=>by rw[h.same.1];exact hT j hj) n64 a b d e hi;have h2:=TkInv.pushes hi n64 h1 hT (YJ.mp hnd).2 fun z hz=>by
      obtain⟨q1,q2,q3,q4⟩:=hl z (Z1 _ hz);refine⟨q1,q2,q3,fun q=> ?_⟩;rw[Z2,ZV]at q;rcases q with q|rfl
      · exact q4 q
      · exact(YJ.mp hnd).1 hz
    rw[Yr]at h2;exact h2
theorem mem_mine{O:List Int}{D:List Nat}{k y:Nat}:y∈Zb0 n E O L D k↔(O.getD k 0≠ -1/\Zaj L (O.getD k 0)=1)/\(y<n/\(O.getD k 0,(y:Int))∈E)/\ZaD E (onT O L) (ZaC O L) y/\y∉D:=by
 unfold Zb0;by_cases h:O.getD k 0≠ -1/\Zaj L (O.getD k 0)=1
 ·rw [Zc h,YQ,Zor,decide_eq_true_iff,mem_readyU]
  exact⟨fun⟨a,b,d⟩=>⟨h,a,b.2,d⟩,fun⟨_,a,b,d⟩=>⟨a,⟨a.1,b⟩,d⟩⟩
 ·rw [Zb h]
  exact⟨fun q=>absurd q (by simp),fun q=>absurd q.1 h⟩
theorem Zgw(h:GOk n m E L g)(hF:Fits n E)(h0:∀c,c<m->(g.tk c).at_=0):∀k,k<=m->TkInv n m E g.O L g (ZaA n E L g k).1 (ZaA n E L g k).2
  |0,_=>TkInv.start h hF h0
  | k + 1, hk => by
    have ih:=Zgw h hF h0 k (by omega);refine TkInv.pushes (i:=k) (by omega) h.n64 ih (fun j hj=>(h.dq j hj).top) ?_ fun y hy=> ?_
    · unfold Zb0;split
      · exact(List.nodup_range.filter _).filter _
      · exact List.nodup_nil
    · obtain⟨a,b,d,e⟩:=mem_mine.mp hy;exact⟨b.1,d,fun q=>q _ b.2 rfl (by rw[a.2];decide),e⟩
theorem Zgx(k:Nat):∀j,k<=j->∀y∈(ZaA n E L g k).2,y∈(ZaA n E L g j).2
  | 0, h, y, hy => by
    obtain rfl:k=0:=by omega
    exact hy
  | j + 1, h, y, hy => by
    by_cases e:k=j+1
    · subst e;exact hy
    · exact List.mem_append_left _ (Zgx k j (by omega) y hy)
theorem GOk.tick(h:GOk n m E L g)(hF:Fits n E)(h0:∀c,c<m->(g.tk c).at_=0):GOk n m E (ZaC g.O L) (Zcq n m E L g)/\(∀c,c<m->((Zcq n m E L g).tk c).at_=0):=by
 have I:=Zgw h hF h0 m (Zm _);obtain⟨⟨eT,etk,efr,eO⟩,rl,lo,once,few⟩:=I;have eT':(Zcq n m E L g).T=g.T:=eT;have etk':(Zcq n m E L g).tk=g.tk:=etk;have efr':(Zcq n m E L g).fr=g.fr:=efr;have eO':(Zcq n m E L g).O=onT g.O L:=eO;have how:∀j,owG (Zcq n m E L g) j=owG g j:=fun j=>by unfold owG;rw[etk',efr']
 have hat:∀j,j<m->(owG g j).at_=0:=fun j hj=>by
  unfold owG;split
  ·exact h0 j hj
  ·rfl
 have hv:∀j,j<m->virG (Zcq n m E L g) j=(Zcq n m E L g).B j:=fun j hj=>by unfold virG;rw[how];exact Zc (hat j hj)
 have hall:∀x:Nat,x<n->ZaD E (onT g.O L) (ZaC g.O L) x->OverC E L (x:Int)\/x∈(ZaA n E L g m).2:=fun x hx hr=>by
  by_cases hov:OverC E L (x:Int)
  ·exact .inl hov
  ·right
   obtain⟨e,he,e2,hp⟩:∃e∈E,e.2=(x:Int)/\0<Zaj L e.1:=by apply Zn;intro q;exact hov fun e he e2 hp=>q ⟨e,he,e2,hp⟩
   obtain⟨p1,p2,_,_⟩:=hF e he;obtain⟨p,hpn⟩:∃p:Nat,e.1=p:=⟨e.1.toNat,by omega⟩;have hl:=ZbJ (O:=g.O) (L:=L) (x:=p) (by rw[h.crew.ln];omega);have hz:=hr.2.2 e he e2;rw[hpn]at hz hp;have hpO:(p:Int)∈g.O:=Zn fun q=>by rw[Zb q]at hl;omega
   rw[Zc hpO]at hl;obtain⟨k,hk,hek⟩:=ZA hpO;have hkm:k<m:=by rw[<-h.ol];exact hk
   have hgk:g.O.getD k 0=(p:Int):=by rw[Zi,Zh hk];exact hek
   by_cases hD:x∈(ZaA n E L g k).2
   ·exact Zgx k m (by omega) x hD
   ·refine Zgx (k + 1) m (by omega) x (List.mem_append_right _ (mem_mine.mpr ⟨⟨by rw [hgk]; omega,by rw [hgk]; omega⟩,⟨hx,?_⟩,hr,hD⟩))
    rw[hgk,<-hpn,<-e2];exact he
 have hfew:sumN (fun j=>((Zcq n m E L g).B j).toNat) m<=sumN (fun x=>if OverC E (ZaC g.O L) (x:Int)then 1 else 0) n:=by
  refine ZK few (ZbZ fun x hx=> ?_);by_cases hq:OverC E (ZaC g.O L) (x:Int)
  ·rw[Zc hq];split<;>omega
  ·rw [Zb hq,Zb]
   ·exact Zm _
   ·rintro (q | q)
    ·exact hq (q.mono hF fun m hm=>ZhQ (by rw[h.crew.ln];exact hm))
    ·exact hq q.1
 have h64:∀j,j<m->(Zcq n m E L g).B j<=64:=fun j hj=>by
  have h1:=Zc1 (f:=fun j=>((Zcq n m E L g).B j).toNat) hj;have h2:sumN (fun x=>if OverC E (ZaC g.O L) (x:Int)then 1 else 0) n<=sumN (fun _=>1) n:=ZbZ fun x _=>by split<;>omega
  rw[Zce]at h2;have:=h.n64;omega
 refine⟨⟨h.m1,h.n64,by rw[eO'];exact h.crew.tick hF,by rw[eO',Zga];exact h.ol,by rw[efr'];exact h.fr,rl,fun j hj=> ?_,fun c hc hf=> ?_,fun c hc hb=> ?_,fun x=> ?_,?_⟩,fun c hc=>by rw[etk'];exact h0 c hc⟩
 ·rw [how,eT']
  have hd:=h.dq j hj;have hv1:virD ((Zcq n m E L g).B j) (owG g j)=(Zcq n m E L g).B j:=Zc (hat j hj);have hlo:=lo j hj;rw[eT]at hlo;exact⟨⟨hd.own.1,hd.own.2.1,hd.own.2.2.1,.inl (hat j hj)⟩,hd.top,by rw[hv1];exact hlo,by rw[hv1];exact h64 j hj⟩
 ·rw [efr'] at hf
  obtain⟨t1,t2,t3,t4,tb,t5,t6⟩:=h.th c hc hf;have ha:=h0 c hc;rw[etk'];exact⟨t1,t2,t3,fun q=>absurd q (by omega),tb,fun q=>absurd q (by omega),fun q=>absurd q (by omega)⟩
 ·rw [efr',etk']
  refine h.busy c hc fun q=> ?_;rw[eO',ZnQ (by rw[h.ol];exact hc),q,Zb (fun r=>r.1 rfl)]at hb;exact hb rfl
 ·have h1: sumN (fun j => lftG (Zcq n m E L g) j x) m = sumN (fun j => (Zaz ((Zcq n m E L g).R j) ((Zcq n m E L g).T j) ((Zcq n m E L g).B j)).count x) m:=ZaP fun j hj => by
   unfold lftG lftD Zkw virD;rw[how,Zb (by rw[hat j hj];decide),Zc (hat j hj),Y5,Yg]
  rw[h1,eO'];refine(once x).trans ?_;by_cases hx:0<=x/\x<n
  ·by_cases hq: ZaD E (onT g.O L) (ZaC g.O L) x.toNat
   ·have h2:=hall x.toNat (by omega) hq
    rw[show((x.toNat:Nat):Int)=x by omega]at h2;rw[Zc ⟨hx,hq,h2⟩,Zc ⟨hx,hq⟩]
   ·rw[Zb (fun q=>hq q.2.1),Zb (fun q=>hq q.2)]
  ·rw[Zb (fun q=>hx q.1),Zb (fun q=>hx q.1)]
 ·refine ZK (Nat.le_of_eq ?_) hfew
  exact ZaP fun j hj=>by rw[hv j hj]
end
def Zez(m:Nat):Gng:={R:=fun _=>Zj 64 0,T:=fun _=>0,B:=fun _=>0,tk:=fun _=>Zaq false,fr:=fun _=>0,O:=Zj m (-1)}
def Zfu(m:Nat)(g:Gng):List Nat->Gng
 | []=>g
 |x::r=>Zfu m (ZeZ g (x%m) (x:Int)) r
def newG(n m:Nat)(E:List (Int×Int))(need:List Int):Gng:=Zfu m (Zez m) (Zaw n E (Zj m (-1)) need)
structure DealInv(n m:Nat)(g:Gng)(D:List Nat):Prop where
 same:(∀j,g.T j=0)/\(∀j,g.tk j=Zaq false)/\(∀j,g.fr j=0)/\g.O=Zj m (-1)
 rl:∀j,j<m->(g.R j).length=64
 lo:∀j,j<m->0<=g.B j
 once:∀x:Int,sumN (fun j=>(Zaz (g.R j) 0 (g.B j)).count x) m=if 0<=x/\x.toNat∈D then 1 else 0
 few:sumN (fun j=>(g.B j).toNat) m=D.length
 nod:D.Nodup
 lt:∀y∈D,y<n
section
variable {n m: Nat}{E: List (Int × Int)}{g: Gng}
theorem Zgy(p:Nat->Bool):∀n:Nat,sumN (fun x=>if p x then 1 else 0) n=((Zo n).filter p).length
  |0=>rfl
  | n + 1 => by
    show sumN (fun x=>if p x then 1 else 0) n+(if p n then 1 else 0)=_;rw[List.range_succ,List.filter_append,Zq,Zgy p n];cases h:p n<;>simp[h]
theorem Zi5{D:List Nat}(h:D.Nodup)(hn:∀y∈D,y<n):D.length<=n:=Zbe n D h hn
theorem DealInv.start(m1:1<=m):DealInv n m (Zez m) []:=by
 refine⟨⟨fun _=>rfl,fun _=>rfl,fun _=>rfl,rfl⟩,fun _ _=>Yv,fun _ _=>ZX _,fun x=> ?_,?_,List.nodup_nil,fun y hy=>absurd hy (by simp)⟩
 ·rw [Zb (fun q => absurd q.2 (by simp)),<- Zdt m]
  refine ZaP fun j _=> ?_;show(Zaz _ 0 0).count x=0;rw[ZcA (ZX _)];rfl
 ·show sumN (fun _ => (0: Int).toNat) m = 0
  exact Zdt m
theorem DealInv.push{D:List Nat}(h:DealInv n m g D)(m1:1<=m)(n64:n<=64){y:Nat}(hy:y<n)(hD:y∉D){i:Nat}(hi:i<m):(g.B i).toNat<64/\DealInv n m (ZeZ g i (y:Int)) (D++ [y]):=by
 have hnod:(D++ [y]).Nodup:=List.nodup_append.mpr ⟨h.nod,YJ.mpr ⟨by simp,List.nodup_nil⟩,fun a ha b hb=>by rw[ZV]at hb;rintro rfl;exact hD (hb▸ha)⟩
 have hlt:∀z∈D++ [y],z<n:=fun z hz=>by
  rw[Z2,ZV]at hz;rcases hz with hz|rfl
  ·exact h.lt z hz
  ·exact hy
 have hln:=Zi5 hnod hlt;rw[Zq]at hln;have h1:=Zc1 (f:=fun j=>(g.B j).toNat) hi;have h2:=h.few;have hroom:(g.B i).toNat<64:=by have: [y].length=1:=rfl;omega
 have hlo:=h.lo i hi;have hlen:=h.rl i hi;have hit:=ZgD (R:=g.R i) (T:=0) (B:=g.B i) (v:=(y:Int)) (ZX _) hlo (by rw[hlen];omega);refine⟨hroom,h.same,fun j hj=> ?_,fun j hj=> ?_,fun x=> ?_,?_,hnod,hlt⟩
 ·show (updG g.R i _ j).length = 64
  by_cases hji:j=i
  ·rw[hji,Zae,ZU];exact hlen
  ·rw[Zad _ _ hji];exact h.rl j hj
 ·show 0 <= updG g.B i (g.B i + 1) j
  by_cases hji:j=i
  ·rw[hji,Zae];omega
  ·rw[Zad _ _ hji];exact h.lo j hj
 ·have h3:=ZbV (f:=fun j => (Zaz (g.R j) 0 (g.B j)).count x) (f':=fun j => (Zaz (updG g.R i ((g.R i).set ((g.B i).toNat % (g.R i).length) (y: Int)) j) 0 (updG g.B i (g.B i + 1) j)).count x) hi fun k _ hk => by
   rw[Zad _ _ hk,Zad _ _ hk]
  simp only[Zae]at h3;rw[hit,ZgE]at h3;show sumN (fun j=>(Zaz (updG g.R i ((g.R i).set ((g.B i).toNat%(g.R i).length) (y:Int)) j) 0 (updG g.B i (g.B i+1) j)).count x) m=_;have h4:=h.once x;by_cases hyx:(y:Int)=x
  ·subst hyx
   rw[Zc rfl]at h3;rw[Zb (fun q=>hD (by have:=q.2;rw[Z9]at this;exact this))]at h4;rw[Zc ⟨by omega,by rw[Z9];simp⟩];omega
  ·rw [Zb hyx] at h3
   have h5:sumN (fun j=>(Zaz (updG g.R i ((g.R i).set ((g.B i).toNat%(g.R i).length) (y:Int)) j) 0 (updG g.B i (g.B i+1) j)).count x) m=sumN (fun j=>(Zaz (g.R j) 0 (g.B j)).count x) m:=by omega
   rw[h5,h4];by_cases hx:0<=x
   ·have hm: x.toNat ∈ D ++ [y] ↔ x.toNat ∈ D:=by
     rw[Z2,ZV];exact⟨fun q=>q.elim id fun q=>by omega,.inl⟩
    simp only[hm]
   ·rw[Zb (fun q=>hx q.1),Zb (fun q=>hx q.1)]
 ·have h3:=ZbV (f:=fun j => (g.B j).toNat) (f':=fun j => (updG g.B i (g.B i + 1) j).toNat) hi fun k _ hk => by rw [Zad _ _ hk]
  simp only[Zae]at h3;show sumN (fun j=>(updG g.B i (g.B i+1) j).toNat) m=_;rw[Zq];show _=D.length+1;have h8:(g.B i+1).toNat=(g.B i).toNat+1:=by omega
  omega
theorem DealInv.deal(m1:1<=m)(n64:n<=64):∀{l D:List Nat}{g:Gng},DealInv n m g D->l.Nodup->(∀y∈l,y<n/\y∉D)->DealInv n m (Zfu m g l) (D++l)
  | [],D,g,h,_,_=>by rw[List.append_nil];exact h
  | y :: r, D, g, h, hnd, hl => by
    obtain⟨a,b⟩:=hl y Z3;have h1:=(h.push m1 n64 a b (i:=y%m) (Nat.mod_lt _ (by omega))).2;have h2:=DealInv.deal m1 n64 h1 (YJ.mp hnd).2 fun z hz=>by
      obtain⟨q1,q2⟩:=hl z (Z1 _ hz);refine⟨q1,fun q=> ?_⟩;rw[Z2,ZV]at q;rcases q with q|rfl
      · exact q2 q
      · exact(YJ.mp hnd).1 hz
    rw[Yr]at h2;exact h2
theorem GOk.new{need:List Int}(hn:∀z∈need,1<=z/\z<=1000)(m1:1<=m)(m8:m<=8)(hl:need.length=n)(n64:n<=64):
  GOk n m E need (newG n m E need)/\(∀c,c<m->((newG n m E need).tk c).at_=0):=by
 have I:DealInv n m (newG n m E need) ([]++Zaw n E (Zj m (-1)) need):=DealInv.deal m1 n64 (DealInv.start m1) (List.nodup_range.filter _) fun y hy=>⟨(mem_readyU.mp hy).1,by simp⟩;rw[List.nil_append]at I;obtain⟨⟨eT,etk,efr,eO⟩,rl,lo,once,few,_,_⟩:=I;obtain⟨g,hg⟩:∃g,g=newG n m E need:=⟨_,rfl⟩;rw[<-hg]at eT etk efr eO rl lo once few⊢;have how:∀j,owG g j=Zaq false:=fun j=>by unfold owG;rw[Zc (efr j),etk]
 have hv:∀j,virG g j=g.B j:=fun j=>by unfold virG;rw[how];exact Zc rfl
 have hfew:sumN (fun j=>(g.B j).toNat) m<=sumN (fun x=>if OverC E need (x:Int)then 1 else 0) n:=by
  rw[few];unfold Zaw;rw[<-Zgy];refine ZbZ fun x hx=> ?_;by_cases hr:ZaD E (Zj m (-1)) need x
  ·rw[Zc (Ze hr),Zc hr.2.2];exact Zm _
  ·rw[Zb (by simpa using hr)];exact Zu _
 have h64:∀j,j<m->g.B j<=64:=fun j hj=>by
  have h1:=Zc1 (f:=fun j=>(g.B j).toNat) hj;have h2:sumN (fun x=>if OverC E need (x:Int)then 1 else 0) n<=sumN (fun _=>1) n:=ZbZ fun x _=>by split<;>omega
  rw[Zce]at h2;omega
 refine⟨⟨m1,n64,by rw[eO];exact Zld hn m1 m8 hl,by rw[eO,Yv],fun c hc=>by rw[efr];omega,rl,fun j hj=> ?_,fun c hc hf=>absurd (efr c) hf,fun c hc hb=>⟨efr c,etk c⟩,fun x=> ?_,?_⟩,fun c hc=>by rw[etk];rfl⟩
 ·rw [how,eT]
  have hv1:virD (g.B j) (Zaq false)=g.B j:=Zc rfl;exact⟨⟨rfl,rfl,⟨by decide,by decide⟩,.inl rfl⟩,ZX _,by rw[hv1];exact lo j hj,by rw[hv1];exact h64 j hj⟩
 ·have h1: sumN (fun j => lftG g j x) m = sumN (fun j => (Zaz (g.R j) 0 (g.B j)).count x) m:=ZaP fun j hj => by
   unfold lftG lftD;rw[how,eT,show Zkw (Zaq false)= []from rfl,show virD (g.B j) (Zaq false)=g.B j from Zc rfl,Y5,Yg]
  rw[h1,once x,eO];by_cases hx:0<=x/\x<n
  ·by_cases hq: ZaD E (Zj m (-1)) need x.toNat
   ·rw[Zc ⟨hx.1,mem_readyU.mpr ⟨by omega,hq⟩⟩,Zc ⟨hx,hq⟩]
   ·rw[Zb (fun q=>hq (mem_readyU.mp q.2).2),Zb (fun q=>hq q.2)]
  ·rw[Zb (fun q=>hx ⟨q.1,by have:=(mem_readyU.mp q.2).1;omega⟩),Zb (fun q=>hx q.1)]
 ·refine ZK (Nat.le_of_eq ?_) hfew
  exact ZaP fun j hj=>by rw[hv j]
end
structure FillOk(n:Nat)(E:List (Int×Int))(O R L:List Int):Prop where
 ok:CrewOk n E R L
 len:R.length=O.length
 keep:∀j,O.getD j 0≠ -1->R.getD j 0=O.getD j 0
 full:Zaw n E R L= []\/(-1)∉R
structure SeqOk(n:Nat)(E:List (Int×Int))(need:List Int)(cores:Nat)(Oc F L:Nat->List Int):Prop where
 o0:Oc 0=Zj cores (-1)
 l0:L 0=need
 on:∀k,Oc (k+1)=onT (F k) (L k)
 lf:∀k,L (k+1)=ZaC (F k) (L k)
 fill:∀k,FillOk n E (Oc k) (F k) (L k)
def ZbA(F:Nat->List Int)(k:Nat):List (List Int):=(Zo k).map F
def lenS(L:Nat->List Int)(need:List Int):Nat:=((Zo (need.sum.toNat+1)).find? fun k=>decide ((L k).sum<=0)).getD 0
theorem ZaR(F:Nat->List Int)(k:Nat):(ZbA F k).length=k:=by simp[ZbA]
theorem ZdM(F:Nat->List Int)(k:Nat):ZbA F (k+1)=ZbA F k++ [F k]:=by unfold ZbA;rw[List.range_succ,List.map_append];rfl
theorem Zmq(F:Nat->List Int)(k:Nat):(ZbA F (k+1)).take k=ZbA F k:=by rw[ZdM,List.take_append_of_le_length (by rw[ZaR];omega),List.take_of_length_le (by rw[ZaR];omega)]
theorem Zi6(F:Nat->List Int)(k:Nat):rowT (ZbA F (k+1)) k=F k:=by unfold rowT;rw[ZdM,Zi,List.getElem?_append_right (by rw[ZaR];omega),ZaR,Nat.sub_self];rfl
section
variable {n: Nat}{E: List (Int × Int)}
theorem FillOk.mem{O R L:List Int}(h:FillOk n E O R L){x:Int}(hx:x≠ -1)(hm:x∈O):x∈R:=by
 obtain⟨j,hj,he⟩:=ZA hm;have h3:O.getD j 0=x:=by rw[Zi,Zh hj];exact he
 have h4:=h.keep j (by rw[h3];exact hx);have h5:j<R.length:=by rw[h.len];exact hj
 rw[Zi,Zh h5]at h4;have h6:R[j]=x:=by rw[<-h3];exact h4
 rw[<-h6];exact Zz h5
theorem FillOk.someone{O R L:List Int}(h:FillOk n E O R L)(hF:Fits n E)(hA:Acyc E){m:Nat}(hm:m<n)(hl:0<Zaj L (m:Int)):∃x∈R,x≠ -1:=by
 apply Zn;intro hno;have hall:∀x∈R,x= -1:=fun x hx=>Zn fun q=>hno ⟨x,hx,q⟩;have hlo:=h.ok.lo;have hin:(-1:Int)∈R:=by
  have h0:0<R.length:=by omega
  have h1:=Zz h0
  rwa [hall _ h1]at h1
 have hr:Zaw n E R L= []:=h.full.resolve_right fun q=>q hin;obtain⟨v,⟨hv,hvl⟩,hva⟩:=Znv hF hA (fun x=>x<n/\0<Zaj L (x:Int)) m ⟨hm,hl⟩;have:v∈Zaw n E R L:=by
  refine mem_readyU.mpr ⟨hv,hvl,fun hx=>by have:=hall _ hx;omega,fun e he e2 hp=> ?_⟩;obtain⟨h1,h2,_,_⟩:=hF e he;obtain⟨a,ha⟩:∃a:Nat,e.1=a:=⟨e.1.toNat,by omega⟩;have h3:ed E a v:=by show((a:Int),(v:Int))∈E;rw[<-ha,<-e2];exact he
  rw[ha]at hp;exact hva a h3 ⟨by omega,hp⟩
 rw[hr]at this;exact absurd this (by simp)
variable {Oc F L: Nat -> List Int}
structure SeqInv(n:Nat)(E:List (Int×Int))(need:List Int)(cores:Nat)(Oc F L:Nat->List Int)(k:Nat):Prop where
 ok:CrewOk n E (Oc k) (L k)
 len:(Oc k).length=cores
 left:∀x:Nat,x<n->Zaj (L k) (x:Int)=ZaJ need (x:Int) - ranT (ZbA F k) (x:Int) k
 last:∀c,c<cores->∀y,(Oc k).getD c 0=y->y≠ -1->0<k/\numT (ZbA F k) (k - 1) c=y
 began:∀x:Nat,x<n->0<ranT (ZbA F k) (x:Int) k->0<Zaj (L k) (x:Int)->(x:Int)∈(Oc k)
 good:Good E need cores (ZbA F k)
 greedy:GreedyT E need (ZbA F k)
theorem SeqInv.start{need:List Int}{cores:Nat}(S:SeqOk n E need cores Oc F L)(hn:∀z∈need,1<=z/\z<=1000)(h1:1<=cores)(h8:cores<=8)(hl:need.length=n):SeqInv n E need cores Oc F L 0:=by
 refine⟨by rw[S.o0,S.l0];exact Zld hn h1 h8 hl,by rw[S.o0];simp,fun x hx=> ?_,fun c hc y hy h=> ?_,fun x hx h=> ?_,⟨fun r hr=>by simp[ZbA]at hr,fun i hi=>by simp[ZbA]at hi⟩,fun i hi=>by simp[ZbA]at hi⟩
 ·rw [Zbt]
  rw[S.l0];unfold Zaj ZaJ;omega
 ·exfalso
  apply h;rw[<-hy,S.o0];rw[Zi,List.getElem?_replicate,Zc hc];rfl
 ·rw[Zbt]at h;omega
theorem SeqInv.next{need:List Int}{cores k:Nat}(S:SeqOk n E need cores Oc F L)(hF:Fits n E)(hn:∀z∈need,1<=z/\z<=1000)(hl:need.length=n)(h:SeqInv n E need cores Oc F L k):SeqInv n E need cores Oc F L (k+1):=by
 obtain⟨ok,len,left,last,began,good,greedy⟩:=h;obtain⟨Ok,hO⟩:∃z,z=(Oc k):=⟨_,rfl⟩;obtain⟨Lk,hL⟩:∃z,z=(L k):=⟨_,rfl⟩;obtain⟨t,ht⟩:∃z,z=ZbA F k:=⟨_,rfl⟩;obtain⟨t',ht'⟩:∃z,z=ZbA F (k+1):=⟨_,rfl⟩;obtain⟨R,hR⟩:∃z,z=F k:=⟨_,rfl⟩;have hR2:FillOk n E Ok R Lk:=by rw[hR,hL,hO];exact S.fill k
 have hs1:(Oc (k+1))=onT R Lk:=by rw[hR,hL];exact S.on k
 have hs2:(L (k+1))=ZaC R Lk:=by rw[hR,hL];exact S.lf k
 have hk:t.length=k:=by rw[ht];exact ZaR F k
 have hk':t'.length=k+1:=by rw[ht'];exact ZaR F (k+1)
 have htk:t'.take k=t:=by rw[ht',ht];exact Zmq F k
 have hrow:rowT t' k=R:=by rw[ht',hR];exact Zi6 F k
 have hran:∀(x:Int) (i:Nat),i<=k->ranT t' x i=ranT t x i:=fun x i hi=>by rw[<-htk,Zcm t' x k i hi]
 have hrows:∀i,i<k->rowT t' i=rowT t i:=fun i hi=>by rw[<-htk,Zcn t' k i hi]
 have hnum:∀i c,i<k->numT t' i c=numT t i c:=fun i c hi=>by unfold numT;rw[hrows i hi]
 rw[<-hO,<-hL]at ok;rw[<-hO]at len last;rw[<-ht]at last began left good greedy;rw[<-hL]at left;simp only[<-hL,<-hO]at began;have okR:CrewOk n E R Lk:=hR2.ok;have hlen:R.length=cores:=by rw[hR2.len];exact len
 have hstep:∀x:Int,ranT t' x (k+1)=ranT t x k+R.count x:=fun x=>by rw[Za0,hrow,hran x k (Zm _)]
 have hcount:∀x:Nat,(R.count (x:Int):Int)=if(x:Int)∈R then 1 else 0:=fun x=>by
  split
  ·next hm =>have h1:=okR.once (x:Int) (by omega);have h2:=List.count_pos_iff.mpr hm;omega
  ·next hm=>rw[Yi.mpr hm];rfl
 have hover:∀x:Int,OverC E Lk x->Zdr E need t' x k:=fun x ho e he e2=>by obtain⟨h1,h2,_,_⟩:=hF e he;obtain⟨m,hm⟩:∃m:Nat,e.1=m:=⟨e.1.toNat,by omega⟩;have h3:=ho e he e2;rw[hm]at h3⊢;rw[left m (by omega)]at h3;rw[hran _ k (Zm _)];omega
 have hfree:∀x:Int,Zdr E need t' x k->OverC E Lk x:=fun x ho e he e2 hp=>by obtain⟨h1,h2,_,_⟩:=hF e he;obtain⟨m,hm⟩:∃m:Nat,e.1=m:=⟨e.1.toNat,by omega⟩;have h3:=ho e he e2;rw[hm]at h3 hp;rw[left m (by omega)]at hp;rw[hran _ k (Zm _)]at h3;omega
 have hgood:Good E need cores t':=by
  refine⟨fun r hr=> ?_,fun i hi c hc=> ?_⟩
  ·rw [ht',ZdM,Z2] at hr
   rcases hr with hr|hr
   ·exact good.rows r (by rw[ht];exact hr)
   ·rw [ZV] at hr
    rw[hr,<-hR];exact hlen
  ·rcases Zv i k with hik | hik
   ·have h1:=good.one i (by omega) c hc
    rw[<-htk,ZcM k i c hik]at h1;exact h1
   ·obtain rfl: i = k:=by omega
    have hc':c<R.length:=by omega
    obtain⟨x,hx⟩:∃x,x=numT t' i c:=⟨_,rfl⟩;have hxR:R.getD c (-1)=x:=by rw[hx];unfold numT;rw[hrow]
    unfold oneV;rw[<-hx];by_cases h1:x= -1
    ·rw[Zc h1]
    have hidx:=Zem hc' hxR;have hmem:x∈R:=List.mem_of_getElem? hidx;obtain⟨⟨h2,h3⟩,h4,h5⟩:=(okR.on x hmem).resolve_left h1;obtain⟨m,rfl⟩:∃m:Nat,x=m:=⟨x.toNat,by omega⟩;have hpos:=okR.pos h2 h3;have hlf:=left m (by omega);have hr:=hran (m:Int) i (Zm _);rw[Zb h1,Zb (by omega),Zb,Zb (by omega),Zb,Zb]
    ·rintro ⟨_,h7⟩
     exact h7 (hover _ h5)
    ·rintro ⟨h6,h7⟩
     rw[hr]at h6;have h8:=began m (by omega) h6 (by omega);obtain⟨j,hj,he⟩:=ZA h8;have h9:Ok.getD j 0=(m:Int):=by rw[Zi,Zh hj];exact he
     have h11:R.getD j 0=(m:Int):=by rw[hR2.keep j (by omega),h9]
     have h12:=ZdF (okR.once (m:Int) h1) hidx (Zem (by omega) h11);subst h12;obtain⟨h13,h14⟩:=last c (by omega) _ h9 h1;exact h7 (by rw[hnum _ _ (by omega)];exact h14)
    ·intro h6
     rw[hrow]at h6;obtain⟨j,hj,he⟩:=ZA h6;rw[List.length_take]at hj;have h7:R[j]?=some (m:Int):=by rw[Zh (by omega)];rw[List.getElem_take]at he;exact congrArg some he
     have:=ZdF (okR.once (m:Int) h1) hidx h7;omega
 refine⟨?_,?_,fun x hx=> ?_,fun c hc y hy h1=> ?_,fun x hx h1 h2=> ?_,by rw[<-ht'];exact hgood,?_⟩
 ·rw[hs1,hs2];exact okR.tick hF
 ·rw[hs1,Zga];exact hlen
 ·rw [hs2,<- ht',ZbJ (by rw [ok.ln]; exact hx),hstep,left x hx]
  have:=hcount x;omega
 ·rw [hs1,ZnQ (by omega)] at hy
  split at hy
  ·exact absurd hy.symm h1
  ·refine ⟨by omega,?_⟩
   rw[<-ht',show k+1 - 1=k by omega];unfold numT;rw[hrow,Zlc (by omega:c<R.length) (-1) 0];exact hy
 ·rw [<- ht',hstep] at h1
  rw[hs2,ZbJ (by rw[ok.ln];exact hx)]at h2;rw[hs1];by_cases hxR:(x:Int)∈R
  ·rw [Zc hxR] at h2
   exact(Zgb (by omega)).mpr ⟨hxR,by omega⟩
  ·rw [Zb hxR] at h2
   rw[Yi.mpr hxR]at h1;have h3:=began x hx (by omega) (by omega);exfalso;exact hxR (hR2.mem (by omega) h3)
 ·rw [<- ht']
  intro i hi hidle x hx h0 hnx hfr;rcases Zv i k with hik|hik
  ·refine greedy i (by omega) ?_ x hx ?_ ?_ ?_
   ·rw[<-hrows i hik];exact hidle
   ·rw[<-hran _ i (by omega)];exact h0
   ·rw[<-hrows i hik];exact hnx
   ·intro e he e2
    have:=hfr e he e2;rw[hran _ i (by omega)]at this;exact this
  ·obtain rfl: i = k:=by omega
   rw[hrow]at hidle hnx;rw[hran _ i (Zm _)]at h0;have hr:Zaw n E R Lk= []:=by
    rcases hR2.full with h1|h1
    ·exact h1
    ·exact absurd hidle h1
   have hlx:=left x (by omega);have hnd:1<=ZaJ need (x:Int):=Zds (fun z hz=>(hn z hz).1) (by omega) (by omega);have:x∈Zaw n E R Lk:=mem_readyU.mpr ⟨by omega,by omega,hnx,hfree _ hfr⟩;rw[hr]at this;exact absurd this (by simp)
theorem SeqInv.all{need:List Int}{cores:Nat}(S:SeqOk n E need cores Oc F L)(hF:Fits n E)(hn:∀z∈need,1<=z/\z<=1000)(h1:1<=cores)(h8:cores<=8)(hl:need.length=n):∀k,SeqInv n E need cores Oc F L k
 |0=>SeqInv.start S hn h1 h8 hl
 |k+1=>(SeqInv.all S hF hn h1 h8 hl k).next S hF hn hl
theorem SeqInv.less{need:List Int}{cores k:Nat}(S:SeqOk n E need cores Oc F L)(hF:Fits n E)(hA:Acyc E)(h:SeqInv n E need cores Oc F L k)(hp:0<(L k).sum):
  (∃x∈F k,x≠ -1)/\(L (k+1)).sum<(L k).sum:=by
 obtain⟨m,hm,hl⟩:=Zdm hp;obtain⟨x,hx,h1⟩:=(S.fill k).someone hF hA (by rw[h.ok.ln]at hm;exact hm) hl;exact⟨⟨x,hx,h1⟩,by rw[S.lf];exact(S.fill k).ok.less hF hx h1⟩
theorem Zi7{need:List Int}{cores:Nat}(S:SeqOk n E need cores Oc F L)(hF:Fits n E)(hA:Acyc E)(hn:∀z∈need,1<=z/\z<=1000)(h1:1<=cores)(h8:cores<=8)(hl:need.length=n):
    (L (lenS L need)).sum<=0/\(∀j,j<lenS L need->0<(L j).sum)/\(lenS L need:Int)<=need.sum:=by
  have inv:=SeqInv.all S hF hn h1 h8 hl;have h0:0<=need.sum:=Zbz fun z hz=>by have:=hn z hz;omega
  have key:∀k:Nat,(∀j,j<k->0<(L j).sum)->(L k).sum<=need.sum - k:=by
    intro k
    induction k with
    |zero=>intro _;rw[S.l0];omega
    | succ k ih =>intro h;have h2:=ih fun j hj=>h j (by omega);have h3:=((inv k).less S hF hA (h k (by omega))).2;omega
  have hex:∃k,k<=need.sum.toNat/\(L k).sum<=0:=by
    by_cases h2:∃k,k<=need.sum.toNat/\(L k).sum<=0
    · exact h2
    · have h3:=key need.sum.toNat fun j hj=>Zn fun q=>h2 ⟨j,by omega,by omega⟩;exact absurd ⟨need.sum.toNat,Zm _,by omega⟩ h2
  obtain⟨k,hk,hs⟩:=hex;obtain⟨j,hj,hs2,hmin⟩:=Zen (p:=fun k=>(L k).sum<=0) k hs;have he:lenS L need=j:=by unfold lenS;rw[ZdG (k:=j) (by simpa using hs2) (by omega) (fun i hi=>by have:=hmin i hi;simpa using this)];rfl
  rw[he];exact⟨hs2,fun i hi=>by have:=hmin i hi;omega,by omega⟩
theorem Zsx{need:List Int}{cores:Nat}(S:SeqOk n E need cores Oc F L)(hF:Fits n E)(hA:Acyc E)(hn:∀z∈need,1<=z/\z<=1000)(h1:1<=cores)(h8:cores<=8)(hl:need.length=n):
  RunOk n E need cores (ZbA F (lenS L need)):=by
 obtain⟨hs,hp,hle⟩:=Zi7 S hF hA hn h1 h8 hl;obtain⟨K,hK⟩:∃z,z=lenS L need:=⟨_,rfl⟩;rw[<-hK]at hs hp hle⊢;have inv:=SeqInv.all S hF hn h1 h8 hl K;have hlen:(ZbA F K).length=K:=ZaR F K;have hall:∀x:Nat,x<n->ZaJ need (x:Int)<=ranT (ZbA F K) (x:Int) K:=fun x hx=>by have h2:=Zdn (fun z hz=>(inv.ok.left z hz).1) hs _ (Zck (x:=x) (by rw[inv.ok.ln];exact hx));have h3:=inv.left x hx;omega
 have hend:∀x:Nat,x<n->0<=endV need (ZbA F K) (x:Int)/\endV need (ZbA F K) (x:Int)<=K:=fun x hx=>ZhT (hall x hx);refine⟨inv.good,inv.greedy,fun x hx=>(hend x hx).1,fun x hx=>by rw[hlen];exact(hend x hx).2,fun h0=> ?_,by rw[hlen];exact hle⟩;rw[hlen]at h0⊢;obtain⟨K',rfl⟩:∃k,K=k+1:=⟨K - 1,by omega⟩;obtain⟨⟨y,hy,hy1⟩,_⟩:=(SeqInv.all S hF hn h1 h8 hl K').less S hF hA (hp K' (by omega));have hrow:y∈rowT (ZbA F (K'+1)) K':=by rw[Zi6];exact hy
 have hin:=(inv.good.mem (by omega) hrow).resolve_left hy1;obtain⟨m,rfl⟩:∃m:Nat,y=m:=⟨y.toNat,by omega⟩;obtain⟨c,hc,he⟩:=ZeT hrow;have h2:=(inv.good.at_ (by omega) (by rw[inv.good.len (by omega)]at hc;exact hc) (m:Int) he hy1).2.2.1;have hm:m<n:=by omega
 have h3:=Zj2 h2 (hend m hm).1;have h4:=(hend m hm).2;exact⟨m,hm,by omega⟩
end
def Zbm(n m:Nat)(E:List (Int×Int))(need:List Int)(P:Nat->List Int):Nat->Gng×List Int
 |0=>(newG n m E need,need)
 |k+1=>(Zcq n m E (Zbm n m E need P k).2 (Zdx m (Zbm n m E need P k).1 (P k)),ZaC (Zdx m (Zbm n m E need P k).1 (P k)).O (Zbm n m E need P k).2)
def rowG(n m:Nat)(E:List (Int×Int))(need:List Int)(P:Nat->List Int)(k:Nat):List Int:=(Zdx m (Zbm n m E need P k).1 (P k)).O
def Zbv(n m:Nat)(E:List (Int×Int))(need picks:List Int):Nat->Nat×(Gng×List Int)
  |0=>(0,(newG n m E need,need))
  | k + 1 =>
    ((Zbv n m E need picks k).1 + lenC m (Zbv n m E need picks k).2.1 (picks.drop (Zbv n m E need picks k).1),
      (Zcq n m E (Zbv n m E need picks k).2.2 (Zdx m (Zbv n m E need picks k).2.1 (picks.drop (Zbv n m E need picks k).1)),
        ZaC (Zdx m (Zbv n m E need picks k).2.1 (picks.drop (Zbv n m E need picks k).1)).O (Zbv n m E need picks k).2.2))
def Zat(n m:Nat)(E:List (Int×Int))(need picks:List Int)(k:Nat):List Int:=picks.drop (Zbv n m E need picks k).1
section
variable {n m: Nat}{E: List (Int × Int)}{need: List Int}{P: Nat -> List Int}
theorem Zi8(picks:List Int):∀k,(Zbv n m E need picks k).2=Zbm n m E need (Zat n m E need picks) k
  |0=>rfl
  | k + 1 => by
    have ih:=Zi8 picks k;show(Zcq n m E (Zbv n m E need picks k).2.2 (Zdx m (Zbv n m E need picks k).2.1 (Zat n m E need picks k)),ZaC (Zdx m (Zbv n m E need picks k).2.1 (Zat n m E need picks k)).O (Zbv n m E need picks k).2.2)=_;rw[ih];rfl
theorem Zgz(picks:List Int)(k:Nat):(Zbv n m E need picks (k+1)).1=(Zbv n m E need picks k).1+lenC m (Zbm n m E need (Zat n m E need picks) k).1 (Zat n m E need picks k):=by rw[<-Zi8];rfl
theorem ZhZ(hF:Fits n E)(hn:∀z∈need,1<=z/\z<=1000)(m1:1<=m)(m8:m<=8)(hl:need.length=n)(n64:n<=64)(P:Nat->List Int):∀k,GOk n m E (Zbm n m E need P k).2 (Zbm n m E need P k).1/\∀c,c<m->((Zbm n m E need P k).1.tk c).at_=0
  |0=>GOk.new hn m1 m8 hl n64
  | k + 1 => by
    obtain⟨h,h0⟩:=ZhZ hF hn m1 m8 hl n64 P k;obtain⟨hw,_,_,I⟩:=ZeA (picks:=P k) h h0;obtain⟨q0,_⟩:=Ze1 I.ok hw;exact GOk.tick I.ok hF q0
theorem Zos{L:List Int}{g:Gng}:(Zcq n m E L g).O=onT g.O L:=by
  have:∀k,(ZaA n E L g k).1.O=onT g.O L:=fun k=>by
    induction k with
    |zero=>rfl
    | succ k ih =>
      have hp:∀(l:List Nat) (q:Gng),(Zbg q k l).O=q.O:=fun l=>by
        induction l with
        |nil=>exact fun _=>rfl
        |cons x r ihl=>exact fun q=>ihl _
      exact(hp _ _).trans ih
  exact this m
theorem Zsy:(newG n m E need).O=Zj m (-1):=by
 have:∀(l:List Nat) (q:Gng),(Zfu m q l).O=q.O:=fun l=>by
  induction l with
  |nil=>exact fun _=>rfl
  |cons x r ihl=>exact fun q=>ihl _
 exact this _ _
theorem Zlq(hF:Fits n E)(hn:∀z∈need,1<=z/\z<=1000)(m1:1<=m)(m8:m<=8)(hl:need.length=n)(n64:n<=64)(P:Nat->List Int):
  SeqOk n E need m (fun k=>(Zbm n m E need P k).1.O) (rowG n m E need P) (fun k=>(Zbm n m E need P k).2):=by
 refine⟨Zsy,rfl,fun k=>Zos,fun k=>rfl,fun k=> ?_⟩;obtain⟨h,h0⟩:=ZhZ hF hn m1 m8 hl n64 P k;obtain⟨hw,_,_,I⟩:=ZeA (picks:=P k) h h0;obtain⟨q0,q1⟩:=Ze1 I.ok hw;refine⟨I.ok.crew,?_,fun j hj=> ?_,q1⟩
 ·show (Zdx m (Zbm n m E need P k).1 (P k)).O.length = (Zbm n m E need P k).1.O.length
  rw[h.ol];exact I.ok.ol
 ·by_cases hjm: j < m
  ·exact I.keep j hjm hj
  ·show (Zdx m (Zbm n m E need P k).1 (P k)).O.getD j 0 = (Zbm n m E need P k).1.O.getD j 0
   rw[Zi,Zi,Zt (by rw[show(Zdx m (Zbm n m E need P k).1 (P k)).O.length=m from I.ok.ol];omega),Zt (by rw[h.ol];omega)]
def lenG(n m:Nat)(E:List (Int×Int))(need picks:List Int):Nat:=lenS (fun k=>(Zbm n m E need (Zat n m E need picks) k).2) need
def ZdV(n m:Nat)(E:List (Int×Int))(need picks:List Int):List (List Int):=ZbA (rowG n m E need (Zat n m E need picks)) (lenG n m E need picks)
theorem Zqo(hF:Fits n E)(hA:Acyc E)(hn:∀z∈need,1<=z/\z<=1000)(m1:1<=m)(m8:m<=8)(hl:need.length=n)(n64:n<=64)(picks:List Int):RunOk n E need m (ZdV n m E need picks):=
 Zsx (Zlq hF hn m1 m8 hl n64 _) hF hA hn m1 m8 hl
end
def SizeOk(n:Int):Prop:=n=1\/n=2\/n=4\/n=8\/n=16\/n=32\/n=64
instance (n:Int):Decidable (SizeOk n):=by unfold SizeOk;infer_instance
theorem SizeOk.of_pow{k:Nat}(h:k<7):SizeOk ((2^k:Nat):Int):=by
 obtain rfl|rfl|rfl|rfl|rfl|rfl|rfl:k=0\/k=1\/k=2\/k=3\/k=4\/k=5\/k=6:=by omega
 all_goals (unfold SizeOk;decide)
theorem SizeOk.pow{n:Int}(h:SizeOk n):∃k:Nat,k<7/\n=((2^k:Nat):Int):=by
 rcases h with rfl|rfl|rfl|rfl|rfl|rfl|rfl
 ·exact⟨0,by omega,rfl⟩
 ·exact⟨1,by omega,rfl⟩
 ·exact⟨2,by omega,rfl⟩
 ·exact⟨3,by omega,rfl⟩
 ·exact⟨4,by omega,rfl⟩
 ·exact⟨5,by omega,rfl⟩
 ·exact⟨6,by omega,rfl⟩
theorem SizeOk.bounds{n:Int}(h:SizeOk n):1<=n/\n<=64:=by unfold SizeOk at h;omega
def ChkQ(n T B:Int):Prop:=SizeOk n/\0<=T/\T<=1099511627775/\T - 1<=B/\B<=T+n
instance (n T B:Int):Decidable (ChkQ n T B):=by unfold ChkQ;infer_instance
def Zh0(n T B:Int):Int:=if ChkQ n T B then 0 else 120
def Zi9(t:Tkr):Prop:=t.top< -1\/1099511627775<t.top\/t.bot< -1\/1099511627775<t.bot
def Zbp(t:Tkr):Prop:=t.end_≠0\/t.at_<0\/(if t.steal=true then 3 else 4)<t.at_\/(t.at_≠0/\Zi9 t)
instance (t:Tkr):Decidable (Zi9 t):=by unfold Zi9;infer_instance
instance (t:Tkr):Decidable (Zbp t):=by unfold Zbp;infer_instance
def Zja(R:List Int)(T B:Int)(t:Tkr):Int×Int×Int×Tkr:=
 if¬ChkQ R.length T B then(120,0,0,Zaq false)
 else if Zbp t then(122,0,0,Zaq false)
 else if¬ChkQ R.length (Zav R T B t).1 (Zav R T B t).2.1 then(120,0,0,Zaq false)
 else(0,Zav R T B t)
def ZgN(one b:Bool)(t:Tkr):Prop:=b=true/\(one=true\/t.end_≠0)
instance (one b:Bool) (t:Tkr):Decidable (ZgN one b t):=by unfold ZgN;infer_instance
def goD(R:List Int)(one:Bool):Nat->Bool->Int->Int->Tkr->Int×Int×Int×Tkr
  |0,_,T,B,t=>(0,T,B,t)
  | f + 1, b, T, B, t => if ¬ ChkQ R.length T B then (120, 0, 0, Zaq false) else
    if ZgN one b t then(0,T,B,t)else if Zbp t then(122,0,0,Zaq false)else
    goD R one f true (Zav R T B t).1 (Zav R T B t).2.1 (Zav R T B t).2.2
def muT(t:Tkr):Nat:=if t.end_≠0 then 0 else(5 - t.at_).toNat+1
def Enough(one b:Bool)(t:Tkr)(f:Nat):Prop:=1<=f/\((one=true/\(b=false->2<=f))\/(one=false/\muT t+1<=f))
theorem ZrM{R:List Int}{T B:Int}{t:Tkr}(h:¬Zbp t):muT (Zav R T B t).2.2+1<=muT t:=by
 obtain⟨st,a,top,bot,gt,en⟩:=t;unfold Zbp at h;simp only[not_or]at h;obtain⟨h1,h2,h3,h4⟩:=h;have he:en=0:=Zn h1;subst he;have hm:muT ⟨st,a,top,bot,gt,0⟩=(5 - a).toNat+1:=rfl;rw[hm];unfold Zav;cases st
 ·simp only [Bool.false_eq_true,if_false] at h3 ⊢
  unfold Zay;simp only;by_cases a0:a=0
  ·rw[Zc a0];show(5 - 1:Int).toNat+1+1<=_;omega
  rw[Zb a0];by_cases a1:a=1
  ·rw [Zc a1]
   split
   ·show 0+1<=_;omega
   ·split
    ·show(5 - 2:Int).toNat+1+1<=_;omega
    ·show(5 - 3:Int).toNat+1+1<=_;omega
  rw[Zb a1];by_cases a2:a=2
  ·rw [Zc a2]
   split
   ·show(5 - 4:Int).toNat+1+1<=_;omega
   ·show(5 - 3:Int).toNat+1+1<=_;omega
  rw[Zb a2];by_cases a3:a=3
  ·rw[Zc a3];show 0+1<=_;omega
  ·rw[Zb a3];show 0+1<=_;omega
 ·simp only [if_true] at h3 ⊢
  unfold ZaS;simp only;by_cases a0:a=0
  ·rw[Zc a0];show(5 - 1:Int).toNat+1+1<=_;omega
  rw[Zb a0];by_cases a1:a=1
  ·rw [Zc a1]
   split
   ·show 0+1<=_;omega
   ·show(5 - 2:Int).toNat+1+1<=_;omega
  rw[Zb a1];by_cases a2:a=2
  ·rw[Zc a2];show(5 - 3:Int).toNat+1+1<=_;omega
  rw[Zb a2];split
  ·show 0+1<=_;omega
  ·show 0+1<=_;omega
theorem Enough.next{R:List Int}{T B:Int}{one b:Bool}{t:Tkr}{f:Nat}(h:Enough one b t (f+1))(h1:¬ZgN one b t)(h2:¬Zbp t):Enough one true (Zav R T B t).2.2 f:=by
 obtain⟨h3,h4⟩:=h;rcases h4 with⟨rfl,h5⟩|⟨rfl,h5⟩
 ·have hb: b = false:=by
   cases b
   ·rfl
   ·exact absurd ⟨rfl,.inl rfl⟩ h1
  have:=h5 hb;exact⟨by omega,.inl ⟨rfl,fun q=>by cases q⟩⟩
 ·have:=ZrM (R:=R) (T:=T) (B:=B) h2
  exact⟨by omega,.inr ⟨rfl,by omega⟩⟩
theorem ZrN(R:List Int)(T B:Int)(t:Tkr):goD R true 2 false T B t=Zja R T B t:=by
 unfold goD Zja;by_cases h1:ChkQ R.length T B
 ·have e1:¬ ¬ ChkQ R.length T B:=fun q => q h1
  have e0:¬ZgN true false t:=fun q=>by cases q.1
  rw[Zb e1,Zb e0,Zb e1];by_cases h2:Zbp t
  ·rw[Zc h2,Zc h2]
  ·rw [Zb h2,Zb h2]
   unfold goD;by_cases h3:ChkQ R.length (Zav R T B t).1 (Zav R T B t).2.1
   ·have e3:¬ ¬ ChkQ R.length (Zav R T B t).1 (Zav R T B t).2.1:=fun q => q h3
    have e4:ZgN true true (Zav R T B t).2.2:=⟨rfl,.inl rfl⟩;rw[Zb e3,Zb e3,Zc e4]
   ·rw[Zc h3,Zc h3]
 ·rw[Zc h1,Zc h1]
def Zcr(n T B:Int):Int:=if¬ChkQ n T B then 120 else if B<T\/B=T+n then 121 else 0
end Go.Proofs.YtfahabphncmbfaaGreatDoor
