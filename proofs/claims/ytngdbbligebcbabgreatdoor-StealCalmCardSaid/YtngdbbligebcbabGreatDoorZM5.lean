import Derived.Test.YtngdbbligebcbabGreatDoorZM4
set_option linter.unusedSimpArgs false
set_option linter.unusedVariables false
namespace Go.Proofs.YtngdbbligebcbabGreatDoor
def pushG(g:Gng)(i:Nat)(x:Int):Gng:=
 {g with R:=updG g.R i ((g.R i).set ((g.B i).toNat%(g.R i).length) x),B:=updG g.B i (g.B i+1)}
def pushesG(g:Gng)(i:Nat):List Nat->Gng
 | []=>g
 |x::r=>pushesG (pushG g i (x:Int)) i r
def succU(n:Nat)(E:List (Int×Int))(x:Int):List Nat:=(List.range n).filter fun(y:Nat)=>decide ((x,(y:Int))∈E)
theorem mem_succU{n:Nat}{E:List (Int×Int)}{x:Int}{y:Nat}:y∈succU n E x↔y<n/\(x,(y:Int))∈E:=by
 unfold succU;rw[List.mem_filter,List.mem_range,decide_eq_true_iff]
def mineG(n:Nat)(E:List (Int×Int))(O L:List Int)(D:List Nat)(k:Nat):List Nat:=
 if O.getD k 0≠ -1/\leftC L (O.getD k 0)=1 then(succU n E (O.getD k 0)).filter fun y=>decide (y∈readyU n E (onT O L) (leftT O L)/\y∉D)else []
def tickK(n:Nat)(E:List (Int×Int))(L:List Int)(g:Gng):Nat->Gng×List Nat
 |0=>({g with O:=onT g.O L},[])
 |k+1=>(pushesG (tickK n E L g k).1 k (mineG n E g.O L (tickK n E L g k).2 k),(tickK n E L g k).2++mineG n E g.O L (tickK n E L g k).2 k)
def tickG(n m:Nat)(E:List (Int×Int))(L:List Int)(g:Gng):Gng:=(tickK n E L g m).1
theorem sumN_le_one{f:Nat->Nat}{m j:Nat}(hj:j<m):f j<=sumN f m:=by
  induction m with
  |zero=>omega
  | succ m ih =>
    show f j<=sumN f m+f m
    by_cases h:j=m
    · subst h;omega
    · have:=ih (by omega);omega
structure TkInv(n m:Nat)(E:List (Int×Int))(O L:List Int)(g0 g:Gng)(D:List Nat):Prop where
 same:g.T=g0.T/\g.tk=g0.tk/\g.fr=g0.fr/\g.O=onT O L
 rl: ∀j,j<m->(g.R j).length=64
 lo: ∀j,j<m->g.T j<=g.B j
 once: ∀x:Int,sumN (fun j=>(itemsD (g.R j) (g.T j) (g.B j)).count x) m=if(0<=x/\x<n)/\ReadyC E (onT O L) (leftT O L) x.toNat/\(OverC E L x\/x.toNat∈D)then 1 else 0
 few:sumN (fun j=>(g.B j).toNat) m<=sumN (fun x=>if OverC E L (x:Int)\/(OverC E (leftT O L) (x:Int)/\x∈D)then 1 else 0) n
section
variable {n m: Nat} {E: List (Int × Int)} {L: List Int} {g: Gng} {c: Nat} {picks: List Int}
theorem ready_tick(h:CrewOk n E g.O L)(hF:Fits n E){x:Nat}(hx:x<n):ReadyC E g.O L x↔ReadyC E (onT g.O L) (leftT g.O L) x/\OverC E L (x:Int):=by
 have hl:=leftT_at (O:=g.O) (L:=L) (x:=x) (by rw[h.ln];exact hx)
 constructor
 ·rintro ⟨a,b,d⟩
  rw[if_neg b]at hl;exact⟨⟨by omega,fun q=>b ((mem_onT (by omega)).mp q).1,d.mono hF fun m hm=>leftT_le (by rw[h.ln];exact hm)⟩,d⟩
 ·rintro ⟨⟨a,b,_⟩,d⟩
  have hnO:(x:Int)∉g.O:=fun q=>by
   rw[if_pos q]at hl;have:=mt (mem_onT (O:=g.O) (L:=L) (x:=(x:Int)) (by omega)).mpr b
   by_cases h1:leftC L (x:Int)=1
   ·omega
   ·exact this ⟨q,h1⟩
  rw[if_neg hnO]at hl;exact⟨by omega,hnO,d⟩
theorem TkInv.start(h:GOk n m E L g)(hF:Fits n E)(h0: ∀c,c<m->(g.tk c).at_=0):TkInv n m E g.O L g {g with O:=onT g.O L} []:=by
 have hat: ∀j,j<m->(owG g j).at_=0:=fun j hj=>by
  unfold owG
  split
  ·exact h0 j hj
  ·rfl
 have hv: ∀j,j<m->virG g j=g.B j:=fun j hj=>if_pos (hat j hj)
 refine⟨⟨rfl,rfl,rfl,rfl⟩,h.rl,fun j hj=> ?_,fun x=> ?_,?_⟩
 ·have:=(h.dq j hj).lo
  show g.T j<=g.B j
  rw[<-hv j hj];exact this
 ·have h1:=h.once x
  have h2:sumN (fun j=>lftG g j x) m=sumN (fun j=>(itemsD (g.R j) (g.T j) (g.B j)).count x) m:=sumN_congr fun j hj=>by
   unfold lftG lftD handD virD;rw[if_neg (by rw[hat j hj];decide),if_pos (hat j hj),List.count_nil,Nat.zero_add]
  rw[h2]at h1;show sumN (fun j=>(itemsD (g.R j) (g.T j) (g.B j)).count x) m=_
  rw[h1]
  by_cases hx:0<=x/\x<n
  ·have hr:=ready_tick h.crew hF (x:=x.toNat) (by omega)
   rw[show((x.toNat:Nat):Int)=x by omega]at hr
   by_cases hq:ReadyC E g.O L x.toNat
   ·rw[if_pos ⟨hx,hq⟩,if_pos ⟨hx,(hr.mp hq).1,.inl (hr.mp hq).2⟩]
   ·rw [if_neg (fun q => hq q.2),if_neg]
    rintro⟨_,q1,q2|q2⟩
    ·exact hq (hr.mpr ⟨q1,q2⟩)
    ·simp at q2
  ·rw[if_neg (fun q=>hx q.1),if_neg (fun q=>hx q.1)]
 ·refine Nat.le_trans (Nat.le_of_eq ?_) (Nat.le_trans h.few (sumN_le fun x hx => ?_))
  ·exact sumN_congr fun j hj=>by rw[hv j hj]
  ·by_cases hq: OverC E L (x: Int)
   ·rw[if_pos hq,if_pos (.inl hq)];exact Nat.le_refl _
   ·rw[if_neg hq];exact Nat.zero_le _
theorem TkInv.room{O:List Int}{g0:Gng}{D:List Nat}(h:TkInv n m E O L g0 g D)(n64:n<=64){y:Nat}(hy:y<n)(hno: ¬OverC E L (y:Int))(hD:y∉D){i:Nat}(hi:i<m):(g.B i).toNat<64:=by
 have h1:=sumN_le_one (f:=fun j=>(g.B j).toNat) hi
 have h2:=h.few;have h3:sumN (fun x=>if OverC E L (x:Int)\/(OverC E (leftT O L) (x:Int)/\x∈D)then 1 else 0) n+1<=sumN (fun _=>1) n:=by
  have h4:=sumN_upd (f:=fun x=>if OverC E L (x:Int)\/(OverC E (leftT O L) (x:Int)/\x∈D)then 1 else 0) (f':=fun x=>if x=y then 1 else if OverC E L (x:Int)\/(OverC E (leftT O L) (x:Int)/\x∈D)then 1 else 0) hy fun k _ hk=>if_neg hk
  have h5:(if OverC E L (y:Int)\/(OverC E (leftT O L) (y:Int)/\y∈D)then 1 else 0)=0:=if_neg fun q=>q.elim hno fun q=>hD q.2
  simp only[h5,if_true]at h4;have h6:sumN (fun x=>if x=y then 1 else if OverC E L (x:Int)\/(OverC E (leftT O L) (x:Int)/\x∈D)then 1 else 0) n<=sumN (fun _=>1) n:=sumN_le fun k _=>by
   split
   ·omega
   ·split<;>omega
  omega
 rw[sumN_const]at h3;omega
theorem TkInv.push{O:List Int}{g0:Gng}{D:List Nat}(h:TkInv n m E O L g0 g D)(hT: ∀j,j<m->0<=g.T j)(n64:n<=64){y:Nat}(hy:y<n)(hr:ReadyC E (onT O L) (leftT O L) y)(hno: ¬OverC E L (y:Int))(hD:y∉D){i:Nat}(hi:i<m):
  TkInv n m E O L g0 (pushG g i (y:Int)) (D++ [y]):=by
 have hroom:=h.room n64 hy hno hD hi;have hTi:=hT i hi;have hlo:=h.lo i hi;have hlen:=h.rl i hi;have hit:=itemsD_push (R:=g.R i) (T:=g.T i) (B:=g.B i) (v:=(y:Int)) hTi hlo (by rw[hlen];omega)
 refine⟨h.same,fun j hj=> ?_,fun j hj=> ?_,fun x=> ?_,?_⟩
 ·show (updG g.R i _ j).length = 64
  by_cases hji:j=i
  ·rw[hji,updG_at,List.length_set];exact hlen
  ·rw[updG_ne _ _ hji];exact h.rl j hj
 ·show g.T j <= updG g.B i (g.B i + 1) j
  by_cases hji:j=i
  ·rw[hji,updG_at];omega
  ·rw[updG_ne _ _ hji];exact h.lo j hj
 ·have h1:=sumN_upd (f:=fun j => (itemsD (g.R j) (g.T j) (g.B j)).count x) (f':=fun j => (itemsD (updG g.R i ((g.R i).set ((g.B i).toNat % (g.R i).length) (y: Int)) j) (g.T j) (updG g.B i (g.B i + 1) j)).count x) hi fun k _ hk => by
   rw[updG_ne _ _ hk,updG_ne _ _ hk]
  simp only[updG_at]at h1;rw[hit,count_one]at h1;show sumN (fun j=>(itemsD (updG g.R i ((g.R i).set ((g.B i).toNat%(g.R i).length) (y:Int)) j) (g.T j) (updG g.B i (g.B i+1) j)).count x) m=_
  have h2:=h.once x
  by_cases hyx:(y:Int)=x
  ·subst hyx
   rw[if_pos rfl]at h1;rw[if_neg (fun q=>q.2.2.elim hno fun q2=>hD (by rw[Int.toNat_natCast]at q2;exact q2))]at h2
   rw[if_pos ⟨⟨by omega,by omega⟩,by rw[Int.toNat_natCast];exact hr,.inr (by rw[Int.toNat_natCast];simp)⟩]
   omega
  ·rw [if_neg hyx] at h1
   have h3:sumN (fun j=>(itemsD (updG g.R i ((g.R i).set ((g.B i).toNat%(g.R i).length) (y:Int)) j) (g.T j) (updG g.B i (g.B i+1) j)).count x) m=sumN (fun j=>(itemsD (g.R j) (g.T j) (g.B j)).count x) m:=by omega
   rw[h3,h2]
   by_cases hx:0<=x/\x<n
   ·have hm: x.toNat ∈ D ++ [y] ↔ x.toNat ∈ D:=by
     rw[List.mem_append,List.mem_singleton];exact⟨fun q=>q.elim id fun q=>by omega,.inl⟩
    simp only[hm]
   ·rw[if_neg (fun q=>hx q.1),if_neg (fun q=>hx q.1)]
 ·have h1:=sumN_upd (f:=fun j => (g.B j).toNat) (f':=fun j => (updG g.B i (g.B i + 1) j).toNat) hi fun k _ hk => by rw [updG_ne _ _ hk]
  simp only[updG_at]at h1;show sumN (fun j=>(updG g.B i (g.B i+1) j).toNat) m<=_
  have h2:=sumN_upd (f:=fun x=>if OverC E L (x:Int)\/(OverC E (leftT O L) (x:Int)/\x∈D)then 1 else 0) (f':=fun x=>if OverC E L (x:Int)\/(OverC E (leftT O L) (x:Int)/\x∈D++ [y])then 1 else 0) hy fun k _ hk=>by
   have hm:k∈D++ [y]↔k∈D:=by
    rw[List.mem_append,List.mem_singleton];exact⟨fun q=>q.elim id fun q=>absurd q hk,.inl⟩
   simp only[hm]
  have h5:(if OverC E L (y:Int)\/(OverC E (leftT O L) (y:Int)/\y∈D)then 1 else 0)=0:=if_neg fun q=>q.elim hno fun q=>hD q.2
  have h6:(if OverC E L (y:Int)\/(OverC E (leftT O L) (y:Int)/\y∈D++ [y])then 1 else 0)=1:=if_pos (.inr ⟨hr.2.2,by simp⟩)
  simp only[h5,h6]at h2;have h7:=h.few;have h8:(g.B i+1).toNat=(g.B i).toNat+1:=by omega
  omega
theorem TkInv.pushes{O:List Int}{g0:Gng}{i:Nat}(hi:i<m)(n64:n<=64): ∀{l D:List Nat} {g:Gng},TkInv n m E O L g0 g D->(∀j,j<m->0<=g0.T j)->l.Nodup->
    (∀y∈l,y<n/\ReadyC E (onT O L) (leftT O L) y/\ ¬OverC E L (y:Int)/\y∉D)->TkInv n m E O L g0 (pushesG g i l) (D++l)
  | [],D,g,h,_,_,_=>by rw[List.append_nil];exact h
  | y :: r, D, g, h, hT, hnd, hl => by
    obtain⟨a,b,d,e⟩:=hl y List.mem_cons_self;have h1:=h.push (fun j hj=>by rw[h.same.1];exact hT j hj) n64 a b d e hi
    have h2:=TkInv.pushes hi n64 h1 hT (List.nodup_cons.mp hnd).2 fun z hz=>by
      obtain⟨q1,q2,q3,q4⟩:=hl z (List.mem_cons_of_mem _ hz);refine⟨q1,q2,q3,fun q=> ?_⟩
      rw[List.mem_append,List.mem_singleton]at q;rcases q with q|rfl
      · exact q4 q
      · exact(List.nodup_cons.mp hnd).1 hz
    rw[List.append_assoc]at h2;exact h2
theorem mem_mine{O:List Int}{D:List Nat}{k y:Nat}:y∈mineG n E O L D k↔(O.getD k 0≠ -1/\leftC L (O.getD k 0)=1)/\(y<n/\(O.getD k 0,(y:Int))∈E)/\ReadyC E (onT O L) (leftT O L) y/\y∉D:=by
 unfold mineG
 by_cases h:O.getD k 0≠ -1/\leftC L (O.getD k 0)=1
 ·rw [if_pos h,List.mem_filter,mem_succU,decide_eq_true_iff,mem_readyU]
  exact⟨fun⟨a,b,d⟩=>⟨h,a,b.2,d⟩,fun⟨_,a,b,d⟩=>⟨a,⟨a.1,b⟩,d⟩⟩
 ·rw [if_neg h]
  exact⟨fun q=>absurd q (by simp),fun q=>absurd q.1 h⟩
theorem tick_upto(h:GOk n m E L g)(hF:Fits n E)(h0: ∀c,c<m->(g.tk c).at_=0): ∀k,k<=m->TkInv n m E g.O L g (tickK n E L g k).1 (tickK n E L g k).2
  |0,_=>TkInv.start h hF h0
  | k + 1, hk => by
    have ih:=tick_upto h hF h0 k (by omega)
    refine TkInv.pushes (i:=k) (by omega) h.n64 ih (fun j hj=>(h.dq j hj).top) ?_ fun y hy=> ?_
    · unfold mineG
      split
      · exact(List.nodup_range.filter _).filter _
      · exact List.nodup_nil
    · obtain⟨a,b,d,e⟩:=mem_mine.mp hy;exact⟨b.1,d,fun q=>q _ b.2 rfl (by rw[a.2];decide),e⟩
theorem tickK_sub(k:Nat): ∀j,k<=j-> ∀y∈(tickK n E L g k).2,y∈(tickK n E L g j).2
  | 0, h, y, hy => by
    obtain rfl:k=0:=by omega
    exact hy
  | j + 1, h, y, hy => by
    by_cases e:k=j+1
    · subst e;exact hy
    · exact List.mem_append_left _ (tickK_sub k j (by omega) y hy)
theorem GOk.tick(h:GOk n m E L g)(hF:Fits n E)(h0: ∀c,c<m->(g.tk c).at_=0):GOk n m E (leftT g.O L) (tickG n m E L g)/\(∀c,c<m->((tickG n m E L g).tk c).at_=0):=by
 have I:=tick_upto h hF h0 m (Nat.le_refl _);obtain⟨⟨eT,etk,efr,eO⟩,rl,lo,once,few⟩:=I;have eT':(tickG n m E L g).T=g.T:=eT;have etk':(tickG n m E L g).tk=g.tk:=etk;have efr':(tickG n m E L g).fr=g.fr:=efr;have eO':(tickG n m E L g).O=onT g.O L:=eO;have how: ∀j,owG (tickG n m E L g) j=owG g j:=fun j=>by unfold owG;rw[etk',efr']
 have hat: ∀j,j<m->(owG g j).at_=0:=fun j hj=>by
  unfold owG
  split
  ·exact h0 j hj
  ·rfl
 have hv: ∀j,j<m->virG (tickG n m E L g) j=(tickG n m E L g).B j:=fun j hj=>by unfold virG;rw[how];exact if_pos (hat j hj)
 have hall: ∀x:Nat,x<n->ReadyC E (onT g.O L) (leftT g.O L) x->OverC E L (x:Int)\/x∈(tickK n E L g m).2:=fun x hx hr=>by
  by_cases hov:OverC E L (x:Int)
  ·exact .inl hov
  ·right
   obtain⟨e,he,e2,hp⟩: ∃e∈E,e.2=(x:Int)/\0<leftC L e.1:=by
    apply Classical.byContradiction
    intro q;exact hov fun e he e2 hp=>q ⟨e,he,e2,hp⟩
   obtain⟨p1,p2,_,_⟩:=hF e he;obtain⟨p,hpn⟩: ∃p:Nat,e.1=p:=⟨e.1.toNat,by omega⟩
   have hl:=leftT_at (O:=g.O) (L:=L) (x:=p) (by rw[h.crew.ln];omega)
   have hz:=hr.2.2 e he e2;rw[hpn]at hz hp;have hpO:(p:Int)∈g.O:=Classical.byContradiction fun q=>by
    rw[if_neg q]at hl;omega
   rw[if_pos hpO]at hl;obtain⟨k,hk,hek⟩:=List.getElem_of_mem hpO;have hkm:k<m:=by rw[<-h.ol];exact hk
   have hgk:g.O.getD k 0=(p:Int):=by rw[List.getD_eq_getElem?_getD,List.getElem?_eq_getElem hk];exact hek
   by_cases hD:x∈(tickK n E L g k).2
   ·exact tickK_sub k m (by omega) x hD
   ·refine tickK_sub (k + 1) m (by omega) x (List.mem_append_right _ (mem_mine.mpr ⟨⟨by rw [hgk]; omega,by rw [hgk]; omega⟩,⟨hx,?_⟩,hr,hD⟩))
    rw[hgk,<-hpn,<-e2];exact he
 have hfew:sumN (fun j=>((tickG n m E L g).B j).toNat) m<=sumN (fun x=>if OverC E (leftT g.O L) (x:Int)then 1 else 0) n:=by
  refine Nat.le_trans few (sumN_le fun x hx=> ?_)
  by_cases hq:OverC E (leftT g.O L) (x:Int)
  ·rw[if_pos hq];split<;>omega
  ·rw [if_neg hq,if_neg]
   ·exact Nat.le_refl _
   ·rintro (q | q)
    ·exact hq (q.mono hF fun m hm=>leftT_le (by rw[h.crew.ln];exact hm))
    ·exact hq q.1
 have h64: ∀j,j<m->(tickG n m E L g).B j<=64:=fun j hj=>by
  have h1:=sumN_le_one (f:=fun j=>((tickG n m E L g).B j).toNat) hj
  have h2:sumN (fun x=>if OverC E (leftT g.O L) (x:Int)then 1 else 0) n<=sumN (fun _=>1) n:=sumN_le fun x _=>by split<;>omega
  rw[sumN_const]at h2;have:=h.n64;omega
 refine⟨⟨h.m1,h.n64,by rw[eO'];exact h.crew.tick hF,by rw[eO',onT_len];exact h.ol,by rw[efr'];exact h.fr,rl,fun j hj=> ?_,fun c hc hf=> ?_,fun c hc hb=> ?_,fun x=> ?_,?_⟩,fun c hc=>by rw[etk'];exact h0 c hc⟩
 ·rw [how,eT']
  have hd:=h.dq j hj;have hv1:virD ((tickG n m E L g).B j) (owG g j)=(tickG n m E L g).B j:=if_pos (hat j hj);have hlo:=lo j hj;rw[eT]at hlo;exact⟨⟨hd.own.1,hd.own.2.1,hd.own.2.2.1,.inl (hat j hj)⟩,hd.top,by rw[hv1];exact hlo,by rw[hv1];exact h64 j hj⟩
 ·rw [efr'] at hf
  obtain⟨t1,t2,t3,t4,tb,t5,t6⟩:=h.th c hc hf;have ha:=h0 c hc;rw[etk'];exact⟨t1,t2,t3,fun q=>absurd q (by omega),tb,fun q=>absurd q (by omega),fun q=>absurd q (by omega)⟩
 ·rw [efr',etk']
  refine h.busy c hc fun q=> ?_
  rw[eO',onT_at (by rw[h.ol];exact hc),q,if_neg (fun r=>r.1 rfl)]at hb
  exact hb rfl
 ·have h1: sumN (fun j => lftG (tickG n m E L g) j x) m = sumN (fun j => (itemsD ((tickG n m E L g).R j) ((tickG n m E L g).T j) ((tickG n m E L g).B j)).count x) m:=sumN_congr fun j hj => by
   unfold lftG lftD handD virD;rw[how,if_neg (by rw[hat j hj];decide),if_pos (hat j hj),List.count_nil,Nat.zero_add]
  rw[h1,eO'];refine(once x).trans ?_
  by_cases hx:0<=x/\x<n
  ·by_cases hq: ReadyC E (onT g.O L) (leftT g.O L) x.toNat
   ·have h2:=hall x.toNat (by omega) hq
    rw[show((x.toNat:Nat):Int)=x by omega]at h2
    rw[if_pos ⟨hx,hq,h2⟩,if_pos ⟨hx,hq⟩]
   ·rw[if_neg (fun q=>hq q.2.1),if_neg (fun q=>hq q.2)]
  ·rw[if_neg (fun q=>hx q.1),if_neg (fun q=>hx q.1)]
 ·refine Nat.le_trans (Nat.le_of_eq ?_) hfew
  exact sumN_congr fun j hj=>by rw[hv j hj]
end
def emptyG(m:Nat):Gng:={R:=fun _=>List.replicate 64 0,T:=fun _=>0,B:=fun _=>0,tk:=fun _=>newTk false,fr:=fun _=>0,O:=List.replicate m (-1)}
def dealG(m:Nat)(g:Gng):List Nat->Gng
 | []=>g
 |x::r=>dealG m (pushG g (x%m) (x:Int)) r
def newG(n m:Nat)(E:List (Int×Int))(need:List Int):Gng:=dealG m (emptyG m) (readyU n E (List.replicate m (-1)) need)
structure DealInv(n m:Nat)(g:Gng)(D:List Nat):Prop where
 same:(∀j,g.T j=0)/\(∀j,g.tk j=newTk false)/\(∀j,g.fr j=0)/\g.O=List.replicate m (-1)
 rl: ∀j,j<m->(g.R j).length=64
 lo: ∀j,j<m->0<=g.B j
 once: ∀x:Int,sumN (fun j=>(itemsD (g.R j) 0 (g.B j)).count x) m=if 0<=x/\x.toNat∈D then 1 else 0
 few:sumN (fun j=>(g.B j).toNat) m=D.length
 nod:D.Nodup
 lt: ∀y∈D,y<n
section
variable {n m: Nat} {E: List (Int × Int)} {g: Gng}
theorem sumN_filter(p:Nat->Bool): ∀n:Nat,sumN (fun x=>if p x then 1 else 0) n=((List.range n).filter p).length
  |0=>rfl
  | n + 1 => by
    show sumN (fun x=>if p x then 1 else 0) n+(if p n then 1 else 0)=_
    rw[List.range_succ,List.filter_append,List.length_append,sumN_filter p n];cases h:p n<;>simp[h]
theorem nodup_few{D:List Nat}(h:D.Nodup)(hn: ∀y∈D,y<n):D.length<=n:=length_below n D h hn
theorem DealInv.start(m1:1<=m):DealInv n m (emptyG m) []:=by
 refine⟨⟨fun _=>rfl,fun _=>rfl,fun _=>rfl,rfl⟩,fun _ _=>List.length_replicate,fun _ _=>Int.le_refl _,fun x=> ?_,?_,List.nodup_nil,fun y hy=>absurd hy (by simp)⟩
 ·rw [if_neg (fun q => absurd q.2 (by simp)),<- sumN_zero m]
  refine sumN_congr fun j _=> ?_
  show(itemsD _ 0 0).count x=0
  rw[itemsD_empty (Int.le_refl _)];rfl
 ·show sumN (fun _ => (0: Int).toNat) m = 0
  exact sumN_zero m
theorem DealInv.push{D:List Nat}(h:DealInv n m g D)(m1:1<=m)(n64:n<=64){y:Nat}(hy:y<n)(hD:y∉D){i:Nat}(hi:i<m):(g.B i).toNat<64/\DealInv n m (pushG g i (y:Int)) (D++ [y]):=by
 have hnod:(D++ [y]).Nodup:=List.nodup_append.mpr ⟨h.nod,List.nodup_cons.mpr ⟨by simp,List.nodup_nil⟩,fun a ha b hb=>by
  rw[List.mem_singleton]at hb;rintro rfl;exact hD (hb▸ha)⟩
 have hlt: ∀z∈D++ [y],z<n:=fun z hz=>by
  rw[List.mem_append,List.mem_singleton]at hz;rcases hz with hz|rfl
  ·exact h.lt z hz
  ·exact hy
 have hln:=nodup_few hnod hlt;rw[List.length_append]at hln;have h1:=sumN_le_one (f:=fun j=>(g.B j).toNat) hi
 have h2:=h.few;have hroom:(g.B i).toNat<64:=by
  have: [y].length=1:=rfl;omega
 have hlo:=h.lo i hi;have hlen:=h.rl i hi;have hit:=itemsD_push (R:=g.R i) (T:=0) (B:=g.B i) (v:=(y:Int)) (Int.le_refl _) hlo (by rw[hlen];omega)
 refine⟨hroom,h.same,fun j hj=> ?_,fun j hj=> ?_,fun x=> ?_,?_,hnod,hlt⟩
 ·show (updG g.R i _ j).length = 64
  by_cases hji:j=i
  ·rw[hji,updG_at,List.length_set];exact hlen
  ·rw[updG_ne _ _ hji];exact h.rl j hj
 ·show 0 <= updG g.B i (g.B i + 1) j
  by_cases hji:j=i
  ·rw[hji,updG_at];omega
  ·rw[updG_ne _ _ hji];exact h.lo j hj
 ·have h3:=sumN_upd (f:=fun j => (itemsD (g.R j) 0 (g.B j)).count x) (f':=fun j => (itemsD (updG g.R i ((g.R i).set ((g.B i).toNat % (g.R i).length) (y: Int)) j) 0 (updG g.B i (g.B i + 1) j)).count x) hi fun k _ hk => by
   rw[updG_ne _ _ hk,updG_ne _ _ hk]
  simp only[updG_at]at h3;rw[hit,count_one]at h3;show sumN (fun j=>(itemsD (updG g.R i ((g.R i).set ((g.B i).toNat%(g.R i).length) (y:Int)) j) 0 (updG g.B i (g.B i+1) j)).count x) m=_
  have h4:=h.once x
  by_cases hyx:(y:Int)=x
  ·subst hyx
   rw[if_pos rfl]at h3;rw[if_neg (fun q=>hD (by have:=q.2;rw[Int.toNat_natCast]at this;exact this))]at h4
   rw[if_pos ⟨by omega,by rw[Int.toNat_natCast];simp⟩]
   omega
  ·rw [if_neg hyx] at h3
   have h5:sumN (fun j=>(itemsD (updG g.R i ((g.R i).set ((g.B i).toNat%(g.R i).length) (y:Int)) j) 0 (updG g.B i (g.B i+1) j)).count x) m=sumN (fun j=>(itemsD (g.R j) 0 (g.B j)).count x) m:=by omega
   rw[h5,h4]
   by_cases hx:0<=x
   ·have hm: x.toNat ∈ D ++ [y] ↔ x.toNat ∈ D:=by
     rw[List.mem_append,List.mem_singleton];exact⟨fun q=>q.elim id fun q=>by omega,.inl⟩
    simp only[hm]
   ·rw[if_neg (fun q=>hx q.1),if_neg (fun q=>hx q.1)]
 ·have h3:=sumN_upd (f:=fun j => (g.B j).toNat) (f':=fun j => (updG g.B i (g.B i + 1) j).toNat) hi fun k _ hk => by rw [updG_ne _ _ hk]
  simp only[updG_at]at h3;show sumN (fun j=>(updG g.B i (g.B i+1) j).toNat) m=_
  rw[List.length_append];show _=D.length+1
  have h8:(g.B i+1).toNat=(g.B i).toNat+1:=by omega
  omega
theorem DealInv.deal(m1:1<=m)(n64:n<=64): ∀{l D:List Nat} {g:Gng},DealInv n m g D->l.Nodup->(∀y∈l,y<n/\y∉D)->DealInv n m (dealG m g l) (D++l)
  | [],D,g,h,_,_=>by rw[List.append_nil];exact h
  | y :: r, D, g, h, hnd, hl => by
    obtain⟨a,b⟩:=hl y List.mem_cons_self;have h1:=(h.push m1 n64 a b (i:=y%m) (Nat.mod_lt _ (by omega))).2
    have h2:=DealInv.deal m1 n64 h1 (List.nodup_cons.mp hnd).2 fun z hz=>by
      obtain⟨q1,q2⟩:=hl z (List.mem_cons_of_mem _ hz);refine⟨q1,fun q=> ?_⟩
      rw[List.mem_append,List.mem_singleton]at q;rcases q with q|rfl
      · exact q2 q
      · exact(List.nodup_cons.mp hnd).1 hz
    rw[List.append_assoc]at h2;exact h2
theorem GOk.new{need:List Int}(hn: ∀z∈need,1<=z/\z<=1000)(m1:1<=m)(m8:m<=8)(hl:need.length=n)(n64:n<=64):
  GOk n m E need (newG n m E need)/\(∀c,c<m->((newG n m E need).tk c).at_=0):=by
 have I:DealInv n m (newG n m E need) ([]++readyU n E (List.replicate m (-1)) need):=DealInv.deal m1 n64 (DealInv.start m1) (List.nodup_range.filter _) fun y hy=>⟨(mem_readyU.mp hy).1,by simp⟩
 rw[List.nil_append]at I;obtain⟨⟨eT,etk,efr,eO⟩,rl,lo,once,few,_,_⟩:=I;obtain⟨g,hg⟩: ∃g,g=newG n m E need:=⟨_,rfl⟩;rw[<-hg]at eT etk efr eO rl lo once few⊢;have how: ∀j,owG g j=newTk false:=fun j=>by unfold owG;rw[if_pos (efr j),etk]
 have hv: ∀j,virG g j=g.B j:=fun j=>by unfold virG;rw[how];exact if_pos rfl
 have hfew:sumN (fun j=>(g.B j).toNat) m<=sumN (fun x=>if OverC E need (x:Int)then 1 else 0) n:=by
  rw[few];unfold readyU;rw[<-sumN_filter];refine sumN_le fun x hx=> ?_
  by_cases hr:ReadyC E (List.replicate m (-1)) need x
  ·rw[if_pos (decide_eq_true hr),if_pos hr.2.2];exact Nat.le_refl _
  ·rw[if_neg (by simpa using hr)];exact Nat.zero_le _
 have h64: ∀j,j<m->g.B j<=64:=fun j hj=>by
  have h1:=sumN_le_one (f:=fun j=>(g.B j).toNat) hj
  have h2:sumN (fun x=>if OverC E need (x:Int)then 1 else 0) n<=sumN (fun _=>1) n:=sumN_le fun x _=>by split<;>omega
  rw[sumN_const]at h2;omega
 refine⟨⟨m1,n64,by rw[eO];exact new_ok hn m1 m8 hl,by rw[eO,List.length_replicate],fun c hc=>by rw[efr];omega,rl,fun j hj=> ?_,fun c hc hf=>absurd (efr c) hf,fun c hc hb=>⟨efr c,etk c⟩,fun x=> ?_,?_⟩,fun c hc=>by rw[etk];rfl⟩
 ·rw [how,eT]
  have hv1:virD (g.B j) (newTk false)=g.B j:=if_pos rfl;exact⟨⟨rfl,rfl,⟨by decide,by decide⟩,.inl rfl⟩,Int.le_refl _,by rw[hv1];exact lo j hj,by rw[hv1];exact h64 j hj⟩
 ·have h1: sumN (fun j => lftG g j x) m = sumN (fun j => (itemsD (g.R j) 0 (g.B j)).count x) m:=sumN_congr fun j hj => by
   unfold lftG lftD;rw[how,eT,show handD (newTk false)= []from rfl,show virD (g.B j) (newTk false)=g.B j from if_pos rfl,List.count_nil,Nat.zero_add]
  rw[h1,once x,eO]
  by_cases hx:0<=x/\x<n
  ·by_cases hq: ReadyC E (List.replicate m (-1)) need x.toNat
   ·rw[if_pos ⟨hx.1,mem_readyU.mpr ⟨by omega,hq⟩⟩,if_pos ⟨hx,hq⟩]
   ·rw[if_neg (fun q=>hq (mem_readyU.mp q.2).2),if_neg (fun q=>hq q.2)]
  ·rw[if_neg (fun q=>hx ⟨q.1,by have:=(mem_readyU.mp q.2).1;omega⟩),if_neg (fun q=>hx q.1)]
 ·refine Nat.le_trans (Nat.le_of_eq ?_) hfew
  exact sumN_congr fun j hj=>by rw[hv j]
end
structure FillOk(n:Nat)(E:List (Int×Int))(O R L:List Int):Prop where
 ok:CrewOk n E R L
 len:R.length=O.length
 keep: ∀j,O.getD j 0≠ -1->R.getD j 0=O.getD j 0
 full:readyU n E R L= []\/(-1)∉R
structure SeqOk(n:Nat)(E:List (Int×Int))(need:List Int)(cores:Nat)(Oc F L:Nat->List Int):Prop where
 o0:Oc 0=List.replicate cores (-1)
 l0:L 0=need
 on: ∀k,Oc (k+1)=onT (F k) (L k)
 lf: ∀k,L (k+1)=leftT (F k) (L k)
 fill: ∀k,FillOk n E (Oc k) (F k) (L k)
def rowsF(F:Nat->List Int)(k:Nat):List (List Int):=(List.range k).map F
def lenS(L:Nat->List Int)(need:List Int):Nat:=((List.range (need.sum.toNat+1)).find? fun k=>decide ((L k).sum<=0)).getD 0
theorem rowsF_len(F:Nat->List Int)(k:Nat):(rowsF F k).length=k:=by simp[rowsF]
theorem rowsF_succ(F:Nat->List Int)(k:Nat):rowsF F (k+1)=rowsF F k++ [F k]:=by unfold rowsF;rw[List.range_succ,List.map_append];rfl
theorem rowsF_take(F:Nat->List Int)(k:Nat):(rowsF F (k+1)).take k=rowsF F k:=by
 rw[rowsF_succ,List.take_append_of_le_length (by rw[rowsF_len];omega),List.take_of_length_le (by rw[rowsF_len];omega)]
theorem rowsF_row(F:Nat->List Int)(k:Nat):rowT (rowsF F (k+1)) k=F k:=by
 unfold rowT;rw[rowsF_succ,List.getD_eq_getElem?_getD,List.getElem?_append_right (by rw[rowsF_len];omega),rowsF_len,Nat.sub_self]
 rfl
section
variable {n: Nat} {E: List (Int × Int)}
theorem FillOk.mem{O R L:List Int}(h:FillOk n E O R L){x:Int}(hx:x≠ -1)(hm:x∈O):x∈R:=by
 obtain⟨j,hj,he⟩:=List.getElem_of_mem hm;have h3:O.getD j 0=x:=by rw[List.getD_eq_getElem?_getD,List.getElem?_eq_getElem hj];exact he
 have h4:=h.keep j (by rw[h3];exact hx)
 have h5:j<R.length:=by rw[h.len];exact hj
 rw[List.getD_eq_getElem?_getD,List.getElem?_eq_getElem h5]at h4
 have h6:R[j]=x:=by rw[<-h3];exact h4
 rw[<-h6];exact List.getElem_mem h5
theorem FillOk.someone{O R L:List Int}(h:FillOk n E O R L)(hF:Fits n E)(hA:Acyc E){m:Nat}(hm:m<n)(hl:0<leftC L (m:Int)): ∃x∈R,x≠ -1:=by
 apply Classical.byContradiction
 intro hno;have hall: ∀x∈R,x= -1:=fun x hx=>Classical.byContradiction fun q=>hno ⟨x,hx,q⟩
 have hlo:=h.ok.lo;have hin:(-1:Int)∈R:=by
  have h0:0<R.length:=by omega
  have h1:=List.getElem_mem h0
  rwa [hall _ h1]at h1
 have hr:readyU n E R L= []:=h.full.resolve_right fun q=>q hin
 obtain⟨v,⟨hv,hvl⟩,hva⟩:=source hF hA (fun x=>x<n/\0<leftC L (x:Int)) m ⟨hm,hl⟩
 have:v∈readyU n E R L:=by
  refine mem_readyU.mpr ⟨hv,hvl,fun hx=>by have:=hall _ hx;omega,fun e he e2 hp=> ?_⟩
  obtain⟨h1,h2,_,_⟩:=hF e he;obtain⟨a,ha⟩: ∃a:Nat,e.1=a:=⟨e.1.toNat,by omega⟩
  have h3:ed E a v:=by
   show((a:Int),(v:Int))∈E
   rw[<-ha,<-e2];exact he
  rw[ha]at hp;exact hva a h3 ⟨by omega,hp⟩
 rw[hr]at this;exact absurd this (by simp)
variable {Oc F L: Nat -> List Int}
structure SeqInv(n:Nat)(E:List (Int×Int))(need:List Int)(cores:Nat)(Oc F L:Nat->List Int)(k:Nat):Prop where
 ok:CrewOk n E (Oc k) (L k)
 len:(Oc k).length=cores
 left: ∀x:Nat,x<n->leftC (L k) (x:Int)=needT need (x:Int) - ranT (rowsF F k) (x:Int) k
 last: ∀c,c<cores-> ∀y,(Oc k).getD c 0=y->y≠ -1->0<k/\numT (rowsF F k) (k - 1) c=y
 began: ∀x:Nat,x<n->0<ranT (rowsF F k) (x:Int) k->0<leftC (L k) (x:Int)->(x:Int)∈(Oc k)
 good:Good E need cores (rowsF F k)
 greedy:GreedyT E need (rowsF F k)
theorem SeqInv.start{need:List Int}{cores:Nat}(S:SeqOk n E need cores Oc F L)(hn: ∀z∈need,1<=z/\z<=1000)(h1:1<=cores)(h8:cores<=8)(hl:need.length=n):SeqInv n E need cores Oc F L 0:=by
 refine⟨by rw[S.o0,S.l0];exact new_ok hn h1 h8 hl,by rw[S.o0];simp,fun x hx=> ?_,fun c hc y hy h=> ?_,fun x hx h=> ?_,⟨fun r hr=>by simp[rowsF]at hr,fun i hi=>by simp[rowsF]at hi⟩,fun i hi=>by simp[rowsF]at hi⟩
 ·rw [ranT_zero]
  rw[S.l0];unfold leftC needT;omega
 ·exfalso
  apply h
  rw[<-hy,S.o0];rw[List.getD_eq_getElem?_getD,List.getElem?_replicate,if_pos hc];rfl
 ·rw[ranT_zero]at h;omega
theorem SeqInv.next{need:List Int}{cores k:Nat}(S:SeqOk n E need cores Oc F L)(hF:Fits n E)(hn: ∀z∈need,1<=z/\z<=1000)(hl:need.length=n)(h:SeqInv n E need cores Oc F L k):SeqInv n E need cores Oc F L (k+1):=by
 obtain⟨ok,len,left,last,began,good,greedy⟩:=h;obtain⟨Ok,hO⟩: ∃z,z=(Oc k):=⟨_,rfl⟩;obtain⟨Lk,hL⟩: ∃z,z=(L k):=⟨_,rfl⟩;obtain⟨t,ht⟩: ∃z,z=rowsF F k:=⟨_,rfl⟩;obtain⟨t',ht'⟩: ∃z,z=rowsF F (k+1):=⟨_,rfl⟩;obtain⟨R,hR⟩: ∃z,z=F k:=⟨_,rfl⟩;have hR2:FillOk n E Ok R Lk:=by rw[hR,hL,hO];exact S.fill k
 have hs1:(Oc (k+1))=onT R Lk:=by rw[hR,hL];exact S.on k
 have hs2:(L (k+1))=leftT R Lk:=by rw[hR,hL];exact S.lf k
 have hk:t.length=k:=by rw[ht];exact rowsF_len F k
 have hk':t'.length=k+1:=by rw[ht'];exact rowsF_len F (k+1)
 have htk:t'.take k=t:=by rw[ht',ht];exact rowsF_take F k
 have hrow:rowT t' k=R:=by rw[ht',hR];exact rowsF_row F k
 have hran: ∀(x:Int) (i:Nat),i<=k->ranT t' x i=ranT t x i:=fun x i hi=>by rw[<-htk,ranT_take t' x k i hi]
 have hrows: ∀i,i<k->rowT t' i=rowT t i:=fun i hi=>by rw[<-htk,rowT_take t' k i hi]
 have hnum: ∀i c,i<k->numT t' i c=numT t i c:=fun i c hi=>by unfold numT;rw[hrows i hi]
 rw[<-hO,<-hL]at ok;rw[<-hO]at len last;rw[<-ht]at last began left good greedy;rw[<-hL]at left;simp only[<-hL,<-hO]at began;have okR:CrewOk n E R Lk:=hR2.ok;have hlen:R.length=cores:=by rw[hR2.len];exact len
 have hstep: ∀x:Int,ranT t' x (k+1)=ranT t x k+R.count x:=fun x=>by rw[ranT_step,hrow,hran x k (Nat.le_refl _)]
 have hcount: ∀x:Nat,(R.count (x:Int):Int)=if(x:Int)∈R then 1 else 0:=fun x=>by
  split
  ·next hm =>
   have h1:=okR.once (x:Int) (by omega)
   have h2:=List.count_pos_iff.mpr hm;omega
  ·next hm=>rw[List.count_eq_zero.mpr hm];rfl
 have hover: ∀x:Int,OverC E Lk x->FreeT E need t' x k:=fun x ho e he e2=>by
  obtain⟨h1,h2,_,_⟩:=hF e he;obtain⟨m,hm⟩: ∃m:Nat,e.1=m:=⟨e.1.toNat,by omega⟩
  have h3:=ho e he e2;rw[hm]at h3⊢;rw[left m (by omega)]at h3
  rw[hran _ k (Nat.le_refl _)];omega
 have hfree: ∀x:Int,FreeT E need t' x k->OverC E Lk x:=fun x ho e he e2 hp=>by
  obtain⟨h1,h2,_,_⟩:=hF e he;obtain⟨m,hm⟩: ∃m:Nat,e.1=m:=⟨e.1.toNat,by omega⟩
  have h3:=ho e he e2;rw[hm]at h3 hp;rw[left m (by omega)]at hp
  rw[hran _ k (Nat.le_refl _)]at h3;omega
 have hgood:Good E need cores t':=by
  refine⟨fun r hr=> ?_,fun i hi c hc=> ?_⟩
  ·rw [ht',rowsF_succ,List.mem_append] at hr
   rcases hr with hr|hr
   ·exact good.rows r (by rw[ht];exact hr)
   ·rw [List.mem_singleton] at hr
    rw[hr,<-hR];exact hlen
  ·rcases Nat.lt_or_ge i k with hik | hik
   ·have h1:=good.one i (by omega) c hc
    rw[<-htk,oneV_take k i c hik]at h1;exact h1
   ·obtain rfl: i = k:=by omega
    have hc':c<R.length:=by omega
    obtain⟨x,hx⟩: ∃x,x=numT t' i c:=⟨_,rfl⟩;have hxR:R.getD c (-1)=x:=by rw[hx];unfold numT;rw[hrow]
    unfold oneV;rw[<-hx]
    by_cases h1:x= -1
    ·rw[if_pos h1]
    have hidx:=getD_idx hc' hxR;have hmem:x∈R:=List.mem_of_getElem? hidx
    obtain⟨⟨h2,h3⟩,h4,h5⟩:=(okR.on x hmem).resolve_left h1;obtain⟨m,rfl⟩: ∃m:Nat,x=m:=⟨x.toNat,by omega⟩
    have hpos:=okR.pos h2 h3;have hlf:=left m (by omega)
    have hr:=hran (m:Int) i (Nat.le_refl _);rw[if_neg h1,if_neg (by omega),if_neg,if_neg (by omega),if_neg,if_neg]
    ·rintro ⟨_,h7⟩
     exact h7 (hover _ h5)
    ·rintro ⟨h6,h7⟩
     rw[hr]at h6;have h8:=began m (by omega) h6 (by omega)
     obtain⟨j,hj,he⟩:=List.getElem_of_mem h8;have h9:Ok.getD j 0=(m:Int):=by rw[List.getD_eq_getElem?_getD,List.getElem?_eq_getElem hj];exact he
     have h11:R.getD j 0=(m:Int):=by rw[hR2.keep j (by omega),h9]
     have h12:=idx_once (okR.once (m:Int) h1) hidx (getD_idx (by omega) h11)
     subst h12;obtain⟨h13,h14⟩:=last c (by omega) _ h9 h1
     exact h7 (by rw[hnum _ _ (by omega)];exact h14)
    ·intro h6
     rw[hrow]at h6;obtain⟨j,hj,he⟩:=List.getElem_of_mem h6;rw[List.length_take]at hj;have h7:R[j]? =some (m:Int):=by
      rw[List.getElem?_eq_getElem (by omega)]
      rw[List.getElem_take]at he;exact congrArg some he
     have:=idx_once (okR.once (m:Int) h1) hidx h7;omega
 refine⟨?_,?_,fun x hx=> ?_,fun c hc y hy h1=> ?_,fun x hx h1 h2=> ?_,by rw[<-ht'];exact hgood,?_⟩
 ·rw[hs1,hs2];exact okR.tick hF
 ·rw[hs1,onT_len];exact hlen
 ·rw [hs2,<- ht',leftT_at (by rw [ok.ln]; exact hx),hstep,left x hx]
  have:=hcount x;omega
 ·rw [hs1,onT_at (by omega)] at hy
  split at hy
  ·exact absurd hy.symm h1
  ·refine ⟨by omega,?_⟩
   rw[<-ht',show k+1 - 1=k by omega]
   unfold numT;rw[hrow,getD_any (by omega:c<R.length) (-1) 0]
   exact hy
 ·rw [<- ht',hstep] at h1
  rw[hs2,leftT_at (by rw[ok.ln];exact hx)]at h2
  rw[hs1]
  by_cases hxR:(x:Int)∈R
  ·rw [if_pos hxR] at h2
   exact(mem_onT (by omega)).mpr ⟨hxR,by omega⟩
  ·rw [if_neg hxR] at h2
   rw[List.count_eq_zero.mpr hxR]at h1;have h3:=began x hx (by omega) (by omega)
   exfalso
   exact hxR (hR2.mem (by omega) h3)
 ·rw [<- ht']
  intro i hi hidle x hx h0 hnx hfr;rcases Nat.lt_or_ge i k with hik|hik
  ·refine greedy i (by omega) ?_ x hx ?_ ?_ ?_
   ·rw[<-hrows i hik];exact hidle
   ·rw[<-hran _ i (by omega)];exact h0
   ·rw[<-hrows i hik];exact hnx
   ·intro e he e2
    have:=hfr e he e2;rw[hran _ i (by omega)]at this
    exact this
  ·obtain rfl: i = k:=by omega
   rw[hrow]at hidle hnx;rw[hran _ i (Nat.le_refl _)]at h0;have hr:readyU n E R Lk= []:=by
    rcases hR2.full with h1|h1
    ·exact h1
    ·exact absurd hidle h1
   have hlx:=left x (by omega)
   have hnd:1<=needT need (x:Int):=needT_pos (fun z hz=>(hn z hz).1) (by omega) (by omega)
   have:x∈readyU n E R Lk:=mem_readyU.mpr ⟨by omega,by omega,hnx,hfree _ hfr⟩
   rw[hr]at this;exact absurd this (by simp)
theorem SeqInv.all{need:List Int}{cores:Nat}(S:SeqOk n E need cores Oc F L)(hF:Fits n E)(hn: ∀z∈need,1<=z/\z<=1000)(h1:1<=cores)(h8:cores<=8)(hl:need.length=n): ∀k,SeqInv n E need cores Oc F L k
 |0=>SeqInv.start S hn h1 h8 hl
 |k+1=>(SeqInv.all S hF hn h1 h8 hl k).next S hF hn hl
theorem SeqInv.less{need:List Int}{cores k:Nat}(S:SeqOk n E need cores Oc F L)(hF:Fits n E)(hA:Acyc E)(h:SeqInv n E need cores Oc F L k)(hp:0<(L k).sum):
  (∃x∈F k,x≠ -1)/\(L (k+1)).sum<(L k).sum:=by
 obtain⟨m,hm,hl⟩:=sum_pos_some hp;obtain⟨x,hx,h1⟩:=(S.fill k).someone hF hA (by rw[h.ok.ln]at hm;exact hm) hl
 exact⟨⟨x,hx,h1⟩,by rw[S.lf];exact(S.fill k).ok.less hF hx h1⟩
theorem lenS_spec{need:List Int}{cores:Nat}(S:SeqOk n E need cores Oc F L)(hF:Fits n E)(hA:Acyc E)(hn: ∀z∈need,1<=z/\z<=1000)(h1:1<=cores)(h8:cores<=8)(hl:need.length=n):
    (L (lenS L need)).sum<=0/\(∀j,j<lenS L need->0<(L j).sum)/\(lenS L need:Int)<=need.sum:=by
  have inv:=SeqInv.all S hF hn h1 h8 hl;have h0:0<=need.sum:=sum_nonneg' fun z hz=>by have:=hn z hz;omega
  have key: ∀k:Nat,(∀j,j<k->0<(L j).sum)->(L k).sum<=need.sum - k:=by
    intro k
    induction k with
    |zero=>intro _;rw[S.l0];omega
    | succ k ih =>
      intro h;have h2:=ih fun j hj=>h j (by omega)
      have h3:=((inv k).less S hF hA (h k (by omega))).2
      omega
  have hex: ∃k,k<=need.sum.toNat/\(L k).sum<=0:=by
    by_cases h2: ∃k,k<=need.sum.toNat/\(L k).sum<=0
    · exact h2
    · have h3:=key need.sum.toNat fun j hj=>Classical.byContradiction fun q=>h2 ⟨j,by omega,by omega⟩
      exact absurd ⟨need.sum.toNat,Nat.le_refl _,by omega⟩ h2
  obtain⟨k,hk,hs⟩:=hex;obtain⟨j,hj,hs2,hmin⟩:=least_nat (p:=fun k=>(L k).sum<=0) k hs
  have he:lenS L need=j:=by
    unfold lenS;rw[find_least (k:=j) (by simpa using hs2) (by omega) (fun i hi=>by have:=hmin i hi;simpa using this)]
    rfl
  rw[he];exact⟨hs2,fun i hi=>by have:=hmin i hi;omega,by omega⟩
end
def gangS(n m:Nat)(E:List (Int×Int))(need:List Int)(P:Nat->List Int):Nat->Gng×List Int
 |0=>(newG n m E need,need)
 |k+1=>(tickG n m E (gangS n m E need P k).2 (calmG m (gangS n m E need P k).1 (P k)),leftT (calmG m (gangS n m E need P k).1 (P k)).O (gangS n m E need P k).2)
def rowG(n m:Nat)(E:List (Int×Int))(need:List Int)(P:Nat->List Int)(k:Nat):List Int:=(calmG m (gangS n m E need P k).1 (P k)).O
def stepsG(n m:Nat)(E:List (Int×Int))(need picks:List Int):Nat->Nat×(Gng×List Int)
  |0=>(0,(newG n m E need,need))
  | k + 1 =>
    ((stepsG n m E need picks k).1 + lenC m (stepsG n m E need picks k).2.1 (picks.drop (stepsG n m E need picks k).1),
      (tickG n m E (stepsG n m E need picks k).2.2 (calmG m (stepsG n m E need picks k).2.1 (picks.drop (stepsG n m E need picks k).1)),
        leftT (calmG m (stepsG n m E need picks k).2.1 (picks.drop (stepsG n m E need picks k).1)).O (stepsG n m E need picks k).2.2))
def picksG(n m:Nat)(E:List (Int×Int))(need picks:List Int)(k:Nat):List Int:=picks.drop (stepsG n m E need picks k).1
section
variable {n m: Nat} {E: List (Int × Int)} {need: List Int} {P: Nat -> List Int}
theorem stepsG_is(picks:List Int): ∀k,(stepsG n m E need picks k).2=gangS n m E need (picksG n m E need picks) k
  |0=>rfl
  | k + 1 => by
    have ih:=stepsG_is picks k;show(tickG n m E (stepsG n m E need picks k).2.2 (calmG m (stepsG n m E need picks k).2.1 (picksG n m E need picks k)),leftT (calmG m (stepsG n m E need picks k).2.1 (picksG n m E need picks k)).O (stepsG n m E need picks k).2.2)=_
    rw[ih];rfl
theorem stepsG_succ(picks:List Int)(k:Nat):(stepsG n m E need picks (k+1)).1=(stepsG n m E need picks k).1+lenC m (gangS n m E need (picksG n m E need picks) k).1 (picksG n m E need picks k):=by
 rw[<-stepsG_is];rfl
theorem gangS_ok(hF:Fits n E)(hn: ∀z∈need,1<=z/\z<=1000)(m1:1<=m)(m8:m<=8)(hl:need.length=n)(n64:n<=64)(P:Nat->List Int): ∀k,GOk n m E (gangS n m E need P k).2 (gangS n m E need P k).1/\ ∀c,c<m->((gangS n m E need P k).1.tk c).at_=0
  |0=>GOk.new hn m1 m8 hl n64
  | k + 1 => by
    obtain⟨h,h0⟩:=gangS_ok hF hn m1 m8 hl n64 P k;obtain⟨hw,_,_,I⟩:=calm_spec (picks:=P k) h h0;obtain⟨q0,_⟩:=quiet_spec I.ok hw;exact GOk.tick I.ok hF q0
theorem tickG_O{L:List Int}{g:Gng}:(tickG n m E L g).O=onT g.O L:=by
  have: ∀k,(tickK n E L g k).1.O=onT g.O L:=fun k=>by
    induction k with
    |zero=>rfl
    | succ k ih =>
      have hp: ∀(l:List Nat) (q:Gng),(pushesG q k l).O=q.O:=fun l=>by
        induction l with
        |nil=>exact fun _=>rfl
        |cons x r ihl=>exact fun q=>ihl _
      exact(hp _ _).trans ih
  exact this m
theorem newG_O:(newG n m E need).O=List.replicate m (-1):=by
 have: ∀(l:List Nat) (q:Gng),(dealG m q l).O=q.O:=fun l=>by
  induction l with
  |nil=>exact fun _=>rfl
  |cons x r ihl=>exact fun q=>ihl _
 exact this _ _
theorem gang_seq(hF:Fits n E)(hn: ∀z∈need,1<=z/\z<=1000)(m1:1<=m)(m8:m<=8)(hl:need.length=n)(n64:n<=64)(P:Nat->List Int):
  SeqOk n E need m (fun k=>(gangS n m E need P k).1.O) (rowG n m E need P) (fun k=>(gangS n m E need P k).2):=by
 refine⟨newG_O,rfl,fun k=>tickG_O,fun k=>rfl,fun k=> ?_⟩
 obtain⟨h,h0⟩:=gangS_ok hF hn m1 m8 hl n64 P k;obtain⟨hw,_,_,I⟩:=calm_spec (picks:=P k) h h0;obtain⟨q0,q1⟩:=quiet_spec I.ok hw;refine⟨I.ok.crew,?_,fun j hj=> ?_,q1⟩
 ·show (calmG m (gangS n m E need P k).1 (P k)).O.length = (gangS n m E need P k).1.O.length
  rw[h.ol];exact I.ok.ol
 ·by_cases hjm: j < m
  ·exact I.keep j hjm hj
  ·show (calmG m (gangS n m E need P k).1 (P k)).O.getD j 0 = (gangS n m E need P k).1.O.getD j 0
   rw[List.getD_eq_getElem?_getD,List.getD_eq_getElem?_getD,List.getElem?_eq_none (by rw[show(calmG m (gangS n m E need P k).1 (P k)).O.length=m from I.ok.ol];omega),List.getElem?_eq_none (by rw[h.ol];omega)]
def lenG(n m:Nat)(E:List (Int×Int))(need picks:List Int):Nat:=lenS (fun k=>(gangS n m E need (picksG n m E need picks) k).2) need
def traceG(n m:Nat)(E:List (Int×Int))(need picks:List Int):List (List Int):=rowsF (rowG n m E need (picksG n m E need picks)) (lenG n m E need picks)
end
end Go.Proofs.YtngdbbligebcbabGreatDoor
