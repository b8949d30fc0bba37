import Derived.Test.YtfahabphncmbfaaGreatDoorZQ4
set_option linter.all false
namespace Go.Proofs.YtfahabphncmbfaaGreatDoor
open Go.RowKit
open List renaming getElem?_eq_none→Zt,map_append→Yk,map_cons→ZM,map_nil→Yd,mem_append→Z2,mem_cons→ZT,mem_of_mem_take→YY,nodup_append→Y1,nodup_cons→YJ,range→Zo,sum_cons→ZY
structure RowOk(np:Nat)(l:List Int):Prop where
 some_:0<l.length
 parts:∀x∈l,0<=x/\x<np
 rises:∀i x y,l[i]?=some x->l[i+1]?=some y->x<y
section
variable {P: Option Addr}{np pc: Nat}{E: Option Addr}{ne ec: Nat}{F: Option Addr}{nf fc: Nat}{R: Option Addr}{nr rc: Nat}{p q: Int}
theorem Zeg{w:World}{a:Addr}{v:Value}(h:w.cell? a=some v)(x:Near w.heap.size w):x.W.cell? a=some v:=(x.h.cell (World.block_lt_of_cell? _ _ h)).trans h
end
theorem Zbk{α:Type}{l:List α}{j:Nat}{a:α}(h:l[j]?=some a):l.take (j+1)=l.take j++ [a]:=by rw[List.take_add_one,h];rfl
def ed(E:List (Int×Int))(a b:Nat):Prop:=((a:Int),(b:Int))∈E
instance (E:List (Int×Int)) (a b:Nat):Decidable (ed E a b):=by unfold ed;infer_instance
inductive Way (E:List (Int×Int)):Nat->Nat->Prop
 |one {a b:Nat}:ed E a b->Way E a b
 |more {a b c:Nat}:Way E a b->ed E b c->Way E a c
def Acyc(E:List (Int×Int)):Prop:=∀ a,¬Way E a a
def Fits(n:Nat)(E:List (Int×Int)):Prop:=∀ e∈E,0<=e.1/\e.1<n/\0<=e.2/\e.2<n
def Up(E:List (Int×Int)):List Nat->Prop
 | []=>False
 | [_]=>True
 |b::a::r=>ed E a b/\Up E (a::r)
variable {E: List (Int × Int)}
theorem Way.trans{a b c:Nat}(h:Way E a b)(k:Way E b c):Way E a c:=by
 induction k with
 |one e=>exact .more h e
 |more _ e ih=>exact .more ih e
theorem Way.first{a b:Nat}(h:Way E a b):ed E a b\/ ∃c,ed E a c/\Way E c b:=by
  induction h with
  |one e=>exact .inl e
  | more _ e ih =>
    rcases ih with h|⟨c,h1,h2⟩
    · exact .inr ⟨_,h,.one e⟩
    · exact .inr ⟨c,h1,.more h2 e⟩
theorem Way.last{a b:Nat}(h:Way E a b):∃c,ed E c b/\(c=a\/Way E a c):=by
 cases h with
 |one e=>exact⟨a,e,.inl rfl⟩
 |more h e=>exact⟨_,e,.inr h⟩
theorem Way.mono{E':List (Int×Int)}{a b:Nat}(h:Way E a b)(hE:∀a b,ed E a b->ed E' a b):Way E' a b:=by
 induction h with
 |one e=>exact .one (hE _ _ e)
 |more _ e ih=>exact .more ih (hE _ _ e)
theorem Zf4{n a b:Nat}(hF:Fits n E)(h:ed E a b):a<n/\b<n:=by have:=hF _ h;simp at this;omega
theorem Way.lt{n a b:Nat}(hF:Fits n E)(h:Way E a b):a<n/\b<n:=by
 induction h with
 |one e=>exact Zf4 hF e
 |more _ e ih=>exact⟨ih.1,(Zf4 hF e).2⟩
theorem Up.tail{b:Nat}{r:List Nat}(h:Up E (b::r))(hr:r≠ []):Up E r:=by
 cases r with
 |nil=>exact absurd rfl hr
 |cons a r=>exact h.2
theorem Up.way:∀{r:List Nat}{b:Nat},Up E (b::r)->∀a∈r,Way E a b
  | [],_,_,a,ha=>by simp at ha
  | c :: r, b, h, a, ha => by
    rcases ZT.mp ha with rfl|ha
    · exact .one h.1
    · exact .more (Up.way h.2 a ha) h.1
theorem Up.nodup(hA:Acyc E):∀{p:List Nat},Up E p->p.Nodup
  | [],h=>h.elim
  | [b],_=>by simp
  | b :: a :: r, h => by
    rw[YJ];refine⟨fun hm=>hA b (Up.way h b hm),Up.nodup hA h.2⟩
theorem Up.lt{n:Nat}(hF:Fits n E):∀{p:List Nat},Up E p->(∀b,p= [b]->b<n)->∀x∈p,x<n
  | [],h,_,_,_=>h.elim
  | [b], _, h1, x, hx => by
    obtain rfl:x=b:=by simpa using hx
    exact h1 x rfl
  | b :: a :: r, h, _, x, hx => by
    have hab:=Zf4 hF h.1;rcases ZT.mp hx with rfl|hx
    · exact hab.2
    · exact Up.lt hF h.2 (fun c hc=>by injection hc with hc _;omega) x hx
theorem Way.up{a b:Nat}(h:Way E a b):∃r,Up E (b::r)/\r.getLast?=some a:=by
  induction h with
  |one e=>exact⟨[_],⟨e,trivial⟩,rfl⟩
  | more _ e ih =>
    obtain⟨r,hr,hl⟩:=ih;refine⟨_::r,⟨e,hr⟩,?_⟩
    cases r with
    |nil=>simp at hl
    |cons x r=>rw[List.getLast?_cons_cons];exact hl
theorem Zeh(w:Nat->Nat):∀(n:Nat) (l:List Nat),l.Nodup->(∀x∈l,x<n)->(l.map w).sum<=((Zo n).map w).sum
  | 0, l, _, h => by
    cases l with
    |nil=>exact Nat.le_refl _
    |cons x r=>exact absurd (h x (by simp)) (by omega)
  | n + 1, l, hn, h => by
    rw[List.range_succ,Yk,List.sum_append];by_cases hm:n∈l
    · have hp:=List.perm_cons_erase hm;have hs:=(hp.map w).sum_nat;rw[hs];have ih:=Zeh w n (l.erase n) (hn.erase n) (fun x hx=>by
        have h1:=(hn.mem_erase_iff).mp hx;have:=h x h1.2;omega)
      simp only[ZM,ZY,Yd,List.sum_nil];omega
    · have ih:=Zeh w n l hn (fun x hx=>by
        have:=h x hx;have:x≠n:=fun e=>hm (e▸hx);omega)
      simp only[ZM,ZY,Yd,List.sum_nil];omega
theorem Zbe(n:Nat)(l:List Nat)(hn:l.Nodup)(h:∀x∈l,x<n):l.length<=n:=by have h1:=Zeh (fun _=>1) n l hn h;rw[List.map_const',List.map_const',List.sum_replicate_nat,List.sum_replicate_nat,List.length_range]at h1;omega
def Dn(E:List (Int×Int)):List Nat->Prop
 | []=>False
 | [_]=>True
 |a::b::r=>ed E a b/\Dn E (b::r)
theorem Dn.way:∀{r:List Nat}{a:Nat},Dn E (a::r)->∀b∈r,Way E a b
  | [],_,_,b,hb=>by simp at hb
  | c :: r, a, h, b, hb => by
    rcases ZT.mp hb with rfl|hb
    · exact .one h.1
    · exact(Way.one h.1).trans (Dn.way h.2 b hb)
theorem Dn.nodup(hA:Acyc E):∀{p:List Nat},Dn E p->p.Nodup
  | [],h=>h.elim
  | [b],_=>by simp
  | a :: b :: r, h => by
    rw[YJ];exact⟨fun hm=>hA a (Dn.way h a hm),Dn.nodup hA h.2⟩
theorem Dn.lt{n:Nat}(hF:Fits n E):∀{p:List Nat},Dn E p->2<=p.length->∀x∈p,x<n
  | [],h,_,_,_=>h.elim
  | [b],_,h1,x,hx=>by simp at h1
  | [a, b], h, _, x, hx => by
    have hab:=Zf4 hF h.1;simp at hx;rcases hx with rfl|rfl
    · exact hab.1
    · exact hab.2
  | a :: b :: c :: r, h, _, x, hx => by
    have hab:=Zf4 hF h.1;rcases ZT.mp hx with rfl|hx
    · exact hab.1
    · exact Dn.lt hF h.2 (by simp) x hx
theorem Znv{n:Nat}(hF:Fits n E)(hA:Acyc E)(S:Nat->Prop)(u:Nat)(hu:S u):∃v,S v/\∀a,ed E a v->¬S a:=by
  apply Classical.byContradiction;intro hno;have hall:∀v,S v->∃a,ed E a v/\S a:=fun v hv=>Classical.byContradiction fun h=>hno ⟨v,hv,fun a ha hs=>h ⟨a,ha,hs⟩⟩;have key:∀k:Nat,∃(a:Nat) (r:List Nat),r.length=k/\Dn E (a::r)/\S a:=by
    intro k
    induction k with
    |zero=>exact⟨u, [],rfl,trivial,hu⟩
    | succ k ih =>obtain⟨a,r,hl,hp,ha⟩:=ih;obtain⟨b,hb,hs⟩:=hall a ha;exact⟨b,a::r,by simp[hl],⟨hb,hp⟩,hs⟩
  obtain⟨a,r,hl,hp,_⟩:=key (n+1);have h1:=Zbe n (a::r) (hp.nodup hA) (hp.lt hF (by simp[hl]));simp[hl]at h1;omega
theorem Zre{a b x y:Nat}:ed (E++ [((a:Int),(b:Int))]) x y↔ed E x y\/(x=a/\y=b):=by unfold ed;rw[Z2,List.mem_singleton,Prod.mk.injEq,Int.ofNat_inj,Int.ofNat_inj]
theorem Acyc.mono{E':List (Int×Int)}(hA:Acyc E)(h:∀a b,ed E' a b->ed E a b):Acyc E':=fun a hw=>hA a (hw.mono h)
theorem Up.mono{E':List (Int×Int)}(h:∀a b,ed E a b->ed E' a b):∀{p:List Nat},Up E p->Up E' p
 | [],k=>k.elim
 | [_],_=>trivial
 |b::a::r,k=>⟨h _ _ k.1,Up.mono h k.2⟩
def wsum(W:List Int)(p:List Nat):Int:=(p.map fun x=>W.getD x 0).sum
def In(n:Nat)(p:List Nat):Prop:=∀ x∈p,x<n
def Zg8(W:List Int)(E:List (Int×Int))(L:Int):Prop:=
 (∀p,Up E p->In W.length p->wsum W p<=L)/\((W= []/\L=0)\/ ∃p,Up E p/\In W.length p/\wsum W p=L)
theorem Znw{W:List Int}(hw:∀z∈W,0<=z){p:List Nat}(hn:p.Nodup)(hi:In W.length p):wsum W p<=W.sum:=by
  have h:=Zeh (fun x=>(W.getD x 0).toNat) W.length p hn hi;have e1:∀q:List Nat,(((q.map fun x=>(W.getD x 0).toNat).sum:Nat):Int)=wsum W q:=by
    intro q
    induction q with
    |nil=>rfl
    | cons x q ih =>
      have h0:0<=W.getD x 0:=by
        rw[List.getD_eq_getElem?_getD]
        cases hx:W[x]? with
        |none=>exact Int.le_refl _
        |some z=>exact hw z (List.mem_of_getElem? hx)
      unfold wsum at ih⊢;simp only[ZM,ZY];rw[<-ih];omega
  have e2:wsum W (Zo W.length)=W.sum:=by
    unfold wsum;congr 1;apply List.ext_getElem?;intro i;rw[List.getElem?_map];rcases Nat.lt_or_ge i W.length with h|h
    · rw[List.getElem?_range h];simp[List.getElem?_eq_getElem h]
    · rw[Zt (by simpa using h),Zt h];rfl
  have h2:(((p.map fun x=>(W.getD x 0).toNat).sum:Nat):Int)<=(((Zo W.length).map fun x=>(W.getD x 0).toNat).sum:Nat):=by exact_mod_cast h
  rw[e1,e1,e2]at h2;exact h2
def ZaI(n:Nat)(E:List (Int×Int)):Prop:=Fits n E/\(∀e∈E,e.1≠e.2)/\E.Nodup
theorem Zfk{n:Nat}{E:List (Int×Int)}{j:Nat}{e:Int×Int}(h:E[j]?=some e):ZaI n (E.take (j+1))↔ZaI n (E.take j)/\(0<=e.1/\e.1<n)/\(0<=e.2/\e.2<n)/\e.1≠e.2/\e∉E.take j:=by
 rw[Zbk h];unfold ZaI Fits;rw[Y1];constructor
 ·rintro ⟨k1,k2,k3⟩
  have q:=k1 e (by simp);refine⟨⟨fun x hx=>k1 x (by simp[hx]),fun x hx=>k2 x (by simp[hx]),k3.1⟩,⟨q.1,q.2.1⟩,q.2.2,k2 e (by simp),fun hm=>k3.2.2 e hm e (by simp) rfl⟩
 ·rintro ⟨⟨k1,k2,k3⟩,q1,q2,q3,q4⟩
  refine⟨fun x hx=> ?_,fun x hx=> ?_,k3,by simp,fun a ha b hb=> ?_⟩
  ·rcases Z2.mp hx with hx | hx
   ·exact k1 x hx
   ·obtain rfl: x = e:=by simpa using hx
    exact⟨q1.1,q1.2,q2.1,q2.2⟩
  ·rcases Z2.mp hx with hx | hx
   ·exact k2 x hx
   ·obtain rfl: x = e:=by simpa using hx
    exact q3
  ·obtain rfl: b = e:=by simpa using hb
   exact fun h=>q4 (h▸ha)
theorem Zfl{n:Nat}{E:List (Int×Int)}(h:ZaI n E)(j:Nat):ZaI n (E.take j):=
 ⟨fun e he=>h.1 e (YY he),fun e he=>h.2.1 e (YY he),h.2.2.sublist (List.take_sublist j E)⟩
section
variable {P: Option Addr}{np pc: Nat}{E: Option Addr}{ne ec: Nat}{F: Option Addr}{nf fc: Nat}{R: Option Addr}{nr rc: Nat}{p q: Int}
end
structure FutOne(ps:List (Int×Int×Int))(f:Int×Int×Int):Prop where
 maker:0<=f.1/\f.1<ps.length
 user:0<=f.2.1/\f.2.1<ps.length
 apart:f.1≠f.2.1
 first:1<=f.2.2
 last:∀e,ps[f.2.1.toNat]?=some e->f.2.2<e.2.2
structure FutsOk(ps fs:List (Int×Int×Int)):Prop where
 each:∀f∈fs,FutOne ps f
 once:(fs.map fun f=>f.2).Nodup
theorem ZjN{ps fs:List (Int×Int×Int)}(h:FutsOk ps fs)(j:Nat):FutsOk ps (fs.take j):=
 ⟨fun f hf=>h.each f (YY hf),h.once.sublist ((List.take_sublist j fs).map _)⟩
theorem ZjO{ps fs:List (Int×Int×Int)}{j:Nat}{f:Int×Int×Int}(h:fs[j]?=some f):FutsOk ps (fs.take (j+1))↔FutsOk ps (fs.take j)/\FutOne ps f/\f.2∉(fs.take j).map fun f=>f.2:=by
 rw[Zbk h];constructor
 ·rintro ⟨k1,k2⟩
  rw[Yk,Y1]at k2;exact⟨⟨fun x hx=>k1 x (by simp[hx]),k2.1⟩,k1 f (by simp),fun hm=>k2.2.2 _ hm f.2 (by simp) rfl⟩
 ·rintro ⟨⟨k1,k2⟩,q1,q2⟩
  refine⟨fun x hx=> ?_,?_⟩
  ·rcases Z2.mp hx with hx | hx
   ·exact k1 x hx
   ·obtain rfl: x = f:=by simpa using hx
    exact q1
  ·rw [Yk,Y1]
   refine⟨k2,by simp,fun a ha b hb=> ?_⟩;obtain rfl:b=f.2:=by simpa using hb
   exact fun e=>q2 (e▸ha)
section
variable {P: Option Addr}{np pc: Nat}{E: Option Addr}{ne ec: Nat}{F: Option Addr}{nf fc: Nat}{R: Option Addr}{nr rc: Nat}{p q: Int}
end
end Go.Proofs.YtfahabphncmbfaaGreatDoor
