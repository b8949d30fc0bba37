import Derived.Test.YtlfekmbalgkmeaaGreatDoorZM9
import Derived.Test.YtlfekmbalgkmeaaGreatDoorZM8
import Derived.Test.YtlfekmbalgkmeaaGreatDoorZM5
set_option linter.unusedSimpArgs false
set_option linter.unnecessarySimpa false
set_option linter.unusedVariables false
set_option maxHeartbeats 4000000
namespace Go.Proofs.YtlfekmbalgkmeaaGreatDoor
open Go Go.RowKit
section
variable {P: Program} {ops: Array Oper} {Q: Exit -> Act -> World -> Prop}
def univB(ops:Array Oper)(ds:List Nat)(wt:List Bool):Bool:=
  ops.size==ds.length&&backB' ops&&decide ds.Nodup&&
  ((List.range ds.length).all fun k=>(match ops[k]? with|some o=>if ds.getD k 0<1000 then o.dst==some (ds.getD k 0)else o.dst==none|none=>false))&&
  ((List.range ds.length).all fun k => (match ops[k]? with
    |some o=>(match o.guard with|some g=>decide (g.1<k)&&o.after.any (fun e=>e.on==g.1&&Region.binds .any e)|none=>wt.getD k true)
    |none=>false))
structure Univ(ops:Array Oper)(ds:List Nat)(wt:List Bool):Prop where
 size:ops.size=ds.length
 back: ∀(i:Nat) (o:Oper),ops[i]? =some o-> ∀e∈o.after,Region.binds .any e=true->e.on<i
 nodup:ds.Nodup
 dst: ∀(k:Nat) (o:Oper),ops[k]? =some o->(ds.getD k 0<1000/\o.dst=some (ds.getD k 0))\/(1000<=ds.getD k 0/\o.dst=none)
 guard: ∀(k:Nat) (o:Oper) (g:Nat) (b:Bool),ops[k]? =some o->o.guard=some (g,b)->g<k/\ ∃e∈o.after,e.on=g/\Region.binds .any e=true
 free: ∀(k:Nat) (o:Oper),ops[k]? =some o->o.guard=none->wt.getD k true=true
theorem univ_of{ds:List Nat}{wt:List Bool}(h:univB ops ds wt=true):Univ ops ds wt:=by
 unfold univB at h;simp only[Bool.and_eq_true,beq_iff_eq,decide_eq_true_iff]at h;obtain⟨⟨⟨⟨h1,h2⟩,h3⟩,h4⟩,h5⟩:=h;have hk: ∀(k:Nat) (o:Oper),ops[k]? =some o->k<ds.length:=fun k o ho=>h1▸(Array.getElem?_eq_some_iff.1 ho).1
 refine⟨h1,back_of' h2,h3,fun k o ho=> ?_,fun k o g b ho hg=> ?_,fun k o ho hg=> ?_⟩
 ·have:=List.all_eq_true.1 h4 k (List.mem_range.2 (hk k o ho))
  rw[ho]at this
  by_cases hd:ds.getD k 0<1000
  ·simp only [if_pos hd,beq_iff_eq] at this
   exact .inl ⟨hd,this⟩
  ·simp only [if_neg hd,beq_iff_eq] at this
   exact .inr ⟨by omega,this⟩
 ·have:=List.all_eq_true.1 h5 k (List.mem_range.2 (hk k o ho))
  rw[ho]at this;simp only[hg,Bool.and_eq_true,decide_eq_true_iff]at this;obtain⟨e,he,h8⟩:=Array.any_eq_true'.1 this.2
  rw[Bool.and_eq_true,beq_iff_eq]at h8;exact⟨this.1,e,he,h8.1,h8.2⟩
 ·have:=List.all_eq_true.1 h5 k (List.mem_range.2 (hk k o ho))
  rw[ho]at this
  simpa only[hg]using this
theorem eval_far{a:Act}{d:Nat}(hs:a.tmps.size<=d):a.eval (.tmp d)=undef:=by
 show a.tmps.getD d undef=undef
 rw[Array.getD_eq_getD_getElem?,Array.getElem?_eq_none hs]
 rfl
theorem wp_region_univ(ds:List Nat)(wt:List Bool){id:Nat}{a0:Act}{w0:World}(hm:P.follows .mixedOrders=true)(hG:univB ops ds wt=true)(hsz: ∀d∈ds,d<a0.tmps.size\/1000<=d)(hs1:a0.tmps.size<=1000)
    (I:World->Prop) (Φ:Nat->Value->World->Prop) (Pre:Nat->World->Prop) (R:Nat->World->World->Prop)
    (hI: ∀i w w',I w->R i w w'->I w') (hΦ: ∀i k v w w',k≠i->(∀p:Oper,ops[k]? =some p->(p.after.any fun e=>e.on==i&&Region.binds .any e)=false)->Φ k v w->R i w w'->Φ k v w') (hP: ∀i k w w',k≠i->Pre k w->R i w w'->Pre k w')
    (h0:I {w0 with drawn:=w0.drawn+1}) (hp0: ∀k,Pre k {w0 with drawn:=w0.drawn+1})
    (hW: ∀(k:Nat) (o:Oper) (g:Nat) (b:Bool),ops[k]? =some o->o.guard=some (g,b)-> ∀v w,Φ g v w->v= .bool (if wt.getD k true=true then b else !b))
    (hskip: ∀k,wt.getD k true=false-> ∀w,R k w w/\ ∀u,(ds.getD k 0<1000->u=undef)->Φ k u w)
    (hstep: ∀(k:Nat) (o:Oper),ops[k]? =some o->wt.getD k true=true-> ∀(a:Act) (w:World),I w->Pre k w->AtDoor a0 ds a.eval->(∀e∈o.after,Region.binds .any e=true->Φ e.on (a.eval (.tmp (ds.getD e.on 0))) w)->
      (∀(j:Nat) (p:Oper),ops[j]? =some p->(p.after.any fun e=>e.on==k&&Region.binds .any e)=true->a.eval (.tmp (ds.getD j 0))=a0.eval (.tmp (ds.getD j 0)))->
      ∀K:Act->World->Prop,(∀v w',(∀u,(ds.getD k 0<1000->u=v)->Φ k u w')->R k w w'->K (a.put o.dst v) w')->o.wp P a w K Q)
    (hend: ∀(vals:Nat->Value) (w:World),I w->(∀k,k<ds.length->Φ k (vals (ds.getD k 0)) w)->Q .normal ⟨(fillA a0 ds vals).toArray,a0.defers⟩ w):
    (Code.region id ops true).wp P Q a0 w0:=by
  have G:=univ_of hG;refine wp_region_inv (fun l a w=>l.size=ds.length/\I w/\AtDoor a0 ds a.eval/\a.tmps.size=a0.tmps.size/\a.defers=a0.defers/\(∀k,k<ds.length->l.getD k false=true->Φ k (a.eval (.tmp (ds.getD k 0))) w)/\(∀k,k<ds.length->l.getD k false=false->Pre k w/\a.eval (.tmp (ds.getD k 0))=a0.eval (.tmp (ds.getD k 0)))/\(∀(j:Nat) (p:Oper),ops[j]? =some p->l.getD j false=true-> ∀e∈p.after,Region.binds .any e=true->l.getD e.on false=true)) hm ?_ ?_ ?_
  · refine⟨by rw[Array.size_replicate];exact G.size,h0,atDoor_start a0 ds,rfl,rfl,fun k hk h=> ?_,fun k hk _=>⟨hp0 k,rfl⟩,fun j p _ h=> ?_⟩
    · exfalso
      by_cases h2:k<ops.size<;>simp[h2]at h
    · exfalso
      by_cases h2:j<ops.size<;>simp[h2]at h
  · rintro l a w i ⟨hls,hIw,hAD,hasz,hadf,hF,hU,hC⟩ hi;obtain⟨hun,o,ho,hpre⟩:=mem_ready.1 hi;have hilt:i<ops.size:=(Array.getElem?_eq_some_iff.1 ho).1
    have hin:i<ds.length:=by rw[<-G.size];exact hilt
    have hil:i<l.size:=by omega
    have hdep: ∀e∈o.after,Region.binds .any e=true->Φ e.on (a.eval (.tmp (ds.getD e.on 0))) w:=fun e he hb=>hF e.on (Nat.lt_trans (G.back i o ho e he hb) hin) (hpre e he hb)
    have hili:l.getD i false=false:=by
      cases h:l.getD i false with
      |false=>rfl
      | true =>
        exfalso
        simp[hil]at h hun;rw[h]at hun;cases hun
    have hnext: ∀v w',(∀u,(ds.getD i 0<1000->u=v)->Φ i u w')->R i w w'->(l.setIfInBounds i true).size=ds.length/\I w'/\AtDoor a0 ds (a.put o.dst v).eval/\(a.put o.dst v).tmps.size=a0.tmps.size/\(a.put o.dst v).defers=a0.defers/\(∀k,k<ds.length->(l.setIfInBounds i true).getD k false=true->Φ k ((a.put o.dst v).eval (.tmp (ds.getD k 0))) w')/\(∀k,k<ds.length->(l.setIfInBounds i true).getD k false=false->Pre k w'/\(a.put o.dst v).eval (.tmp (ds.getD k 0))=a0.eval (.tmp (ds.getD k 0)))/\(∀(j:Nat) (p:Oper),ops[j]? =some p->(l.setIfInBounds i true).getD j false=true-> ∀e∈p.after,Region.binds .any e=true->(l.setIfInBounds i true).getD e.on false=true):=fun v w' hphi hr=>by
      have hother: ∀k,k<ds.length->k≠i->(a.put o.dst v).eval (.tmp (ds.getD k 0))=a.eval (.tmp (ds.getD k 0)):=fun k hk hki=>by
        rcases G.dst i o ho with⟨_,hd⟩|⟨_,hd⟩
        · rw[hd];exact eval_put_other _ _ _ _ (fun e=>hki (fds_inj G.nodup hk hin e))
        · rw[hd];rfl
      have hself:(a.put o.dst v).eval (.tmp (ds.getD i 0))=v\/ ¬ds.getD i 0<1000:=by
        rcases G.dst i o ho with⟨h1,hd⟩|⟨h1,hd⟩
        · left
          rw[hd];refine eval_put_same _ _ _ ?_
          rw[hasz];rcases hsz _ (fds_mem hin)with h|h
          · exact h
          · omega
        · right;omega
      refine⟨by rw[Array.size_setIfInBounds];exact hls,hI i w w' hIw hr,?_,?_,?_,fun k hk hkl=> ?_,fun k hk hkl=> ?_,fun j p hp hjl e he hb2=>(getD_set_iff hil).mpr (.inr ?_)⟩
      · rcases G.dst i o ho with⟨_,hd⟩|⟨_,hd⟩
        · rw[hd];exact hAD.put (fds_mem hin) v
        · rw[hd];exact hAD
      · rcases G.dst i o ho with⟨_,hd⟩|⟨_,hd⟩
        · rw[hd];show(a.tmps.setIfInBounds _ _).size=_
          rw[Array.size_setIfInBounds];exact hasz
        · rw[hd];exact hasz
      · rcases G.dst i o ho with⟨_,hd⟩|⟨_,hd⟩<;>rw[hd]<;>exact hadf
      · by_cases hki:k=i
        · subst hki;refine hphi _ fun h1=> ?_
          rcases hself with h|h
          · exact h
          · exact absurd h1 h
        · rw[hother k hk hki];have hlk:=(listed_set hkl).resolve_left hki;refine hΦ i k _ _ _ hki (fun p hp=> ?_) (hF k hk hlk) hr
          cases hany:p.after.any fun e=>e.on==i&&Region.binds .any e with
          |false=>rfl
          | true =>
            obtain⟨e,he,h8⟩:=Array.any_eq_true'.1 hany;rw[Bool.and_eq_true,beq_iff_eq]at h8;have h9:=hC k p hp hlk e he h8.2;rw[h8.1,hili]at h9;cases h9
      · have hki:k≠i:=fun e=>by
          have h2:=(getD_set_iff (k:=k) hil).mpr (.inl e);rw[hkl]at h2;cases h2
        rw[hother k hk hki];have h3:=hU k hk (by
          cases h:l.getD k false with
          |false=>rfl
          | true =>
            have h2:=(getD_set_iff (k:=k) hil).mpr (.inr h);rw[hkl]at h2;cases h2)
        exact⟨hP i k w w' hki h3.1 hr,h3.2⟩
      · rcases(getD_set_iff hil).mp hjl with rfl|h
        · rw[ho]at hp;obtain rfl:=Option.some.inj hp;exact hpre e he hb2
        · exact hC j p hp h e he hb2
    have hlate: ∀(j:Nat) (p:Oper),ops[j]? =some p->(p.after.any fun e=>e.on==i&&Region.binds .any e)=true->a.eval (.tmp (ds.getD j 0))=a0.eval (.tmp (ds.getD j 0)):=fun j p hp hany=>by
      obtain⟨e,he,h8⟩:=Array.any_eq_true'.1 hany;rw[Bool.and_eq_true,beq_iff_eq]at h8;refine(hU j (by rw[<-G.size];exact(Array.getElem?_eq_some_iff.1 hp).1) ?_).2
      cases h:l.getD j false with
      |false=>rfl
      | true =>
        have h2:=hC j p hp h e he h8.2;rw[h8.1,hili]at h2;cases h2
    unfold wpOp;rw[ho];have hyield: ∀g b,o.guard=some (g,b)->yielded ops a.tmps g=some (if wt.getD i true=true then b else !b):=fun g b hg=>by
      obtain⟨hgi,e,he,h1,h2⟩:=G.guard i o g b ho hg;have hv:=hW i o g b ho hg _ _ (by have:=hdep e he h2;rwa [h1]at this)
      obtain⟨og,hog⟩: ∃og,ops[g]? =some og:=⟨_,Array.getElem?_eq_getElem (by omega)⟩
      rcases G.dst g og hog with⟨hd0,hd⟩|⟨hd0,hd⟩
      · unfold yielded;rw[hog,Option.bind_some,hd,Option.bind_some];have hlt:ds.getD g 0<a.tmps.size:=by
          rw[hasz];rcases hsz _ (fds_mem (show g<ds.length by omega))with h|h
          · exact h
          · omega
        rw[Array.getElem?_eq_getElem hlt]
        have:a.tmps[ds.getD g 0]= .bool (if wt.getD i true=true then b else !b):=by
          rw[<-hv];show _=a.tmps.getD (ds.getD g 0) undef
          rw[Array.getD_eq_getD_getElem?,Array.getElem?_eq_getElem hlt]
          rfl
        rw[this]
      · exfalso
        rw[eval_far (by rw[hasz];omega)]at hv
        cases hv
    cases hw:wt.getD i true with
    | true =>
      have hwant:Region.wanted o (yielded ops a.tmps)=true:=by
        unfold Region.wanted;cases hg:o.guard with
        |none=>rfl
        | some gb =>
          obtain⟨g,b⟩:=gb;show(yielded ops a.tmps g==some b)=true
          rw[hyield g b hg,hw];simp
      simp only[hwant,if_true];exact .inl (hstep i o ho hw a w hIw (hU i hin hili).1 hAD hdep hlate _ hnext)
    | false =>
      have hwant:Region.wanted o (yielded ops a.tmps)=false:=by
        unfold Region.wanted;cases hg:o.guard with
        | none =>
          have:=G.free i o ho hg;rw[hw]at this;cases this
        | some gb =>
          obtain⟨g,b⟩:=gb;show(yielded ops a.tmps g==some b)=false
          rw[hyield g b hg,hw];cases b<;>rfl
      simp only[hwant];exact hnext undef w (hskip i hw w).2 (hskip i hw w).1
  · rintro l a w ⟨hls,hIw,hAD,hasz,hadf,hF,_,_⟩ hr;have hall:=all_listed' (by rw[hls,G.size]) G.back hr
    rw[act_fill hAD hasz hadf];exact hend (fun t=>a.eval (.tmp t)) w hIw fun k hk=>hF k hk (hall k (by rw[G.size];exact hk))
end
section
variable {P: Program} {ops: Array Oper} {Q: Exit -> Act -> World -> Prop}
end
def fstX:List Int->Int
 | []=>0
 |x::l=>if x=0 then fstX l else x
theorem fstX_app(x:Int): ∀l:List Int,fstX l=0->fstX (l++ [x])=x
  | [], _ => by
    show(if x=0 then 0 else x)=x
    split<;>omega
  | y :: l, h => by
    by_cases hy:y=0
    · subst hy;have h1:fstX (0::l)=fstX l:=if_pos rfl;rw[h1]at h;have h2:fstX ((0::l)++ [x])=fstX (l++ [x]):=if_pos rfl;rw[h2];exact fstX_app x l h
    · have h1:fstX (y::l)=y:=if_neg hy;rw[h1]at h;exact absurd h hy
theorem fstX_stay{x:Int}(hx:x≠0): ∀(l r:List Int),fstX l=0->fstX (l++x::r)=x
  | [],r,_=>if_neg hx
  | y :: l, r, h => by
    by_cases hy:y=0
    · subst hy;have h1:fstX (0::l)=fstX l:=if_pos rfl;rw[h1]at h;have h2:fstX ((0::l)++x::r)=fstX (l++x::r):=if_pos rfl;rw[h2];exact fstX_stay hx l r h
    · have h1:fstX (y::l)=y:=if_neg hy;rw[h1]at h;exact absurd h hy
theorem fstX_zero: ∀{l:List Int},fstX l=0↔ ∀x∈l,x=0
  | []=>by simp[fstX]
  | y :: l => by
    by_cases hy:y=0
    · subst hy;have h1:fstX (0::l)=fstX l:=if_pos rfl;rw[h1,fstX_zero];simp
    · have h1:fstX (y::l)=y:=if_neg hy;rw[h1];constructor
      · intro h;exact absurd h hy
      · intro h;exact absurd (h y (by simp)) hy
theorem fstX_next{l:List Int}{k:Nat}{x:Int}(h:fstX (l.take k)=0)(hx:l[k]? =some x):(x=0->fstX (l.take (k+1))=0)/\(x≠0->fstX l=x):=by
 constructor
 ·intro h0
  rw[List.take_add_one,hx];exact(fstX_app x _ h).trans h0
 ·intro h0
  rw[list_cut hx];exact fstX_stay h0 _ _ h
def coresOf(S:List Shp):List Int:=S.map coresS
def usedP:List Shp->Int
 | []=>0
 |s::S=>(if heavyS s=true then coresS s else 0)+usedP S
def lightP(S:List Shp):List Shp:=S.filter fun s=> !heavyS s
def upto(a:Int)(n:Nat):List Int:=(List.range n).map fun(k:Nat)=>a+(k:Int)
theorem upto_len(a:Int)(n:Nat):(upto a n).length=n:=by simp[upto]
theorem upto_at{a:Int}{n k:Nat}(h:k<n):(upto a n)[k]? =some (a+(k:Int)):=by simp[upto,h]
theorem upto_succ(a:Int)(n:Nat):upto a (n+1)=upto a n++ [a+(n:Int)]:=by simp[upto,List.range_succ]
theorem upto_cons(a:Int)(n:Nat):upto a (n+1)=a::upto (a+1) n:=by
 simp only[upto,List.range_succ_eq_map,List.map_cons,List.map_map];congr 1
 ·omega
 ·apply List.map_congr_left
  intro k _;simp;omega
theorem upto_mem{a x:Int}{n:Nat}:x∈upto a n↔a<=x/\x<a+n:=by
 simp only[upto,List.mem_map,List.mem_range];constructor
 ·rintro⟨k,hk,rfl⟩;omega
 ·rintro⟨h1,h2⟩;exact⟨(x - a).toNat,by omega,by omega⟩
theorem upto_take(a:Int)(n k:Nat)(h:k<=n):(upto a n).take k=upto a k:=by
 simp only[upto,<-List.map_take,List.take_range];rw[Nat.min_eq_left h]
theorem upto_drop(a:Int): ∀(n k:Nat),(upto a n).drop k=upto (a+k) (n - k)
  |n,0=>by simp
  |0,k+1=>by simp[upto]
  | n + 1, k + 1 => by
    rw[upto_cons,List.drop_succ_cons,upto_drop (a+1) n k,Nat.add_sub_add_right];congr 1;omega
def atP(u:Int):Int->List Shp->List Int->List (List Int)
 |_,[],_=> []
 |nx,s::S,L=>if heavyS s=true then upto nx (coresS s).toNat::atP u (nx+coresS s) S L else [u+L.headD 0]::atP u nx S L.tail
def atH:Int->List Shp->List (List Int)
 |_,[]=> []
 |nx,s::S=>if heavyS s=true then upto nx (coresS s).toNat::atH (nx+coresS s) S else []::atH nx S
theorem atP_len(u:Int): ∀(S:List Shp) (nx:Int) (L:List Int),(atP u nx S L).length=S.length
  | [],_,_=>rfl
  | s :: S, nx, L => by
    unfold atP
    split<;>simp[atP_len u S]
theorem atH_len: ∀(S:List Shp) (nx:Int),(atH nx S).length=S.length
  | [],_=>rfl
  | s :: S, nx => by
    unfold atH
    split<;>simp[atH_len S]
theorem usedP_app(A B:List Shp):usedP (A++B)=usedP A+usedP B:=by
 induction A with
 |nil=>simp[usedP]
 |cons s A ih=>simp only[List.cons_append,usedP,ih];omega
theorem lightP_app(A B:List Shp):lightP (A++B)=lightP A++lightP B:=by simp[lightP]
theorem atH_app(A B:List Shp)(nx:Int):atH nx (A++B)=atH nx A++atH (nx+usedP A) B:=by
  induction A generalizing nx with
  |nil=>simp[atH,usedP]
  | cons s A ih =>
    simp only[List.cons_append,atH,usedP]
    split
    · rw[ih,List.cons_append,Int.add_assoc]
    · rw[ih,List.cons_append,Int.zero_add]
theorem lightP_cons(s:Shp)(S:List Shp):lightP (s::S)=if heavyS s=true then lightP S else s::lightP S:=by
 simp only[lightP,List.filter_cons];cases heavyS s<;>simp
theorem atP_app(u:Int)(A B:List Shp)(nx:Int)(L:List Int):atP u nx (A++B) L=atP u nx A L++atP u (nx+usedP A) B (L.drop (lightP A).length):=by
  induction A generalizing nx L with
  |nil=>simp[atP,usedP,lightP]
  | cons s A ih =>
    rw[lightP_cons];simp only[List.cons_append,atP,usedP]
    split
    · rw[ih,List.cons_append,Int.add_assoc]
    · rw[ih,List.cons_append,Int.zero_add,List.length_cons,List.drop_tail]
theorem coresS_pos{s:Shp}(h:faultS s=0):1<=coresS s/\coresS s<=8/\s.Ok/\(heavyS s=false->coresS s=1/\LightS s)/\(heavyS s=true->s.l<s.d/\coresS s=manyS s/\s.d<s.t):=by
 have hO:s.Ok:=by
  by_cases q:s.Ok
  ·exact q
  ·unfold faultS at h;rw[if_pos q]at h;cases h
 unfold faultS at h;unfold coresS;rw[if_neg (not_not_intro hO)]at h⊢
 by_cases hd:s.d<s.t
 ·rw [if_pos hd] at h ⊢
  have hh:heavyS s=true:=decide_eq_true ⟨hO,hd⟩;unfold faultH at h;unfold coresH
  by_cases hl:s.d<=s.l
  ·rw[if_pos hl]at h;cases h
  ·rw [if_neg hl] at h ⊢
   by_cases h8:8<manyS s
   ·rw[if_pos h8]at h;cases h
   ·rw [if_neg h8]
    have:=many_spec hO hd (by omega)
    exact⟨by omega,by omega,hO,fun(q:heavyS s=false)=>(by rw[hh]at q;cases q),fun _=>⟨by omega,rfl,hd⟩⟩
 ·rw [if_neg hd]
  have hh:heavyS s=false:=decide_eq_false fun q=>hd q.2
  exact⟨by omega,by omega,hO,fun _=>⟨rfl,hO,by omega⟩,fun(q:heavyS s=true)=>(by rw[hh]at q;cases q)⟩
theorem usedP_pos: ∀{S:List Shp},(∀s∈S,faultS s=0)->0<=usedP S
  | [],_=>Int.le_refl _
  | s :: S, h => by
    have h1:=usedP_pos (S:=S) fun x hx=>h x (List.mem_cons_of_mem _ hx)
    have h2:=coresS_pos (h s (List.mem_cons_self ..));simp only[usedP]
    split<;>omega
theorem lightP_mem{S:List Shp}(h: ∀s∈S,faultS s=0): ∀s∈lightP S,LightS s:=fun s hs=>by
 obtain⟨h1,h2⟩:=List.mem_filter.mp hs;refine((coresS_pos (h s h1)).2.2.2.1 ?_).2
 cases hh:heavyS s
 ·rfl
 ·rw[hh]at h2;cases h2
theorem lightP_le(S:List Shp):(lightP S).length<=S.length:=List.length_filter_le ..
theorem lightP_may{S:List Shp}(h8:S.length<=8)(h: ∀s∈S,faultS s=0):MayE (lightP S):=⟨by have:=lightP_le S;omega,lightP_mem h⟩
def Rise(m:Int):Int->List Int->Prop
 |_,[]=>True
 |b,x::l=>b<=x/\x<m/\Rise m (x+1) l
theorem Rise.upto{m:Int}: ∀{n:Nat} {b a:Int},b<=a->a+n<=m->Rise m b (upto a n)
  |0,_,_,_,_=>trivial
  | n + 1, b, a, h1, h2 => by
    rw[upto_cons];exact⟨h1,by omega,Rise.upto (Int.le_refl _) (by omega)⟩
theorem Rise.pairs{m:Int}: ∀{l:List Int} {b:Int},Rise m b l↔(∀(k:Nat) x,l[k]? =some x->b<=x/\x<m)/\ ∀(k:Nat) x y,l[k]? =some x->l[k+1]? =some y->x<y
  | [],b=>by simp[Rise]
  | z :: l, b => by
    simp only[Rise];rw[Rise.pairs (l:=l) (b:=z+1)];constructor
    · rintro⟨h1,h2,h3,h4⟩;refine⟨fun k x hk=> ?_,fun k x y hk hk2=> ?_⟩
      · cases k with
        | zero => obtain rfl : z = x := by simpa using hk
                  exact⟨h1,h2⟩
        |succ k=>have:=h3 k x (by simpa using hk);omega
      · cases k with
        | zero =>
          obtain rfl:z=x:=by simpa using hk
          have:=h3 0 y (by simpa using hk2)
          omega
        |succ k=>exact h4 k x y (by simpa using hk) (by simpa using hk2)
    · rintro⟨h1,h2⟩;have h0:=h1 0 z (by simp)
      refine⟨h0.1,h0.2,fun k x hk=> ?_,fun k x y hk hk2=>h2 (k+1) x y (by simpa using hk) (by simpa using hk2)⟩
      have h3:=h1 (k+1) x (by simpa using hk)
      refine⟨?_,h3.2⟩
      clear h3
      induction k generalizing x with
      |zero=>have:=h2 0 z x (by simp) (by simpa using hk);omega
      | succ k ih =>
        have hl:k<l.length:=by have:=(List.getElem?_eq_some_iff.mp hk).1;omega
        have:=ih l[k] (List.getElem?_eq_getElem hl)
        have:=h2 (k+1) l[k] x (by simp) (by simpa using hk)
        omega
def cntH:List Shp->List (List Int)->Int->Nat
 |s::S,c::C,k=>(if heavyS s=true/\k∈c then 1 else 0)+cntH S C k
 | [],_,_=>0
 |_::_,[],_=>0
def onL:List Shp->List (List Int)->Int->List Shp
 |s::S,c::C,k=>if LightS s/\k∈c then s::onL S C k else onL S C k
 | [],_,_=> []
 |_::_,[],_=> []
def EnoughQ(S:List Shp)(C:List (List Int))(k:Int):Prop:=cntH S C k<=1/\(cntH S C k=1->onL S C k= [])/\FitE (onL S C k)
def SuitQ(m:Int)(s:Shp)(c:List Int):Prop:=faultS s=0/\(c.length:Int)=coresS s/\Rise m 0 c
structure RightQ(S:List Shp)(C:List (List Int))(m:Int):Prop where
 may:1<=m/\m<=8
 few:S.length<=8
 len:C.length=S.length
 suit: ∀(i:Nat) s c,S[i]? =some s->C[i]? =some c->SuitQ m s c
 enough: ∀k,0<=k->k<m->EnoughQ S C k
theorem cntH_app: ∀(A B:List Shp) (X Y:List (List Int)) (k:Int),A.length=X.length->cntH (A++B) (X++Y) k=cntH A X k+cntH B Y k
  | [],B, [],Y,k,_=>by simp[cntH]
  | s :: A, B, x :: X, Y, k, h => by
    have:=cntH_app A B X Y k (by simpa using h)
    simp only[List.cons_append,cntH,this];omega
  | [],_,_::_,_,_,h=>by simp at h
  |_::_,_, [],_,_,h=>by simp at h
theorem onL_app: ∀(A B:List Shp) (X Y:List (List Int)) (k:Int),A.length=X.length->onL (A++B) (X++Y) k=onL A X k++onL B Y k
  | [],B, [],Y,k,_=>by simp[onL]
  | s :: A, B, x :: X, Y, k, h => by
    have:=onL_app A B X Y k (by simpa using h)
    simp only[List.cons_append,onL,this]
    split<;>rfl
  | [],_,_::_,_,_,h=>by simp at h
  |_::_,_, [],_,_,h=>by simp at h
theorem take_one{α:Type}{l:List α}{i:Nat}{x:α}(h:l[i]? =some x):l.take (i+1)=l.take i++ [x]:=by rw[List.take_add_one,h];rfl
theorem cntH_snoc{S:List Shp}{C:List (List Int)}{j:Nat}{s:Shp}{c:List Int}{k:Int}(h1:S[j]? =some s)(h2:C[j]? =some c):cntH (S.take (j+1)) (C.take (j+1)) k=cntH (S.take j) (C.take j) k+if heavyS s=true/\k∈c then 1 else 0:=by
 have l1:=(List.getElem?_eq_some_iff.mp h1).1
 have l2:=(List.getElem?_eq_some_iff.mp h2).1
 rw[take_one h1,take_one h2,cntH_app _ _ _ _ _ (by simp;omega)]
 simp[cntH]
theorem onL_snoc{S:List Shp}{C:List (List Int)}{j:Nat}{s:Shp}{c:List Int}{k:Int}(h1:S[j]? =some s)(h2:C[j]? =some c):onL (S.take (j+1)) (C.take (j+1)) k=onL (S.take j) (C.take j) k++if LightS s/\k∈c then [s]else []:=by
 have l1:=(List.getElem?_eq_some_iff.mp h1).1
 have l2:=(List.getElem?_eq_some_iff.mp h2).1
 rw[take_one h1,take_one h2,onL_app _ _ _ _ _ (by simp;omega)]
 simp[onL]
theorem pair_min{α β γ:Type}{f:List α->List β->Int->γ}(S:List α)(C:List β)(k:Int)(h: ∀A X B,A.length=X.length->f (A++B) X k=f A X k)(h2: ∀A X Y,A.length=X.length->f A (X++Y) k=f A X k):f (S.take (min S.length C.length)) (C.take (min S.length C.length)) k=f S C k:=by
 rcases Nat.le_total S.length C.length with q|q
 ·rw [Nat.min_eq_left q,List.take_length]
  conv=>rhs;rw[<-List.take_append_drop S.length C]
  exact(h2 _ _ _ (by simp;omega)).symm
 ·rw [Nat.min_eq_right q,List.take_length]
  conv=>rhs;rw[<-List.take_append_drop C.length S]
  exact(h _ _ _ (by simp;omega)).symm
theorem cntH_min(S:List Shp)(C:List (List Int))(k:Int):cntH (S.take (min S.length C.length)) (C.take (min S.length C.length)) k=cntH S C k:=by
 refine pair_min (f:=cntH) S C k (fun A X B h=> ?_) (fun A X Y h=> ?_)
 ·have:=cntH_app A B X [] k h
  rw[List.append_nil]at this;rw[this];cases B<;>simp[cntH]
 ·have:=cntH_app A [] X Y k h
  rw[List.append_nil]at this;rw[this];simp[cntH]
theorem onL_min(S:List Shp)(C:List (List Int))(k:Int):onL (S.take (min S.length C.length)) (C.take (min S.length C.length)) k=onL S C k:=by
 refine pair_min (f:=onL) S C k (fun A X B h=> ?_) (fun A X Y h=> ?_)
 ·have:=onL_app A B X [] k h
  rw[List.append_nil]at this;rw[this];cases B<;>simp[onL]
 ·have:=onL_app A [] X Y k h
  rw[List.append_nil]at this;rw[this];simp[onL]
def ownT(C:List (List Int))(k:Int)(j:Nat):List Nat:=(List.range j).filter fun i=>decide (k∈C.getD i [])
theorem ownT_succ{C:List (List Int)}{k:Int}{j:Nat}{c:List Int}(h:C[j]? =some c):ownT C k (j+1)=ownT C k j++if k∈c then [j]else []:=by
 unfold ownT;rw[List.range_succ,List.filter_append];congr 1;have:C.getD j []=c:=by simp[h]
 simp only[List.filter_cons,List.filter_nil,this]
 by_cases q:k∈c<;>simp[q]
theorem ownT_lt{C:List (List Int)}{k:Int}{j i:Nat}(h:i∈ownT C k j):i<j:=List.mem_range.mp (List.mem_filter.mp h).1
theorem ownT_len(C:List (List Int))(k:Int)(j:Nat):(ownT C k j).length<=j:=by
 have:=List.length_filter_le (fun i=>decide (k∈C.getD i [])) (List.range j)
 rw[List.length_range]at this;exact this
def hvT(S:List Shp)(i:Nat):Bool:=match S[i]? with|some s=>heavyS s|none=>false
def ltT(S:List Shp)(i:Nat):Bool:=match S[i]? with|some s=>decide (LightS s)|none=>false
theorem hvT_at{S:List Shp}{i:Nat}{s:Shp}(h:S[i]? =some s):hvT S i=heavyS s:=by unfold hvT;rw[h]
theorem ltT_at{S:List Shp}{i:Nat}{s:Shp}(h:S[i]? =some s):ltT S i=decide (LightS s):=by unfold ltT;rw[h]
def owns(S:List Shp)(C:List (List Int))(k:Int):List Nat:=ownT C k (min S.length C.length)
def firstH(S:List Shp)(l:List Nat):Int:=match l.find? (hvT S)with|some i=>(i:Int)|none=> -1
def heavyQ(S:List Shp)(C:List (List Int))(k:Int):Int:=firstH S (owns S C k)
def lightQ(S:List Shp)(C:List (List Int))(k:Int):List Nat:=(owns S C k).filter (ltT S)
def shpsL(S:List Shp)(l:List Nat):List Shp:=l.filterMap fun i=>S[i]?
theorem count_is(S:List Shp)(C:List (List Int))(k:Int): ∀j:Nat,j<=S.length->j<=C.length->((ownT C k j).filter (hvT S)).length=cntH (S.take j) (C.take j) k
  |0,_,_=>by simp[ownT,cntH]
  | j + 1, h1, h2 => by
    have ih:=count_is S C k j (by omega) (by omega)
    have e1:S[j]? =some S[j]:=List.getElem?_eq_getElem (by omega)
    have e2:C[j]? =some C[j]:=List.getElem?_eq_getElem (by omega)
    rw[ownT_succ e2,cntH_snoc e1 e2,List.filter_append,List.length_append,ih];congr 1
    by_cases q:k∈C[j]
    · rw[if_pos q];cases hh:heavyS S[j]<;>simp[List.filter_cons,hvT_at e1,hh,q]
    · rw[if_neg q,if_neg (fun z=>q z.2)]
      rfl
theorem light_is(S:List Shp)(C:List (List Int))(k:Int): ∀j:Nat,j<=S.length->j<=C.length->shpsL S ((ownT C k j).filter (ltT S))=onL (S.take j) (C.take j) k
  |0,_,_=>by simp[ownT,onL,shpsL]
  | j + 1, h1, h2 => by
    have ih:=light_is S C k j (by omega) (by omega)
    have e1:S[j]? =some S[j]:=List.getElem?_eq_getElem (by omega)
    have e2:C[j]? =some C[j]:=List.getElem?_eq_getElem (by omega)
    rw[ownT_succ e2,onL_snoc e1 e2,List.filter_append];unfold shpsL at ih⊢;rw[List.filterMap_append,ih];congr 1
    by_cases q:k∈C[j]
    · rw[if_pos q]
      by_cases hh:LightS S[j]<;>simp[List.filter_cons,ltT_at e1,hh,q,List.filterMap_cons,e1]
    · rw[if_neg q,if_neg (fun z=>q z.2)]
      rfl
theorem light_len(S:List Shp)(C:List (List Int))(k:Int)(j:Nat)(h:j<=S.length):(shpsL S ((ownT C k j).filter (ltT S))).length=((ownT C k j).filter (ltT S)).length:=by
  unfold shpsL;refine Eq.trans (b:=(((ownT C k j).filter (ltT S)).map fun i=>i).length) ?_ (by simp)
  have: ∀l:List Nat,(∀i∈l,i<S.length)->(l.filterMap fun i=>S[i]?).length=(l.map fun i=>i).length:=by
    intro l
    induction l with
    |nil=>intro _;rfl
    | cons i l ih =>
      intro hl;rw[List.filterMap_cons,List.getElem?_eq_getElem (hl i (by simp))]
      simp[ih fun x hx=>hl x (List.mem_cons_of_mem _ hx)]
  exact this _ fun i hi=>by have:=ownT_lt (List.mem_filter.mp hi).1;omega
theorem firstH_none{S:List Shp}{l:List Nat}:firstH S l= -1↔(l.filter (hvT S)).length=0:=by
  unfold firstH;cases h:l.find? (hvT S)with
  | none =>
    have:=List.find?_eq_none.mp h
    have e:l.filter (hvT S)= []:=List.filter_eq_nil_iff.mpr this;simp[e]
  | some i =>
    have h1:=List.mem_of_find?_eq_some h
    have h2:=List.find?_some h
    have h3:i∈l.filter (hvT S):=List.mem_filter.mpr ⟨h1,h2⟩;have:=List.length_pos_of_mem h3;constructor
    · intro q;have q:(i:Int)= -1:=q;omega
    · intro q;omega
theorem own_count(S:List Shp)(C:List (List Int))(k:Int)(hS: ∀s∈S,s.Ok):(owns S C k).length=cntH S C k+(onL S C k).length:=by
  have h1:=count_is S C k (min S.length C.length) (Nat.min_le_left ..) (Nat.min_le_right ..);have h2:=light_is S C k (min S.length C.length) (Nat.min_le_left ..) (Nat.min_le_right ..);rw[cntH_min]at h1;rw[onL_min]at h2;rw[<-h1,<-h2,light_len _ _ _ _ (Nat.min_le_left ..)];have hlt: ∀i∈owns S C k,i<S.length:=fun i hi=>by have:=ownT_lt hi;omega
  unfold owns at hlt⊢;generalize ownT C k (min S.length C.length)=l at hlt;clear h1 h2
  induction l with
  |nil=>rfl
  | cons i l ih =>
    have hi:=hlt i (by simp)
    have ih:=ih fun x hx=>hlt x (List.mem_cons_of_mem _ hx)
    have e1:S[i]? =some S[i]:=List.getElem?_eq_getElem hi
    have hO:=hS _ (List.getElem_mem hi);simp only[List.filter_cons,hvT_at e1,ltT_at e1]
    by_cases hd:S[i].d<S[i].t
    · have a1:heavyS S[i]=true:=decide_eq_true ⟨hO,hd⟩;have a2:decide (LightS S[i])=false:=decide_eq_false fun q=>by have:=q.2;omega
      simp only[a1,a2,if_true,List.length_cons,ih,Bool.false_eq_true,if_false];omega
    · have a1:heavyS S[i]=false:=decide_eq_false fun q=>hd q.2
      have a2:decide (LightS S[i])=true:=decide_eq_true ⟨hO,by omega⟩
      simp only[a1,a2,if_true,List.length_cons,ih,Bool.false_eq_true,if_false];omega
theorem enough_iff{S:List Shp}{C:List (List Int)}{k:Int}(hS: ∀s∈S,s.Ok):EnoughQ S C k↔(heavyQ S C k≠ -1/\(owns S C k).length=1)\/(heavyQ S C k= -1/\FitE (shpsL S (lightQ S C k))):=by
 have h0:=own_count S C k hS;have h1:=count_is S C k (min S.length C.length) (Nat.min_le_left ..) (Nat.min_le_right ..);have h2:=light_is S C k (min S.length C.length) (Nat.min_le_left ..) (Nat.min_le_right ..);rw[cntH_min]at h1;rw[onL_min]at h2;have h3:heavyQ S C k= -1↔cntH S C k=0:=by
  unfold heavyQ;rw[firstH_none,<-h1];rfl
 have h4:shpsL S (lightQ S C k)=onL S C k:=h2;rw[h4];unfold EnoughQ;constructor
 ·rintro ⟨a,b,c⟩
  by_cases q:cntH S C k=0
  ·exact .inr ⟨h3.mpr q,c⟩
  ·refine .inl ⟨fun z => q (h3.mp z),?_⟩
   have:cntH S C k=1:=by omega
   rw[h0,b this,this];rfl
 ·rintro (⟨a,b⟩ | ⟨a,b⟩)
  ·have q: cntH S C k ≠ 0:=fun z => a (h3.mpr z)
   rw[h0]at b;have e:(onL S C k).length=0:=by omega
   have e2:onL S C k= []:=List.eq_nil_of_length_eq_zero e;refine⟨by omega,fun _=>e2,?_⟩
   rw[e2];exact fit_nil
  ·have q:=h3.mp a
   exact⟨by omega,fun z=>by omega,b⟩
end Go.Proofs.YtlfekmbalgkmeaaGreatDoor
