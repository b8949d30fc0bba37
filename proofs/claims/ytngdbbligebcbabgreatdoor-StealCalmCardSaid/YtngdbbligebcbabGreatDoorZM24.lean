import Derived.Test.YtngdbbligebcbabGreatDoorZM15
import Derived.Test.YtngdbbligebcbabGreatDoorZM11
import Derived.Test.YtngdbbligebcbabGreatDoorZM23
import Derived.Test.YtngdbbligebcbabGreatDoorZM17
import Derived.Test.YtngdbbligebcbabGreatDoorZM22
import Derived.BigQuiet
import Derived.Test.YtngdbbligebcbabGreatDoorZM7
set_option linter.unusedSimpArgs false
set_option linter.unusedVariables false
set_option maxRecDepth 100000
set_option maxHeartbeats 4000000
namespace Go.Proofs.YtngdbbligebcbabGreatDoor
open Go Go.RowKit
section
variable {P: Program} {ops: Array Oper} {Q: Exit -> Act -> World -> Prop}
theorem wp_region_stored3(p:Nat)(ds S:List Nat)(base q1 q2:Nat){id:Nat}{a0:Act}{w0:World}(hm:P.follows .mixedOrders=true)(hG:storedB ops p ds S=true)(hsz: ∀d∈ds,d<a0.tmps.size\/1000<=d)
    (I:World->Prop) (Φ:Nat->Value->World->Prop) (Θ:(Nat->Value)->World->Prop) (Ψ:Value->Value->World->Prop)
    (hq:q1≠q2/\q1≠p/\q2≠p/\q1∉S/\q2∉S/\q1<ds.length/\q2<ds.length) (hqe: ∀o,ops[q2]? =some o-> ∃e∈o.after,e.on=q1/\Region.binds .any e=true)
    (hΨ: ∀u v w w',Ψ u v w->Below w.heap.size w w'->Ψ u v w')
    (hI: ∀w w',I w->Below w.heap.size w w'->I w') (hΦ: ∀k v w w',Φ k v w->Below w.heap.size w w'->Φ k v w')
    (h0:I {w0 with drawn:=w0.drawn+1})
    (hstep: ∀(k:Nat) (o:Oper),k≠p->k∉S->ops[k]? =some o-> ∀(a:Act) (w:World),I w->AtDoor a0 ds a.eval->(∀e∈o.after,Region.binds .any e=true->Φ e.on (a.eval (.tmp (ds.getD e.on 0))) w)->(∀e∈o.after,Region.binds .any e=true->e.on=q2->Ψ (a.eval (.tmp (ds.getD q1 0))) (a.eval (.tmp (ds.getD q2 0))) w)->
      ∀K:Act->World->Prop,(∀v w',Φ k v w'->Below w.heap.size w w'->(k=q2->Ψ (a.eval (.tmp (ds.getD q1 0))) v w')->K (a.put o.dst v) w')->o.wp P a w K Q)
    (hside: ∀(k:Nat) (o:Oper),k∈S->ops[k]? =some o-> ∀(ρ:Operand->Value) (w:World),base<=w.heap.size->AtDoor a0 ds ρ->(∀e∈o.after,Region.binds .any e=true->e.on≠p-> ∃w1,Φ e.on (ρ (.tmp (ds.getD e.on 0))) w1/\(e.on∈S->w1=w))->
      ∃v w',(execOp ρ o).run P w= .ok (.value v) w'/\Φ k v w'/\Below w.heap.size w w')
    (hstore: ∀(o:Oper),ops[p]? =some o-> ∀(a:Act) (w:World),I w->AtDoor a0 ds a.eval->(∀k,k<ds.length->k≠p->k∉S->Φ k (a.eval (.tmp (ds.getD k 0))) w)->Ψ (a.eval (.tmp (ds.getD q1 0))) (a.eval (.tmp (ds.getD q2 0))) w->
      ∀K:Act->World->Prop,(∀w',Θ (fun t=>a.eval (.tmp t)) w'->base<=w'.heap.size->(∀k,k∈S-> ∀v,Φ k v w->Φ k v w')->K a w')->o.wp P a w K Q)
    (hΘ: ∀(f g:Nat->Value) w,(∀k,k<ds.length->k≠p->k∉S->f (ds.getD k 0)=g (ds.getD k 0))->Θ f w->Θ g w)
    (hΘb: ∀(f:Nat->Value) w w',Θ f w->Below w.heap.size w w'->Θ f w') (hbase:base<=w0.heap.size)
    (hend: ∀(vals:Nat->Value) (w:World),Θ vals w->(∀k,k<ds.length->k≠p-> ∃w',Φ k (vals (ds.getD k 0)) w'/\(k∈S->w'=w))->Q .normal ⟨(fillA a0 ds vals).toArray,a0.defers⟩ w):
    (Code.region id ops true).wp P Q a0 w0:=by
  have G:=stored_of hG;refine wp_region_inv (fun l a w=>l.size=ds.length/\AtDoor a0 ds a.eval/\a.tmps.size=a0.tmps.size/\a.defers=a0.defers/\
    (∀(i:Nat) (o:Oper),l.getD i false=true->ops[i]? =some o-> ∀e∈o.after,Region.binds .any e=true->l.getD e.on false=true)/\
    base<=w.heap.size/\
    ((l.getD p false = false /\ I w /\ (l.getD q2 false = true -> Ψ (a.eval (.tmp (ds.getD q1 0))) (a.eval (.tmp (ds.getD q2 0))) w) /\ ∀ k, k < ds.length -> k ≠ p -> l.getD k false = true -> Φ k (a.eval (.tmp (ds.getD k 0))) w) \/
     (l.getD p false=true/\Θ (fun t=>a.eval (.tmp t)) w/\ ∀k,k<ds.length->k≠p->l.getD k false=true-> ∃w',Φ k (a.eval (.tmp (ds.getD k 0))) w'/\(k∈S->w'=w)))) hm ?_ ?_ ?_
  · have hno: ∀k,¬(Array.replicate ops.size false).getD k false=true:=fun k h=>by
      by_cases h2:k<ops.size<;>simp[h2]at h
    refine⟨by rw[Array.size_replicate];exact G.size,atDoor_start a0 ds,rfl,rfl,fun k o h=>absurd h (hno k),hbase, .inl ⟨?_,h0,fun h=>absurd h (hno q2),fun k hk hkp h=>absurd h (hno k)⟩⟩
    cases h:(Array.replicate ops.size false).getD p false with
    |false=>rfl
    |true=>exact absurd h (hno p)
  · rintro l a w i ⟨hls,hAD,hasz,hadf,hcl,hbw,hV⟩ hi;obtain⟨hun,o,ho,hpre⟩:=mem_ready.1 hi;have hilt:i<ops.size:=(Array.getElem?_eq_some_iff.1 ho).1
    have hin:i<ds.length:=by rw[<-G.size];exact hilt
    have hil:i<l.size:=by omega
    have hun2:l.getD i false=false:=by
      cases h:l.getD i false with
      |false=>rfl
      |true=>simp[hil]at h hun;rw[h]at hun;cases hun
    have hcl2: ∀(k:Nat) (o':Oper),(l.setIfInBounds i true).getD k false=true->ops[k]? =some o'-> ∀e∈o'.after,Region.binds .any e=true->(l.setIfInBounds i true).getD e.on false=true:=fun k o' hk ho' e he hb=>by
      refine(getD_set_iff hil).mpr (.inr ?_)
      rcases listed_set hk with h|h
      · subst h;rw[ho]at ho';obtain rfl:=Option.some.inj ho';exact hpre e he hb
      · exact hcl k o' h ho' e he hb
    have hls2:(l.setIfInBounds i true).size=ds.length:=by rw[Array.size_setIfInBounds];exact hls
    refine wpOp_at ho (G.guard i o ho) ?_
    by_cases hip:i=p
    · subst hip;rcases hV with⟨hnl,hIw,hPs,hF⟩|⟨hnl,_⟩
      · have hall: ∀k,k<ds.length->k≠i->k∉S->l.getD k false=true:=fun k hk hkp hkS=>waits_done hcl 12 i k (G.last k hk hkp hkS) (fun o' ho' e he hb=>by
          rw[ho]at ho';obtain rfl:=Option.some.inj ho';exact hpre e he hb)
        refine hstore o ho a w hIw hAD (fun k hk hkp hkS=>hF k hk hkp (hall k hk hkp hkS)) (hPs (hall q2 hq.2.2.2.2.2.2 hq.2.2.1 hq.2.2.2.2.1)) _ fun w' hT hbw' hkeep=> ?_
        refine⟨hls2,hAD,hasz,hadf,hcl2,hbw', .inr ⟨(getD_set_iff hil).mpr (.inl rfl),hT,fun k hk hkp hkl=> ?_⟩⟩
        have hf:=hF k hk hkp ((listed_set hkl).resolve_left hkp)
        by_cases hkS:k∈S
        · exact⟨w',hkeep k hkS _ hf,fun _=>rfl⟩
        · exact⟨w,hf,fun h=>absurd h hkS⟩
      · rw[hun2]at hnl;cases hnl
    · obtain⟨hd,hdl⟩:=G.dst i o hip ho;have hdm:=fds_mem hin;have hdz:ds.getD i 0<a.tmps.size:=by
        rcases hsz _ hdm with h|h
        · rw[hasz];exact h
        · omega
      have hpl: ∀b,l.getD p false=b->(l.setIfInBounds i true).getD p false=b:=fun b hb=>by
        cases h:(l.setIfInBounds i true).getD p false with
        | true =>
          rcases listed_set h with h2|h2
          · exact absurd h2.symm hip
          · rw[<-hb,h2]
        | false =>
          cases b with
          |false=>rfl
          | true =>
            have:=(getD_set_iff (k:=p) hil).mpr (.inr hb);rw[h]at this;cases this
      have hsz2: ∀v,(a.put (some (ds.getD i 0)) v).tmps.size=a0.tmps.size:=fun v=>by
        show(a.tmps.setIfInBounds _ _).size=_
        rw[Array.size_setIfInBounds];exact hasz
      rcases hV with⟨hnl,hIw,hPs,hF⟩|⟨hnl,hT,hF⟩
      · have hdep: ∀e∈o.after,Region.binds .any e=true->Φ e.on (a.eval (.tmp (ds.getD e.on 0))) w:=fun e he hb=>hF e.on (Nat.lt_trans (G.back i o ho e he hb) hin) (fun h=>by
          have:=hpre e he hb;rw[h,hnl]at this;cases this) (hpre e he hb)
        have hnext: ∀v w',Φ i v w'->Below w.heap.size w w'->(i=q2->Ψ (a.eval (.tmp (ds.getD q1 0))) v w')->(l.setIfInBounds i true).size=ds.length/\AtDoor a0 ds (a.put (some (ds.getD i 0)) v).eval/\(a.put (some (ds.getD i 0)) v).tmps.size=a0.tmps.size/\(a.put (some (ds.getD i 0)) v).defers=a0.defers/\
            (∀(k:Nat) (o':Oper),(l.setIfInBounds i true).getD k false=true->ops[k]? =some o'-> ∀e∈o'.after,Region.binds .any e=true->(l.setIfInBounds i true).getD e.on false=true)/\base<=w'.heap.size/\
            (((l.setIfInBounds i true).getD p false = false /\ I w' /\ ((l.setIfInBounds i true).getD q2 false = true -> Ψ ((a.put (some (ds.getD i 0)) v).eval (.tmp (ds.getD q1 0))) ((a.put (some (ds.getD i 0)) v).eval (.tmp (ds.getD q2 0))) w') /\ ∀ k, k < ds.length -> k ≠ p -> (l.setIfInBounds i true).getD k false = true -> Φ k ((a.put (some (ds.getD i 0)) v).eval (.tmp (ds.getD k 0))) w') \/
             ((l.setIfInBounds i true).getD p false=true/\Θ (fun t=>(a.put (some (ds.getD i 0)) v).eval (.tmp t)) w'/\ ∀k,k<ds.length->k≠p->(l.setIfInBounds i true).getD k false=true-> ∃w'',Φ k ((a.put (some (ds.getD i 0)) v).eval (.tmp (ds.getD k 0))) w''/\(k∈S->w''=w'))):=fun v w' hphi hb hps2=>by
          refine⟨hls2,hAD.put hdm v,hsz2 v,hadf,hcl2,Nat.le_trans hbw hb.size, .inl ⟨hpl _ hnl,hI w w' hIw hb,fun hq2l=> ?_,fun k hk hkp hkl=> ?_⟩⟩
          · by_cases hi2:i=q2
            · subst hi2;rw[eval_put_same _ _ _ hdz,eval_put_other _ _ _ _ (fun e=>hq.1 (fds_inj G.nodup hq.2.2.2.2.2.1 hin e))]
              exact hps2 rfl
            · have h2l:=(listed_set hq2l).resolve_left (fun e=>hi2 e.symm)
              have h1l:l.getD q1 false=true:=by
                obtain⟨oq,hoq⟩: ∃oq,ops[q2]? =some oq:=⟨_,Array.getElem?_eq_getElem (by rw[G.size];exact hq.2.2.2.2.2.2)⟩
                obtain⟨e,he,e1,e2⟩:=hqe oq hoq;have:=hcl q2 oq h2l hoq e he e2
                rwa [e1]at this
              have hi1:i≠q1:=fun e=>by
                subst e;rw[hun2]at h1l;cases h1l
              rw[eval_put_other _ _ _ _ (fun e=>hi1 (fds_inj G.nodup hin hq.2.2.2.2.2.1 e.symm)),eval_put_other _ _ _ _ (fun e=>hi2 (fds_inj G.nodup hin hq.2.2.2.2.2.2 e.symm))]
              exact hΨ _ _ _ _ (hPs h2l) hb
          by_cases hki:k=i
          · subst hki;rw[eval_put_same _ _ _ hdz];exact hphi
          · rw[eval_put_other _ _ _ _ (fun e=>hki (fds_inj G.nodup hk hin e))]
            exact hΦ k _ _ _ (hF k hk hkp ((listed_set hkl).resolve_left hki)) hb
        by_cases hiS:i∈S
        · obtain⟨v,w',hr,hphi,hbel⟩:=hside i o hiS ho a.eval w hbw hAD (fun e he hb _=>⟨w,hdep e he hb,fun _=>rfl⟩)
          unfold Oper.wp;rw[hr,Oper.upon_value,hd];exact hnext v w' hphi hbel (fun e=>absurd (e▸hiS) hq.2.2.2.2.1)
        · refine hstep i o hip hiS ho a w hIw hAD hdep (fun e he hb eq=>hPs (by have:=hpre e he hb;rwa [eq]at this)) _ fun v w' hphi hb hps2=> ?_
          rw[hd];exact hnext v w' hphi hb hps2
      · have hall: ∀k,k<ds.length->k≠p->k∉S->l.getD k false=true:=fun k hk hkp hkS=>by
          obtain⟨op,hop⟩: ∃op,ops[p]? =some op:=⟨_,Array.getElem?_eq_getElem (by rw[G.size];exact G.lt)⟩
          exact waits_done hcl 12 p k (G.last k hk hkp hkS) (fun o' ho' e he hb=>hcl p o' hnl ho' e he hb)
        have hiS:i∈S:=Classical.byContradiction fun h=>by
          have:=hall i hin hip h;rw[hun2]at this;cases this
        obtain⟨v,w',hr,hphi,hbel⟩:=hside i o hiS ho a.eval w hbw hAD (fun e he hb hep=>by
          have he2:=hpre e he hb;have hlt:=Nat.lt_trans (G.back i o ho e he hb) hin;exact hF e.on hlt hep he2)
        unfold Oper.wp;rw[hr,Oper.upon_value,hd];refine⟨hls2,hAD.put hdm v,hsz2 v,hadf,hcl2,Nat.le_trans hbw hbel.size, .inr ⟨hpl _ hnl,?_,fun k hk hkp hkl=> ?_⟩⟩
        · refine hΘb _ w w' (hΘ _ _ w (fun k hk hkp hkS=> ?_) hT) hbel
          exact(eval_put_other _ _ _ _ (fun e=>hkS (by rw[fds_inj G.nodup hk hin e];exact hiS))).symm
        · by_cases hki:k=i
          · subst hki;rw[eval_put_same _ _ _ hdz];exact⟨w',hphi,fun _=>rfl⟩
          · rw[eval_put_other _ _ _ _ (fun e=>hki (fds_inj G.nodup hk hin e))]
            obtain⟨w1,h1,h2⟩:=hF k hk hkp ((listed_set hkl).resolve_left hki)
            by_cases hkS:k∈S
            · obtain rfl:=h2 hkS;exact⟨w',hΦ k _ _ _ h1 hbel,fun _=>rfl⟩
            · exact⟨w1,h1,fun h=>absurd h hkS⟩
  · rintro l a w ⟨hls,hAD,hasz,hadf,hcl,hbw,hV⟩ hr;have hall:=all_listed' (by rw[hls,G.size]) G.back hr
    have hp:=hall p (by rw[G.size];exact G.lt)
    rcases hV with⟨hnl,_⟩|⟨_,hT,hF⟩
    · rw[hp]at hnl;cases hnl
    · rw[act_fill hAD hasz hadf];exact hend (fun t=>a.eval (.tmp t)) w hT fun k hk hkp=>hF k hk hkp (hall k (by rw[G.size];exact hk))
end
def ApartV(u v:Value):Prop:=∀ b,u.ownBlock=some b->v.ownBlock≠some b
theorem OwnI.blockLt{w:World}{base:Nat}{v:Value}{zs:List Int}(h:OwnI w base v zs): ∀b,v.ownBlock=some b->base<=b/\b<w.heap.size:=by
 intro b hb;rcases h.2 with⟨rfl,_⟩|⟨g,cap,cur,rfl,hg,hgg,_⟩
 ·simp[Value.ownBlock]at hb
 ·obtain rfl: g = b:=by simpa [Value.ownBlock] using hb
  exact⟨hg,(Array.getElem?_eq_some_iff.1 hgg).1⟩
section
variable {P: Program} {Q: Exit -> Act -> World -> Prop}
end
def GNc(hb:Nat)(v:Value)(w:World):Prop:=∃ g,v= .pointer (some ⟨g,0,none⟩)/\hb<=g/\w.heap[g]? =some (.cells #[.slice none 0 0,.slice none 0 0] 37 (0,0))
theorem GNc.below{hb:Nat}{v:Value}{w w':World}(h:GNc hb v w)(hb':Below w.heap.size w w'):GNc hb v w':=by
 obtain⟨g,h1,h2,h3⟩:=h;exact⟨g,h1,h2,by rw[hb'.block _ (Array.getElem?_eq_some_iff.1 h3).1];exact h3⟩
def GBc(hb:Nat)(n m:Nat)(O L:List Int)(v:Value)(w:World):Prop:=∃ A1 c1 F1 d1,v= .agg #[.slice A1 n c1,.slice F1 m d1]/\OwnI w hb (.slice A1 n c1) O/\OwnI w hb (.slice F1 m d1) L/\(0<m->ApartV (.slice A1 n c1) (.slice F1 m d1))
theorem GBc.below{hb n m:Nat}{O L:List Int}{v:Value}{w w':World}(h:GBc hb n m O L v w)(hb':Below w.heap.size w w'):GBc hb n m O L v w':=by
 obtain⟨A1,c1,F1,d1,h1,h2,h3,h4⟩:=h;exact⟨A1,c1,F1,d1,h1,own_below h2 hb',own_below h3 hb',h4⟩
structure StC(hb g gO:Nat)(FL:Option Addr)(n m cO cL:Nat)(O L:List Int)(w:World):Prop where
 x:w.heap[g]? =some (.cells #[.slice (some ⟨gO,0,none⟩) n cO,.slice FL m cL] 37 (0,0))
 rO:OwnI w hb (.slice (some ⟨gO,0,none⟩) n cO) O
 rL:OwnI w hb (.slice FL m cL) L
 ne:0<m-> ∃gL,FL=some ⟨gL,0,none⟩/\gO≠gL
section
variable {hb g gO: Nat} {FL: Option Addr} {n m cO cL: Nat} {O L: List Int} {w w': World}
theorem StC.next(h:StC hb g gO FL n m cO cL O L w)(hb':Below w.heap.size w w'):StC hb g gO FL n m cO cL O L w':=
 ⟨by rw[hb'.block _ (Array.getElem?_eq_some_iff.1 h.x).1];exact h.x,own_below h.rO hb',own_below h.rL hb',h.ne⟩
theorem StC.x0(h:StC hb g gO FL n m cO cL O L w):w.cell? ⟨g,0,none⟩=some (.slice (some ⟨gO,0,none⟩) n cO):=by rw[cell_of_row _ _ _ _ _ _ h.x];rfl
theorem StC.x1(h:StC hb g gO FL n m cO cL O L w):w.cell? ⟨g,1,none⟩=some (.slice FL m cL):=by rw[cell_of_row _ _ _ _ _ _ h.x];rfl
theorem StC.blocks(h:StC hb g gO FL n m cO cL O L w):g≠gO/\ ∀gL,FL=some ⟨gL,0,none⟩->g≠gL:=by
 obtain⟨cur,h1,_⟩:=h.rO.blockC;constructor
 ·rintro rfl
  have:=h.x;rw[h1]at this;injection this with this;injection this with _ h3 _;exact absurd h3 (by decide)
 ·rintro gL rfl rfl
  obtain⟨cur2,h2,_⟩:=h.rL.blockC;have:=h.x;rw[h2]at this;injection this with this;injection this with _ h3 _;exact absurd h3 (by decide)
theorem StC.isC(h:StC hb g gO FL n m cO cL O L w)(l1:n<=400)(l2:m<=400):IsC w (some ⟨gO,0,none⟩) n cO FL m cL O L:=
 own_isC h.rO h.rL h.rO.len_eq h.rL.len_eq l1 l2
end
def ThC(wd:World)(slot n m:Nat)(O L:List Int)(f:Nat->Value)(w:World):Prop:=∃ g gO FL cO cL,f slot= .pointer (some ⟨g,0,none⟩)/\Below wd.heap.size wd w/\wd.heap.size<=g/\StC wd.heap.size g gO FL n m cO cL O L w
theorem ThC.slot{wd w:World}{slot n m:Nat}{O L:List Int}{f f':Nat->Value}(h:ThC wd slot n m O L f w)(e:f slot=f' slot):ThC wd slot n m O L f' w:=by
 obtain⟨g,gO,gL,cO,cL,h1,h2⟩:=h;exact⟨g,gO,gL,cO,cL,e▸h1,h2⟩
theorem ThC.below{wd w w':World}{slot n m:Nat}{O L:List Int}{f:Nat->Value}(h:ThC wd slot n m O L f w)(hb:Below w.heap.size w w'):ThC wd slot n m O L f w':=by
 obtain⟨g,gO,gL,cO,cL,h1,h2,h3,h4⟩:=h;exact⟨g,gO,gL,cO,cL,h1,h2.trans (hb.mono h2.size),h3,h4.next hb⟩
theorem stC{o:Oper}{a:Act}{w wd:World}{K:Act->World->Prop}{Q:Exit->Act->World->Prop}{slot n m:Nat}{s y:Operand}{O L:List Int}(hop:o.op= .store 37 s y)(hdst:o.dst=none)
  (hs:a.eval s=a.eval (.tmp slot)) (h9:GNc wd.heap.size (a.eval (.tmp slot)) w) (h7:GBc wd.heap.size n m O L (a.eval y) w) (hn:0<n) (hb:Below wd.heap.size wd w) (hK: ∀w',ThC wd slot n m O L (fun t=>a.eval (.tmp t)) w'->wd.heap.size<=w'.heap.size->(∀v,NewR 3 w wd.heap.size v->NewR 3 w' wd.heap.size v)->K a w'):o.wp Tryz.prog a w K Q:=by
 obtain⟨g,q9,hg1,hg2⟩:=h9;obtain⟨A1,c1,F1,d1,q7,hO,hL,hap⟩:=h7;obtain⟨bO,rfl⟩: ∃b,A1=some ⟨b,0,none⟩:=by
  rcases hO.2 with⟨e,h0⟩|⟨b,cap,cur,e,_⟩
  ·injection e with _ e2 _;omega
  ·injection e with e1 _ _;exact⟨b,e1⟩
 have hne:0<m-> ∃gL,F1=some ⟨gL,0,none⟩/\bO≠gL:=fun hm=>by
  obtain⟨bL,rfl⟩: ∃b,F1=some ⟨b,0,none⟩:=by
   rcases hL.2 with⟨e,h0⟩|⟨b,cap,cur,e,_⟩
   ·injection e with _ e2 _;omega
   ·injection e with e1 _ _;exact⟨b,e1⟩
  exact⟨bL,rfl,fun e=>hap hm bO rfl (by rw[e];rfl)⟩
 have hoth:=other_setC w g (.slice (some ⟨bO,0,none⟩) n c1) (.slice F1 m d1);refine ox_storeC (g:=g) (u:=.slice (some ⟨bO,0,none⟩) n c1) (v:=.slice F1 m d1) hop hdst (hs.trans q9) q7 ⟨_,_,_,_,_,_,rfl,rfl⟩ hg2 (hK _ ⟨g,bO,F1,c1,d1,q9,hb.trans (below_setC hg1 _ _),hg1,row_setC hg2 _ _,other_ownC hO hg2 (by decide) hoth,other_ownC hL hg2 (by decide) hoth,hne⟩ (by rw[size_setC];exact hb.size) ?_)
 rintro v ⟨gn,e,hgn,hbn⟩;refine⟨gn,e,?_,hbn⟩
 rw[hoth gn (fun e2=>by
  subst e2;rw[hg2]at hgn;injection hgn with hgn;injection hgn with _ h3 _;exact absurd h3 (by decide))]
 exact hgn
end Go.Proofs.YtngdbbligebcbabGreatDoor
namespace Go.Proofs.YtngdbbligebcbabGreatDoor
open Go.RowKit
section
variable {A: Option Addr} {n c: Nat} {F: Option Addr} {m d: Nat} {W: List Int} {E: List (Int × Int)} {N: Option Addr} {nn nc: Nat} {need: List Int} {T: Option Addr} {tn tc: Nat} {t: List (List Int)}
end
section
variable {A: Option Addr} {n c: Nat} {F: Option Addr} {m d: Nat} {W: List Int} {E: List (Int × Int)} {N: Option Addr} {nn nc: Nat} {need: List Int} {T: Option Addr} {tn tc: Nat} {t: List (List Int)}
end
section
variable {A: Option Addr} {n c: Nat} {F: Option Addr} {m d: Nat} {W: List Int} {E: List (Int × Int)} {A': Option Addr} {n' c': Nat} {F': Option Addr} {m' d': Nat} {O L: List Int}
theorem over_any(w:World)(x:Int)(hg:IsG w A n c F m d W E)(hk:IsC w A' n' c' F' m' d' O L)(hF:Fits W.length E)(hl:L.length=W.length):
  Calls Tryz.prog 47 #[.agg #[.slice A n c,.slice F m d],.agg #[.slice A' n' c',.slice F' m' d'],.int .i64 x] w fun e w'=>e= .returned (.bool (decide (OverC E L x)))/\Below w.heap.size w w':=by
 have B0:=Lib.hid (BxDC.start hg hk);obtain⟨r,hr⟩: ∃r,r=decide (OverC E L x):=⟨_,rfl⟩;rw[<-hr];have HR:Hid (r=true↔ ∀a∈predsL n E x,leftC L a<=0):=Lib.hid (by rw[hr,decide_eq_true_iff,<-hg.hn];exact(over_iff hF x).symm.trans ⟨fun h a ha=>by have:=h a ha;omega,fun h a ha=>by have:=h a ha;omega⟩)
 obtain⟨ps,hps⟩: ∃ps,ps=predsL n E x:=⟨_,rfl⟩;obtain⟨k,hk0⟩: ∃k,k=ps.length:=⟨_,rfl⟩;have HK:=Lib.hid hk0;have hk4:k<=n:=by rw[hk0,hps];exact predsL_length n E x
 have hn4:=hg.ln;have HPS:=Lib.hid hps;have HIN:Hid (∀a∈ps,∃q:Nat,a=q/\q<m'):=Lib.hid (fun a ha=>by
  rw[hps]at ha;obtain⟨q,h1,h2⟩:=predsL_in ha;exact⟨q,h1,by rw[<-hk.hm,hl,hg.hn];exact h2⟩)
 have CP:=Lib.hid (fun W' (h:IsG W' A n c F m d W E)=>preds_any A F n c m d E x W' (by have:=h.ln;omega) h.hm (by have:=h.lm;omega) h.pairs)
 rw[<-hps]at CP HR;have HM:=Lib.hid hk.hm;clear hg hk hr hps hk0;go_enter Tryz.func47,Tryz.ntmps47;go_wp2_with fail;refine(CP.out _ B0.out.g).mono ?_
 rintro e w1 ⟨A1,c1,rfl,hi,b1⟩;rw[<-HK.out];have B1:=Lib.hid (B0.out.next b1);have HI:=Lib.hid hi;clear hi b1 B0;have B2:=Lib.hid (And.intro B1.out HI.out);clear B1 HI;have q1:=B2.out.1.c1;go_wp2;go_loopw [8] (fun i wr=> ∃j:Nat,j<=k/\i= .int .i64 j/\Hid (∀a∈ps.take j,leftC L a<=0)/\Hid (BxDC w A n c F m d W E A' n' c' F' m' d' O L wr/\Ints wr wr.heap.size A1 ps)) (fun i _=>k - (intOf i).toNat)
 case atStart=>exact⟨0,Nat.zero_le _,rfl,Lib.hid (by simp),B2⟩
 case round=>
  obtain⟨j,hj,rfl,HO,HB⟩:=hrel;clear B2;have q1:=HB.out.1.c1
  by_cases hlt:j<k
  ·obtain ⟨bk,off,z,rfl,hbg,hz,d1⟩:=HB.out.2.at_ (k:=j) (by rw [<- HK.out]; exact hlt)
   have HZ:=Lib.hid hz;obtain⟨q,rfl,hq⟩:=HIN.out z (List.mem_of_getElem? hz)
   obtain⟨b2,off2,y,rfl,hbg2,hy,d2⟩:=HB.out.1.k.left.at_ (k:=q) (by rw[HM.out];exact hq)
   have HY:Hid (leftC L (q:Int)=y):=Lib.hid (by rw[leftC_nat,List.getD_eq_getElem?_getD,hy];rfl)
   clear hz hbg hbg2 hy
   by_cases h0:0<y
   ·obtain rfl: r = false:=by
     rw[<-Bool.not_eq_true,HR.out];intro h;have h1:=h _ (List.mem_of_getElem? HZ.out)
     rw[HY.out]at h1;omega
    go_wp2
    go_quiet (fail)
    go_wp2;go_ret
    exact⟨rfl,(HB.out.1.next (below_drewN (Below.refl _ _) _)).bel⟩
   ·have h0b: decide (0 < y) = false:=decide_eq_false h0
    have HO2:Hid (∀a∈ps.take (j+1),leftC L a<=0):=Lib.hid (fun a ha=>by
     rw[take_snoc' HZ.out,List.mem_append,List.mem_singleton]at ha;rcases ha with ha|rfl
     ·exact HO.out a ha
     ·rw[HY.out];omega)
    clear h0;go_wp2
    go_quiet (fail)
    go_wp2;go_roundw
    case rel=>exact⟨j+1,by omega,by go_num,HO2,Lib.hid ⟨HB.out.1.next (below_drewN (Below.refl _ _) _),(HB.out.2.below (below_drewN (Below.refl _ _) _)).more (by simp)⟩⟩
    case measure=>simp[intOf];omega
  ·obtain rfl: k = j:=by omega
   obtain rfl:r=true:=HR.out.mpr (fun a ha=>HO.out a (by rw[List.take_of_length_le (by rw[<-HK.out];exact Nat.le_refl _)];exact ha))
   go_wp2;go_ret
   exact⟨rfl,HB.out.1.bel⟩
end
end Go.Proofs.YtngdbbligebcbabGreatDoor
