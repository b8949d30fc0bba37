import Derived.Test.YtlfekmbalgkmeaaGreatDoorZM40
import Derived.Test.YtlfekmbalgkmeaaGreatDoorZM9
import Derived.Test.YtlfekmbalgkmeaaGreatDoorZM17
set_option linter.unusedSimpArgs false
set_option linter.unnecessarySimpa false
set_option linter.unusedVariables false
set_option maxRecDepth 100000
set_option maxHeartbeats 8000000
namespace Go.Proofs.YtlfekmbalgkmeaaGreatDoor
open Go.RowKit
structure BxBeg(w:World)(s:Sh)(T:Task)(a b c:Int)(w':World):Prop where
 bel:Below w.heap.size w w'
 cd:CellsD w' s T.period T.deadline w.heap.size
 row:w'.heap[w.heap.size+1]? =some (.cells #[.int .i64 a,.int .i64 b,.int .i64 c] 156 (0,0))
section
variable {w w1 w2: World} {s: Sh} {T: Task} {a b c: Int}
theorem BxBeg.next(h:BxBeg w s T a b c w1)(hb:Below w1.heap.size w1 w2):BxBeg w s T a b c w2:=⟨h.bel.trans (hb.mono h.bel.size),h.cd.next hb,by rw[hb.block _ (Array.getElem?_eq_some_iff.1 h.row).1];exact h.row⟩
theorem BxBeg.f1(h:BxBeg w s T a b c w1):w1.cell? ⟨w.heap.size+1,1,none⟩=some (.int .i64 b):=by rw[cell_of_row _ _ _ _ _ _ h.row];rfl
theorem BxBeg.f2(h:BxBeg w s T a b c w1):w1.cell? ⟨w.heap.size+1,2,none⟩=some (.int .i64 c):=by rw[cell_of_row _ _ _ _ _ _ h.row];rfl
theorem BxBeg.start{w:World}(hd:IsT w w.heap.size s T)(a b c:Int):BxBeg w s T a b c ((w.alloc (.cells #[.int .i64 T.period,.int .i64 T.deadline,.slice s.P s.np s.pc,.slice s.E s.ne s.ec,.slice s.F s.nf s.fc,.slice s.R s.nr s.rc] 57)).alloc (.cells #[.int .i64 a,.int .i64 b,.int .i64 c] 156)):=by
 have h1:=Bx1T.start hd;obtain⟨w0,hw0⟩: ∃w0,w0=w.alloc (.cells #[.int .i64 T.period,.int .i64 T.deadline,.slice s.P s.np s.pc,.slice s.E s.ne s.ec,.slice s.F s.nf s.fc,.slice s.R s.nr s.rc] 57):=⟨_,rfl⟩;rw[<-hw0]at h1⊢;have hs:w0.heap.size=w.heap.size+1:=by rw[hw0];simp
 have h2:=h1.next (below_alloc (w:=w0) (.cells #[.int .i64 a,.int .i64 b,.int .i64 c] 156));have h3:=heap_alloc_new w0 (.cells #[.int .i64 a,.int .i64 b,.int .i64 c] 156);rw[hs]at h3;exact⟨h2.bel,h2.c,h3⟩
end
section
variable {s: Sh} {T: Task}
theorem rbegin_any(w:World)(k:Nat)(hD:IsD w s T)(hM:MayT T)(hk:k<T.futures.length):
  Calls Tryz.prog 128 #[s.arg T.period T.deadline,.agg #[.int .i64 (futAt T.futures k).1,.int .i64 (futAt T.futures k).2.1,.int .i64 (futAt T.futures k).2.2]] w fun e w'=>e= .returned (.int .i64 (begN T.futures k:Int))/\Below w.heap.size w w':=by
 obtain⟨mN,uN,hf,hm,hu,_⟩:=fut_parts' hM hk;obtain⟨q,hq,hbe,htq⟩:=beg_at hM hk hf;obtain⟨Av,hAv⟩: ∃a,a=(futAt T.futures k).2.2:=⟨_,rfl⟩;rw[<-hAv]at hf⊢;rw[hf];simp only;have HS:=Lib.hid (BxBeg.start hD.t (mN:Int) (uN:Int) Av);have HD:=Lib.hid hD;have HISD:=Lib.hid (fun W (h:Below w.heap.size w W)=>HD.out.below h)
 have HFL:=Lib.hid hD.t.hf;have HQ:=Lib.hid htq;have HAV:=Lib.hid hAv;have HR:=Lib.hid (touL_rises7 (x:=(uN:Int)) hM.futures.once);have CF:=Lib.hid (fun W (h:IsD W s T)=>rfirst_any W uN h hM (Nat.le_of_lt hu))
 have hfs:=firN_small hM (j:=uN) (Nat.le_of_lt hu);obtain⟨f0,hf0⟩: ∃f,firN T.futures uN=f:=⟨_,rfl⟩;rw[hf0]at CF hfs hbe;obtain⟨bg,hbg⟩: ∃b,begN T.futures k=b:=⟨_,rfl⟩;rw[hbg]at hbe⊢;have hnt:(touL T.futures (uN:Int)).length<=400:=by have h1:=touK_len T.futures (uN:Int) 99;have h2:=hD.few.nf;unfold touL;omega
 obtain⟨nt,hntE⟩: ∃nt,nt=(touL T.futures (uN:Int)).length:=⟨_,rfl⟩;rw[<-hntE]at hnt hq;have HNT:=Lib.hid hntE;have C:=Lib.hid (fun W (h:IsD W s T)=>dtouches_any (P:=s.P) (np:=s.np) (pc:=s.pc) (E:=s.E) (ne:=s.ne) (ec:=s.ec) (F:=s.F) (nf:=s.nf) (fc:=s.fc) (R:=s.R) (nr:=s.nr) (rc:=s.rc) (p:=T.period) (q:=T.deadline) (uN:Int) T.futures W h.t.hf (by have h1:=h.t.hf;have h2:=h.few.nf;omega) h.t.futures)
 have hnf4:s.nf<=400:=by have h1:=hD.few.nf;have h2:=hD.t.hf;omega
 have hu4:uN<=400:=by have h1:=hD.few.np;omega
 obtain⟨P,np,pc,E,ne,ec,Fu,nf,fc,R,nr,rc⟩:=s;simp only at HS C HFL hnf4;obtain⟨w0,hw0⟩: ∃w0,w0=(w.alloc (.cells #[.int .i64 T.period,.int .i64 T.deadline,.slice P np pc,.slice E ne ec,.slice Fu nf fc,.slice R nr rc] 57)).alloc (.cells #[.int .i64 (mN:Int),.int .i64 (uN:Int),.int .i64 Av] 156):=⟨_,rfl⟩;rw[<-hw0]at HS;obtain⟨c0,c1,c2,c3,c4,c5⟩:=HS.out.cd;simp only at c2 c3 c4 c5;have r1:=HS.out.f1;have r2:=HS.out.f2;clear hD hM hk hf hm hu htq hAv hf0 hbg hntE;go_enter Tryz.func128,Tryz.ntmps128;go_wp2_with fail;rw[<-hw0];clear hw0;refine(C.out _ (HISD.out _ HS.out.bel)).mono ?_
 rintro e w2 ⟨A,c,rfl,hO,b2⟩;have B2:=Lib.hid (HS.out.next b2);have L2:=Lib.hid (OwnI.ints hO);rw[nums_length,<-HNT.out];clear hO b2 C HS c0 c1 c2 c3 c4 c5 r1 r2;go_wp2;go_loopw [6] (fun i wr=> ∃j:Nat,j<=q/\i= .int .i64 (j:Int)/\Hid (BxBeg w ⟨P,np,pc,E,ne,ec,Fu,nf,fc,R,nr,rc⟩ T (mN:Int) (uN:Int) Av wr/\Ints wr wr.heap.size A (nums (touL T.futures (uN:Int))))) (fun i _=>nt - (intOf i).toNat)
 case atStart=>exact⟨0,Nat.zero_le _,rfl,Lib.hid ⟨B2.out,L2.out⟩⟩
 case round=>
  obtain⟨j,hj,rfl,HB⟩:=hrel;clear B2 L2;have hlt:j<nt:=by omega
  obtain⟨c0,c1,c2,c3,c4,c5⟩:=HB.out.1.cd;simp only at c2 c3 c4 c5;have r1:=HB.out.1.f1;have r2:=HB.out.1.f2;obtain⟨k1,hk1⟩: ∃k1,(touL T.futures (uN:Int))[j]? =some k1:=⟨_,List.getElem?_eq_getElem (by rw[<-HNT.out];exact hlt)⟩
  have hkf:k1<nf:=by have:=touL_lt hk1;rw[HFL.out]at this;exact this
  obtain⟨gb,go,ez,eA,hgb,hez,hq2⟩:=HB.out.2.at_ (k:=j) (by rw[nums_length,<-HNT.out];exact hlt)
  obtain⟨k2,rfl,hk2⟩:=nums_atD hez;obtain rfl:k1=k2:=by rw[hk1]at hk2;exact Option.some.inj hk2
  subst eA;obtain⟨fb,fo,f1,f2,f3,hFe,hfb,hft,d1,d2,d3⟩:=(HISD.out _ HB.out.1.bel).t.futures.at_ (k:=k1) (by rw[HFL.out];exact hkf)
  simp only at hFe;subst hFe;have hfa:(futAt T.futures k1).2.2=f3:=by unfold futAt;rw[List.getD_eq_getElem?_getD,hft];rfl
  have HFA:=Lib.hid hfa;have HK1:=Lib.hid hk1
  by_cases hjq:j=q
  ·have he: (f3 == Av) = true:=by
    rw[hjq,HQ.out]at hk1;rw[<-hfa,<-Option.some.inj hk1,<-HAV.out];simp
   have hbe2:(f0:Int)+(j:Int)+1=(bg:Int):=by omega
   clear hjq hbe hj;clear hk1 hk2 hez hgb hfb hft hfa d1 d2;go_wp2
   go_quiet (fail)
   rename_i nq
   have hbd:Below wr.heap.size wr (wr.drewN nq):=below_drewN (Below.refl _ _) _;obtain⟨wd,hwd⟩: ∃wd,wd=wr.drewN nq:=⟨_,rfl⟩;rw[<-hwd]at hbd⊢;have HBd:=Lib.hid (HB.out.1.next hbd);clear hwd hbd c0 c1 c2 c3 c4 c5 r1 r2;obtain⟨c0,c1,c2,c3,c4,c5⟩:=HBd.out.cd;simp only at c2 c3 c4 c5;have r1:=HBd.out.f1;go_wp2_with fail;refine(CF.out _ (HISD.out _ HBd.out.bel)).mono ?_
   rintro e w4 ⟨rfl,b4⟩;have HB4:=Lib.hid (HBd.out.next b4);clear b4 c0 c1 c2 c3 c4 c5 r1;go_wp2;go_ret;exact⟨by first|rfl|rw[hbe2],HB4.out.bel⟩
  ·have he: (f3 == Av) = false:=by
    have h1:=List.pairwise_iff_getElem.mp HR.out j q (by rw[<-HNT.out];exact hlt) (by rw[<-HNT.out];exact hq) (by omega)
    rw[(List.getElem?_eq_some_iff.mp hk1).2,(List.getElem?_eq_some_iff.mp HQ.out).2,hfa,<-HAV.out]at h1
    simp
    omega
   have hjq':j+1<=q:=by omega
   clear hjq hbe;clear hk1 hk2 hez hgb hfb hft hfa d1 d2;go_wp2
   go_quiet (fail)
   rename_i nq
   have hbd:Below wr.heap.size wr (wr.drewN nq):=below_drewN (Below.refl _ _) _;obtain⟨wd,hwd⟩: ∃wd,wd=wr.drewN nq:=⟨_,rfl⟩;rw[<-hwd]at hbd⊢;have HBd:=Lib.hid (And.intro (HB.out.1.next hbd) ((HB.out.2.below hbd).more hbd.size));clear hwd hbd c0 c1 c2 c3 c4 c5 r1 r2;go_wp2;go_roundw
   case rel=>exact⟨j+1,by omega,by go_num,HBd⟩
   case measure=>simp[intOf];omega
end
end Go.Proofs.YtlfekmbalgkmeaaGreatDoor
namespace Go.Proofs.YtlfekmbalgkmeaaGreatDoor
open Go Go.RowKit
section
variable {P: Program} {ops: Array Oper} {Q: Exit -> Act -> World -> Prop}
def pushedB(ops:Array Oper)(ds:List Nat)(dp dl:Nat):Bool:=
 ops.size==ds.length+2&&(ops.toList.all fun o:Oper=>o.guard.isNone)&&backB' ops&&decide (ds++ [dp]).Nodup&& !(ds.contains dl)&& !(dl==dp)&&
 ((List.range ds.length).all fun k=>(match ops[k]? with|some o=>o.dst==some (ds.getD k 0)|none=>false))&&
 ((List.range ds.length).all fun k=>waitsB ops 12 ds.length k)&&
 (match ops[ds.length]? with|some o=>o.dst==some dp|none=>false)&&
 (match ops[ds.length+1]? with|some o=>o.dst==some dl&&(o.after.any fun e=>e.on==ds.length&&Region.binds .any e)|none=>false)
structure Pushed(ops:Array Oper)(ds:List Nat)(dp dl:Nat):Prop where
 size:ops.size=ds.length+2
 guard: ∀(k:Nat) (o:Oper),ops[k]? =some o->o.guard=none
 back: ∀(i:Nat) (o:Oper),ops[i]? =some o-> ∀e∈o.after,Region.binds .any e=true->e.on<i
 nodup:(ds++ [dp]).Nodup
 apart:dl∉ds/\dl≠dp
 dst: ∀(k:Nat) (o:Oper),k<ds.length->ops[k]? =some o->o.dst=some (ds.getD k 0)
 last: ∀k,k<ds.length->waitsB ops 12 ds.length k=true
 dstp: ∀(o:Oper),ops[ds.length]? =some o->o.dst=some dp
 dstl: ∀(o:Oper),ops[ds.length+1]? =some o->o.dst=some dl/\ ∃e∈o.after,e.on=ds.length/\Region.binds .any e=true
theorem pushed_of{ds:List Nat}{dp dl:Nat}(h:pushedB ops ds dp dl=true):Pushed ops ds dp dl:=by
 unfold pushedB at h;simp only[Bool.and_eq_true,beq_iff_eq,decide_eq_true_iff,Bool.not_eq_true']at h;obtain⟨⟨⟨⟨⟨⟨⟨⟨⟨h1,h2⟩,h3⟩,h4⟩,h5⟩,h6⟩,h7⟩,h8⟩,h9⟩,h10⟩:=h;refine⟨h1,fun k o ho=> ?_,back_of' h3,h4,⟨fun hm=> ?_,fun e=> ?_⟩,fun k o hk ho=> ?_,fun k hk=>List.all_eq_true.1 h8 k (List.mem_range.2 hk),fun o ho=> ?_,fun o ho=> ?_⟩
 ·have:=List.all_eq_true.1 h2 o (by rw [Array.mem_toList_iff]; exact Array.mem_of_getElem? ho)
  exact Option.isNone_iff_eq_none.1 this
 ·rw [List.contains_iff_mem.mpr hm] at h5
  cases h5
 ·rw [e] at h6
  simp at h6
 ·have:=List.all_eq_true.1 h7 k (List.mem_range.2 hk)
  rw[ho]at this
  simpa using this
 ·rw [ho] at h9
  simpa using h9
 ·rw [ho] at h10
  simp only[Bool.and_eq_true,beq_iff_eq]at h10;obtain⟨e,he,h8⟩:=Array.any_eq_true'.1 h10.2;rw[Bool.and_eq_true,beq_iff_eq]at h8;exact⟨h10.1,e,he,h8.1,h8.2⟩
theorem wp_region_pushed(ds:List Nat)(dp dl:Nat){id:Nat}{a0:Act}{w0:World}(hm:P.follows .mixedOrders=true)(hG:pushedB ops ds dp dl=true)(hsz: ∀d∈ds++ [dp,dl],d<a0.tmps.size)
    (hmv: ∃o,ops[ds.length+1]? =some o/\ ∀(ρ:Operand->Value) (w:World),(execOp ρ o).run P w= .ok (.value (ρ (.tmp dp))) w)
    (I:World->Prop) (Φ:Nat->Value->World->Prop) (Θ:Value->World->Prop)
    (hI: ∀w w',I w->Below w.heap.size w w'->I w') (hΦ: ∀k v w w',Φ k v w->Below w.heap.size w w'->Φ k v w')
    (h0:I {w0 with drawn:=w0.drawn+1})
    (hstep: ∀(k:Nat) (o:Oper),k<ds.length->ops[k]? =some o-> ∀(a:Act) (w:World),I w->AtDoor a0 (ds++ [dp]) a.eval->(∀e∈o.after,Region.binds .any e=true->Φ e.on (a.eval (.tmp (ds.getD e.on 0))) w)->
      ∀K:Act->World->Prop,(∀v w',Φ k v w'->Below w.heap.size w w'->K (a.put o.dst v) w')->o.wp P a w K Q)
    (hpush: ∀(o:Oper),ops[ds.length]? =some o-> ∀(ρ:Operand->Value) (w:World),I w->AtDoor a0 (ds++ [dp]) ρ->(∀k,k<ds.length->Φ k (ρ (.tmp (ds.getD k 0))) w)->
      ∃v w',(execOp ρ o).run P w= .ok (.value v) w'/\Θ v w')
    (hend: ∀(vals:Nat->Value) (w:World),Θ (vals dp) w->vals dl=vals dp->Q .normal ⟨(fillA a0 (ds++ [dp,dl]) vals).toArray,a0.defers⟩ w):
    (Code.region id ops true).wp P Q a0 w0:=by
  have G:=pushed_of hG;have hdpm:dp∉ds:=fun hm=>by
    have:=List.nodup_append.mp G.nodup;exact this.2.2 dp hm dp (by simp) rfl
  have hnd:ds.Nodup:=(List.nodup_append.mp G.nodup).1;refine wp_region_inv (fun l a w=>l.size=ds.length+2/\a.tmps.size=a0.tmps.size/\a.defers=a0.defers/\
    (∀(i:Nat) (o:Oper),l.getD i false=true->ops[i]? =some o-> ∀e∈o.after,Region.binds .any e=true->l.getD e.on false=true)/\
    ((l.getD ds.length false = false /\ l.getD (ds.length + 1) false = false /\ AtDoor a0 (ds ++ [dp]) a.eval /\ I w /\ ∀ k, k < ds.length -> l.getD k false = true -> Φ k (a.eval (.tmp (ds.getD k 0))) w) \/
     (l.getD ds.length false=true/\l.getD (ds.length+1) false=false/\AtDoor a0 (ds++ [dp]) a.eval/\Θ (a.eval (.tmp dp)) w)\/
     (l.getD ds.length false=true/\l.getD (ds.length+1) false=true/\AtDoor a0 (ds++ [dp,dl]) a.eval/\Θ (a.eval (.tmp dp)) w/\a.eval (.tmp dl)=a.eval (.tmp dp)))) hm ?_ ?_ ?_
  · have hno: ∀k,¬(Array.replicate ops.size false).getD k false=true:=fun k h=>by
      by_cases h2:k<ops.size<;>simp[h2]at h
    have hno2: ∀k,(Array.replicate ops.size false).getD k false=false:=fun k=>by
      cases h:(Array.replicate ops.size false).getD k false with
      |false=>rfl
      |true=>exact absurd h (hno k)
    exact⟨by rw[Array.size_replicate];exact G.size,rfl,rfl,fun k o h=>absurd h (hno k), .inl ⟨hno2 _,hno2 _,atDoor_start a0 _,h0,fun k hk h=>absurd h (hno k)⟩⟩
  · rintro l a w i ⟨hls,hasz,hadf,hcl,hV⟩ hi;obtain⟨hun,o,ho,hpre⟩:=mem_ready.1 hi;have hilt:i<ops.size:=(Array.getElem?_eq_some_iff.1 ho).1
    have hil:i<l.size:=by rw[hls,<-G.size];exact hilt
    have hun2:l.getD i false=false:=by
      cases h:l.getD i false with
      |false=>rfl
      |true=>simp[hil]at h hun;rw[h]at hun;cases hun
    have hcl2: ∀(k:Nat) (o':Oper),(l.setIfInBounds i true).getD k false=true->ops[k]? =some o'-> ∀e∈o'.after,Region.binds .any e=true->(l.setIfInBounds i true).getD e.on false=true:=fun k o' hk ho' e he hb=>by
      refine(getD_set_iff hil).mpr (.inr ?_)
      rcases listed_set hk with h|h
      · subst h;rw[ho]at ho';obtain rfl:=Option.some.inj ho';exact hpre e he hb
      · exact hcl k o' h ho' e he hb
    have hls2:(l.setIfInBounds i true).size=ds.length+2:=by rw[Array.size_setIfInBounds];exact hls
    have hpl: ∀j b,j≠i->l.getD j false=b->(l.setIfInBounds i true).getD j false=b:=fun j b hji hb=>by
      cases h:(l.setIfInBounds i true).getD j false with
      | true =>
        rcases listed_set h with h2|h2
        · exact absurd h2 hji
        · rw[<-hb,h2]
      | false =>
        cases b with
        |false=>rfl
        | true =>
          have:=(getD_set_iff (k:=j) hil).mpr (.inr hb);rw[h]at this;cases this
    have hset:(l.setIfInBounds i true).getD i false=true:=(getD_set_iff hil).mpr (.inl rfl);have hsz2: ∀d v,(a.put (some d) v).tmps.size=a0.tmps.size:=fun d v=>by
      show(a.tmps.setIfInBounds _ _).size=_
      rw[Array.size_setIfInBounds];exact hasz
    refine wpOp_at ho (G.guard i o ho) ?_
    rcases Nat.lt_or_ge i ds.length with hin|hge
    · -- one ahead
      have hd:=G.dst i o hin ho;have hdm:ds.getD i 0∈ds++ [dp]:=List.mem_append.mpr (.inl (fds_mem hin));have hdz:ds.getD i 0<a.tmps.size:=by rw[hasz];exact hsz _ (List.mem_append.mpr (.inl (fds_mem hin)))
      rcases hV with⟨hnl,hnl2,hAD,hIw,hF⟩|⟨hnl,_⟩|⟨hnl,_⟩
      · have hdep: ∀e∈o.after,Region.binds .any e=true->Φ e.on (a.eval (.tmp (ds.getD e.on 0))) w:=fun e he hb=>hF e.on (Nat.lt_trans (G.back i o ho e he hb) hin) (hpre e he hb)
        refine hstep i o hin ho a w hIw hAD hdep _ fun v w' hphi hb=> ?_
        rw[hd];refine⟨hls2,hsz2 _ v,hadf,hcl2, .inl ⟨hpl _ _ (by omega) hnl,hpl _ _ (by omega) hnl2,hAD.put hdm v,hI w w' hIw hb,fun k hk hkl=> ?_⟩⟩
        by_cases hki:k=i
        · subst hki;rw[eval_put_same _ _ _ hdz];exact hphi
        · rw[eval_put_other _ _ _ _ (fun e=>hki (fds_inj hnd hk hin e))]
          exact hΦ k _ _ _ (hF k hk ((listed_set hkl).resolve_left hki)) hb
      all_goals
        exfalso
        obtain⟨op,hop⟩: ∃op,ops[ds.length]? =some op:=⟨_,Array.getElem?_eq_getElem (by rw[G.size];omega)⟩
        have:=waits_done hcl 12 ds.length i (G.last i hin) (fun o' ho' e he hb=>hcl ds.length o' hnl ho' e he hb)
        rw[hun2]at this;cases this
    · have hi2:i=ds.length\/i=ds.length+1:=by have:=G.size;omega
      rcases hi2 with rfl|rfl
      · -- the one that grows
        have hd:=G.dstp o ho;have hdz:dp<a.tmps.size:=by rw[hasz];exact hsz _ (by simp)
        rcases hV with⟨hnl,hnl2,hAD,hIw,hF⟩|⟨hnl,_⟩|⟨hnl,_⟩
        · have hall: ∀k,k<ds.length->l.getD k false=true:=fun k hk=>waits_done hcl 12 ds.length k (G.last k hk) (fun o' ho' e he hb=>by
            rw[ho]at ho';obtain rfl:=Option.some.inj ho';exact hpre e he hb)
          obtain⟨v,w',hr,hT⟩:=hpush o ho a.eval w hIw hAD (fun k hk=>hF k hk (hall k hk))
          unfold Oper.wp;rw[hr,Oper.upon_value,hd];refine⟨hls2,hsz2 _ v,hadf,hcl2, .inr (.inl ⟨hset,hpl _ _ (by omega) hnl2,hAD.put (by simp) v,?_⟩)⟩
          rw[eval_put_same _ _ _ hdz];exact hT
        · rw[hun2]at hnl;cases hnl
        · rw[hun2]at hnl;cases hnl
      · -- the move
        obtain⟨hd,e,he,e1,e2⟩:=G.dstl o ho;have hp:=hpre e he e2;rw[e1]at hp;have hdz:dl<a.tmps.size:=by rw[hasz];exact hsz _ (by simp)
        obtain⟨o',ho',hrun⟩:=hmv;rw[ho]at ho';obtain rfl:=Option.some.inj ho';rcases hV with⟨hnl,_⟩|⟨hnl,hnl2,hAD,hT⟩|⟨_,hnl2,_⟩
        · rw[hp]at hnl;cases hnl
        · unfold Oper.wp;rw[hrun a.eval w,Oper.upon_value,hd];have hAD2:AtDoor a0 (ds++ [dp,dl]) a.eval:=⟨hAD.const,fun t ht=>hAD.tmp t fun hm=>ht (by
            rcases List.mem_append.mp hm with h|h
            · exact List.mem_append.mpr (.inl h)
            · simp at h;simp[h])⟩
          refine⟨hls2,hsz2 _ _,hadf,hcl2, .inr (.inr ⟨hpl _ _ (by omega) hnl,hset,hAD2.put (by simp) _,?_,?_⟩)⟩
          · rw[eval_put_other _ _ _ _ (fun h=>G.apart.2 h.symm)]
            exact hT
          · rw[eval_put_same _ _ _ hdz,eval_put_other _ _ _ _ (fun h=>G.apart.2 h.symm)]
        · rw[hun2]at hnl2;cases hnl2
  · rintro l a w ⟨hls,hasz,hadf,hcl,hV⟩ hr;have hall:=all_listed' (by rw[hls,G.size]) G.back hr
    have hp:=hall ds.length (by rw[G.size];omega)
    have hp1:=hall (ds.length+1) (by rw[G.size];omega)
    rcases hV with⟨hnl,_⟩|⟨_,hnl,_⟩|⟨_,_,hAD,hT,he⟩
    · rw[hp]at hnl;cases hnl
    · rw[hp1]at hnl;cases hnl
    · rw[act_fill hAD hasz hadf];exact hend (fun t=>a.eval (.tmp t)) w hT he
end
structure GrS(w:World)(s:Sh)(T:Task)(W:List Int)(E P:List (Int×Int))(vW vE vP vX:Value)(L:List Int)(w':World):Prop where
 q:BxQ w s T w'
 res:w'.heap[w.heap.size+1]? =some (.cells #[.slice none 0 0,.slice none 0 0,.slice none 0 0] 91 (0,0))
 out:w'.heap[w.heap.size+1+1]? =some (.cells #[vW,.slice none 0 0,vP] 91 (0,0))
 hW:OwnI w' w.heap.size vW W
 hE:OwnE w' w.heap.size vE E
 hP:OwnP w' w.heap.size vP P
 x:Side w' w.heap.size vW vX L
section
variable {w w1 w2: World} {s: Sh} {T: Task} {W: List Int} {E P: List (Int × Int)} {vW vE vP vX: Value} {L: List Int}
theorem GrS.next(h:GrS w s T W E P vW vE vP vX L w1)(hb:Below w1.heap.size w1 w2):GrS w s T W E P vW vE vP vX L w2:=
 ⟨h.q.next hb,by rw[hb.block _ (Array.getElem?_eq_some_iff.1 h.res).1];exact h.res,by rw[hb.block _ (Array.getElem?_eq_some_iff.1 h.out).1];exact h.out,own_below h.hW hb,own_below h.hE hb,own_below h.hP hb,h.x.below hb⟩
theorem GrS.size(h:GrS w s T W E P vW vE vP vX L w1):w.heap.size<=w1.heap.size:=h.q.bel.size
theorem GrS.list(h:GrS w s T W E P vW vE vP vX L w1){vY:Value}{M:List Int}(hM:Side w1 w.heap.size vW vY M):GrS w s T W E P vW vE vP vY M w1:=⟨h.q,h.res,h.out,h.hW,h.hE,h.hP,hM⟩
theorem side_new{w0:World}{vY:Value}{M:List Int}(h:GrS w s T W E P vW vE vP vX L w0)(ho:OwnI w1 w0.heap.size vY M):Side w1 w.heap.size vW vY M:=
 ⟨own_less ho h.size,fun k hk e=>by
  have h1:=(row_lt ho k hk).1;have h2:=(row_lt h.hW k e).2.1;omega⟩
theorem GrS.edge(h:GrS w s T W E P vW vE vP vX L w1){row:Option Nat}{vE':Value}{E':List (Int×Int)}(hr:RXl 131 w.heap.size row w1 w2)(hE:OwnE w2 w.heap.size vE' E'):GrS w s T W E' P vW vE' vP vX L w2:=
 ⟨h.q.rx hr (by decide),hr.heap h.res (by decide),hr.heap h.out (by decide),hr.own h.hW (by decide),hE,hr.own h.hP (by decide),h.x.rx hr (by decide)⟩
theorem BxQ.set(h:BxQ w s T w1){g j:Nat}{u:Value}(hg:w.heap.size<g):BxQ w s T (w1.setCell ⟨g,j,none⟩ u):=
 ⟨h.bel.setCell (Nat.le_of_lt hg) u,by rw[heap_setCell_other _ _ _ _ (Nat.ne_of_lt hg)];exact h.row⟩
theorem GrS.work(h:GrS w s T W E P vW vE vP vX L w1){n c:Nat}{A:Option Addr}{k:Int}(hr:RXl 3 w.heap.size vW.ownBlock w1 w2)(hat: ∀b,(Value.slice A n c).ownBlock=some b->vW.ownBlock=some b\/w1.heap.size<=b)(ho:OwnI w2 w.heap.size (.slice A n c) (W++ [k])):
  GrS w s T (W++ [k]) E P (.slice A n c) vE vP vX L (w2.setCell ⟨w.heap.size+1+1,0,none⟩ (.slice A n c)):=by
 have hrow:=hr.heap h.out (by decide)
 have hk: ∀k,k≠w.heap.size+1+1->(w2.setCell ⟨w.heap.size+1+1,0,none⟩ (.slice A n c)).heap[k]? =w2.heap[k]?:=fun k hk=>heap_setCell_other _ _ _ _ hk
 have hx:=h.x.grew hr hat;exact⟨(h.q.rx hr (by decide)).set (by omega),by rw[hk _ (by omega)];exact hr.heap h.res (by decide),heap_setCell_same w2 _ 0 _ _ _ hrow,other_own ho hrow (by decide) hk,other_own (hr.own h.hE (by decide)) hrow (by decide) hk,other_own (hr.own h.hP (by decide)) hrow (by decide) hk,⟨other_own hx.own hrow (by decide) hk,hx.apart⟩⟩
theorem GrS.piece(h:GrS w s T W E P vW vE vP vX L w1){n c:Nat}{A:Option Addr}{p:Int×Int}(hr:RXl 153 w.heap.size vP.ownBlock w1 w2)(ho:OwnP w2 w.heap.size (.slice A n c) (P++ [p])):
  GrS w s T W E (P++ [p]) vW vE (.slice A n c) vX L (w2.setCell ⟨w.heap.size+1+1,2,none⟩ (.slice A n c)):=by
 have hrow:=hr.heap h.out (by decide)
 have hk: ∀k,k≠w.heap.size+1+1->(w2.setCell ⟨w.heap.size+1+1,2,none⟩ (.slice A n c)).heap[k]? =w2.heap[k]?:=fun k hk=>heap_setCell_other _ _ _ _ hk
 have hx:=h.x.rx hr (by decide)
 exact⟨(h.q.rx hr (by decide)).set (by omega),by rw[hk _ (by omega)];exact hr.heap h.res (by decide),heap_setCell_same w2 _ 2 _ _ _ hrow,other_own (hr.own h.hW (by decide)) hrow (by decide) hk,other_own (hr.own h.hE (by decide)) hrow (by decide) hk,other_own ho hrow (by decide) hk,⟨other_own hx.own hrow (by decide) hk,hx.apart⟩⟩
theorem GrS.outc(h:GrS w s T W E P vW vE vP vX L w1):w1.cell? ⟨w.heap.size+1+1,0,none⟩=some vW/\w1.cell? ⟨w.heap.size+1+1,1,none⟩=some (.slice none 0 0)/\w1.cell? ⟨w.heap.size+1+1,2,none⟩=some vP:=by
 refine⟨?_,?_,?_⟩<;>(rw[cell_of_row _ _ _ _ _ _ h.out];rfl)
theorem push_edge{v:Value}{a b:Int}{n:Nat}(h:GrS w s T W E P vW vE vP vX L w1)(hx:OwnX 131 vE.ownBlock [.int .i64 a,.int .i64 b] v w1)(hn:E.length=n)(hl:n<=1000):
  ∃A c w',(Builtin.append_ #[53,53] 53 #[vE,v]).run Tryz.prog w1= .ok (.slice A (n+1) c) w'/\GrS w s T W (E++ [(a,b)]) P vW (.slice A (n+1) c) vP vX L w'/\RXl 131 w.heap.size vE.ownBlock w1 w':=by
 subst hn;obtain⟨u',w2,hr,⟨F,d,rfl,how⟩,hrb,_⟩:=ownX_append (tl:=53) Tryz.underlying53 edge_cell_info rfl (by omega) (by omega) h.hE hx rfl (by simp[Value.oneCell']) hl h.size
 refine⟨F,d,w2,hr,h.edge hrb ?_,hrb⟩
 unfold OwnE;rw[List.length_append,flatE_append];exact how
end
structure GrI(w:World)(s:Sh)(T:Task)(E P:List (Int×Int))(vW vE vP vX:Value)(L:List Int)(w':World):Prop where
 q:BxQ w s T w'
 res:w'.heap[w.heap.size+1]? =some (.cells #[.slice none 0 0,.slice none 0 0,.slice none 0 0] 91 (0,0))
 out:w'.heap[w.heap.size+1+1]? =some (.cells #[vW,.slice none 0 0,vP] 91 (0,0))
 hE:OwnE w' w.heap.size vE E
 hP:OwnP w' w.heap.size vP P
 x:Side w' w.heap.size vW vX L
theorem GrS.i{w w1:World}{s:Sh}{T:Task}{W:List Int}{E P:List (Int×Int)}{vW vE vP vX:Value}{L:List Int}(h:GrS w s T W E P vW vE vP vX L w1):GrI w s T E P vW vE vP vX L w1:=⟨h.q,h.res,h.out,h.hE,h.hP,h.x⟩
theorem GrI.rx{w w1 w2:World}{s:Sh}{T:Task}{E P:List (Int×Int)}{vW vE vP vX:Value}{L:List Int}(h:GrI w s T E P vW vE vP vX L w1)(hr:RXl 3 w.heap.size vW.ownBlock w1 w2):GrI w s T E P vW vE vP vX L w2:=
 ⟨h.q.rx hr (by decide),hr.heap h.res (by decide),hr.heap h.out (by decide),hr.own h.hE (by decide),hr.own h.hP (by decide),h.x.grew hr fun k hk=> .inl hk⟩
theorem GrI.work{w w2:World}{s:Sh}{T:Task}{W:List Int}{E P:List (Int×Int)}{vW vE vP vX:Value}{L:List Int}(h:GrI w s T E P vW vE vP vX L w2){n c hb:Nat}{A:Option Addr}{k:Int}(hlt: ∀b,vX.ownBlock=some b->b<hb)(hat: ∀b,(Value.slice A n c).ownBlock=some b->vW.ownBlock=some b\/hb<=b)(ho:OwnI w2 w.heap.size (.slice A n c) (W++ [k])):
  GrS w s T (W++ [k]) E P (.slice A n c) vE vP vX L (w2.setCell ⟨w.heap.size+1+1,0,none⟩ (.slice A n c)):=by
 have hrow:=h.out;have hk: ∀k,k≠w.heap.size+1+1->(w2.setCell ⟨w.heap.size+1+1,0,none⟩ (.slice A n c)).heap[k]? =w2.heap[k]?:=fun k hk=>heap_setCell_other _ _ _ _ hk
 exact⟨h.q.set (by omega),by rw[hk _ (by omega)];exact h.res,heap_setCell_same w2 _ 0 _ _ _ hrow,other_own ho hrow (by decide) hk,other_own h.hE hrow (by decide) hk,other_own h.hP hrow (by decide) hk,⟨other_own h.x.own hrow (by decide) hk,fun b hb' e=>by
  rcases hat b e with h1|h1
  ·exact h.x.apart b hb' h1
  ·have:=hlt b hb'
   omega⟩⟩
def GwF(gb base hb nW:Nat)(vW:Value)(W:List Int)(A6:Option Addr)(b6 o6 k c6 i:Nat)(z:Int):Nat->Value->World->Prop
 |0,v,_=>v= .pointer (some ⟨gb,0,none⟩)
 |1,v,_=>v= .pointer (some ⟨gb,0,none⟩)
 |2,v,_=>v=vW
 |3,v,_=>v= .slice A6 k c6
 |4,v,_=>v= .int .i64 (i:Int)
 |5,v,_=>v= .pointer (some ⟨b6,o6+i,none⟩)
 |6,v,_=>v= .int .i64 z
 |7,v,w=>OwnX 3 vW.ownBlock [.int .i64 z] v w
 |8,v,w=>Grew 3 base 1 (nW+1) (W.map (Value.int .i64)++ [.int .i64 z]) v w/\ ∀b,v.ownBlock=some b->vW.ownBlock=some b\/hb<=b
 |9,v,_=>v= .pointer (some ⟨gb,0,none⟩)
 |10,v,_=>v= .pointer (some ⟨gb,0,none⟩)
 |_,_,_=>True
theorem gwF_rx{gb base b hb nW:Nat}{vW:Value}{W:List Int}{A6:Option Addr}{b6 o6 k c6 i:Nat}{z:Int}: ∀(q:Nat) (v:Value) (w w':World),q≠8->GwF gb base hb nW vW W A6 b6 o6 k c6 i z q v w->RXl 3 b vW.ownBlock w w'->GwF gb base hb nW vW W A6 b6 o6 k c6 i z q v w'
 |0,_,_,_,_,h,_|1,_,_,_,_,h,_|2,_,_,_,_,h,_|3,_,_,_,_,h,_|4,_,_,_,_,h,_|5,_,_,_,_,h,_|6,_,_,_,_,h,_|9,_,_,_,_,h,_|10,_,_,_,_,h,_=>h
 |7,_,_,_,_,h,hr=>OwnX.rx h hr
 |8,_,_,_,hne,_,_=>absurd rfl hne
 |_+11,_,_,_,_,_,_=>trivial
def OwnEd(a b:Int)(vE v:Value)(w:World):Prop:=OwnX 131 vE.ownBlock [.int .i64 a,.int .i64 b] v w
theorem OwnEd.below{a b:Int}{vE v:Value}{w w':World}(h:OwnEd a b vE v w)(hb:Below w.heap.size w w'):OwnEd a b vE v w':=OwnX.rx (u:=3) (base:=0) h (.inl hb)
theorem ownEd_new{w w1:World}{s:Sh}{T:Task}{W:List Int}{E P:List (Int×Int)}{vW vE vP vX:Value}{L:List Int}(h:GrS w s T W E P vW vE vP vX L w1)(a b:Int):OwnEd a b vE (.slice (some ⟨w1.heap.size,0,none⟩) 1 1) (w1.alloc (.cells #[.int .i64 a,.int .i64 b] 131)):=
 ⟨_,rfl,heap_alloc_new w1 _,fun e=>by have:=(row_lt h.hE _ e).2.1;omega⟩
theorem gr_storeW{o:Oper}{a:Act}{x w:World}{sh:Sh}{T:Task}{W:List Int}{E P:List (Int×Int)}{vW vE vP vX:Value}{L:List Int}{z:Int}{hb:Nat}{K:Act->World->Prop}{Q:Exit->Act->World->Prop}(s y:Operand)(hop:o.op= .store 40 s y)(hdst:o.dst=none)
  (hI:GrI w sh T E P vW vE vP vX L x) (f1:Grew 3 w.heap.size 1 (W.length+1) (W.map (Value.int .i64)++ [.int .i64 z]) (a.eval y) x/\ ∀b,(a.eval y).ownBlock=some b->vW.ownBlock=some b\/hb<=b) (f2:a.eval s= .pointer (some ⟨w.heap.size+1+1,0,none⟩)) (hlt: ∀b,vX.ownBlock=some b->b<hb)
  (hK: ∀F d x',GrS w sh T (W++ [z]) E P (.slice F (W.length+1) d) vE vP vX L x'->K a x'):o.wp Tryz.prog a x K Q:=by
 obtain⟨⟨F,d,e,ho⟩,hat⟩:=f1;rw[e]at hat;have hg:=hI.out;have d0:=cell_of_row x _ 0 _ _ _ hg;have z0:=frozen_of_row x _ 0 _ _ hg;simp at d0;have hr:(execOp a.eval o).run Tryz.prog x= .ok .skip (x.setCell ⟨w.heap.size+1+1,0,none⟩ (.slice F (W.length+1) d)):=by
  simp only[execOp,hop];rw[e,f2];simp[go_sem,d0,z0]
 unfold Oper.wp;rw[hr,Oper.upon_skip,hdst];exact hK F d _ (hI.work hlt hat (row_ownI ho rfl))
theorem GrS.start(w:World)(s:Sh)(T:Task):GrS w s T [] [] [] (.slice none 0 0) (.slice (some ⟨w.heap.size+1+1+1,0,none⟩) 0 0) (.slice none 0 0) (.slice none 0 0) []
  ((((w.alloc (.cells #[.int .i64 T.period,.int .i64 T.deadline,.slice s.P s.np s.pc,.slice s.E s.ne s.ec,.slice s.F s.nf s.fc,.slice s.R s.nr s.rc] 57)).alloc (.cells #[.slice none 0 0,.slice none 0 0,.slice none 0 0] 91)).alloc (.cells #[.slice none 0 0,.slice none 0 0,.slice none 0 0] 91)).alloc (.cells #[] 131)):=by
 have q1:=BxQ.start w s T;obtain⟨w1,hw1⟩: ∃w1,w1=w.alloc (.cells #[.int .i64 T.period,.int .i64 T.deadline,.slice s.P s.np s.pc,.slice s.E s.ne s.ec,.slice s.F s.nf s.fc,.slice s.R s.nr s.rc] 57):=⟨_,rfl⟩;rw[<-hw1]at q1⊢;have s1:w1.heap.size=w.heap.size+1:=by rw[hw1];simp
 have n2:=heap_alloc_new w1 (.cells #[.slice none 0 0,.slice none 0 0,.slice none 0 0] 91);have b2:=below_alloc (w:=w1) (.cells #[.slice none 0 0,.slice none 0 0,.slice none 0 0] 91);obtain⟨w2,hw2⟩: ∃w2,w2=w1.alloc (.cells #[.slice none 0 0,.slice none 0 0,.slice none 0 0] 91):=⟨_,rfl⟩;rw[<-hw2]at n2 b2⊢;have s2:w2.heap.size=w.heap.size+1+1:=by rw[hw2];simp[s1]
 have n3:=heap_alloc_new w2 (.cells #[.slice none 0 0,.slice none 0 0,.slice none 0 0] 91);have b3:=below_alloc (w:=w2) (.cells #[.slice none 0 0,.slice none 0 0,.slice none 0 0] 91);obtain⟨w3,hw3⟩: ∃w3,w3=w2.alloc (.cells #[.slice none 0 0,.slice none 0 0,.slice none 0 0] 91):=⟨_,rfl⟩;rw[<-hw3]at n3 b3⊢;have s3:w3.heap.size=w.heap.size+1+1+1:=by rw[hw3];simp[s2]
 have n4:=heap_alloc_new w3 (.cells #[] 131);have b4:=below_alloc (w:=w3) (.cells #[] 131);obtain⟨w4,hw4⟩: ∃w4,w4=w3.alloc (.cells #[] 131):=⟨_,rfl⟩;rw[<-hw4]at n4 b4⊢;rw[s1]at n2;rw[s2]at n3;rw[s3]at n4;have k3:w3.heap[w.heap.size+1]? =w2.heap[w.heap.size+1]?:=b3.block _ (by omega)
 have k4:w4.heap[w.heap.size+1]? =w3.heap[w.heap.size+1]?:=b4.block _ (by omega)
 have k5:w4.heap[w.heap.size+1+1]? =w3.heap[w.heap.size+1+1]?:=b4.block _ (by omega)
 exact⟨((q1.next b2).next b3).next b4,by rw[k4,k3];exact n2,by rw[k5];exact n3,ownI_nilR _ _,⟨rfl,.inr ⟨_,0,#[],rfl,by omega,n4,Nat.le_refl _,Nat.zero_le _,rfl,rfl⟩⟩,⟨rfl,.inl ⟨rfl,rfl⟩⟩,Side.nil _ _ _⟩
theorem own_slice'{w:World}{base k n:Nat}{t:TypeId}{v:Value}{xs:List Value}(h:w.ownsRow base t k v n xs): ∃A c,v= .slice A n c:=by
 rcases h.2 with⟨e,rfl⟩|⟨g,cap,_,e,_⟩
 ·exact⟨none,0,e⟩
 ·exact⟨_,cap,e⟩
structure GrB(w:World)(s:Sh)(T:Task)(W:List Int)(E P:List (Int×Int))(vW vE vP vX:Value)(L:List Int)(gq:Nat)(Ai:Option Addr)(n1 c1:Nat)(Ao:Option Addr)(n2 c2:Nat)(w':World):Prop where
 g:GrS w s T W E P vW vE vP vX L w'
 bx:w'.heap[gq]? =some (.cells #[.slice Ai n1 c1,.slice Ao n2 c2] 97 (0,0))
section
variable {w w1 w2: World} {s: Sh} {T: Task} {W: List Int} {E P: List (Int × Int)} {vW vE vP vX: Value} {L: List Int} {gq: Nat} {Ai Ao: Option Addr} {n1 c1 n2 c2: Nat}
theorem GrB.next(h:GrB w s T W E P vW vE vP vX L gq Ai n1 c1 Ao n2 c2 w1)(hb:Below w1.heap.size w1 w2):GrB w s T W E P vW vE vP vX L gq Ai n1 c1 Ao n2 c2 w2:=
 ⟨h.g.next hb,by rw[hb.block _ (Array.getElem?_eq_some_iff.1 h.bx).1];exact h.bx⟩
theorem GrB.q(h:GrB w s T W E P vW vE vP vX L gq Ai n1 c1 Ao n2 c2 w1):BxQ w s T w1:=h.g.q
theorem GrB.b0(h:GrB w s T W E P vW vE vP vX L gq Ai n1 c1 Ao n2 c2 w1):w1.cell? ⟨gq,0,none⟩=some (.slice Ai n1 c1):=by rw[cell_of_row _ _ _ _ _ _ h.bx];rfl
theorem GrB.b1(h:GrB w s T W E P vW vE vP vX L gq Ai n1 c1 Ao n2 c2 w1):w1.cell? ⟨gq,1,none⟩=some (.slice Ao n2 c2):=by rw[cell_of_row _ _ _ _ _ _ h.bx];rfl
theorem push_edgeB{v:Value}{a b:Int}{n:Nat}(h:GrB w s T W E P vW vE vP vX L gq Ai n1 c1 Ao n2 c2 w1)(hx:OwnX 131 vE.ownBlock [.int .i64 a,.int .i64 b] v w1)(hn:E.length=n)(hl:n<=1000):
  ∃A c w',(Builtin.append_ #[53,53] 53 #[vE,v]).run Tryz.prog w1= .ok (.slice A (n+1) c) w'/\GrB w s T W (E++ [(a,b)]) P vW (.slice A (n+1) c) vP vX L gq Ai n1 c1 Ao n2 c2 w':=by
 obtain⟨A,c,w',hr,hG,hR⟩:=push_edge h.g hx hn hl;exact⟨A,c,w',hr,hG,hR.heap h.bx (by decide)⟩
end
end Go.Proofs.YtlfekmbalgkmeaaGreatDoor
