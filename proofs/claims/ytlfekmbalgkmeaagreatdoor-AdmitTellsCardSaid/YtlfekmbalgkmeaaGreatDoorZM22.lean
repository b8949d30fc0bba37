import Derived.Test.YtlfekmbalgkmeaaGreatDoorZM8
import Derived.Test.YtlfekmbalgkmeaaGreatDoorZM21
import Derived.Test.YtlfekmbalgkmeaaGreatDoorZM2
set_option linter.unusedSimpArgs false
set_option linter.unnecessarySimpa false
set_option linter.unusedVariables false
set_option maxRecDepth 100000
set_option maxHeartbeats 16000000
namespace Go.Proofs.YtlfekmbalgkmeaaGreatDoor
open Go Go.RowKit
section
variable {P: Program} {ops: Array Oper} {Q: Exit -> Act -> World -> Prop}
theorem cx_clo{o:Oper}{a:Act}{w:World}{K:Act->World->Prop}{ρ:Operand->Value}(hρ:a.eval=ρ)(c:Nat)(xs:Array Operand)(tys:Array TypeId)(f:FuncId)(bs cs vs:Array Value)
  (ho:o.op= .call {callee:=.value (.tmp c),args:=xs,argTypes:=tys}) (hc:ρ (.tmp c)= .func (.func f) bs cs) (hxs:xs.map ρ=vs) (eg: ∀args w,(callFunc f args).run P w= .ok (.enter f args) w)
  (h:Calls P f (bs++vs++cs) w fun e w'=> ∃v,e= .returned v/\K (a.put o.dst v) w'):o.wp P a w K Q:=by
 subst hρ;have hr:(execOp a.eval o).run P w= .ok (.enter f (bs++vs++cs)) w:=by
  have:=eg (bs++vs++cs) w;rw[Array.append_assoc]at this;have hc2:a.tmps[c]?.getD undef= .func (.func f) bs cs:=by simpa[Act.eval]using hc
  simp[execOp,ho,resolve,hxs,invoke,Deferred.ofValue,Act.eval,hc2,this,go_sem]
 unfold Oper.wp;rw[hr,Oper.upon_enter];refine h.mono fun e w' ⟨v,he,hv⟩=> ?_
 subst he;exact hv
theorem cx_fun{o:Oper}{a:Act}{w:World}{K:Act->World->Prop}{ρ:Operand->Value}(hρ:a.eval=ρ)(f:FuncId)(xs:Array Operand)(tys:Array TypeId)(vs:Array Value)
  (ho:o.op= .call {callee:=.value (.func f),args:=xs,argTypes:=tys}) (hxs:xs.map ρ=vs) (eg: ∀args w,(callFunc f args).run P w= .ok (.enter f args) w)
  (h:Calls P f vs w fun e w'=> ∃v,e= .returned v/\K (a.put o.dst v) w'):o.wp P a w K Q:=by
 subst hρ;have hr:(execOp a.eval o).run P w= .ok (.enter f vs) w:=by
  have:=eg vs w;simp[execOp,ho,resolve,hxs,invoke,Deferred.ofValue,Act.eval,this,go_sem]
 unfold Oper.wp;rw[hr,Oper.upon_enter];refine h.mono fun e w' ⟨v,he,hv⟩=> ?_
 subst he;exact hv
end
end Go.Proofs.YtlfekmbalgkmeaaGreatDoor
namespace Go.Proofs.YtlfekmbalgkmeaaGreatDoor
open Go.RowKit Go.Maps
structure BxFu(fb mk u z:Nat)(w:World):Prop where
 row:w.heap[fb]? =some (.cells #[.int .i64 (mk:Int),.int .i64 (u:Int),.int .i64 (z:Int)] 156 (0,0))
theorem BxFu.below{fb mk u z:Nat}{w w':World}(h:BxFu fb mk u z w)(hb:Below w.heap.size w w'):BxFu fb mk u z w':=⟨by rw[hb.block _ (Array.getElem?_eq_some_iff.1 h.row).1];exact h.row⟩
theorem BxFu.c0{fb mk u z:Nat}{w:World}(h:BxFu fb mk u z w):w.cell? ⟨fb,0,none⟩=some (.int .i64 (mk:Int)):=by rw[cell_of_row _ _ _ _ _ _ h.row];rfl
theorem BxFu.c1{fb mk u z:Nat}{w:World}(h:BxFu fb mk u z w):w.cell? ⟨fb,1,none⟩=some (.int .i64 (u:Int)):=by rw[cell_of_row _ _ _ _ _ _ h.row];rfl
theorem BxFu.c2{fb mk u z:Nat}{w:World}(h:BxFu fb mk u z w):w.cell? ⟨fb,2,none⟩=some (.int .i64 (z:Int)):=by rw[cell_of_row _ _ _ _ _ _ h.row];rfl
theorem ox_value{o:Oper}{a:Act}{x:World}{K:Act->World->Prop}{Q:Exit->Act->World->Prop}{v:Value}(hr:(execOp a.eval o).run Tryz.prog x= .ok (.value v) x)(hK:K (a.put o.dst v) x):o.wp Tryz.prog a x K Q:=by
 unfold Oper.wp;rw[hr,Oper.upon_value];exact hK
theorem leq_eq{ρ:Operand->Value}{o:Oper}{x:World}{s y:Operand}{n m:Int}(hop:o.op= .binOp .leq 3 s y 3)(hs:ρ s= .int .i64 n)(hy:ρ y= .int .i64 m)(hle:n<=m):(execOp ρ o).run Tryz.prog x= .ok (.value (.bool true)) x:=by
 simp[execOp,hop,hs,hy,go_sem,hle]
theorem ox_leq{o:Oper}{a:Act}{x:World}{K:Act->World->Prop}{Q:Exit->Act->World->Prop}{s y:Operand}{n m:Int}(hop:o.op= .binOp .leq 3 s y 3)(hs:a.eval s= .int .i64 n)(hy:a.eval y= .int .i64 m)(hle:n<=m)(hK:K (a.put o.dst (.bool true)) x):o.wp Tryz.prog a x K Q:=
 ox_value (leq_eq hop hs hy hle) hK
theorem eg_edge: ∀args w,(callFunc 111 args).run Tryz.prog w= .ok (.enter 111 args) w:=eg_of Tryz.func111 (by kernel_rfl) rfl
theorem fut_snoc(fs:List (Int×Int×Int))(E:List (Int×Int))(j:Nat):E++(List.range (j+1)).map (futN fs)=(E++(List.range j).map (futN fs))++ [futN fs j]:=by rw[List.range_succ,List.map_append,<-List.append_assoc];rfl
def FutA(gb b1 b2 fb:Nat)(mk u z:Nat)(lu fu lm nn:Nat):Nat->Value->World->Prop
 |0,v,_=>v= .pointer (some ⟨gb,0,none⟩)
 |1,v,_=>v= .pointer (some ⟨gb,0,none⟩)
 |2,v,_=>v= .pointer (some ⟨gb,3,none⟩)
 |3,v,_=>v= .map (some b1)
 |4,v,_=>v= .pointer (some ⟨fb,1,none⟩)
 |5,v,_=>v= .int .i64 ((u:Nat):Int)
 |6,v,_=>v= .int .i64 ((fu:Nat):Int)
 |_,_,_=>True
theorem futA_any{gb b1 b2 fb mk u z lu fu lm nn:Nat}: ∀(k:Nat) (v:Value) (w w':World),FutA gb b1 b2 fb mk u z lu fu lm nn k v w->FutA gb b1 b2 fb mk u z lu fu lm nn k v w'
 |0,_,_,_,h|1,_,_,_,h|2,_,_,_,h|3,_,_,_,h|4,_,_,_,h|5,_,_,_,h|6,_,_,_,h=>h
 |_+7,_,_,_,_=>trivial
def FutB(gb b1 b2 fb:Nat)(mk u z:Nat)(lu fu lm nn:Nat):Nat->Value->World->Prop
 |0,v,_=>v= .int .i64 ((nn:Nat):Int)
 |1,v,_=>v= .pointer (some ⟨gb,0,none⟩)
 |2,v,_=>v= .pointer (some ⟨gb,0,none⟩)
 |3,v,_=>v= .pointer (some ⟨gb,4,none⟩)
 |4,v,_=>v= .map (some b2)
 |5,v,_=>v= .pointer (some ⟨fb,1,none⟩)
 |6,v,_=>v= .int .i64 ((u:Nat):Int)
 |7,v,_=>v= .int .i64 ((lu:Nat):Int)
 |_,_,_=>True
theorem futB_any{gb b1 b2 fb mk u z lu fu lm nn:Nat}: ∀(k:Nat) (v:Value) (w w':World),FutB gb b1 b2 fb mk u z lu fu lm nn k v w->FutB gb b1 b2 fb mk u z lu fu lm nn k v w'
 |0,_,_,_,h|1,_,_,_,h|2,_,_,_,h|3,_,_,_,h|4,_,_,_,h|5,_,_,_,h|6,_,_,_,h|7,_,_,_,h=>h
 |_+8,_,_,_,_=>trivial
def FutC(gb b1 b2 fb:Nat)(mk u z:Nat)(lu fu lm nn:Nat):Nat->Value->World->Prop
 |0,v,_=>v= .pointer (some ⟨gb,0,none⟩)
 |1,v,_=>v= .pointer (some ⟨gb,0,none⟩)
 |2,v,_=>v= .pointer (some ⟨gb,0,none⟩)
 |3,v,_=>v= .pointer (some ⟨gb,4,none⟩)
 |4,v,_=>v= .map (some b2)
 |5,v,_=>v= .pointer (some ⟨fb,0,none⟩)
 |6,v,_=>v= .int .i64 ((mk:Nat):Int)
 |7,v,_=>v= .int .i64 ((lm:Nat):Int)
 |8,v,_=>v= .int .i64 ((nn:Nat):Int)
 |_,_,_=>True
theorem futC_any{gb b1 b2 fb mk u z lu fu lm nn:Nat}: ∀(k:Nat) (v:Value) (w w':World),FutC gb b1 b2 fb mk u z lu fu lm nn k v w->FutC gb b1 b2 fb mk u z lu fu lm nn k v w'
 |0,_,_,_,h|1,_,_,_,h|2,_,_,_,h|3,_,_,_,h|4,_,_,_,h|5,_,_,_,h|6,_,_,_,h|7,_,_,_,h|8,_,_,_,h=>h
 |_+9,_,_,_,_=>trivial
theorem futures_any(fs ps:List (Int×Int×Int))(np base gb b1 b2 n1 n2:Nat)(D1 D2:DataW Unit)(vW vE vP:Value)(E P:List (Int×Int))(N nf fc:Nat)(F:Option Addr)(w:World)(hps:partsOk ps)(hf:FutsOk ps fs)(hpl:ps.length=np)(hfl:fs.length=nf)(hNf:firN fs np=N)(hN:N<=400)(hnp:np<=100)(hE:E.length<=400)(hnf:nf<=100)
    (h:Gl base gb b1 b2 n1 n2 D1 D2 vW vE vP (wPs fs ps np) E P w) (hF:Trips w base F fs) (h1:Tells D1 (firN fs) np) (h2:Tells D2 (lasN fs) np):
    Calls Tryz.prog 112 #[.pointer (some ⟨gb,0,none⟩), .slice F nf fc] w fun e w'=>e= .returned (.tuple #[])/\ ∃vE',Gl base gb b1 b2 n1 n2 D1 D2 vW vE' vP (wPs fs ps np) (E++(List.range nf).map (futN fs)) P w'/\Below base w w':=by
  have hbw:base<=w.heap.size:=by have:=h.le;have:=h.lt;omega
  obtain⟨AW,cW,evW,_⟩:=h.hW.slice;rw[wPs_len,hNf]at evW;subst evW;obtain⟨vW,hvW⟩: ∃vW,vW=Value.slice AW N cW:=⟨_,rfl⟩;have HNL:Hid ((wPs fs ps np).length=N):=Lib.hid (by rw[wPs_len,hNf])
  have H:Hid (Gl base gb b1 b2 n1 n2 D1 D2 (.slice AW N cW) vE vP (wPs fs ps np) (E++(List.range 0).map (futN fs)) P w):=Lib.hid (by simpa using h)
  have HF:=Lib.hid hF;have HT1:=Lib.hid h1;have HT2:=Lib.hid h2;have HPS:=Lib.hid hps;have HFS:=Lib.hid hf;have HPL:=Lib.hid hpl;have HFL:=Lib.hid hfl;have HNF:=Lib.hid hNf;clear h hF h1 h2 hps hf hpl hfl hNf hvW vW;go_enter Tryz.func112,Tryz.ntmps112;go_wp2
  go_step3
  go_wp2
  go_step3
  go_wp2;go_loopw [10] (fun iv wr=> ∃(j:Nat) (vE':Value),j<=nf/\iv= .int .i64 (j:Int)/\Hid (Gl base gb b1 b2 n1 n2 D1 D2 (.slice AW N cW) vE' vP (wPs fs ps np) (E++(List.range j).map (futN fs)) P wr)/\Hid (Below base w wr)) (fun iv _=>nf - (intOf iv).toNat)
  case atStart=>exact⟨0,_,Nat.zero_le _,rfl,H,Lib.hid (Below.refl _ _)⟩
  case round=>
    obtain⟨j,vE',hj,rfl,HGJ,HBJ⟩:=hrel;clear H
    by_cases hlt:j<nf
    · obtain⟨tb,to_,x,y,zz,eF,htb,hft,d0,d1,d2⟩:=(HF.out.below HBJ.out).at_ (k:=j) (by rw[HFL.out];exact hlt)
      have hfo:=HFS.out.each _ (List.mem_of_getElem? hft)
      have hfa:futAt fs j=(x,y,zz):=by unfold futAt;rw[List.getD_eq_getElem?_getD,hft];rfl
      have m1:=hfo.maker;have m2:=hfo.user;have m3:=hfo.first;simp only at m1 m2 m3;rw[HPL.out]at m1 m2;obtain⟨mk,rfl⟩: ∃k:Nat,x=(k:Int):=⟨x.toNat,by omega⟩
      obtain⟨u,rfl⟩: ∃k:Nat,y=(k:Int):=⟨y.toNat,by omega⟩
      obtain⟨z,rfl⟩: ∃k:Nat,zz=(k:Int):=⟨zz.toNat,by omega⟩
      have hmn:mk<np:=by omega
      have hun:u<np:=by omega
      obtain⟨q,hway⟩:=fut_way HPS.out HFS.out (k:=j) (u:=u) (by rw[HFL.out];exact hlt) (by rw[hfa])
      have HLT:=Lib.hid hway.lt;have HHIT:Hid (befE (endsL fs ps u) q=(z:Int)):=Lib.hid (by have h:=hway.hit;rw[hfa]at h;exact h)
      have HAH:Hid (∀p,p<q->befE (endsL fs ps u) p<(z:Int)):=Lib.hid (by have h:=hway.ahead;rw[hfa]at h;exact h)
      have HNG:=Lib.hid hway.nonneg;have hz9:(z:Int)<=99:=by have h:=hway.small;rw[hfa]at h;exact h
      obtain⟨fu,hfu⟩: ∃fu,fu=firN fs u:=⟨_,rfl⟩;obtain⟨lu,hlu⟩: ∃lu,lu=lasN fs u:=⟨_,rfl⟩;obtain⟨lm,hlm⟩: ∃lm,lm=lasN fs mk:=⟨_,rfl⟩;have HFU:=Lib.hid hfu;have HLU:=Lib.hid hlu;have HLM:=Lib.hid hlm;have hfl2:fu+q<=lu:=by rw[hfu,hlu];unfold lasN;have:=hway.lt;omega
      have hluN:lu<N:=by
        rw[hlu,<-HNF.out];have:=lasN_eq fs u;have hmono:=firN_mono fs (show u+1<=np by omega)
        omega
      have HFN:Hid (futN fs j=(((lm:Nat):Int),((fu+q:Nat):Int))):=Lib.hid (by unfold futN;rw[hway.node,hfa,hlm,hfu];rfl)
      subst eF;obtain⟨fb,hfb⟩: ∃fb,fb=wr.heap.size:=⟨_,rfl⟩;obtain⟨wA,hwA⟩: ∃wA,wA=wr.alloc (.cells #[.int .i64 (mk:Int), .int .i64 (u:Int), .int .i64 (z:Int)] 156):=⟨_,rfl⟩;have hbA:Below wr.heap.size wr wA:=by rw[hwA];exact below_alloc _
      have HGA:=Lib.hid (HGJ.out.below hbA);have HBX2:Hid (BxFu fb mk u z wA):=Lib.hid ⟨by rw[hwA,hfb];exact heap_alloc_new wr _⟩
      have HBW:=Lib.hid (HBJ.out.trans (hbA.mono (by have:=HBJ.out.size;omega)))
      clear hft hfo hfa m1 m2 m3 hway hfu hlu hlm hbA HGJ HBJ;go_wp2_with fail;rw[<-hwA,<-hfb];clear hwA hfb;have HGW:=HGA;have HBX:=HBX2;obtain⟨nn,hnn0⟩: ∃nn:Nat,nn=0:=⟨_,rfl⟩;refine wp_region_gather2' 7 7 [14,15,16,17,18,19,20] (by kernel_rfl) (by kernel_rfl) (by intro d hd;simp at hd⊢;omega) (fun y=>Below wA.heap.size wA y) (fun _=>True) (fun y z=>Below y.heap.size y z) (FutA gb b1 b2 fb mk u z lu fu lm nn)
        (fun _ _ h=>h) (fun y z h hr=>h.trans (hr.mono h.size)) (fun _ _ h _=>trivial) (fun k v y z _ h _=>futA_any k v y z h) (fun v y z h _=>trivial) (Below.refl _ _).drew trivial ?hsa ?hla
      case hsa=>
        intro j o hj ho ρ y hI hA hd hJ;have h0:ρ (.tmp 0)= .pointer (some ⟨gb,0,none⟩):=hA.tmp 0 (by decide)
        have h5:ρ (.tmp 5)= .pointer (some ⟨fb,0,none⟩):=hA.tmp 5 (by decide)
        have hG:=HGW.out.below hI;have hBx:=HBX.out.below hI;have c3:y.cell? ⟨gb,3,none⟩=some (.map (some b1)):=by rw[hG.cell];rfl
        have c4:y.cell? ⟨gb,4,none⟩=some (.map (some b2)):=by rw[hG.cell];rfl
        have r1:=tells_run hG.m1 HT1.out hun (by omega)
        have r2:=tells_run hG.m2 HT2.out hun (by omega)
        have r3:=tells_run hG.m2 HT2.out hmn (by omega)
        rw[<-HFU.out]at r1;rw[<-HLU.out]at r2;rw[<-HLM.out]at r3
        match j,hj with
        | 0, _ =>
          have hoo:=Option.some.inj ho;subst hoo;exact⟨.pointer (some ⟨gb,0,none⟩),y,by simp[execOp,h0,go_sem],rfl,Below.refl _ _⟩
        | 1, _ =>
          have hoo:=Option.some.inj ho;subst hoo;have f0:ρ (.tmp 14)= .pointer (some ⟨gb,0,none⟩):=hd ⟨0, .data⟩ (by simp) (by rfl)
          exact⟨.pointer (some ⟨gb,0,none⟩),y,by simp[execOp,f0,go_sem],rfl,Below.refl _ _⟩
        | 2, _ =>
          have hoo:=Option.some.inj ho;subst hoo;have f1:ρ (.tmp 15)= .pointer (some ⟨gb,0,none⟩):=hd ⟨1, .data⟩ (by simp) (by rfl)
          exact⟨.pointer (some ⟨gb,3,none⟩),y,by simp[execOp,f1,go_sem],rfl,Below.refl _ _⟩
        | 3, _ =>
          have hoo:=Option.some.inj ho;subst hoo;have f2:ρ (.tmp 16)= .pointer (some ⟨gb,3,none⟩):=hd ⟨2, .data⟩ (by simp) (by rfl)
          exact⟨.map (some b1),y,by simp[execOp,f2,c3,go_sem],rfl,Below.refl _ _⟩
        | 4, _ =>
          have hoo:=Option.some.inj ho;subst hoo;exact⟨.pointer (some ⟨fb,1,none⟩),y,by simp[execOp,h5,go_sem],rfl,Below.refl _ _⟩
        | 5, _ =>
          have hoo:=Option.some.inj ho;subst hoo;have f4:ρ (.tmp 18)= .pointer (some ⟨fb,1,none⟩):=hd ⟨4, .data⟩ (by simp) (by rfl)
          exact⟨.int .i64 ((u:Nat):Int),y,by simp[execOp,f4,hBx.c1,go_sem],rfl,Below.refl _ _⟩
        | 6, _ =>
          have hoo:=Option.some.inj ho;subst hoo;have f3:ρ (.tmp 17)= .map (some b1):=hd ⟨3, .data⟩ (by simp) (by rfl)
          have f5:ρ (.tmp 19)= .int .i64 ((u:Nat):Int):=hd ⟨5, .data⟩ (by simp) (by rfl)
          exact⟨.int .i64 ((fu:Nat):Int),y,by simp[execOp,f3,f5,r1,Result.andThen],rfl,Below.refl _ _⟩
        |j+7,hk=>omega
      case hla=>
        intro o ho vals y hI hF;have hoo:=Option.some.inj ho;subst hoo;have q6:vals 20= .int .i64 (fu:Int):=hF 6 (by decide)
        refine ox_value (v:= .int .i64 (fu:Int)) (by simp[execOp,go_sem];exact q6) ?_
        have HBY:=Lib.hid hI;clear hI hF q6;simp only[fillA,fillL,List.contains_cons,List.contains_nil,Nat.reduceBEq,Bool.or_false,Bool.false_or,Bool.or_true,Bool.true_or,cond_true,cond_false,Nat.zero_add,Nat.reduceAdd];simp only[Act.put,List.getElem_toArray,List.getElem_cons_succ,List.getElem_cons_zero,List.setIfInBounds_toArray,List.set_cons_succ,List.set_cons_zero];go_wp2;go_loopw [6,7] (fun dv nv wi=> ∃(p:Nat) (dd:Int) (nn:Nat),p<=q/\dv= .int .i64 dd/\nv= .int .i64 (nn:Int)/\0<=dd/\dd<=99/\Hid (nn=fu+p)/\Hid (dd=befE (endsL fs ps u) p)/\Hid (Below wA.heap.size wA wi)) (fun _ nv _=>fu+q+1 - (intOf nv).toNat)
        case atStart=>exact⟨0,0,fu,Nat.zero_le _,rfl,rfl,Int.le_refl _,by omega,Lib.hid rfl,Lib.hid rfl,HBY⟩
        case round=>
          obtain⟨p,dd,nn,hp,rfl,rfl,hd0,hd9,HNN,HDD,HBI⟩:=hrel;clear HBY HGW HBX;have HGW:=Lib.hid (HGA.out.below HBI.out);have HBX:=Lib.hid (HBX2.out.below HBI.out);have hnq:nn<=lu:=by rw[HNN.out];omega
          have hle:(nn:Int)<=(lu:Int):=by omega
          have hn9:nn<=400:=by omega
          go_wp2_with fail;refine wp_region_gather2' 8 8 [21,22,23,24,25,26,27,28] (by kernel_rfl) (by kernel_rfl) (by intro d hd;simp at hd⊢;omega) (fun y=>Below wr.heap.size wr y) (fun _=>True) (fun y z=>Below y.heap.size y z) (FutB gb b1 b2 fb mk u z lu fu lm nn)
            (fun _ _ h=>h) (fun y z h hr=>h.trans (hr.mono h.size)) (fun _ _ h _=>trivial) (fun k v y z _ h _=>futB_any k v y z h) (fun v y z h _=>trivial) (Below.refl _ _).drew trivial ?hsb ?hlb
          case hsb=>
            intro j o hj ho ρ y hI hA hd hJ;have h0:ρ (.tmp 0)= .pointer (some ⟨gb,0,none⟩):=hA.tmp 0 (by decide)
            have h5:ρ (.tmp 5)= .pointer (some ⟨fb,0,none⟩):=hA.tmp 5 (by decide)
            have h7:ρ (.tmp 7)= .int .i64 (nn:Int):=hA.tmp 7 (by decide)
            have hG:=HGW.out.below hI;have hBx:=HBX.out.below hI;have c3:y.cell? ⟨gb,3,none⟩=some (.map (some b1)):=by rw[hG.cell];rfl
            have c4:y.cell? ⟨gb,4,none⟩=some (.map (some b2)):=by rw[hG.cell];rfl
            have r1:=tells_run hG.m1 HT1.out hun (by omega)
            have r2:=tells_run hG.m2 HT2.out hun (by omega)
            have r3:=tells_run hG.m2 HT2.out hmn (by omega)
            rw[<-HFU.out]at r1;rw[<-HLU.out]at r2;rw[<-HLM.out]at r3
            match j,hj with
            | 0, _ =>
              have hoo:=Option.some.inj ho;subst hoo;exact⟨.int .i64 ((nn:Nat):Int),y,by simp[execOp,h7,go_sem],rfl,Below.refl _ _⟩
            | 1, _ =>
              have hoo:=Option.some.inj ho;subst hoo;exact⟨.pointer (some ⟨gb,0,none⟩),y,by simp[execOp,h0,go_sem],rfl,Below.refl _ _⟩
            | 2, _ =>
              have hoo:=Option.some.inj ho;subst hoo;have f1:ρ (.tmp 22)= .pointer (some ⟨gb,0,none⟩):=hd ⟨1, .data⟩ (by simp) (by rfl)
              exact⟨.pointer (some ⟨gb,0,none⟩),y,by simp[execOp,f1,go_sem],rfl,Below.refl _ _⟩
            | 3, _ =>
              have hoo:=Option.some.inj ho;subst hoo;have f2:ρ (.tmp 23)= .pointer (some ⟨gb,0,none⟩):=hd ⟨2, .data⟩ (by simp) (by rfl)
              exact⟨.pointer (some ⟨gb,4,none⟩),y,by simp[execOp,f2,go_sem],rfl,Below.refl _ _⟩
            | 4, _ =>
              have hoo:=Option.some.inj ho;subst hoo;have f3:ρ (.tmp 24)= .pointer (some ⟨gb,4,none⟩):=hd ⟨3, .data⟩ (by simp) (by rfl)
              exact⟨.map (some b2),y,by simp[execOp,f3,c4,go_sem],rfl,Below.refl _ _⟩
            | 5, _ =>
              have hoo:=Option.some.inj ho;subst hoo;exact⟨.pointer (some ⟨fb,1,none⟩),y,by simp[execOp,h5,go_sem],rfl,Below.refl _ _⟩
            | 6, _ =>
              have hoo:=Option.some.inj ho;subst hoo;have f5:ρ (.tmp 26)= .pointer (some ⟨fb,1,none⟩):=hd ⟨5, .data⟩ (by simp) (by rfl)
              exact⟨.int .i64 ((u:Nat):Int),y,by simp[execOp,f5,hBx.c1,go_sem],rfl,Below.refl _ _⟩
            | 7, _ =>
              have hoo:=Option.some.inj ho;subst hoo;have f4:ρ (.tmp 25)= .map (some b2):=hd ⟨4, .data⟩ (by simp) (by rfl)
              have f6:ρ (.tmp 27)= .int .i64 ((u:Nat):Int):=hd ⟨6, .data⟩ (by simp) (by rfl)
              exact⟨.int .i64 ((lu:Nat):Int),y,by simp[execOp,f4,f6,r2,Result.andThen],rfl,Below.refl _ _⟩
            |j+8,hk=>omega
          case hlb=>
            intro o ho vals yb hI hF;have hoo:=Option.some.inj ho;subst hoo;have q0:vals 21= .int .i64 (nn:Int):=hF 0 (by decide)
            have q7:vals 28= .int .i64 (lu:Int):=hF 7 (by decide)
            refine ox_leq rfl q0 q7 hle ?_
            have HBY:=Lib.hid (HBI.out.trans (hI.mono HBI.out.size));clear hI hF q0 q7;simp only[fillA,fillL,List.contains_cons,List.contains_nil,Nat.reduceBEq,Bool.or_false,Bool.false_or,Bool.or_true,Bool.true_or,cond_true,cond_false,Nat.zero_add,Nat.reduceAdd];simp only[Act.put,List.getElem_toArray,List.getElem_cons_succ,List.getElem_cons_zero,List.setIfInBounds_toArray,List.set_cons_succ,List.set_cons_zero];have kz:=(HBX2.out.below HBY.out).c2
            by_cases hpq:p=q
            · have HPQ:=Lib.hid hpq;have hdz:((dd:Int)==(z:Int))=true:=by rw[beq_iff_eq,HDD.out,hpq];exact HHIT.out
              have hdz':dd=(z:Int):=by rw[HDD.out,hpq];exact HHIT.out
              have HGW:=Lib.hid (HGA.out.below HBY.out);have HBX:=Lib.hid (HBX2.out.below HBY.out);have HBR:=Lib.hid (HBW.out.trans (HBY.out.mono (by have:=HBW.out.size;omega)))
              clear hpq;subst hdz';go_wp2_with fail;refine wp_region_gather2' 9 9 [36,37,38,39,40,41,42,43,44] (by kernel_rfl) (by kernel_rfl) (by intro d hd;simp at hd⊢;omega) (fun y=>Below yb.heap.size yb y) (fun _=>True) (fun y z=>Below y.heap.size y z) (FutC gb b1 b2 fb mk u z lu fu lm nn)
                (fun _ _ h=>h) (fun y z h hr=>h.trans (hr.mono h.size)) (fun _ _ h _=>trivial) (fun k v y z _ h _=>futC_any k v y z h) (fun v y z h _=>trivial) (Below.refl _ _).drew trivial ?hsc ?hlc
              case hsc=>
                intro j o hj ho ρ y hI hA hd hJ;have h0:ρ (.tmp 0)= .pointer (some ⟨gb,0,none⟩):=hA.tmp 0 (by decide)
                have h5:ρ (.tmp 5)= .pointer (some ⟨fb,0,none⟩):=hA.tmp 5 (by decide)
                have h7:ρ (.tmp 7)= .int .i64 (nn:Int):=hA.tmp 7 (by decide)
                have hG:=HGW.out.below hI;have hBx:=HBX.out.below hI;have c3:y.cell? ⟨gb,3,none⟩=some (.map (some b1)):=by rw[hG.cell];rfl
                have c4:y.cell? ⟨gb,4,none⟩=some (.map (some b2)):=by rw[hG.cell];rfl
                have r1:=tells_run hG.m1 HT1.out hun (by omega)
                have r2:=tells_run hG.m2 HT2.out hun (by omega)
                have r3:=tells_run hG.m2 HT2.out hmn (by omega)
                rw[<-HFU.out]at r1;rw[<-HLU.out]at r2;rw[<-HLM.out]at r3
                match j,hj with
                | 0, _ =>
                  have hoo:=Option.some.inj ho;subst hoo;exact⟨.pointer (some ⟨gb,0,none⟩),y,by simp[execOp,h0,go_sem],rfl,Below.refl _ _⟩
                | 1, _ =>
                  have hoo:=Option.some.inj ho;subst hoo;exact⟨.pointer (some ⟨gb,0,none⟩),y,by simp[execOp,h0,go_sem],rfl,Below.refl _ _⟩
                | 2, _ =>
                  have hoo:=Option.some.inj ho;subst hoo;have f1:ρ (.tmp 37)= .pointer (some ⟨gb,0,none⟩):=hd ⟨1, .data⟩ (by simp) (by rfl)
                  exact⟨.pointer (some ⟨gb,0,none⟩),y,by simp[execOp,f1,go_sem],rfl,Below.refl _ _⟩
                | 3, _ =>
                  have hoo:=Option.some.inj ho;subst hoo;have f2:ρ (.tmp 38)= .pointer (some ⟨gb,0,none⟩):=hd ⟨2, .data⟩ (by simp) (by rfl)
                  exact⟨.pointer (some ⟨gb,4,none⟩),y,by simp[execOp,f2,go_sem],rfl,Below.refl _ _⟩
                | 4, _ =>
                  have hoo:=Option.some.inj ho;subst hoo;have f3:ρ (.tmp 39)= .pointer (some ⟨gb,4,none⟩):=hd ⟨3, .data⟩ (by simp) (by rfl)
                  exact⟨.map (some b2),y,by simp[execOp,f3,c4,go_sem],rfl,Below.refl _ _⟩
                | 5, _ =>
                  have hoo:=Option.some.inj ho;subst hoo;exact⟨.pointer (some ⟨fb,0,none⟩),y,by simp[execOp,h5,go_sem],rfl,Below.refl _ _⟩
                | 6, _ =>
                  have hoo:=Option.some.inj ho;subst hoo;have f5:ρ (.tmp 41)= .pointer (some ⟨fb,0,none⟩):=hd ⟨5, .data⟩ (by simp) (by rfl)
                  exact⟨.int .i64 ((mk:Nat):Int),y,by simp[execOp,f5,hBx.c0,go_sem],rfl,Below.refl _ _⟩
                | 7, _ =>
                  have hoo:=Option.some.inj ho;subst hoo;have f4:ρ (.tmp 40)= .map (some b2):=hd ⟨4, .data⟩ (by simp) (by rfl)
                  have f6:ρ (.tmp 42)= .int .i64 ((mk:Nat):Int):=hd ⟨6, .data⟩ (by simp) (by rfl)
                  exact⟨.int .i64 ((lm:Nat):Int),y,by simp[execOp,f4,f6,r3,Result.andThen],rfl,Below.refl _ _⟩
                | 8, _ =>
                  have hoo:=Option.some.inj ho;subst hoo;exact⟨.int .i64 ((nn:Nat):Int),y,by simp[execOp,h7,go_sem],rfl,Below.refl _ _⟩
                |j+9,hk=>omega
              case hlc=>
                intro o ho vals y hI hF;have hoo:=Option.some.inj ho;subst hoo;have q0:vals 36= .pointer (some ⟨gb,0,none⟩):=hF 0 (by decide)
                have q7:vals 43= .int .i64 (lm:Int):=hF 7 (by decide)
                have q8:vals 44= .int .i64 (nn:Int):=hF 8 (by decide)
                have hG:=HGW.out.below hI;refine cx_fun rfl 111 _ _ #[.pointer (some ⟨gb,0,none⟩), .int .i64 (lm:Int), .int .i64 (nn:Int)] rfl (by rw[<-q0,<-q7,<-q8];simp only[List.map_toArray,List.map_cons,List.map_nil];rfl) eg_edge ?_
                refine(edge_any base gb b1 b2 n1 n2 D1 D2 (.slice AW N cW) vE' vP (wPs fs ps np) (E++(List.range j).map (futN fs)) P (lm:Int) (nn:Int) y _ _ (by rw[List.length_append,List.length_map,List.length_range];omega) hG (Side.nil y base (.slice AW N cW))).mono ?_
                rintro e y' ⟨rfl,uE',hG4,_,b4,_⟩;refine⟨_,rfl,?_⟩
                have HG4:=Lib.hid hG4;have HB4:=Lib.hid (HBR.out.trans ((hI.mono (by have:=HBR.out.size;omega)).trans b4))
                clear hI hF q0 q7 q8 hG hG4 b4;simp only[fillA,fillL,List.contains_cons,List.contains_nil,Nat.reduceBEq,Bool.or_false,Bool.false_or,Bool.or_true,Bool.true_or,cond_true,cond_false,Nat.zero_add,Nat.reduceAdd]
                try simp only[Act.put,List.getElem_toArray,List.getElem_cons_succ,List.getElem_cons_zero,List.setIfInBounds_toArray,List.set_cons_succ,List.set_cons_zero]
                go_wp2;go_roundw
                case rel=>exact⟨j+1,uE',hlt,by go_num,Lib.hid (by rw[fut_snoc,HFN.out];have h:=HG4.out;rw[HNN.out,HPQ.out]at h;exact h),HB4⟩
                case measure=>simp[intOf];omega
            · have hlt2:p<q:=by omega
              have hne:=HAH.out p hlt2;rw[<-HDD.out]at hne;have hdz:((dd:Int)==(z:Int))=false:=by rw[beq_eq_false_iff_ne];omega
              have hdz2: ¬dd=(z:Int):=by omega
              have hG:=HGA.out.below HBY.out;have c0:=hG.cell 0;simp at c0;have hwl:(wPs fs ps np).length=N:=HNL.out;obtain⟨wb,wo,eW,hwc⟩:=OwnI.at_ (m:=N) (c:=cW) (A:=AW) (j:=nn) (by have h:=hG.hW;exact h) (by rw[hwl,HNN.out];have:=HLT.out;omega)
              subst eW;have hwv:(wPs fs ps np).getD nn 0=(endsL fs ps u).getD p 0 - dd:=by rw[HNN.out,HFU.out,wPs_at (by have:=HLT.out;omega) np hun,HDD.out]
              rw[hwv]at hwc;have hb1:befE (endsL fs ps u) (p+1)=(endsL fs ps u).getD p 0:=by unfold befE;rw[if_neg (by omega),Nat.add_sub_cancel]
              obtain⟨en,hen⟩: ∃en,en=(endsL fs ps u).getD p 0:=⟨_,rfl⟩;have hen0:=HNG.out (p+1) (by omega)
              have hen9:en<=99:=by
                rw[hen,<-hb1];rcases Nat.lt_or_ge (p+1) q with h|h
                · have:=HAH.out (p+1) h;omega
                · rw[show p+1=q by omega,HHIT.out]
                  exact hz9
              rw[hb1,<-hen]at hen0;rw[<-hen]at hwc;have HEN:Hid (en=befE (endsL fs ps u) (p+1)):=Lib.hid (by rw[hb1,hen])
              have hnN:nn<N:=by have:=HLT.out;have:=HNN.out;omega
              clear hG hwl hwv hb1 hen hpq hne;go_wp2;go_roundw
              case rel=>exact⟨p+1,en,nn+1,hlt2,by go_num,by go_num,hen0,by omega,Lib.hid (by rw[HNN.out];omega),HEN,HBY⟩
              case measure=>
                have:=HNN.out;simp[intOf];omega
    · obtain rfl:nf=j:=by omega
      go_wp2;rw[Exit.noGoto_normal]
      go_end0
      exact⟨rfl,_,HGJ.out,HBJ.out⟩
end Go.Proofs.YtlfekmbalgkmeaaGreatDoor
