import Derived.Test.YtngdbbligebcbabGreatDoorZM39
import Derived.Test.YtngdbbligebcbabGreatDoorZM12
import Derived.Test.YtngdbbligebcbabGreatDoorZStealCalmWalk
set_option linter.unusedSimpArgs false
set_option linter.unusedVariables false
set_option maxRecDepth 100000
set_option maxHeartbeats 16000000
namespace Go.Proofs.YtngdbbligebcbabGreatDoor
open Go Go.RowKit
def heldV(o:Int)(s:Bool)(a t bo:Int):Bool:=decide (o<0)&&(!s&&(decide (0<a)&&(decide (a=4)||(decide (a<3)&&decide (t<=bo)))))
section
variable {n m: Nat} {E: List (Int × Int)} {L: List Int} {g: Gng}
theorem allG_mono(g:Gng){k j:Nat}(h:k<=j):(allG g k).length<=(allG g j).length:=by
  induction j with
  |zero=>rw[show k=0 by omega];exact Nat.le_refl _
  | succ j ih =>
    by_cases e:k=j+1
    · rw[e];exact Nat.le_refl _
    · have:=ih (by omega)
      rw[allG_succ,List.length_append];omega
theorem heldG_le(g:Gng): ∀k,heldG g k<=k
  |0=>Nat.le_refl _
  | k + 1 => by
    have:=heldG_le g k;rw[heldG_succ]
    split<;>omega
theorem readyU_le(n:Nat)(E:List (Int×Int))(O L:List Int):(readyU n E O L).length<=n:=by
 unfold readyU;have:=List.length_filter_le (fun x=>decide (ReadyC E O L x)) (List.range n)
 rw[List.length_range]at this;exact this
theorem allG_64(h:GOk n m E L g){k j:Nat}(hk:k<m)(hj:(j:Int)<=g.B k - g.T k\/j=0):(allG g k).length+j<=64:=by
 have h1:=(once_spec h).2.2;have h2:=readyU_le n E g.O L;have h3:=h.n64;have h4:=allG_mono g (show k+1<=m from hk)
 rw[allG_succ,List.length_append,itemsD_len]at h4;omega
theorem once_len(h:GOk n m E L g):(allG g m).length<=64/\(readyU n E g.O L).length<=64:=by
 have h1:=(once_spec h).2.2;have h2:=readyU_le n E g.O L;have h3:=h.n64;omega
theorem all_apart(h:GOk n m E L g){j:Nat}{x:Int}(hx:(allG g m)[j]? =some x):x∉(allG g m).take j:=fun hm=>by
 have hn:=(once_spec h).1;obtain⟨hj,e⟩:=List.getElem?_eq_some_iff.1 hx
 obtain⟨i,hi,e2⟩:=List.mem_iff_getElem.mp hm;rw[List.length_take]at hi;rw[List.getElem_take]at e2;have:=(List.getElem_inj hn).mp (e2.trans e.symm);omega
end
theorem own_cell17{w:World}{base:Nat}{A:Option Addr}{n c:Nat}{zs:List Int}(h:OwnI w base (.slice A n c) zs){j:Nat}{z:Int}(hj:zs[j]? =some z): ∃b off,A=some ⟨b,off,none⟩/\w.cell? ⟨b,off+j,none⟩=some (.int .i64 z):=by
 obtain⟨b,off,z',e,_,hx,hc⟩:=h.ints.at_ (k:=j) (List.getElem?_eq_some_iff.1 hj).1
 rw[hx]at hj;rw[<-Option.some.inj hj];exact⟨b,off,e,hc⟩
theorem own_cap17{w:World}{base:Nat}{A:Option Addr}{n c:Nat}{zs:List Int}(h:OwnI w base (.slice A n c) zs):n<=c:=by
 rcases h.2 with⟨hv,hn⟩|⟨g,cap,cur,hv,hg,hgg,hc,_⟩
 ·have e:=h.len
  omega
 ·injection hv with h1 h2 h3
  omega
theorem Ints.take17{w:World}{B:Nat}{A:Option Addr}{zs:List Int}(h:Ints w B A zs)(k:Nat):Ints w B A (zs.take k):=fun hp=>by
 rw[List.length_take]at hp;obtain⟨b,off,e,hb,hc⟩:=h (by omega)
 refine⟨b,off,e,hb,fun i hi=> ?_⟩
 rw[List.length_take]at hi;rw[hc i (by omega),List.getD_eq_getElem?_getD,List.getD_eq_getElem?_getD,List.getElem?_take,if_pos (by omega)]
theorem slice_upto17(b off n c k:Nat)(hk:k<=c)(W:World):(Instr.sliceAt 22 (.slice (some ⟨b,off,none⟩) n c) none (some (.int .i64 (k:Int))) none).run Tryz.prog W= .ok (.slice (some ⟨b,off,none⟩) k c) W:=by
 have hu:Tryz.prog.underlying 22=some (.slice (Tryz.prog.elem 22)):=by kernel_rfl
 rw[run_sliceAt_slice (h:=hu),run_slice_h (ht:=hu) (h0:=by omega) (h2:=by omega)]
 simp[go_sem,sliced,addr_add]
theorem apart17{w:World}{base:Nat}{t t':TypeId}{s n:Nat}{v:Value}{xs:List Value}{g:Nat}{ys:Array Value}(h:w.ownsRow base t s v n xs)(hg:w.heap[g]? =some (.cells ys t' (0,0)))(ht:t≠t'):v.ownBlock≠some g:=by
 rcases h.2 with⟨rfl,_⟩|⟨g',cap',cur',rfl,_,hg',_⟩
 ·simp[Value.ownBlock]
 ·simp only [Value.ownBlock,ne_eq,Option.some.injEq]
  rintro rfl;rw[hg]at hg';injection hg' with hg';injection hg' with _ h2 _;exact ht h2.symm
theorem wpList_push17{ops:Array Oper}{rest:List Oper}{o:Oper}{a:Act}{Q:Exit->Act->World->Prop}(hgd:o.guard=none)(s x:Operand)
    (ho:o.op= .call {callee:= .builtin .append,args:= #[s,x],argTypes:= #[22,22]})
    (w1:World) (base:Nat) (v:Value) (zs:List Int) (n:Int) (len:Nat) (hlen:zs.length=len) (hl:len<=1000) (hO:OwnI w1 base v zs) (hB:base<=w1.heap.size)
    (hs:a.eval s=v) (hx:a.eval x= .slice (some ⟨w1.heap.size,0,none⟩) 1 1)
    (h: ∀A' c' w',OwnI w' base (.slice A' (len+1) c') (zs++ [n])->Below base w1 w'->(∀g t vs,RowV g t vs w1->3≠t->RowV g t vs w')->wpList Tryz.prog ops Q rest (a.put o.dst (.slice A' (len+1) c')) w'):wpList Tryz.prog ops Q (o::rest) a (w1.alloc (.cells #[.int .i64 n] 3)):=by
  obtain⟨i0,hi0,hz0,hz1,hz2⟩: ∃i,Tryz.prog.info? 3=some i/\i.zero=some (.int .i64 0)/\i.size=1/\i.bytes=8:=by
    have h:=int_cell_info;cases hi:Tryz.prog.info? 3 with
    |none=>rw[hi]at h;cases h
    | some i =>
      rw[hi]at h;simp at h;exact⟨i,rfl,h.1,h.2.1,h.2.2⟩
  subst hlen;have hbw:Below base w1 (w1.alloc (.cells #[.int .i64 n] 3)):=(Below.refl base w1).alloc hB _;have hsz:(w1.alloc (.cells #[.int .i64 n] 3)).heap.size=w1.heap.size+1:=by simp
  refine wpList_append_lies _ hgd s x 22 ho base 3 i0 (.int .i64 0) 1 8 Tryz.underlying22 hi0 hz0 hz1 hz2 rfl (by omega) v zs.length (zs.map (Value.int .i64)) hs (hO.alloc _) ⟨w1.heap.size,0,none⟩ 1 1 [.int .i64 n] hx rfl ?_ ?_
    (by omega) (by unfold maxLen;omega) (by omega) (by omega) _ rfl ?_
  · intro j u hu
    match j with
    | 0 =>
      obtain rfl:Value.int .i64 n=u:=by simpa using hu
      rw[addr_add,World.cell?_alloc_at _ _ _ _ rfl]
      rfl
    |j+1=>simp at hu
  · intro u hu;obtain rfl:u= .int .i64 n:=by simpa using hu
    rfl
  · intro g cap w' hown hg hat _;have hO':OwnI w' base (.slice (some ⟨g,0,none⟩) (zs.length+1) cap) (zs++ [n]):=by
      unfold OwnI;rw[List.length_append,List.length_singleton,List.map_append];exact hown
    exact h (some ⟨g,0,none⟩) cap w' hO' (hbw.grown hg (by omega) (fun k hk=>(hO.lt k hk).1)) (fun g t vs hr ht=>by
      have h1:=hr.alloc (.cells #[.int .i64 n] 3);unfold RowV at h1⊢;rw[hg.block _ (Array.getElem?_eq_some_iff.1 h1).1 (apart17 (hO.alloc _) h1 ht).symm]
      exact h1)
section
variable {w: World} {b m: Nat} {g: Gng} {L: List Int} {gO cO: Nat} {AL: Option Addr} {nL cL gD cD gT cT gF cF: Nat} {Rv: Nat -> Value} {W: List Int} {E: List (Int × Int)} {AW FE: Option Addr} {nW cW mE dE: Nat}
theorem once_any(w:World)(hok:GOk W.length m E L g)(hr:GngR w b m g L ⟨gO,cO, .slice AL nL cL,gD,cD,gT,cT,gF,cF,Rv⟩)(hm:m<=8)(hg:IsG w AW nW cW FE mE dE W E)(hM:May W E):
    Calls Tryz.prog 25 #[.agg #[.slice AW nW cW, .slice FE mE dE], .agg #[.slice (some ⟨gO,0,none⟩) m cO, .slice AL nL cL, .slice (some ⟨gD,0,none⟩) m cD, .slice (some ⟨gT,0,none⟩) m cT, .slice (some ⟨gF,0,none⟩) m cF]] w fun e w'=>e= .returned (.bool true)/\Below w.heap.size w w':=by
  obtain⟨w0,hw0⟩: ∃w0,w0=(w.alloc (.cells #[.slice AW nW cW, .slice FE mE dE] 25)).alloc (.cells #[.slice (some ⟨gO,0,none⟩) m cO, .slice AL nL cL, .slice (some ⟨gD,0,none⟩) m cD, .slice (some ⟨gT,0,none⟩) m cT, .slice (some ⟨gF,0,none⟩) m cF] 41):=⟨_,rfl⟩;have hb0:Below w.heap.size w w0:=by rw[hw0];exact((Below.refl _ _).alloc (Nat.le_refl _) _).alloc (by simp) _
  have HB0:=Lib.hid hb0;have HD0:Hid (RowV w.heap.size 25 [.slice AW nW cW, .slice FE mE dE] w0):=Lib.hid (by rw[hw0];exact(RowV.new w _ [.slice AW nW cW, .slice FE mE dE]).alloc _)
  have HR0:Hid (RowV (w.heap.size+1) 41 [.slice (some ⟨gO,0,none⟩) m cO, .slice AL nL cL, .slice (some ⟨gD,0,none⟩) m cD, .slice (some ⟨gT,0,none⟩) m cT, .slice (some ⟨gF,0,none⟩) m cF] w0):=Lib.hid (by
    rw[hw0];have:=RowV.new (w.alloc (.cells #[.slice AW nW cW, .slice FE mE dE] 25)) 41 [.slice (some ⟨gO,0,none⟩) m cO, .slice AL nL cL, .slice (some ⟨gD,0,none⟩) m cD, .slice (some ⟨gT,0,none⟩) m cT, .slice (some ⟨gF,0,none⟩) m cF]
    simpa using this)
  have HG0:=Lib.hid (hr.below hb0);have HI0:=Lib.hid (hg.below hb0);have HM:=Lib.hid hM;have HOK:=Lib.hid hok;have HW0:=Lib.hid hw0;have hl:=hok.crew.ln;have h6:=hok.n64;have HL2:Hid (L.length=W.length/\L.length<=64):=Lib.hid ⟨hl,by omega⟩
  clear hok hr hg hM hw0 hb0 hl h6;go_enter Tryz.func25,Tryz.ntmps25;go_upto_region 1 with fail;rw[<-HW0.out];have p0:w0.cell? ⟨w.heap.size,0,none⟩=some (.slice AW nW cW):=HD0.out.cell rfl
  have p1:w0.cell? ⟨w.heap.size,1,none⟩=some (.slice FE mE dE):=HD0.out.cell rfl
  have r0:w0.cell? ⟨w.heap.size+1,0,none⟩=some (.slice (some ⟨gO,0,none⟩) m cO):=HR0.out.cell rfl
  have r1:w0.cell? ⟨w.heap.size+1,1,none⟩=some (.slice AL nL cL):=HR0.out.cell rfl
  go_wp2_with fail;refine(rreadyC_any w0 HI0.out (HG0.out.isC (by omega) (by have:=HL2.out.2;omega)) HM.out.fits HL2.out.1).mono ?_
  rintro e w1 ⟨AR,cR,rfl,hOR,b1⟩;have eR:readyW E g.O L nL=nums (readyU W.length E g.O L):=by unfold readyW;rw[<-(HG0.out.isC (by omega) (by have:=HL2.out.2;omega)).hm,HL2.out.1]
  rw[eR]at hOR⊢;obtain⟨rs,hrs⟩: ∃rs,rs=nums (readyU W.length E g.O L):=⟨_,rfl⟩;obtain⟨nr,hnr⟩: ∃nr,nr=rs.length:=⟨_,rfl⟩;rw[<-hrs]at hOR⊢;rw[<-hnr]at hOR⊢;have HRS:=Lib.hid hrs;have HNR:=Lib.hid hnr;clear eR hrs hnr p0 p1 r0 r1;go_wp2_with fail;obtain⟨w2,hw2⟩: ∃w2,w2=w1.alloc (.cells #[] 3):=⟨_,rfl⟩;have HO2:Hid (OwnI w2 w1.heap.size (.slice (some ⟨w1.heap.size,0,none⟩) 0 0) (allG g 0)):=Lib.hid (by rw[hw2];exact OwnI.new w1 w1.heap.size (Nat.le_refl _))
  have hb2:Below w1.heap.size w1 w2:=by rw[hw2];exact below_alloc _
  have HB2:=Lib.hid hb2;have HOR:=Lib.hid hOR;have HB1:=Lib.hid b1;have HR2:=Lib.hid (HR0.out.below b1 HR0.out.lt);have HG2:=Lib.hid (HG0.out.below b1);rw[<-hw2];obtain⟨q,hq⟩: ∃q,q=w.heap.size+1:=⟨_,rfl⟩;rw[<-hq]at HR2⊢;have hqb:q<w1.heap.size:=by have:=HR0.out.lt;have:=b1.size;omega
  have HQB:=Lib.hid hqb;clear hw2 hb2 hOR b1 hq hqb HR0 HG0 HI0 HD0 HW0;go_loopw [6,7,8] (fun v hd i wr=> ∃(k n1:Nat) (A1:Option Addr) (c1:Nat),k<=m/\i= .int .i64 k/\hd= .int .i64 (heldG g k)/\v= .slice A1 n1 c1/\Hid (n1=(allG g k).length)/\Hid (OwnI wr w1.heap.size (.slice A1 n1 c1) (allG g k))/\Hid (Below w1.heap.size w1 wr)) (fun _ _ i _=>m - (intOf i).toNat)
  case atStart=>exact⟨0,0,_,_,Nat.zero_le _,rfl,rfl,rfl,Lib.hid rfl,HO2,HB2⟩
  case round=>
    clear HO2;obtain⟨k,n1,A1,c1,hk,rfl,rfl,rfl,HN,HO,HB⟩:=hrel;have HG:=Lib.hid (HG2.out.below HB.out);have HRW:=Lib.hid (HR2.out.below HB.out HR2.out.lt);have r0:wr.cell? ⟨q,0,none⟩=some (.slice (some ⟨gO,0,none⟩) m cO):=HRW.out.cell rfl
    have r2:wr.cell? ⟨q,2,none⟩=some (.slice (some ⟨gD,0,none⟩) m cD):=HRW.out.cell rfl
    have r3:wr.cell? ⟨q,3,none⟩=some (.slice (some ⟨gT,0,none⟩) m cT):=HRW.out.cell rfl
    by_cases hlt:k<m
    · have HLT:=Lib.hid hlt;have c0:=HG.out.dq hlt (i:=0) rfl;have c1':=HG.out.dq hlt (i:=1) rfl;have c2:=HG.out.dq hlt (i:=2) rfl;simp only[Nat.add_zero]at c0;obtain⟨AA,cc,hv,hOA⟩:=(HG.out.ring k hlt).slice;rw[HOK.out.rl k hlt]at hv;dsimp only at hv c0 c1' c2;rw[hv]at c0;have e3:k * 3=3 * k:=Nat.mul_comm _ _;have hkn: ¬((m:Int)<=(k:Int)):=by omega
      clear hOA;go_upto_region 8 with fail;obtain⟨w5,hw5⟩: ∃w5,w5=wr.alloc (.cells #[.slice AA 64 cc, .int .i64 (g.T k), .int .i64 (g.B k)] 81):=⟨_,rfl⟩;have HD5:Hid (RowV wr.heap.size 81 [.slice AA 64 cc, .int .i64 (g.T k), .int .i64 (g.B k)] w5):=Lib.hid (by rw[hw5];exact RowV.new wr _ [.slice AA 64 cc, .int .i64 (g.T k), .int .i64 (g.B k)])
      have HO5:Hid (OwnI w5 w1.heap.size (.slice A1 n1 c1) (allG g k)):=Lib.hid (by rw[hw5];exact HO.out.below (below_alloc _))
      have HB5:Hid (Below w1.heap.size w1 w5):=Lib.hid (by rw[hw5];exact HB.out.trans ((below_alloc _).mono HB.out.size))
      rw[<-hw5];obtain⟨gd,hgd⟩: ∃gd,gd=wr.heap.size:=⟨_,rfl⟩;rw[<-hgd]at HD5⊢;obtain⟨T,hT⟩: ∃T,T=g.T k:=⟨_,rfl⟩;obtain⟨B,hB⟩: ∃B,B=g.B k:=⟨_,rfl⟩;rw[<-hT,<-hB]at HD5;have HTE:=Lib.hid hT;have HBE:=Lib.hid hB;have hTB:0<=T/\T<=64/\T - 1<=B/\B<=64:=by rw[hT,hB];exact(HOK.out.dq k hlt).bounds
      clear hw5 hgd c0 c1' c2 r0 r2 r3 HG HRW HO HB hT hB;have d0:w5.cell? ⟨gd,0,none⟩=some (.slice AA 64 cc):=HD5.out.cell rfl
      have d1:w5.cell? ⟨gd,1,none⟩=some (.int .i64 T):=HD5.out.cell rfl
      have d2:w5.cell? ⟨gd,2,none⟩=some (.int .i64 B):=HD5.out.cell rfl
      obtain⟨cnt,hcnt⟩: ∃cnt,cnt=(B - T).toNat:=⟨_,rfl⟩;go_upto_region 9 with fail;clear d0 d1 d2;go_loopw [6,10] (fun v kv ws=> ∃(j n2:Nat) (A2:Option Addr) (c2:Nat),j<=cnt/\kv= .int .i64 (T+j)/\v= .slice A2 n2 c2/\Hid (n2=(allG g k).length+j)/\Hid (OwnI ws w1.heap.size (.slice A2 n2 c2) (allG g k++itemsD (g.R k) T (T+j)))/\Hid (Below w1.heap.size w1 ws)/\Hid (RowV gd 81 [.slice AA 64 cc, .int .i64 T, .int .i64 B] ws)) (fun _ kv _=>cnt - (intOf kv - T).toNat)
      case atStart=>exact⟨0,n1,A1,c1,Nat.zero_le _,by simp,rfl,Lib.hid (by rw[HN.out];rfl),Lib.hid (by rw[show T+((0:Nat):Int)=T by omega,itemsD_empty (Int.le_refl _),List.append_nil];exact HO5.out),HB5,HD5⟩
      case round=>
        clear HO5 HB5 HD5;obtain⟨j,n2,A2,c2,hj,rfl,rfl,HN2,HO2,HB2',HD2⟩:=hrel;have d0:wr.cell? ⟨gd,0,none⟩=some (.slice AA 64 cc):=HD2.out.cell rfl
        have d1:wr.cell? ⟨gd,1,none⟩=some (.int .i64 T):=HD2.out.cell rfl
        have d2:wr.cell? ⟨gd,2,none⟩=some (.int .i64 B):=HD2.out.cell rfl
        have hszr:w1.heap.size<=wr.heap.size:=HB2'.out.size
        by_cases hin:T+(j:Int)<B
        · have hd:decide (T+(j:Int)<B)=true:=decide_eq_true hin;have hjc:j<cnt:=by omega
          obtain⟨kz,hkz⟩: ∃kz:Int,kz=T+j:=⟨_,rfl⟩;obtain⟨p,hp⟩: ∃p:Nat,p=kz.toNat%64:=⟨_,rfl⟩;have hp64:p<64:=by rw[hp];exact Nat.mod_lt _ (by decide)
          have hpn: ¬((64:Int)<=(p:Int)):=by omega
          have hrem:kz.tmod 64=(p:Int):=by rw[Int.tmod_eq_emod_of_nonneg (by omega),hp];omega
          have HG3:=Lib.hid (HG2.out.below HB2'.out);obtain⟨AA',cc',hv',hIA⟩:=(HG3.out.ring k HLT.out).slice;rw[HOK.out.rl k HLT.out]at hv';have ev:=hv.symm.trans hv';injection ev with ev1 ev2 ev3;subst ev1 ev3;obtain⟨bb,off,x,hA0,hbb,hx,hcc⟩:=hIA.at_ (k:=p) (by rw[HOK.out.rl k HLT.out];exact hp64)
          subst hA0;have HX:Hid (itemsD (g.R k) T (T+((j+1:Nat):Int))=itemsD (g.R k) T (T+j)++ [x]):=Lib.hid (by
            have hxe:placeD (g.R k) kz=x:=by unfold placeD;rw[if_neg (by omega),HOK.out.rl k HLT.out,<-hp,List.getD_eq_getElem?_getD,hx];rfl
            rw[itemsD_last (by omega),show T+((j+1:Nat):Int) - 1=T+j by omega,<-hkz,hxe])
          have h64:=allG_64 HOK.out HLT.out (j:=j+1) (by left;rw[<-HTE.out,<-HBE.out];omega)
          have HLN:Hid ((allG g k++itemsD (g.R k) T (T+j)).length=n2):=Lib.hid (by rw[List.length_append,itemsD_len,HN2.out];omega)
          have hn2:n2<=64:=by have:=HN2.out;omega
          rw[<-hkz]at hd⊢;have HKZ:=Lib.hid hkz;have hwr:wrap64 (kz+1)=kz+1:=by unfold wrap64;omega
          clear hx hbb hIA hv' hp hkz hin h64 hj
          go_wp2_with(at_builtin;refine wpList_push17 rfl _ _ rfl wr w1.heap.size _ (allG g k++itemsD (g.R k) T (T+j)) x n2 HLN.out (by omega) HO2.out hszr rfl rfl ?_;intro A3 c3 w3 HO3 HB3 HR3;(have HO3':=Lib.hid HO3);(have HB3':=Lib.hid HB3);(have HR3':=Lib.hid (HR3 _ _ _ HD2.out (by decide)));clear HO3 HB3 HR3)
          go_roundw
          case rel=>exact⟨j+1,n2+1,A3,c3,by omega,by rw[hwr,HKZ.out];go_num,rfl,Lib.hid (by rw[HN2.out];omega),Lib.hid (by rw[HX.out,<-List.append_assoc];exact HO3'.out),Lib.hid (HB2'.out.trans HB3'.out),HR3'⟩
          case measure=>rw[hwr];simp only[intOf];have:=HKZ.out;omega
        · have hd:decide (T+(j:Int)<B)=false:=decide_eq_false hin;have HAE:Hid (allG g k++itemsD (g.R k) T (T+j)=allG g (k+1)):=Lib.hid (by
            rw[allG_succ,<-HTE.out,<-HBE.out]
            by_cases hle:T<=B
            · rw[show T+(j:Int)=B by omega]
            · rw[itemsD_empty (V:=T+(j:Int)) (by omega),itemsD_empty (V:=B) (by omega)])
          have HNS:Hid (n2=(allG g (k+1)).length):=Lib.hid (by rw[<-HAE.out,List.length_append,itemsD_len,HN2.out];omega)
          have HO2:Hid (OwnI wr w1.heap.size (.slice A2 n2 c2) (allG g (k+1))):=Lib.hid (by rw[<-HAE.out];exact HO2.out)
          have HG3:=Lib.hid (HG2.out.below HB2'.out);have HRW:=Lib.hid (HR2.out.below HB2'.out HR2.out.lt);have r0:wr.cell? ⟨q,0,none⟩=some (.slice (some ⟨gO,0,none⟩) m cO):=HRW.out.cell rfl
          have r2:wr.cell? ⟨q,2,none⟩=some (.slice (some ⟨gD,0,none⟩) m cD):=HRW.out.cell rfl
          have r3:wr.cell? ⟨q,3,none⟩=some (.slice (some ⟨gT,0,none⟩) m cT):=HRW.out.cell rfl
          obtain⟨t,ht⟩: ∃t,t=g.tk k:=⟨_,rfl⟩;have t0:=HG3.out.tk HLT.out (i:=0) rfl;have t1:=HG3.out.tk HLT.out (i:=1) rfl;have t2:=HG3.out.tk HLT.out (i:=2) rfl;have t3:=HG3.out.tk HLT.out (i:=3) rfl;have t4:=HG3.out.tk HLT.out (i:=4) rfl;have t5:=HG3.out.tk HLT.out (i:=5) rfl;have HHE:heldB g k=heldV (g.O.getD k 0) t.steal t.at_ T t.bot:=by rw[ht,HTE.out];rfl
          rw[<-ht]at t0 t1 t2 t3 t4 t5;obtain⟨s,a,tp,bo,go,en⟩:=t;simp only[Nat.add_zero]at t0;dsimp only at t0 t1 t2 t3 t4 t5 HHE;have e6:k * 6=6 * k:=Nat.mul_comm _ _;have HHE:=Lib.hid HHE;clear ht hin HAE;go_upto_region 13 with fail;obtain⟨w6,hw6⟩: ∃w6,w6=wr.alloc (.cells #[.bool s, .int .i64 a, .int .i64 tp, .int .i64 bo, .int .i64 go, .int .i64 en] 65):=⟨_,rfl⟩;have hb6:Below wr.heap.size wr w6:=by rw[hw6];exact below_alloc _
          have HT6:Hid (RowV wr.heap.size 65 [.bool s, .int .i64 a, .int .i64 tp, .int .i64 bo, .int .i64 go, .int .i64 en] w6):=Lib.hid (by rw[hw6];exact RowV.new wr _ [.bool s, .int .i64 a, .int .i64 tp, .int .i64 bo, .int .i64 go, .int .i64 en])
          rw[<-hw6];obtain⟨gt,hgt⟩: ∃gt,gt=wr.heap.size:=⟨_,rfl⟩;have hd6:=HD2.out.below hb6 HD2.out.lt;have hr6:=HRW.out.below hb6 HRW.out.lt;have hg6:=HG3.out.below hb6;have HO3:=Lib.hid (HO2.out.below hb6);have HB6:Hid (Below w1.heap.size w1 w6):=Lib.hid (HB2'.out.trans (hb6.mono HB2'.out.size));rw[<-hgt]at HT6⊢;clear hw6 hgt d0 d1 d2 r0 r2 r3 t0 t1 t2 t3 t4 t5 hb6 HO2 HD2 HRW HG3 HB2';have x1:w6.cell? ⟨gd,1,none⟩=some (.int .i64 T):=hd6.cell rfl
          have r0:w6.cell? ⟨q,0,none⟩=some (.slice (some ⟨gO,0,none⟩) m cO):=hr6.cell rfl
          have oc:=hg6.onc HLT.out;have g0:w6.cell? ⟨gt,0,none⟩=some (.bool s):=HT6.out.cell rfl
          have g1:w6.cell? ⟨gt,1,none⟩=some (.int .i64 a):=HT6.out.cell rfl
          have g3:w6.cell? ⟨gt,3,none⟩=some (.int .i64 bo):=HT6.out.cell rfl
          obtain⟨o,ho⟩: ∃o,o=g.O.getD k 0:=⟨_,rfl⟩;rw[<-ho]at oc HHE;dsimp only at oc;clear hd6 hr6 hg6 ho hd;have hh8:=heldG_le g k
          by_cases h1:o<0
          · have d1:decide (o<0)=true:=decide_eq_true (by omega)
            cases s with
            | true =>
              have HHB:heldB g k=false:=by rw[HHE.out];unfold heldV;simp only[d1,Bool.not_true,Bool.not_false,Bool.true_and,Bool.false_and,Bool.and_false,Bool.and_true,Bool.true_or,Bool.or_true,Bool.false_or,Bool.or_false]
              have HHS:=Lib.hid (heldG_succ g k);rw[HHB]at HHS;clear HHB;go_wp2;go_roundw
              case rel=>exact⟨k+1,n2,A2,c2,by omega,by go_num,by rw[HHS.out];rfl,rfl,HNS,HO3,HB6⟩
              case measure=>simp[intOf];omega
            | false =>
              by_cases h3:0<a
              · have d3:decide (0<a)=true:=decide_eq_true (by omega)
                by_cases h4:a=4
                · have d4:(a==4)=true:=by simpa using h4
                  have e4:decide (a=4)=true:=decide_eq_true h4;have HHB:heldB g k=true:=by rw[HHE.out];unfold heldV;simp only[d1,d3,e4,Bool.not_true,Bool.not_false,Bool.true_and,Bool.false_and,Bool.and_false,Bool.and_true,Bool.true_or,Bool.or_true,Bool.false_or,Bool.or_false]
                  have HHS:=Lib.hid (heldG_succ g k);rw[HHB]at HHS;clear HHB;go_wp2;go_roundw
                  case rel=>exact⟨k+1,n2,A2,c2,by omega,by go_num,by rw[HHS.out];simp only[if_true];go_num,rfl,HNS,HO3,HB6⟩
                  case measure=>simp[intOf];omega
                · have d4:(a==4)=false:=by simpa using h4
                  have e4:decide (a=4)=false:=decide_eq_false h4
                  by_cases h5:a<3
                  · have d5:decide (a<3)=true:=decide_eq_true (by omega)
                    by_cases h6:T<=bo
                    · have d6:decide (T<=bo)=true:=decide_eq_true (by omega)
                      have HHB:heldB g k=true:=by rw[HHE.out];unfold heldV;simp only[d1,d3,e4,d5,d6,Bool.not_true,Bool.not_false,Bool.true_and,Bool.false_and,Bool.and_false,Bool.and_true,Bool.true_or,Bool.or_true,Bool.false_or,Bool.or_false]
                      have HHS:=Lib.hid (heldG_succ g k);rw[HHB]at HHS;clear HHB;go_wp2;go_roundw
                      case rel=>exact⟨k+1,n2,A2,c2,by omega,by go_num,by rw[HHS.out];simp only[if_true];go_num,rfl,HNS,HO3,HB6⟩
                      case measure=>simp[intOf];omega
                    · have d6:decide (T<=bo)=false:=decide_eq_false (by omega)
                      have HHB:heldB g k=false:=by rw[HHE.out];unfold heldV;simp only[d1,d3,e4,d5,d6,Bool.not_true,Bool.not_false,Bool.true_and,Bool.false_and,Bool.and_false,Bool.and_true,Bool.true_or,Bool.or_true,Bool.false_or,Bool.or_false]
                      have HHS:=Lib.hid (heldG_succ g k);rw[HHB]at HHS;clear HHB;go_wp2;go_roundw
                      case rel=>exact⟨k+1,n2,A2,c2,by omega,by go_num,by rw[HHS.out];rfl,rfl,HNS,HO3,HB6⟩
                      case measure=>simp[intOf];omega
                  · have d5:decide (a<3)=false:=decide_eq_false (by omega)
                    have HHB:heldB g k=false:=by rw[HHE.out];unfold heldV;simp only[d1,d3,e4,d5,Bool.not_true,Bool.not_false,Bool.true_and,Bool.false_and,Bool.and_false,Bool.and_true,Bool.true_or,Bool.or_true,Bool.false_or,Bool.or_false]
                    have HHS:=Lib.hid (heldG_succ g k);rw[HHB]at HHS;clear HHB;go_wp2;go_roundw
                    case rel=>exact⟨k+1,n2,A2,c2,by omega,by go_num,by rw[HHS.out];rfl,rfl,HNS,HO3,HB6⟩
                    case measure=>simp[intOf];omega
              · have d3:decide (0<a)=false:=decide_eq_false (by omega)
                have HHB:heldB g k=false:=by rw[HHE.out];unfold heldV;simp only[d1,d3,Bool.not_true,Bool.not_false,Bool.true_and,Bool.false_and,Bool.and_false,Bool.and_true,Bool.true_or,Bool.or_true,Bool.false_or,Bool.or_false]
                have HHS:=Lib.hid (heldG_succ g k);rw[HHB]at HHS;clear HHB;go_wp2;go_roundw
                case rel=>exact⟨k+1,n2,A2,c2,by omega,by go_num,by rw[HHS.out];rfl,rfl,HNS,HO3,HB6⟩
                case measure=>simp[intOf];omega
          · have d1:decide (o<0)=false:=decide_eq_false (by omega)
            have HHB:heldB g k=false:=by rw[HHE.out];unfold heldV;simp only[d1,Bool.not_true,Bool.not_false,Bool.true_and,Bool.false_and,Bool.and_false,Bool.and_true,Bool.true_or,Bool.or_true,Bool.false_or,Bool.or_false]
            have HHS:=Lib.hid (heldG_succ g k);rw[HHB]at HHS;clear HHB;go_wp2;go_roundw
            case rel=>exact⟨k+1,n2,A2,c2,by omega,by go_num,by rw[HHS.out];rfl,rfl,HNS,HO3,HB6⟩
            case measure=>simp[intOf];omega
    · obtain rfl:m=k:=by omega
      obtain⟨w9,hw9⟩: ∃w9,w9=wr:=⟨_,rfl⟩;have HO9:Hid (OwnI w9 w1.heap.size (.slice A1 n1 c1) (allG g m)):=Lib.hid (by rw[hw9];exact HO.out)
      have HB9:Hid (Below w1.heap.size w1 w9):=Lib.hid (by rw[hw9];exact HB.out)
      have HOR9:Hid (OwnI w9 w0.heap.size (.slice AR nr cR) rs):=Lib.hid (by rw[hw9];exact HOR.out.below HB.out)
      have n64:n1<=64:=by rw[HN.out];exact(once_len HOK.out).1
      have nr64:nr<=64:=by rw[HNR.out,HRS.out];simp only[nums,List.length_map];exact(once_len HOK.out).2
      have hsum:n1+heldG g m=nr:=by rw[HN.out,HNR.out,HRS.out];simp only[nums,List.length_map];exact(once_spec HOK.out).2.2
      have r2:w9.cell? ⟨q,2,none⟩=some (.slice (some ⟨gD,0,none⟩) m cD):=by rw[hw9];exact r2
      rw[<-hw9];clear hw9 HO HB HOR HG HRW;go_wp2;clear r2;go_loopw [12] (fun v ws=> ∃j:Nat,j<=n1/\v= .int .i64 j/\Hid (Below w9.heap.size w9 ws)) (fun v _=>n1 - (intOf v).toNat)
      case atStart=>exact⟨0,Nat.zero_le _,rfl,Lib.hid (Below.refl _ _)⟩
      case round=>
        obtain⟨j,hj,rfl,HBJ⟩:=hrel
        by_cases hlt2:j<n1
        · obtain⟨x,hx⟩: ∃x,(allG g m)[j]? =some x:=⟨_,List.getElem?_eq_getElem (by rw[<-HN.out];exact hlt2)⟩
          have hxa:=all_apart HOK.out hx;have hxr:x∈rs:=by rw[HRS.out];exact(once_spec HOK.out).2.1 x (List.mem_of_getElem? hx)
          obtain⟨bb,off,hA,hc⟩:=own_cell17 (HO9.out.below HBJ.out) hx;subst hA;have hcap:=own_cap17 (HO9.out);have hsl:=slice_upto17 bb off n1 c1 j (by omega)
          have CH1:=Lib.hid (fun N=>(has_any (some ⟨bb,off,none⟩) c1 ((allG g m).take j) x (wr.drewN N) j (by rw[List.length_take,<-HN.out];omega) (by omega) (((HO9.out.below HBJ.out).below (below_drewN (Below.refl _ _) N)).ints.take17 j)).mono fun e w' (h:e= .returned (.bool (decide (x∈(allG g m).take j)))/\wr.drewN N=w')=>(show e= .returned (.bool false)/\w'=wr.drewN N from⟨by rw[h.1,decide_eq_false hxa],h.2.symm⟩))
          have CH2:=Lib.hid (fun N=>(has_any AR cR rs x (wr.drewN N) nr HNR.out.symm (by omega) ((HOR9.out.below HBJ.out).below (below_drewN (Below.refl _ _) N)).ints).mono fun e w' (h:e= .returned (.bool (decide (x∈rs)))/\wr.drewN N=w')=>(show e= .returned (.bool true)/\w'=wr.drewN N from⟨by rw[h.1,decide_eq_true hxr],h.2.symm⟩))
          have hjn: ¬((n1:Int)<=(j:Int)):=by omega
          clear hx hxa hxr;go_wp2
          go_quiet (first
            |(go_at_call_of 22 (Value.slice (some ⟨bb,off,none⟩) j c1);refine Calls.quiet_of_same (CH1.out _))
            |(go_at_call_of 22 (Value.slice AR nr cR);refine Calls.quiet_of_same (CH2.out _)))
          have HBN:=Lib.hid (HBJ.out.trans ((below_drewN (Below.refl _ _) nq).mono HBJ.out.size));clear CH1 CH2 hsl hc;go_wp2;go_roundw
          case rel=>exact⟨j+1,by omega,by go_num,HBN⟩
          case measure=>simp[intOf];omega
        · obtain rfl:j=n1:=by omega
          have hs2:(((j:Int)+(heldG g m:Int))==(nr:Int))=true:=by simp;omega
          go_wp2;go_ret
          exact⟨rfl,HB0.out.trans ((HB1.out.trans ((HB9.out.trans (HBJ.out.mono HB9.out.size)).mono HB1.out.size)).mono HB0.out.size)⟩
end
end Go.Proofs.YtngdbbligebcbabGreatDoor
set_option linter.unusedSimpArgs false
set_option linter.unusedVariables false
set_option maxRecDepth 100000
set_option maxHeartbeats 32000000
namespace Go.Proofs.YtngdbbligebcbabGreatDoor
open Go Go.RowKit
def PhiLo9(b m:Nat)(AW FE:Option Addr)(nW cW mE dE:Nat)(g:Gng)(L:List Int)(gO cO:Nat)(AL:Option Addr)(nL cL gD cD gT cT gF cF:Nat):Nat->Value->World->Prop
 |0,v,w=>v= .agg #[.slice AW nW cW,.slice FE mE dE]
 |1,v,w=>v= .agg #[.slice (some ⟨gO,0,none⟩) m cO,.slice AL nL cL,.slice (some ⟨gD,0,none⟩) m cD,.slice (some ⟨gT,0,none⟩) m cT,.slice (some ⟨gF,0,none⟩) m cF]
 |2,v,w=> ∃gO1 cO1 AL1 nL1 cL1 gD1 cD1 gT1 cT1 gF1 cF1 Rv1,v= .agg #[.slice (some ⟨gO1,0,none⟩) m cO1,.slice AL1 nL1 cL1,.slice (some ⟨gD1,0,none⟩) m cD1,.slice (some ⟨gT1,0,none⟩) m cT1,.slice (some ⟨gF1,0,none⟩) m cF1]/\GngR w b m g L ⟨gO1,cO1,.slice AL1 nL1 cL1,gD1,cD1,gT1,cT1,gF1,cF1,Rv1⟩
 |3,v,w=> ∃A c,v= .slice A (nums (wantsG m g)).length c/\OwnI w b v (nums (wantsG m g))
 |_,_,_=>True
theorem phiLo9_below{b m:Nat}{AW FE:Option Addr}{nW cW mE dE:Nat}{g:Gng}{L:List Int}{gO cO:Nat}{AL:Option Addr}{nL cL gD cD gT cT gF cF:Nat}: ∀kq v w w',PhiLo9 b m AW FE nW cW mE dE g L gO cO AL nL cL gD cD gT cT gF cF kq v w->Below w.heap.size w w'->PhiLo9 b m AW FE nW cW mE dE g L gO cO AL nL cL gD cD gT cT gF cF kq v w':=by
 intro kq v w w' h hb
 match kq,h with
 |0,h=>exact h
 |1,h=>exact h
 |2,h=>exact(by obtain⟨gO1,cO1,AL1,nL1,cL1,gD1,cD1,gT1,cT1,gF1,cF1,Rv1,e,h⟩:=h;exact⟨gO1,cO1,AL1,nL1,cL1,gD1,cD1,gT1,cT1,gF1,cF1,Rv1,e,h.below hb⟩)
 |3,h=>exact(by obtain⟨A,c,e,h⟩:=h;exact⟨A,c,e,OwnI.below h hb⟩)
 |kq+4,h=>exact trivial
def ThtLo9(b m:Nat)(w4:World)(g:Gng)(t:Nat)(f:Nat->Value)(w:World):Prop:=
 4<=t/\t<=5/\Below w4.heap.size w4 w/\ ∃A c,OwnI w b (.slice A (nums (wantsG m g)).length c) (nums (wantsG m g))/\(t=4->f 62= .slice A (nums (wantsG m g)).length c)/\(t=5->f 14= .slice A (nums (wantsG m g)).length c)
def PhiLo12(b m:Nat)(AW FE:Option Addr)(nW cW mE dE:Nat)(g:Gng)(L:List Int)(bl ol k9 c9 bp op nP cP i:Nat)(x:Int)(xm r c:Nat)(gO cO:Nat)(AL:Option Addr)(nL cL gD cD gT cT gF cF:Nat):Nat->Value->World->Prop
 |0,v,w=>v= .agg #[.slice AW nW cW,.slice FE mE dE]
 |1,v,w=>v= .agg #[.slice (some ⟨gO,0,none⟩) m cO,.slice AL nL cL,.slice (some ⟨gD,0,none⟩) m cD,.slice (some ⟨gT,0,none⟩) m cT,.slice (some ⟨gF,0,none⟩) m cF]
 |2,v,w=> ∃gO1 cO1 AL1 nL1 cL1 gD1 cD1 gT1 cT1 gF1 cF1 Rv1,v= .agg #[.slice (some ⟨gO1,0,none⟩) m cO1,.slice AL1 nL1 cL1,.slice (some ⟨gD1,0,none⟩) m cD1,.slice (some ⟨gT1,0,none⟩) m cT1,.slice (some ⟨gF1,0,none⟩) m cF1]/\GngR w b m g L ⟨gO1,cO1,.slice AL1 nL1 cL1,gD1,cD1,gT1,cT1,gF1,cF1,Rv1⟩
 |3,v,w=>v= .slice (some ⟨bl,ol,none⟩) k9 c9
 |4,v,w=>v= .slice (some ⟨bp,op,none⟩) nP cP
 |5,v,w=>v= .int .i64 i
 |6,v,w=>v= .pointer (some ⟨bp,op+i,none⟩)
 |7,v,w=>v= .int .i64 x
 |8,v,w=>v= .int .i64 xm
 |9,v,w=>v= .slice (some ⟨bl,ol,none⟩) k9 c9
 |10,v,w=>v= .int .i64 k9
 |11,v,w=>v= .int .i64 r
 |12,v,w=>v= .pointer (some ⟨bl,ol+r,none⟩)
 |13,v,w=>v= .int .i64 c
 |14,v,w=> ∃gO1 cO1 AL1 nL1 cL1 gD1 cD1 gT1 cT1 gF1 cF1 Rv1,v= .tuple #[.agg #[.slice (some ⟨gO1,0,none⟩) m cO1,.slice AL1 nL1 cL1,.slice (some ⟨gD1,0,none⟩) m cD1,.slice (some ⟨gT1,0,none⟩) m cT1,.slice (some ⟨gF1,0,none⟩) m cF1],.int .i64 0]/\GngR w b m (stepG m g c) L ⟨gO1,cO1,.slice AL1 nL1 cL1,gD1,cD1,gT1,cT1,gF1,cF1,Rv1⟩
 |15,v,w=> ∃gO1 cO1 AL1 nL1 cL1 gD1 cD1 gT1 cT1 gF1 cF1 Rv1,v= .tuple #[.agg #[.slice (some ⟨gO1,0,none⟩) m cO1,.slice AL1 nL1 cL1,.slice (some ⟨gD1,0,none⟩) m cD1,.slice (some ⟨gT1,0,none⟩) m cT1,.slice (some ⟨gF1,0,none⟩) m cF1],.int .i64 0]/\GngR w b m (stepG m g c) L ⟨gO1,cO1,.slice AL1 nL1 cL1,gD1,cD1,gT1,cT1,gF1,cF1,Rv1⟩
 |16,v,w=> ∃gO1 cO1 AL1 nL1 cL1 gD1 cD1 gT1 cT1 gF1 cF1 Rv1,v= .agg #[.slice (some ⟨gO1,0,none⟩) m cO1,.slice AL1 nL1 cL1,.slice (some ⟨gD1,0,none⟩) m cD1,.slice (some ⟨gT1,0,none⟩) m cT1,.slice (some ⟨gF1,0,none⟩) m cF1]/\GngR w b m (stepG m g c) L ⟨gO1,cO1,.slice AL1 nL1 cL1,gD1,cD1,gT1,cT1,gF1,cF1,Rv1⟩
 |17,v,w=>True
 |18,v,w=> ∃p,v= .pointer (some ⟨p,0,none⟩)/\b<=p/\RowV p 41 [.slice none 0 0,.slice none 0 0,.slice none 0 0,.slice none 0 0,.slice none 0 0] w
 |_,_,_=>True
theorem phiLo12_below{b m:Nat}{AW FE:Option Addr}{nW cW mE dE:Nat}{g:Gng}{L:List Int}{bl ol k9 c9 bp op nP cP i:Nat}{x:Int}{xm r c:Nat}{gO cO:Nat}{AL:Option Addr}{nL cL gD cD gT cT gF cF:Nat}: ∀kq v w w',PhiLo12 b m AW FE nW cW mE dE g L bl ol k9 c9 bp op nP cP i x xm r c gO cO AL nL cL gD cD gT cT gF cF kq v w->Below w.heap.size w w'->PhiLo12 b m AW FE nW cW mE dE g L bl ol k9 c9 bp op nP cP i x xm r c gO cO AL nL cL gD cD gT cT gF cF kq v w':=by
 intro kq v w w' h hb
 match kq,h with
 |0,h=>exact h
 |1,h=>exact h
 |2,h=>exact(by obtain⟨gO1,cO1,AL1,nL1,cL1,gD1,cD1,gT1,cT1,gF1,cF1,Rv1,e,h⟩:=h;exact⟨gO1,cO1,AL1,nL1,cL1,gD1,cD1,gT1,cT1,gF1,cF1,Rv1,e,h.below hb⟩)
 |3,h=>exact h
 |4,h=>exact h
 |5,h=>exact h
 |6,h=>exact h
 |7,h=>exact h
 |8,h=>exact h
 |9,h=>exact h
 |10,h=>exact h
 |11,h=>exact h
 |12,h=>exact h
 |13,h=>exact h
 |14,h=>exact(by obtain⟨gO1,cO1,AL1,nL1,cL1,gD1,cD1,gT1,cT1,gF1,cF1,Rv1,e,h⟩:=h;exact⟨gO1,cO1,AL1,nL1,cL1,gD1,cD1,gT1,cT1,gF1,cF1,Rv1,e,h.below hb⟩)
 |15,h=>exact(by obtain⟨gO1,cO1,AL1,nL1,cL1,gD1,cD1,gT1,cT1,gF1,cF1,Rv1,e,h⟩:=h;exact⟨gO1,cO1,AL1,nL1,cL1,gD1,cD1,gT1,cT1,gF1,cF1,Rv1,e,h.below hb⟩)
 |16,h=>exact(by obtain⟨gO1,cO1,AL1,nL1,cL1,gD1,cD1,gT1,cT1,gF1,cF1,Rv1,e,h⟩:=h;exact⟨gO1,cO1,AL1,nL1,cL1,gD1,cD1,gT1,cT1,gF1,cF1,Rv1,e,h.below hb⟩)
 |17,h=>exact h
 |18,h=>exact(by obtain⟨p,e,hp,hr⟩:=h;exact⟨p,e,hp,hr.below hb hr.lt⟩)
 |kq+19,h=>exact trivial
def ThtLo12(b m:Nat)(w4:World)(g:Gng)(c:Nat)(L:List Int)(t:Nat)(f:Nat->Value)(w:World):Prop:=
 19<=t/\t<=21/\ ∃gO1 cO1 AL1 nL1 cL1 gD1 cD1 gT1 cT1 gF1 cF1 Rv1 p,f 15= .pointer (some ⟨p,0,none⟩)/\b<=p/\w4.heap.size<=p/\Below w4.heap.size w4 w/\GngR w b m (stepG m g c) L ⟨gO1,cO1,.slice AL1 nL1 cL1,gD1,cD1,gT1,cT1,gF1,cF1,Rv1⟩/\(t=19->f 82= .agg #[.slice (some ⟨gO1,0,none⟩) m cO1,.slice AL1 nL1 cL1,.slice (some ⟨gD1,0,none⟩) m cD1,.slice (some ⟨gT1,0,none⟩) m cT1,.slice (some ⟨gF1,0,none⟩) m cF1]/\RowV p 41 [.slice none 0 0,.slice none 0 0,.slice none 0 0,.slice none 0 0,.slice none 0 0] w)/\(20<=t->RowV p 41 [.slice (some ⟨gO1,0,none⟩) m cO1,.slice AL1 nL1 cL1,.slice (some ⟨gD1,0,none⟩) m cD1,.slice (some ⟨gT1,0,none⟩) m cT1,.slice (some ⟨gF1,0,none⟩) m cF1] w)/\(t=21->f 16= .int .i64 0)
section
variable {AW FE: Option Addr} {nW cW mE dE: Nat} {W: List Int} {E: List (Int × Int)} {b m: Nat} {g: Gng} {L: List Int} {gO cO: Nat} {AL: Option Addr} {nL cL gD cD gT cT gF cF: Nat} {Rv: Nat -> Value}
theorem lstep{c:Nat}(w:World)(hok:GOk W.length m E L g)(hc:c<m)(hi:g.O.getD c 0= -1)(h:GngR w b m g L ⟨gO,cO,.slice AL nL cL,gD,cD,gT,cT,gF,cF,Rv⟩)(hT:DTab w)(hg:IsG w AW nW cW FE mE dE W E)(hM:May W E):
  Calls Tryz.prog 24 #[.agg #[.slice AW nW cW,.slice FE mE dE],.agg #[.slice (some ⟨gO,0,none⟩) m cO,.slice AL nL cL,.slice (some ⟨gD,0,none⟩) m cD,.slice (some ⟨gT,0,none⟩) m cT,.slice (some ⟨gF,0,none⟩) m cF],.int .i64 c] w fun e w'=> ∃gO1 cO1 AL1 nL1 cL1 gD1 cD1 gT1 cT1 gF1 cF1 Rv1,e= .returned (.tuple #[.agg #[.slice (some ⟨gO1,0,none⟩) m cO1,.slice AL1 nL1 cL1,.slice (some ⟨gD1,0,none⟩) m cD1,.slice (some ⟨gT1,0,none⟩) m cT1,.slice (some ⟨gF1,0,none⟩) m cF1],.int .i64 0])/\GngR w' w.heap.size m (stepG m g c) L ⟨gO1,cO1,.slice AL1 nL1 cL1,gD1,cD1,gT1,cT1,gF1,cF1,Rv1⟩/\Below w.heap.size w w':=by
 refine(gstep_any w hok hc hi h hT hg hM).mono ?_
 rintro e w' ⟨a,rfl,hr,hb⟩;obtain⟨gO1,cO1,AL1,nL1,cL1,gD1,cD1,gT1,cT1,gF1,cF1,Rv1,rfl⟩:=gng_form hr.r;exact⟨_,_,_,_,_,_,_,_,_,_,_,_,rfl,hr.r,hb⟩
end
theorem step_on{m:Nat}{g:Gng}{c u:Nat}(hc:g.O.getD c 0= -1)(hu:0<=g.O.getD u 0):(stepG m g c).O.getD u 0=g.O.getD u 0:=by
 have hne:c≠u:=fun e=>by rw[e]at hc;omega
 unfold stepG;dsimp only
 split
 ·rw[List.getD_eq_getElem?_getD,List.getElem?_set_ne hne,<-List.getD_eq_getElem?_getD]
 ·rfl
structure OnS(y:World)(q m:Nat)(W:List Int)(E:List (Int×Int))(b:Nat)(g:Gng)(L:List Int)(a:GAd)(w:World):Prop where
 bel:Below y.heap.size y w
 row:RowV q 41 (gangC m a) w
 hq:y.heap.size<=q
 hb:b<=y.heap.size
 r:GngR w b m g L a
 ok:GOk W.length m E L g
section
variable {AW FE AP N AM: Option Addr} {nW cW mE dE nP cP nn nc nM cM: Nat} {W need picks more: List Int} {E: List (Int × Int)}
theorem sonce_many(w0:World)(cores tk:Int)(hT:Tab64 w0)(hg:InG w0 AW nW cW FE mE dE W E)(hs:InNL w0 N nn nc need)(hp:InNL w0 AP nP cP picks)(h: ¬(((nW<=70/\mE<=300)/\nn<=70/\litVs 300 need=true)/\nP<=300)):Calls Tryz.prog 5 #[.agg #[.slice AW nW cW, .slice FE mE dE], .slice N nn nc, .int .i64 cores, .slice AP nP cP, .int .u8 tk] w0 fun e w'=>e= .returned (.bool true)/\Below w0.heap.size w0 w':=by
  have HTW:=Lib.hid (fun W (h:Below w0.heap.size w0 W)=>Tab64.via hT h)
  have B0:=Lib.hid (BxB.start (Below.refl w0.heap.size w0) AW nW cW FE mE dE)
  by_cases hd:nW<=70/\mE<=300
  · have F1:=Lib.hid (fun W=>few_yes AW FE nW cW mE dE W hd.1 hd.2)
    by_cases h70:nn<=70
    · cases hl:litVs 300 need with
      | false =>
        clear h;have F3:=Lib.hid (fun W' (hb:Below w0.heap.size w0 W')=>little13_any (nc:=nc) W' hs.hn (by omega:nn<=400) ((hs.ints.below hb).more hb.size))
        rw[hl]at F3;have h70a:decide (70<nn)=false:=decide_eq_false (by omega)
        have h70b:decide ((70:Int)<(nn:Int))=false:=decide_eq_false (by omega)
        clear hg hs hT hp;clear hd hl;go_enter Tryz.func5,Tryz.ntmps5;go_wp2_with fail;refine(awakeS_any _ (HTW.out _ B0.out.bel)).mono ?_
        rintro e y1 ⟨rfl,b⟩;have B1:=Lib.hid (B0.out.next b);clear b;obtain⟨q0,q1⟩:=B1.out.cells;go_wp2_with fail;refine(F1.out _).mono ?_
        rintro e y2 ⟨rfl,b⟩;have B2:=Lib.hid (B1.out.next b);clear b q0 q1;go_wp2_with fail;refine(F3.out _ B2.out.bel).mono ?_
        rintro e y2' ⟨rfl,hww⟩;replace hww:=hww.symm;subst hww;go_wp2_with fail;refine(awakeS_any _ (HTW.out _ B2.out.bel)).mono ?_
        rintro e y3 ⟨rfl,b⟩;have B3:=Lib.hid (B2.out.next b);clear b;go_wp2_with fail;go_ret;exact⟨rfl,B3.out.bel⟩
      | true =>
        by_cases q0:nP<=300
        · exact absurd ⟨⟨hd,h70,hl⟩,q0⟩ h
        · clear h;have F3:=Lib.hid (fun W' (hb:Below w0.heap.size w0 W')=>little13_any (nc:=nc) W' hs.hn (by omega:nn<=400) ((hs.ints.below hb).more hb.size))
          rw[hl]at F3;have h70a:decide (70<nn)=false:=decide_eq_false (by omega)
          have h70b:decide ((70:Int)<(nn:Int))=false:=decide_eq_false (by omega)
          have hw0:=hp.ln;have p0a:decide (300<nP)=true:=decide_eq_true (by omega)
          have p0b:decide ((300:Int)<(nP:Int))=true:=decide_eq_true (by omega)
          clear hg hs hT hp;clear hd hl;go_enter Tryz.func5,Tryz.ntmps5;go_wp2_with fail;refine(awakeS_any _ (HTW.out _ B0.out.bel)).mono ?_
          rintro e y1 ⟨rfl,b⟩;have B1:=Lib.hid (B0.out.next b);clear b;obtain⟨q0,q1⟩:=B1.out.cells;go_wp2_with fail;refine(F1.out _).mono ?_
          rintro e y2 ⟨rfl,b⟩;have B2:=Lib.hid (B1.out.next b);clear b q0 q1;go_wp2_with fail;refine(F3.out _ B2.out.bel).mono ?_
          rintro e y2' ⟨rfl,hww⟩;replace hww:=hww.symm;subst hww;go_wp2_with fail;refine(awakeS_any _ (HTW.out _ B2.out.bel)).mono ?_
          rintro e y3 ⟨rfl,b⟩;have B3:=Lib.hid (B2.out.next b);clear b;go_wp2_with fail;go_ret;exact⟨rfl,B3.out.bel⟩
    · clear h;have h70a:decide (70<nn)=true:=decide_eq_true (by omega)
      have h70b:decide ((70:Int)<(nn:Int))=true:=decide_eq_true (by omega)
      have hnn:=hs.ln;clear hg hs hT hp;clear hd;go_enter Tryz.func5,Tryz.ntmps5;go_wp2_with fail;refine(awakeS_any _ (HTW.out _ B0.out.bel)).mono ?_
      rintro e y1 ⟨rfl,b⟩;have B1:=Lib.hid (B0.out.next b);clear b;obtain⟨q0,q1⟩:=B1.out.cells;go_wp2_with fail;refine(F1.out _).mono ?_
      rintro e y2 ⟨rfl,b⟩;have B2:=Lib.hid (B1.out.next b);clear b q0 q1;go_wp2_with fail;refine(awakeS_any _ (HTW.out _ B2.out.bel)).mono ?_
      rintro e y3 ⟨rfl,b⟩;have B3:=Lib.hid (B2.out.next b);clear b;go_wp2_with fail;go_ret;exact⟨rfl,B3.out.bel⟩
  · have F1:=Lib.hid (fun W=>few_no AW FE nW cW mE dE W hg.ln hg.lm hd)
    clear h;clear hg hs hT hp;go_enter Tryz.func5,Tryz.ntmps5;go_wp2_with fail;refine(awakeS_any _ (HTW.out _ B0.out.bel)).mono ?_
    rintro e y1 ⟨rfl,b⟩;have B1:=Lib.hid (B0.out.next b);clear b;obtain⟨q0,q1⟩:=B1.out.cells;go_wp2_with fail;refine(F1.out _).mono ?_
    rintro e y2 ⟨rfl,b⟩;have B2:=Lib.hid (B1.out.next b);clear b q0 q1;go_wp2_with fail;refine(awakeS_any _ (HTW.out _ B2.out.bel)).mono ?_
    rintro e y3 ⟨rfl,b⟩;have B3:=Lib.hid (B2.out.next b);clear b;go_wp2_with fail;go_ret;exact⟨rfl,B3.out.bel⟩
end
section
variable {AW FE AP N: Option Addr} {nW cW mE dE nP cP nn nc: Nat} {W need picks: List Int} {E: List (Int × Int)}
theorem sonce_bad(w0:World)(cores z tk:Int)(hG:IsG w0 AW nW cW FE mE dE W E)(hs:InNL w0 N nn nc need)(l1:nW<=70)(l2:mE<=300)(l3:nn<=70)(hl:litVs 300 need=true)(l4:nP<=300)(hz:newE W E need cores=z)(h0:z≠0):
  Calls Tryz.prog 5 #[.agg #[.slice AW nW cW,.slice FE mE dE],.slice N nn nc,.int .i64 cores,.slice AP nP cP,.int .u8 tk] w0 fun e w'=>e= .returned (.bool true)/\Below w0.heap.size w0 w':=by
 have HTW:=Lib.hid (fun W (h:Below w0.heap.size w0 W)=>Tab64.via hG.tab h)
 have HG:=Lib.hid (fun W' (h:Below w0.heap.size w0 W')=>hG.below h)
 have HI:=Lib.hid (fun W' (h:Below w0.heap.size w0 W')=>(hs.ints.below h).more h.size)
 have HL:=Lib.hid hs.hn;have HA:=Lib.hid hs.hN;have B0:=Lib.hid (BxB.start (Below.refl w0.heap.size w0) AW nW cW FE mE dE);have F1:=Lib.hid (fun W=>few_yes AW FE nW cW mE dE W l1 l2)
 have F3:=Lib.hid (fun W' (hb:Below w0.heap.size w0 W')=>little13_any (nc:=nc) W' hs.hn (by omega:nn<=400) ((hs.ints.below hb).more hb.size))
 rw[hl]at F3;have h70a:decide (70<nn)=false:=decide_eq_false (by omega)
 have h70b:decide ((70:Int)<(nn:Int))=false:=decide_eq_false (by omega)
 have h6a:decide (300<nP)=false:=decide_eq_false (by omega)
 have h6b:decide ((300:Int)<(nP:Int))=false:=decide_eq_false (by omega)
 clear hG hs hl;have HZ:=Lib.hid hz;have HZ0:=Lib.hid h0;clear hz h0;go_enter Tryz.func5,Tryz.ntmps5;go_wp2_with fail;refine(awakeS_any _ (HTW.out _ B0.out.bel)).mono ?_
 rintro e y1 ⟨rfl,b⟩;have B1:=Lib.hid (B0.out.next b);clear b;obtain⟨q0,q1⟩:=B1.out.cells;go_wp2_with fail;refine(F1.out _).mono ?_
 rintro e y2 ⟨rfl,b⟩;have B2:=Lib.hid (B1.out.next b);clear b q0 q1;go_wp2_with fail;refine(F3.out _ B2.out.bel).mono ?_
 rintro e y2' ⟨rfl,hww⟩;replace hww:=hww.symm;subst hww;obtain⟨q0,q1⟩:=B2.out.cells;go_wp2_with fail;refine(lbegin_no _ cores z _ (HG.out _ B2.out.bel) HL.out (by omega) (HI.out _ B2.out.bel) HA.out HZ.out HZ0.out).mono ?_
 rintro e y3 ⟨rfl,b⟩;have B3:=Lib.hid ((B2.out.next b).next (below_alloc (w:=y3) (.cells #[.slice none 0 0,.slice none 0 0,.slice none 0 0,.slice none 0 0,.slice none 0 0] 41)));clear b q0 q1;go_wp2;go_ret;exact⟨rfl,B3.out.bel⟩
end
section
variable {AW FE N AP: Option Addr} {nW cW mE dE nn nc nP cP m: Nat} {W need picks: List Int} {E: List (Int × Int)}
theorem sonce_good(w0:World)(tk:Int)(ht:0<=tk/\tk<=255)(hG:IsG w0 AW nW cW FE mE dE W E)(hs:InNL w0 N nn nc need)(hp:InNL w0 AP nP cP picks)(l1:nW<=70)(l2:mE<=300)(l3:nn<=70)(hl:litVs 300 need=true)(l4:nP<=300)(he:newE W E need m=0):
    Calls Tryz.prog 5 #[.agg #[.slice AW nW cW, .slice FE mE dE], .slice N nn nc, .int .i64 m, .slice AP nP cP, .int .u8 tk] w0 fun e w'=>e= .returned (.bool true)/\Below w0.heap.size w0 w':=by
  obtain⟨hM,hnl,hzz,m1,m8⟩:=newE_zero.mp he;have n64:=hM.nodes;obtain⟨k,hk,hk9⟩: ∃k:Nat,tk.tmod 20=(k:Int)/\k<=19:=⟨(tk.tmod 20).toNat,by rw[Int.tmod_eq_emod_of_nonneg ht.1];omega,by rw[Int.tmod_eq_emod_of_nonneg ht.1];omega⟩
  have HE:=Lib.hid he;have HM:=Lib.hid hM;have HM8:Hid (m<=8):=Lib.hid (by omega)
  have HFO:=Lib.hid (show need.length=W.length/\(∀z∈need,1<=z/\z<=1000)/\1<=m/\m<=8/\W.length<=64/\k<=19 from⟨hnl,hzz,by omega,by omega,n64,hk9⟩)
  have HPI:=Lib.hid (fun W' (h:Below w0.heap.size w0 W')=>(hp.ints.below h).more h.size)
  have HPN:=Lib.hid (show picks.length=nP from hp.hn)
  have HTW:=Lib.hid (fun W (h:Below w0.heap.size w0 W)=>Tab64.via hG.tab h)
  have HG:=Lib.hid (fun W' (h:Below w0.heap.size w0 W')=>hG.below h)
  have HI:=Lib.hid (fun W' (h:Below w0.heap.size w0 W')=>(hs.ints.below h).more h.size)
  have HL:=Lib.hid hs.hn;have HA:=Lib.hid hs.hN;have B0:=Lib.hid (BxB.start (Below.refl w0.heap.size w0) AW nW cW FE mE dE);have F1:=Lib.hid (fun W=>few_yes AW FE nW cW mE dE W l1 l2)
  have F3:=Lib.hid (fun W' (hb:Below w0.heap.size w0 W')=>little13_any (nc:=nc) W' hs.hn (by omega:nn<=400) ((hs.ints.below hb).more hb.size))
  rw[hl]at F3;have h70a:decide (70<nn)=false:=decide_eq_false (by omega)
  have h70b:decide ((70:Int)<(nn:Int))=false:=decide_eq_false (by omega)
  have h6a:decide (300<nP)=false:=decide_eq_false (by omega)
  have h6b:decide ((300:Int)<(nP:Int))=false:=decide_eq_false (by omega)
  clear hG hs hp hl he hM hnl hzz m1 m8 n64 hk9;go_enter Tryz.func5,Tryz.ntmps5;go_wp2_with fail;refine(awakeS_any _ (HTW.out _ B0.out.bel)).mono ?_
  rintro e y1 ⟨rfl,b⟩;have B1:=Lib.hid (B0.out.next b);clear b;obtain⟨q0,q1⟩:=B1.out.cells;go_wp2_with fail;refine(F1.out _).mono ?_
  rintro e y2 ⟨rfl,b⟩;have B2:=Lib.hid (B1.out.next b);clear b q0 q1;go_wp2_with fail;refine(F3.out _ B2.out.bel).mono ?_
  rintro e y2' ⟨rfl,hww⟩;replace hww:=hww.symm;subst hww;obtain⟨q0,q1⟩:=B2.out.cells;go_wp2_with fail;refine(lbegin_any (AP:=none) (nP:=0) (cP:=0) (picks:= []) _ k (by have:=HFO.out.2.2.2.2.2;omega) (HTW.out _ B2.out.bel) (HG.out _ B2.out.bel) HM.out HL.out (by omega) (HI.out _ B2.out.bel) HA.out ⟨rfl,by decide,fun _=>⟨rfl,rfl⟩⟩ (Ints.nil_ _ _ _) HE.out HFO.out.2.1 HFO.out.2.2.1 HFO.out.2.2.2.1 HFO.out.1 HFO.out.2.2.2.2.1).mono ?_
  rintro e y3 ⟨g,L,gO,cO,AL,nL,cL,gD,cD,gT,cT,gF,cF,Rv,rfl,hr,hok,h0,b⟩;have B3:=Lib.hid (B2.out.next b);obtain⟨q,hqq⟩: ∃q,q=y3.heap.size:=⟨_,rfl⟩;obtain⟨w5,hw5⟩: ∃y,y=y3.alloc (.cells #[.slice (some ⟨gO,0,none⟩) m cO, .slice AL nL cL, .slice (some ⟨gD,0,none⟩) m cD, .slice (some ⟨gT,0,none⟩) m cT, .slice (some ⟨gF,0,none⟩) m cF] 41):=⟨_,rfl⟩;have HS0:Hid (OnS y3 q m W E y2.heap.size g L ⟨gO,cO, .slice AL nL cL,gD,cD,gT,cT,gF,cF,Rv⟩ w5):=Lib.hid (by
    rw[hw5,hqq];exact⟨below_alloc _,RowV.new y3 _ _,Nat.le_refl _,b.size,hr.below (below_alloc _),hok⟩)
  clear b q0 q1 hr hok h0;go_wp2;rw[<-hqq,<-hw5];clear hqq hw5;go_loopw [13] (fun v wr=> ∃(i:Nat) (g:Gng) (gO cO:Nat) (AL:Option Addr) (nL cL gD cD gT cT gF cF:Nat) (Rv:Nat->Value),i<=nP/\v= .int .i64 i/\Hid (OnS y3 q m W E y2.heap.size g L ⟨gO,cO, .slice AL nL cL,gD,cD,gT,cT,gF,cF,Rv⟩ wr)) (fun v _=>nP - (intOf v).toNat)
  case atStart=>exact⟨0,_,_,_,_,_,_,_,_,_,_,_,_,_,Nat.zero_le _,rfl,HS0⟩
  case round=>
    clear HS0;obtain⟨i,g,gO,cO,AL,nL,cL,gD,cD,gT,cT,gF,cF,Rv,hi,rfl,HS⟩:=hrel
    by_cases hlt:i<nP
    · have HLT:=Lib.hid hlt;go_upto_region 9 with fail;obtain⟨w4,hw4⟩: ∃w4,w4=wr:=⟨_,rfl⟩;rw[<-hw4];rw[<-hw4]at HS;clear hw4;have HDG:=Lib.hid (B3.out.next HS.out.bel);have HGR:=Lib.hid (HG.out _ HDG.out.bel);have HT:=Lib.hid (HTW.out _ HDG.out.bel);have HPK:=Lib.hid (HPI.out _ HDG.out.bel);have HBX:Hid (RowV q 41 [.slice (some ⟨gO,0,none⟩) m cO, .slice AL nL cL, .slice (some ⟨gD,0,none⟩) m cD, .slice (some ⟨gT,0,none⟩) m cT, .slice (some ⟨gF,0,none⟩) m cF] w4):=Lib.hid HS.out.row;have HOK:=Lib.hid HS.out.ok;have HR:=Lib.hid HS.out.r;refine wp_region_tail 4 [59,60,61,62,14] [] (by kernel_rfl) (by kernel_rfl) (by intro d hd;simp at hd⊢;omega) (fun z=>Below w4.heap.size w4 z) (PhiLo9 w4.heap.size m AW FE nW cW mE dE g L gO cO AL nL cL gD cD gT cT gF cF) (fun _ _=>True) (ThtLo9 w4.heap.size m w4 g)
        (fun z z' h hb=>h.trans (hb.mono h.size)) phiLo9_below ((Below.refl _ _).drew) ?hstep ?hloose ?hmid ?htail ?hcon ?hend
      case hstep=>
        intro kq o hkm hkF ho a1 w hI hA hd K hK;obtain⟨ρ,hρ⟩: ∃ρ,a1.eval=ρ:=⟨_,rfl⟩;rw[hρ]at hA hd
        match kq,hkm,hkF,ho with
        | 0, _, _, ho =>
          have hoo:=Option.some.inj ho;subst hoo;have h0:=(HDG.out.next hI).p0;have h1:=(HDG.out.next hI).p1;exact fx_val hK hρ (.agg #[.slice AW nW cW, .slice FE mE dE]) (by have h:=hA.tmp 5 (by decide);simp[execOp,h,h0,h1,go_sem]) rfl
        | 1, _, _, ho =>
          have hoo:=Option.some.inj ho;subst hoo;have hr:=HBX.out.below hI HBX.out.lt;have h0:=hr.cell (j:=0) rfl;have h1:=hr.cell (j:=1) rfl;have h2:=hr.cell (j:=2) rfl;have h3:=hr.cell (j:=3) rfl;have h4:=hr.cell (j:=4) rfl;exact fx_val hK hρ (.agg #[.slice (some ⟨gO,0,none⟩) m cO, .slice AL nL cL, .slice (some ⟨gD,0,none⟩) m cD, .slice (some ⟨gT,0,none⟩) m cT, .slice (some ⟨gF,0,none⟩) m cF]) (by have h:=hA.tmp 11 (by decide);simp[execOp,h,h0,h1,h2,h3,h4,go_sem]) rfl
        | 2, _, _, ho =>
          have hoo:=Option.some.inj ho;subst hoo;have f1:ρ (.tmp 60)= .agg #[.slice (some ⟨gO,0,none⟩) m cO, .slice AL nL cL, .slice (some ⟨gD,0,none⟩) m cD, .slice (some ⟨gT,0,none⟩) m cT, .slice (some ⟨gF,0,none⟩) m cF]:=hd ⟨1, .data⟩ (by simp) (by rfl) (by decide)
          exact fx_call hK hρ 19 _ _ #[.agg #[.slice (some ⟨gO,0,none⟩) m cO, .slice AL nL cL, .slice (some ⟨gD,0,none⟩) m cD, .slice (some ⟨gT,0,none⟩) m cT, .slice (some ⟨gF,0,none⟩) m cF]] rfl (by simp only[List.map_toArray,List.map_cons,List.map_nil,hA.const,f1]) (eg_of Tryz.func19 (by kernel_rfl) rfl) ((lown w HOK.out (HR.out.below hI)).mono fun e w' hh=>by
            obtain⟨gO1,cO1,AL1,nL1,cL1,gD1,cD1,gT1,cT1,gF1,cF1,Rv1,he,hg,hb⟩:=hh;exact⟨_,he,⟨_,_,_,_,_,_,_,_,_,_,_,_,rfl,hg.down (hI.size)⟩,hb⟩)
        | 3, _, _, ho =>
          have hoo:=Option.some.inj ho;subst hoo;have f0:ρ (.tmp 59)= .agg #[.slice AW nW cW, .slice FE mE dE]:=hd ⟨0, .data⟩ (by simp) (by rfl) (by decide)
          have f2: ∃gO1 cO1 AL1 nL1 cL1 gD1 cD1 gT1 cT1 gF1 cF1 Rv1,ρ (.tmp 61)= .agg #[.slice (some ⟨gO1,0,none⟩) m cO1, .slice AL1 nL1 cL1, .slice (some ⟨gD1,0,none⟩) m cD1, .slice (some ⟨gT1,0,none⟩) m cT1, .slice (some ⟨gF1,0,none⟩) m cF1]/\GngR w w4.heap.size m g L ⟨gO1,cO1, .slice AL1 nL1 cL1,gD1,cD1,gT1,cT1,gF1,cF1,Rv1⟩:=hd ⟨2, .data⟩ (by simp) (by rfl) (by decide)
          obtain⟨gO1,cO1,AL1,nL1,cL1,gD1,cD1,gT1,cT1,gF1,cF1,Rv1,e2,hr⟩:=f2;exact fx_call hK hρ 20 _ _ #[.agg #[.slice AW nW cW, .slice FE mE dE], .agg #[.slice (some ⟨gO1,0,none⟩) m cO1, .slice AL1 nL1 cL1, .slice (some ⟨gD1,0,none⟩) m cD1, .slice (some ⟨gT1,0,none⟩) m cT1, .slice (some ⟨gF1,0,none⟩) m cF1]] rfl (by simp only[List.map_toArray,List.map_cons,List.map_nil,hA.const,f0,e2]) (eg_of Tryz.func20 (by kernel_rfl) rfl) ((gwants_any w HOK.out hr HM8.out (HT.out.via hI) (HGR.out.below hI) HM.out rfl).mono fun e w' hh=>by
            obtain⟨A,c,he,hg,hb⟩:=hh;exact⟨_,he,⟨A,c,rfl,hg.down (hI.size)⟩,hb⟩)
        |kq+4,h,_,_=>exact absurd h (by omega)
      case hloose=>
        intro kq o hkF ho ρ w hA hd;exact absurd hkF (by simp)
      case hmid=>
        intro vals w hI hF;obtain⟨A,c,e0,hr⟩:=hF 3 (by decide) (by decide)
        exact⟨Nat.le_refl _,by decide,hI,A,c,e0▸hr,fun _=>e0,fun h=>absurd h (by decide)⟩
      case htail=>
        intro t o htm ho a1 w hA hT hL K hK;have htl:t<5:=(Array.getElem?_eq_some_iff.1 ho).1
        obtain⟨ρ,hρ⟩: ∃ρ,a1.eval=ρ:=⟨_,rfl⟩;rw[hρ]at hA
        try rw[hρ]at hL
        obtain rfl:t=4:=by omega
        have hoo:=Option.some.inj ho;subst hoo;obtain⟨t1,t2,hbl,A,c,ho,h0,h1⟩:=hT;have e0:=h0 (by first|rfl|trivial|decide)
        simp only[hρ]at e0;unfold Oper.wp;rw[show(execOp a1.eval _).run Tryz.prog w= .ok (.value (.slice A (nums (wantsG m g)).length c)) (w)from by rw[hρ];simp[execOp,e0,go_sem],Oper.upon_value]
        refine hK _ _ ⟨by decide,by decide,hbl,A,c,ho,fun h=>absurd h (by decide),fun _=> ?_⟩
        simp
      case hcon=>
        intro t f g w h hT;obtain⟨t1,t2,hbl,A,c,ho,h0,h1⟩:=hT;have qb:=h 3 (by omega) (by simp)
        simp only[List.getD_cons_zero,List.getD_cons_succ]at qb;refine⟨t1,t2,hbl,A,c,ho,fun e=>qb▸h0 e,fun e=> ?_⟩
        have qc:=h 4 (by omega) (by simp)
        simp only[List.getD_cons_zero,List.getD_cons_succ]at qc;exact qc▸h1 e
      case hend=>
        intro vals9 w5 hT;obtain⟨_,_,hbl,A9,c9,ho,_,h1⟩:=hT;have ep:=h1 rfl;obtain⟨wl,hwl⟩: ∃wl,wl=wantsG m g:=⟨_,rfl⟩;rw[<-hwl]at ho ep;obtain⟨k9,hk9⟩: ∃k9,k9=(nums wl).length:=⟨_,rfl⟩;have hkl:wl.length=k9:=by rw[hk9];unfold nums;rw[List.length_map]
        rw[<-hk9]at ho ep;have HWL:=Lib.hid hwl;have HWM:Hid (∀c∈wl,c<m/\g.O.getD c 0= -1):=Lib.hid (fun c hc=>by rw[hwl,mem_wants]at hc;exact⟨hc.1,hc.2.1⟩)
        have HK9:=Lib.hid hk9;have HO9:=Lib.hid ho;have HB9:=Lib.hid hbl;have HDG:=Lib.hid (HDG.out.next hbl);have HGR:=Lib.hid (HGR.out.below hbl);have HPK:=Lib.hid ((HPK.out.below hbl).more hbl.size);have HT:=Lib.hid (HT.out.via hbl);have HBX:=Lib.hid (HBX.out.below hbl HBX.out.lt);have HR:=Lib.hid (HR.out.below hbl);have hm9:k9<=8:=by
          rw[<-hkl,hwl];have:=List.length_filter_le (fun c=>decide (g.O.getD c 0= -1/\((g.tk c).at_≠0\/visG m g))) (List.range m)
          rw[List.length_range]at this;have:=HM8.out;unfold wantsG;omega
        clear hwl hk9 ho hbl;simp only[fillA,fillL,List.contains_cons,List.contains_nil,Nat.reduceBEq,Bool.or_false,Bool.false_or,Bool.or_true,Bool.true_or,cond_true,cond_false,Nat.zero_add,Nat.reduceAdd,ep]
        by_cases hz9:k9=0
        · subst hz9;go_wp2;go_ret;exact⟨rfl,HDG.out.bel⟩
        · have hz9b:((k9:Int)==0)=false:=by simpa using hz9
          obtain⟨xm,hxm⟩: ∃xm:Nat,max (picks.getD i 0) (0:Int)=(xm:Int):=⟨(max (picks.getD i 0) 0).toNat,by omega⟩
          obtain⟨bp,op,x,rfl,_,hx,hpc⟩:=HPK.out.at_ (k:=i) (by rw[HPN.out];exact HLT.out)
          have hxi:picks.getD i 0=x:=by rw[List.getD_eq_getElem?_getD,hx];rfl
          rw[hxi]at hxm;obtain⟨r,hr9⟩: ∃r,r=xm%k9:=⟨_,rfl⟩;have hrk:r<k9:=by rw[hr9];exact Nat.mod_lt _ (by omega)
          obtain⟨c,hc9⟩: ∃c,wl[r]? =some c:=⟨_,List.getElem?_eq_getElem (by rw[hkl];exact hrk)⟩
          have hcl:=HWM.out c (List.mem_of_getElem? hc9)
          obtain⟨bl,ol,hA,hlc⟩:=own_cell17 HO9.out (j:=r) (z:=(c:Int)) (by unfold nums;rw[List.getElem?_map,hc9];rfl)
          subst hA;have HPC:Hid (∀W,Below w5.heap.size w5 W->W.cell? ⟨bp,op+i,none⟩=some (.int .i64 x)):=Lib.hid (fun W hb=>(hb.cell (World.block_lt_of_cell? _ _ hpc)).trans hpc)
          have HLC:Hid (∀W,Below w5.heap.size w5 W->W.cell? ⟨bl,ol+r,none⟩=some (.int .i64 (c:Int))):=Lib.hid (fun W hb=>(hb.cell (World.block_lt_of_cell? _ _ hlc)).trans hlc)
          have HIN:Hid (¬((nP:Int)<=(i:Int))/\i<nP):=Lib.hid ⟨by have:=HLT.out;omega,HLT.out⟩
          have HRN:Hid (¬((k9:Int)<=(r:Int))/\r<k9):=Lib.hid ⟨by omega,hrk⟩
          have HXM:=Lib.hid hxm;have HRM:Hid (Int.tmod (xm:Int) (k9:Int)=(r:Int)/\ ¬((k9:Int)=0)):=Lib.hid ⟨by rw[hr9];rfl,by omega⟩
          have HCM:=Lib.hid hcl;have HKZ:=Lib.hid hz9;have hrem:Int.tmod (xm:Int) (k9:Int)=(r:Int):=HRM.out.1;clear hxi hx hpc hxm hr9 hc9 hcl hlc hrk hkl;go_upto_region 12 with fail;refine wp_region_tail 19 [67,68,69,70,71,72,73,74,75,76,77,78,79,80,81,66,82,83,15,1000,16] [17] (by kernel_rfl) (by kernel_rfl) (by intro d hd;simp at hd⊢;omega) (fun z=>Below w5.heap.size w5 z) (PhiLo12 w5.heap.size m AW FE nW cW mE dE g L bl ol k9 c9 bp op nP cP i x xm r c gO cO AL nL cL gD cD gT cT gF cF) (fun k v=>v= .int .i64 0) (ThtLo12 w5.heap.size m w5 g c L)
            (fun z z' h hb=>h.trans (hb.mono h.size)) phiLo12_below ((Below.refl _ _).drew) ?hstep ?hloose ?hmid ?htail ?hcon ?hend
          case hstep=>
            intro kq o hkm hkF ho a1 w hI hA hd K hK;obtain⟨ρ,hρ⟩: ∃ρ,a1.eval=ρ:=⟨_,rfl⟩;rw[hρ]at hA hd
            match kq,hkm,hkF,ho with
            | 0, _, _, ho =>
              have hoo:=Option.some.inj ho;subst hoo;have h0:=(HDG.out.next hI).p0;have h1:=(HDG.out.next hI).p1;exact fx_val hK hρ (.agg #[.slice AW nW cW, .slice FE mE dE]) (by have h:=hA.tmp 5 (by decide);simp[execOp,h,h0,h1,go_sem]) rfl
            | 1, _, _, ho =>
              have hoo:=Option.some.inj ho;subst hoo;have hr:=HBX.out.below hI HBX.out.lt;have h0:=hr.cell (j:=0) rfl;have h1:=hr.cell (j:=1) rfl;have h2:=hr.cell (j:=2) rfl;have h3:=hr.cell (j:=3) rfl;have h4:=hr.cell (j:=4) rfl;exact fx_val hK hρ (.agg #[.slice (some ⟨gO,0,none⟩) m cO, .slice AL nL cL, .slice (some ⟨gD,0,none⟩) m cD, .slice (some ⟨gT,0,none⟩) m cT, .slice (some ⟨gF,0,none⟩) m cF]) (by have h:=hA.tmp 11 (by decide);simp[execOp,h,h0,h1,h2,h3,h4,go_sem]) rfl
            | 2, _, _, ho =>
              have hoo:=Option.some.inj ho;subst hoo;have f1:ρ (.tmp 68)= .agg #[.slice (some ⟨gO,0,none⟩) m cO, .slice AL nL cL, .slice (some ⟨gD,0,none⟩) m cD, .slice (some ⟨gT,0,none⟩) m cT, .slice (some ⟨gF,0,none⟩) m cF]:=hd ⟨1, .data⟩ (by simp) (by rfl) (by decide)
              exact fx_call hK hρ 19 _ _ #[.agg #[.slice (some ⟨gO,0,none⟩) m cO, .slice AL nL cL, .slice (some ⟨gD,0,none⟩) m cD, .slice (some ⟨gT,0,none⟩) m cT, .slice (some ⟨gF,0,none⟩) m cF]] rfl (by simp only[List.map_toArray,List.map_cons,List.map_nil,hA.const,f1]) (eg_of Tryz.func19 (by kernel_rfl) rfl) ((lown w HOK.out (HR.out.below hI)).mono fun e w' hh=>by
                obtain⟨gO1,cO1,AL1,nL1,cL1,gD1,cD1,gT1,cT1,gF1,cF1,Rv1,he,hg,hb⟩:=hh;exact⟨_,he,⟨_,_,_,_,_,_,_,_,_,_,_,_,rfl,hg.down (hI.size)⟩,hb⟩)
            | 3, _, _, ho =>
              have hoo:=Option.some.inj ho;subst hoo;exact fx_val hK hρ (.slice (some ⟨bl,ol,none⟩) k9 c9) (by have h:=hA.tmp 14 (by decide);simp[execOp,h,go_sem]) rfl
            | 4, _, _, ho =>
              have hoo:=Option.some.inj ho;subst hoo;exact fx_val hK hρ (.slice (some ⟨bp,op,none⟩) nP cP) (by have h:=hA.tmp 3 (by decide);simp[execOp,h,go_sem]) rfl
            | 5, _, _, ho =>
              have hoo:=Option.some.inj ho;subst hoo;exact fx_val hK hρ (.int .i64 i) (by have h:=hA.tmp 13 (by decide);simp[execOp,h,go_sem]) rfl
            | 6, _, _, ho =>
              have hoo:=Option.some.inj ho;subst hoo;have f4:ρ (.tmp 71)= .slice (some ⟨bp,op,none⟩) nP cP:=hd ⟨4, .data⟩ (by simp) (by rfl) (by decide)
              have f5:ρ (.tmp 72)= .int .i64 i:=hd ⟨5, .data⟩ (by simp) (by rfl) (by decide)
              have hn:=HIN.out.1;have hcm:=HIN.out.2;exact fx_val hK hρ (.pointer (some ⟨bp,op+i,none⟩)) (by simp[execOp,f4,f5,hn,hcm,go_sem]) rfl
            | 7, _, _, ho =>
              have hoo:=Option.some.inj ho;subst hoo;have f6:ρ (.tmp 73)= .pointer (some ⟨bp,op+i,none⟩):=hd ⟨6, .data⟩ (by simp) (by rfl) (by decide)
              have h0:=HPC.out w hI;exact fx_val hK hρ (.int .i64 x) (by simp[execOp,f6,h0,go_sem]) rfl
            | 8, _, _, ho =>
              have hoo:=Option.some.inj ho;subst hoo;have f7:ρ (.tmp 74)= .int .i64 x:=hd ⟨7, .data⟩ (by simp) (by rfl) (by decide)
              have hm:=HXM.out;exact fx_val hK hρ (.int .i64 xm) (by simp[execOp,f7,hm,hA.const,go_sem]) rfl
            | 9, _, _, ho =>
              have hoo:=Option.some.inj ho;subst hoo;exact fx_val hK hρ (.slice (some ⟨bl,ol,none⟩) k9 c9) (by have h:=hA.tmp 14 (by decide);simp[execOp,h,go_sem]) rfl
            | 10, _, _, ho =>
              have hoo:=Option.some.inj ho;subst hoo;have f9:ρ (.tmp 76)= .slice (some ⟨bl,ol,none⟩) k9 c9:=hd ⟨9, .data⟩ (by simp) (by rfl) (by decide)
              exact fx_val hK hρ (.int .i64 k9) (by simp[execOp,f9,go_sem]) rfl
            | 11, _, _, ho =>
              have hoo:=Option.some.inj ho;subst hoo;have f8:ρ (.tmp 75)= .int .i64 xm:=hd ⟨8, .data⟩ (by simp) (by rfl) (by decide)
              have f10:ρ (.tmp 77)= .int .i64 k9:=hd ⟨10, .data⟩ (by simp) (by rfl) (by decide)
              have hm:=HRM.out.1;have hk:=HRM.out.2;exact fx_val hK hρ (.int .i64 r) (by simp[execOp,f8,f10,hm,hk,HKZ.out,go_sem]) rfl
            | 12, _, _, ho =>
              have hoo:=Option.some.inj ho;subst hoo;have f3:ρ (.tmp 70)= .slice (some ⟨bl,ol,none⟩) k9 c9:=hd ⟨3, .data⟩ (by simp) (by rfl) (by decide)
              have f11:ρ (.tmp 78)= .int .i64 r:=hd ⟨11, .data⟩ (by simp) (by rfl) (by decide)
              have hn:=HRN.out.1;have hcm:=HRN.out.2;exact fx_val hK hρ (.pointer (some ⟨bl,ol+r,none⟩)) (by simp[execOp,f3,f11,hn,hcm,go_sem]) rfl
            | 13, _, _, ho =>
              have hoo:=Option.some.inj ho;subst hoo;have f12:ρ (.tmp 79)= .pointer (some ⟨bl,ol+r,none⟩):=hd ⟨12, .data⟩ (by simp) (by rfl) (by decide)
              have h0:=HLC.out w hI;exact fx_val hK hρ (.int .i64 c) (by simp[execOp,f12,h0,go_sem]) rfl
            | 14, _, _, ho =>
              have hoo:=Option.some.inj ho;subst hoo;have f0:ρ (.tmp 67)= .agg #[.slice AW nW cW, .slice FE mE dE]:=hd ⟨0, .data⟩ (by simp) (by rfl) (by decide)
              have f13:ρ (.tmp 80)= .int .i64 c:=hd ⟨13, .data⟩ (by simp) (by rfl) (by decide)
              have f2: ∃gO1 cO1 AL1 nL1 cL1 gD1 cD1 gT1 cT1 gF1 cF1 Rv1,ρ (.tmp 69)= .agg #[.slice (some ⟨gO1,0,none⟩) m cO1, .slice AL1 nL1 cL1, .slice (some ⟨gD1,0,none⟩) m cD1, .slice (some ⟨gT1,0,none⟩) m cT1, .slice (some ⟨gF1,0,none⟩) m cF1]/\GngR w w5.heap.size m g L ⟨gO1,cO1, .slice AL1 nL1 cL1,gD1,cD1,gT1,cT1,gF1,cF1,Rv1⟩:=hd ⟨2, .data⟩ (by simp) (by rfl) (by decide)
              obtain⟨gO1,cO1,AL1,nL1,cL1,gD1,cD1,gT1,cT1,gF1,cF1,Rv1,e2,hr⟩:=f2;exact fx_call hK hρ 24 _ _ #[.agg #[.slice AW nW cW, .slice FE mE dE], .agg #[.slice (some ⟨gO1,0,none⟩) m cO1, .slice AL1 nL1 cL1, .slice (some ⟨gD1,0,none⟩) m cD1, .slice (some ⟨gT1,0,none⟩) m cT1, .slice (some ⟨gF1,0,none⟩) m cF1], .int .i64 c] rfl (by simp only[List.map_toArray,List.map_cons,List.map_nil,hA.const,f0,e2,f13]) (eg_of Tryz.func24 (by kernel_rfl) rfl) ((lstep w HOK.out HCM.out.1 HCM.out.2 hr (HT.out.via hI) (HGR.out.below hI) HM.out).mono fun e w' hh=>by
                obtain⟨gO2,cO2,AL2,nL2,cL2,gD2,cD2,gT2,cT2,gF2,cF2,Rv2,he,hg,hb⟩:=hh;exact⟨_,he,⟨_,_,_,_,_,_,_,_,_,_,_,_,rfl,hg.down (hI.size)⟩,hb⟩)
            | 15, _, _, ho =>
              have hoo:=Option.some.inj ho;subst hoo;have f14: ∃gO1 cO1 AL1 nL1 cL1 gD1 cD1 gT1 cT1 gF1 cF1 Rv1,ρ (.tmp 81)= .tuple #[.agg #[.slice (some ⟨gO1,0,none⟩) m cO1, .slice AL1 nL1 cL1, .slice (some ⟨gD1,0,none⟩) m cD1, .slice (some ⟨gT1,0,none⟩) m cT1, .slice (some ⟨gF1,0,none⟩) m cF1], .int .i64 0]/\GngR w w5.heap.size m (stepG m g c) L ⟨gO1,cO1, .slice AL1 nL1 cL1,gD1,cD1,gT1,cT1,gF1,cF1,Rv1⟩:=hd ⟨14, .data⟩ (by simp) (by rfl) (by decide)
              obtain⟨gO1,cO1,AL1,nL1,cL1,gD1,cD1,gT1,cT1,gF1,cF1,Rv1,e,hr⟩:=f14;exact fx_val hK hρ _ (by simp[execOp,e,go_sem]) ⟨_,_,_,_,_,_,_,_,_,_,_,_,rfl,hr⟩
            | 16, _, _, ho =>
              have hoo:=Option.some.inj ho;subst hoo;have f15: ∃gO1 cO1 AL1 nL1 cL1 gD1 cD1 gT1 cT1 gF1 cF1 Rv1,ρ (.tmp 66)= .tuple #[.agg #[.slice (some ⟨gO1,0,none⟩) m cO1, .slice AL1 nL1 cL1, .slice (some ⟨gD1,0,none⟩) m cD1, .slice (some ⟨gT1,0,none⟩) m cT1, .slice (some ⟨gF1,0,none⟩) m cF1], .int .i64 0]/\GngR w w5.heap.size m (stepG m g c) L ⟨gO1,cO1, .slice AL1 nL1 cL1,gD1,cD1,gT1,cT1,gF1,cF1,Rv1⟩:=hd ⟨15, .data⟩ (by simp) (by rfl) (by decide)
              obtain⟨gO1,cO1,AL1,nL1,cL1,gD1,cD1,gT1,cT1,gF1,cF1,Rv1,e,hr⟩:=f15;exact fx_val hK hρ (.agg #[.slice (some ⟨gO1,0,none⟩) m cO1, .slice AL1 nL1 cL1, .slice (some ⟨gD1,0,none⟩) m cD1, .slice (some ⟨gT1,0,none⟩) m cT1, .slice (some ⟨gF1,0,none⟩) m cF1]) (by simp[execOp,e,go_sem]) ⟨_,_,_,_,_,_,_,_,_,_,_,_,rfl,hr⟩
            |17,_,hkF,_=>exact absurd (by decide) hkF
            | 18, _, _, ho =>
              have hoo:=Option.some.inj ho;subst hoo;exact fx_make hK hρ (.pointer (some ⟨w.heap.size,0,none⟩)) (w.alloc (.cells #[.slice none 0 0, .slice none 0 0, .slice none 0 0, .slice none 0 0, .slice none 0 0] 41)) (by simp[execOp,go_sem]) ⟨w.heap.size,rfl,hI.size,RowV.new w _ _⟩ (below_alloc _)
            |kq+19,h,_,_=>exact absurd h (by omega)
          case hloose=>
            intro kq o hkF ho ρ w hA hd;simp only[List.mem_cons,List.not_mem_nil,or_false]at hkF;subst hkF;have hoo:=Option.some.inj ho;subst hoo;have f7: ∃w,∃gO1 cO1 AL1 nL1 cL1 gD1 cD1 gT1 cT1 gF1 cF1 Rv1,ρ (.tmp 66)= .tuple #[.agg #[.slice (some ⟨gO1,0,none⟩) m cO1, .slice AL1 nL1 cL1, .slice (some ⟨gD1,0,none⟩) m cD1, .slice (some ⟨gT1,0,none⟩) m cT1, .slice (some ⟨gF1,0,none⟩) m cF1], .int .i64 0]/\GngR w w5.heap.size m (stepG m g c) L ⟨gO1,cO1, .slice AL1 nL1 cL1,gD1,cD1,gT1,cT1,gF1,cF1,Rv1⟩:=hd ⟨15, .data⟩ (by simp) (by rfl) (by decide)
            obtain⟨w7,gO1,cO1,AL1,nL1,cL1,gD1,cD1,gT1,cT1,gF1,cF1,Rv1,e,_⟩:=f7;exact⟨.int .i64 0,by simp[execOp,e,go_sem],rfl⟩
          case hmid=>
            intro vals w hI hF;obtain⟨gO1,cO1,AL1,nL1,cL1,gD1,cD1,gT1,cT1,gF1,cF1,Rv1,e0,hr⟩:=hF 16 (by decide) (by decide)
            obtain⟨p,ep,hp,hrow⟩:=hF 18 (by decide) (by decide)
            exact⟨Nat.le_refl _,by decide,_,_,_,_,_,_,_,_,_,_,_,_,p,ep,hp,hp,hI,hr,fun _=>⟨e0,hrow⟩,fun h=>absurd h (by decide),fun h=>absurd h (by decide)⟩
          case htail=>
            intro t o htm ho a1 w hA hT hL K hK;have htl:t<21:=(Array.getElem?_eq_some_iff.1 ho).1
            obtain⟨ρ,hρ⟩: ∃ρ,a1.eval=ρ:=⟨_,rfl⟩;rw[hρ]at hA
            try rw[hρ]at hL
            obtain rfl|rfl:t=19\/t=20:=by omega
            · have hoo:=Option.some.inj ho;subst hoo;obtain⟨t1,t2,gO1,cO1,AL1,nL1,cL1,gD1,cD1,gT1,cT1,gF1,cF1,Rv1,p,ep,hp,hp2,hbl,hr,h0,h1,h2⟩:=hT;simp only[hρ]at ep;obtain⟨e0,hrow⟩:=h0 (by first|rfl|trivial|decide)
              simp only[hρ]at e0;have y0:=hrow.cell (j:=0) rfl;have z0:=hrow.frozen 0;have y1:=hrow.cell (j:=1) rfl;have z1:=hrow.frozen 1;have y2:=hrow.cell (j:=2) rfl;have z2:=hrow.frozen 2;have y3:=hrow.cell (j:=3) rfl;have z3:=hrow.frozen 3;have y4:=hrow.cell (j:=4) rfl;have z4:=hrow.frozen 4;unfold Oper.wp;rw[show(execOp a1.eval _).run Tryz.prog w= .ok .skip (set5 w p (.slice (some ⟨gO1,0,none⟩) m cO1) (.slice AL1 nL1 cL1) (.slice (some ⟨gD1,0,none⟩) m cD1) (.slice (some ⟨gT1,0,none⟩) m cT1) (.slice (some ⟨gF1,0,none⟩) m cF1))from by rw[hρ];unfold set5;simp[execOp,ep,e0,y0,y1,y2,y3,y4,z0,z1,z2,z3,z4,go_sem],Oper.upon_skip]
              refine hK undef _ ⟨by decide,by decide,_,_,_,_,_,_,_,_,_,_,_,_,p,?_,hp,hp2,set5_bel hbl hp2 _ _ _ _ _,set5_gng hr hrow _ _ _ _ _,fun h=>absurd h (by decide),fun _=>set5_row hrow _ _ _ _ _,fun h=>absurd h (by decide)⟩
              simp only[reduceCtorEq,if_false,hρ];exact ep
            · have hoo:=Option.some.inj ho;subst hoo;obtain⟨t1,t2,gO1,cO1,AL1,nL1,cL1,gD1,cD1,gT1,cT1,gF1,cF1,Rv1,p,ep,hp,hp2,hbl,hr,h0,h1,h2⟩:=hT;simp only[hρ]at ep;have hq:ρ (.tmp 83)= .int .i64 0:=(hL ⟨17, .data⟩ (by simp) (by rfl) (by simp))
              unfold Oper.wp;rw[show(execOp a1.eval _).run Tryz.prog w= .ok (.value (.int .i64 0)) (w)from by rw[hρ];simp[execOp,hq,go_sem],Oper.upon_value]
              refine hK _ _ ⟨by decide,by decide,_,_,_,_,_,_,_,_,_,_,_,_,p,?_,hp,hp2,hbl,hr,fun h=>absurd h (by decide),fun _=>h1 (by decide),fun _=> ?_⟩
              · simp only[Option.some.injEq,Nat.reduceEqDiff,if_false,hρ];exact ep
              · simp
          case hcon=>
            intro t f g w h hT;obtain⟨t1,t2,gO1,cO1,AL1,nL1,cL1,gD1,cD1,gT1,cT1,gF1,cF1,Rv1,p,ep,hp,hp2,hbl,hr,h0,h1,h2⟩:=hT;have qa:=h 18 (by omega) (by simp)
            have qb:=h 16 (by omega) (by simp)
            simp only[List.getD_cons_zero,List.getD_cons_succ]at qa qb;refine⟨t1,t2,_,_,_,_,_,_,_,_,_,_,_,_,p,qa▸ep,hp,hp2,hbl,hr,fun e=>⟨qb▸(h0 e).1,(h0 e).2⟩,h1,fun e=> ?_⟩
            have qc:=h 20 (by omega) (by simp)
            simp only[List.getD_cons_zero,List.getD_cons_succ]at qc;exact qc▸h2 e
          case hend=>
            intro vals12 w6 hT;obtain⟨_,_,gO2,cO2,AL2,nL2,cL2,gD2,cD2,gT2,cT2,gF2,cF2,Rv2,p12,ep,hp,_,hbl,hr,_,h1,h2⟩:=hT;have hrow:=h1 (by decide)
            have er:=h2 rfl;have hok2:=(HOK.out.step HCM.out.1 HCM.out.2).2;have hon: ∀u,0<=g.O.getD u 0->(stepG m g c).O.getD u 0=g.O.getD u 0:=fun u hu=>step_on HCM.out.2 hu
            obtain⟨gs,hgs⟩: ∃x,x=stepG m g c:=⟨_,rfl⟩;rw[<-hgs]at hok2 hr hon;have HON:=Lib.hid hon;have HOK2:=Lib.hid hok2;have HR2:=Lib.hid hr;have HDG:=Lib.hid (HDG.out.next hbl);have HBX:=Lib.hid (HBX.out.below hbl HBX.out.lt);have HR:=Lib.hid (HR.out.below hbl);have HBX2:=Lib.hid hrow;have HBL:=Lib.hid (HS.out.bel.trans ((HB9.out.trans (hbl.mono HB9.out.size)).mono HS.out.bel.size));have HSQ:=Lib.hid (show y3.heap.size<=q/\y2.heap.size<=y3.heap.size from⟨HS.out.hq,HS.out.hb⟩)
            have HSB:Hid (y2.heap.size<=w5.heap.size):=Lib.hid (Nat.le_trans HS.out.hb (Nat.le_trans HS.out.bel.size HB9.out.size));clear hok2 hon hr hgs hrow hbl HOK HCM HPC HLC HIN HRN HXM HRM HKZ HO9 HWM HK9 HWL HT HGR HPK HS hrem hz9 hz9b hm9;simp only[fillA,fillL,List.contains_cons,List.contains_nil,Nat.reduceBEq,Bool.or_false,Bool.false_or,Bool.or_true,Bool.true_or,cond_true,cond_false,Nat.zero_add,Nat.reduceAdd,ep,er];have r0:w6.cell? ⟨q,0,none⟩=some (.slice (some ⟨gO,0,none⟩) m cO):=HBX.out.cell rfl
            go_wp2;clear r0
            go_loopw [17] (fun v ws=> ∃u:Nat,u<=m/\v= .int .i64 u/\Hid (Below w6.heap.size w6 ws)) (fun v _=>m - (intOf v).toNat)
            case atStart=>exact⟨0,Nat.zero_le _,rfl,Lib.hid (Below.refl _ _)⟩
            case round=>
              obtain⟨u,hu,rfl,HBU⟩:=hrel;have hq9:=HBX.out.below HBU.out HBX.out.lt;have r0:wr.cell? ⟨q,0,none⟩=some (.slice (some ⟨gO,0,none⟩) m cO):=hq9.cell rfl
              have hm8:=HM8.out
              by_cases hum:u<m
              · have hun: ¬((m:Int)<=(u:Int)):=by omega
                have oc:=(HR.out.below HBU.out).onc hum;have oc2:=(HR2.out.below HBU.out).onc hum;have s0:wr.cell? ⟨p12,0,none⟩=some (.slice (some ⟨gO2,0,none⟩) m cO2):=(HBX2.out.below HBU.out HBX2.out.lt).cell rfl
                have hon:=HON.out u;obtain⟨o,ho⟩: ∃o,o=g.O.getD u 0:=⟨_,rfl⟩;obtain⟨o2,ho2⟩: ∃o,o=gs.O.getD u 0:=⟨_,rfl⟩;rw[<-ho]at oc hon;rw[<-ho2]at oc2 hon;dsimp only at oc oc2;clear hq9 ho ho2
                by_cases ho0:0<=o
                · have hd:decide (0<=o)=true:=decide_eq_true ho0;obtain rfl:=hon ho0;have hd2:(o2 !=o2)=false:=by simp
                  clear hon ho0;go_wp2
                  go_quiet (fail)
                  have HBN:=Lib.hid (HBU.out.trans ((below_drewN (Below.refl _ _) nq).mono HBU.out.size));clear oc oc2 s0 r0;go_wp2;go_roundw
                  case rel=>exact⟨u+1,by omega,by go_num,HBN⟩
                  case measure=>simp[intOf];omega
                · have hd:decide (0<=o)=false:=decide_eq_false ho0;clear hon ho0;go_wp2
                  go_quiet (fail)
                  have HBN:=Lib.hid (HBU.out.trans ((below_drewN (Below.refl _ _) nq).mono HBU.out.size));clear oc oc2 s0 r0;go_wp2;go_roundw
                  case rel=>exact⟨u+1,by omega,by go_num,HBN⟩
                  case measure=>simp[intOf];omega
              · obtain rfl:m=u:=by omega
                obtain⟨w8,hw8⟩: ∃w8,w8=wr:=⟨_,rfl⟩;rw[<-hw8]at hq9 HBU r0⊢;clear hw8;have hx9:=HBX2.out.below HBU.out HBX2.out.lt;have HS9:=Lib.hid (show OnS y3 q m W E y2.heap.size gs L ⟨gO2,cO2, .slice AL2 nL2 cL2,gD2,cD2,gT2,cT2,gF2,cF2,Rv2⟩ (set5 w8 q (.slice (some ⟨gO2,0,none⟩) m cO2) (.slice AL2 nL2 cL2) (.slice (some ⟨gD2,0,none⟩) m cD2) (.slice (some ⟨gT2,0,none⟩) m cT2) (.slice (some ⟨gF2,0,none⟩) m cF2))from
                  ⟨set5_bel (HBL.out.trans (HBU.out.mono HBL.out.size)) HSQ.out.1 _ _ _ _ _,set5_row hq9 _ _ _ _ _,HSQ.out.1,HSQ.out.2,set5_gng ((HR2.out.below HBU.out).down HSB.out) hq9 _ _ _ _ _,HOK2.out⟩)
                have y0:=hx9.cell (j:=0) rfl;have y1:=hx9.cell (j:=1) rfl;have y2':=hx9.cell (j:=2) rfl;have y3':=hx9.cell (j:=3) rfl;have y4:=hx9.cell (j:=4) rfl;have x1:=hq9.cell (j:=1) rfl;have x2:=hq9.cell (j:=2) rfl;have x3:=hq9.cell (j:=3) rfl;have x4:=hq9.cell (j:=4) rfl;have z0:=hq9.frozen 0;have z1:=hq9.frozen 1;have z2:=hq9.frozen 2;have z3:=hq9.frozen 3;have z4:=hq9.frozen 4;clear hx9 hq9;go_upto_region 21 with fail;clear y0 y1 y2' y3' y4 x1 x2 x3 x4 z0 z1 z2 z3 z4 r0;obtain⟨w9,hw9⟩: ∃w9,w9=set5 w8 q (.slice (some ⟨gO2,0,none⟩) m cO2) (.slice AL2 nL2 cL2) (.slice (some ⟨gD2,0,none⟩) m cD2) (.slice (some ⟨gT2,0,none⟩) m cT2) (.slice (some ⟨gF2,0,none⟩) m cF2):=⟨_,rfl⟩;rw[<-hw9]at HS9;unfold set5 at hw9;rw[<-hw9];clear hw9;have hdg:=B3.out.next HS9.out.bel;have p0:=hdg.p0;have p1:=hdg.p1;have r0:w9.cell? ⟨q,0,none⟩=some (.slice (some ⟨gO2,0,none⟩) m cO2):=HS9.out.row.cell rfl
                have r1:w9.cell? ⟨q,1,none⟩=some (.slice AL2 nL2 cL2):=HS9.out.row.cell rfl
                have r2:w9.cell? ⟨q,2,none⟩=some (.slice (some ⟨gD2,0,none⟩) m cD2):=HS9.out.row.cell rfl
                have r3:w9.cell? ⟨q,3,none⟩=some (.slice (some ⟨gT2,0,none⟩) m cT2):=HS9.out.row.cell rfl
                have r4:w9.cell? ⟨q,4,none⟩=some (.slice (some ⟨gF2,0,none⟩) m cF2):=HS9.out.row.cell rfl
                go_wp2_with fail;refine(once_any w9 HS9.out.ok HS9.out.r hm8 (HG.out _ hdg.bel) HM.out).mono ?_
                rintro e w10 ⟨rfl,hb10⟩;have HS10:=Lib.hid (show OnS y3 q m W E y2.heap.size gs L ⟨gO2,cO2, .slice AL2 nL2 cL2,gD2,cD2,gT2,cT2,gF2,cF2,Rv2⟩ w10 from⟨HS9.out.bel.trans (hb10.mono HS9.out.bel.size),HS9.out.row.below hb10 HS9.out.row.lt,HS9.out.hq,HS9.out.hb,HS9.out.r.below hb10,HS9.out.ok⟩)
                clear hb10 HS9 p0 p1 r0 r1 r2 r3 r4 hdg;have hi1:=HLT.out;go_wp2_with fail;go_roundw
                case rel=>exact⟨i+1,_,_,_,_,_,_,_,_,_,_,_,_,_,by omega,by go_num,HS10⟩
                case measure=>simp[intOf];omega
    · obtain rfl:nP=i:=by omega
      go_wp2;go_ret
      exact⟨rfl,(B3.out.next HS.out.bel).bel⟩
end
section
variable {AW FE AP N: Option Addr} {nW cW mE dE nP cP nn nc: Nat} {W need picks: List Int} {E: List (Int × Int)}
theorem walk_StealOnce(w0:World)(hT:Tab64 w0)(hg:InG w0 AW nW cW FE mE dE W E)(hs:InNL w0 N nn nc need)(cores:Int)(hc: -9223372036854775808<=cores/\cores<=9223372036854775807)(hp:InNL w0 AP nP cP picks)(tk:Int)(ht:(Lit.int .u8 tk).wf=true):
  Calls Tryz.prog 5 #[.agg #[.slice AW nW cW,.slice FE mE dE],.slice N nn nc,.int .i64 cores,.slice AP nP cP,.int .u8 tk] w0 fun e w'=>e= .returned (.bool true)/\Below w0.heap.size w0 w':=by
 by_cases h:(((nW<=70/\mE<=300)/\nn<=70/\litVs 300 need=true)/\nP<=300)
 ·have hG:=hg.isG hT h.1.1.1 h.1.1.2
  by_cases hk:newE W E need cores=0
  ·obtain ⟨m,rfl⟩: ∃ k: Nat,cores = k:=⟨cores.toNat,by have:=(newE_zero.mp hk).2.2.2.1; omega⟩
   have htb:0<=tk/\tk<=255:=by
    have e1:IntKind.u8.min=0:=by decide
    have e2:IntKind.u8.max=255:=by decide
    simp[Lit.wf,e1,e2]at ht;omega
   exact sonce_good w0 tk htb hG hs hp h.1.1.1 h.1.1.2 h.1.2.1 h.1.2.2 h.2 hk
  ·exact sonce_bad w0 cores _ tk hG hs h.1.1.1 h.1.1.2 h.1.2.1 h.1.2.2 h.2 rfl hk
 ·exact sonce_many w0 cores tk hT hg hs hp h
end
end Go.Proofs.YtngdbbligebcbabGreatDoor
