import Derived.Test.YtlfekmbalgkmeaaGreatDoorZM35
import Derived.Test.YtlfekmbalgkmeaaGreatDoorZM31
import Derived.Test.YtlfekmbalgkmeaaGreatDoorZM32
import Derived.Test.YtlfekmbalgkmeaaGreatDoorZM28
import Derived.Test.YtlfekmbalgkmeaaGreatDoorZM11
import Derived.Laws.StructEq
import Derived.KernelRfl
set_option linter.unusedSimpArgs false
set_option linter.unnecessarySimpa false
set_option linter.unusedVariables false
set_option maxRecDepth 100000
set_option maxHeartbeats 32000000
namespace Go.Proofs.YtlfekmbalgkmeaaGreatDoor
open Go Go.RowKit
def PhiRt(p g:Nat)(A:Option Addr)(n c:Nat)(b off j:Nat)(G:Option Addr)(m d:Nat)(A1:Option Addr)(n1 c1:Nat)(q:Int)(r:Bool)(s:Shp):Nat->Value->World->Prop
 |0,v,w=>v= .agg #[.int .i64 s.t,.int .i64 s.l,.int .i64 s.m,.int .i64 s.d,.int .i64 s.p]
 |1,v,w=>v= .pointer (some ⟨g,1,none⟩)
 |2,v,w=>v= .slice G m d
 |3,v,w=>v= .int .i64 j
 |4,v,w=>v= .pointer (some ⟨b,off+j,none⟩)
 |5,v,w=>v= .slice A1 n1 c1
 |6,v,w=>v= .int .i64 q
 |7,v,w=>v= .bool r
 |8,v,w=>v= .bool (!r)
 |_,_,_=>True
theorem phiRt_keep{p g:Nat}{A:Option Addr}{n c b off j:Nat}{G:Option Addr}{m d:Nat}{A1:Option Addr}{n1 c1:Nat}{q:Int}{r:Bool}{s:Shp}: ∀k v w w',PhiRt p g A n c b off j G m d A1 n1 c1 q r s k v w->Below w.heap.size w w'->PhiRt p g A n c b off j G m d A1 n1 c1 q r s k v w':=by
 intro k v w w' h _
 match k,h with
 |0,h=>exact h
 |1,h=>exact h
 |2,h=>exact h
 |3,h=>exact h
 |4,h=>exact h
 |5,h=>exact h
 |6,h=>exact h
 |7,h=>exact h
 |8,h=>exact h
 |k+9,h=>exact trivial
theorem right_split{S:List Shp}{C:List (List Int)}{q:Int}:RightQ S C q↔(1<=q/\q<=8)/\S.length<=8/\C.length=S.length/\(∀(i:Nat) s c,S[i]? =some s->C[i]? =some c->SuitQ q s c)/\ ∀k,0<=k->k<q->EnoughP S C k:=by
 constructor
 ·rintro ⟨h1,h2,h3,h4,h5⟩
  have hO: ∀s∈S,s.Ok:=fun s hs=>by
   obtain⟨i,hi,e⟩:=List.mem_iff_getElem.mp hs;have e1:S[i]? =some s:=by rw[List.getElem?_eq_getElem hi,e]
   exact(coresS_pos (h4 i s C[i] e1 (List.getElem?_eq_getElem (by omega))).1).2.2.1
  exact⟨h1,h2,h3,h4,fun k k0 k1=>(enough_iff hO).mp (h5 k k0 k1)⟩
 ·rintro ⟨h1,h2,h3,h4,h5⟩
  have hO: ∀s∈S,s.Ok:=fun s hs=>by
   obtain⟨i,hi,e⟩:=List.mem_iff_getElem.mp hs;have e1:S[i]? =some s:=by rw[List.getElem?_eq_getElem hi,e]
   exact(coresS_pos (h4 i s C[i] e1 (List.getElem?_eq_getElem (by omega))).1).2.2.1
  exact⟨h1,h2,h3,h4,fun k k0 k1=>(enough_iff hO).mpr (h5 k k0 k1)⟩
theorem aright_any{A:Option Addr}{n c:Nat}{G:Option Addr}{m d:Nat}{S:List Shp}{C:List (List Int)}(q:Int)(wf:World)(h:IsPl wf A n c G m d S C)(hf:FewP S C)(hT:DTab wf)(r:Bool)(hr:r=true↔RightQ S C q):
    Calls Tryz.prog 16 #[.agg #[.slice A n c, .slice G m d], .int .i64 q] wf fun e w'=>e= .returned (.bool r)/\Below wf.heap.size wf w':=by
  obtain⟨g,hg⟩: ∃g,g=wf.heap.size:=⟨_,rfl⟩;have HGs:=Lib.hid hg;obtain⟨w0,hw0⟩: ∃w0,w0=wf.alloc (.cells #[.slice A n c, .slice G m d] 28):=⟨_,rfl⟩;have HR:=Lib.hid (show RowV g 28 [.slice A n c, .slice G m d] w0 from by rw[hg,hw0];exact h.box)
  have HB:=Lib.hid (show Below g wf w0 from by rw[hg,hw0];exact below_alloc _)
  have HPl:=Lib.hid (fun W (b:Below g wf W)=>h.via (by rw[<-hg];exact b))
  have HTB:=Lib.hid (fun W (b:Below g wf W)=>DTab.via hT (by rw[<-hg];exact b))
  have HF:=Lib.hid hf;have HN:=Lib.hid (show(S.length=n/\n<=20)/\C.length=m/\m<=20 from⟨⟨h.l1,by have:=hf.f1;rw[h.l1]at this;exact this⟩,h.l2,by have:=hf.f2;rw[h.l2]at this;exact this⟩)
  have HW0:=Lib.hid hw0;have HRr:=Lib.hid (hr.trans right_split);have KM:=Lib.hid (amay_any q);have q0:=HR.out.cell (j:=0) rfl;have q1:=HR.out.cell (j:=1) rfl;rw[hw0,hg]at q0 q1;rw[<-hg];clear h hf hT hg hw0 hr
  by_cases hq:1<=q/\q<=8
  · rw[decide_eq_true hq]at KM
    by_cases h8:n<=8
    · have hd:decide ((8:Int)<(n:Int))=false:=decide_eq_false (by omega)
      have hd':decide (8<n)=false:=decide_eq_false (by omega)
      by_cases hmn:m=n
      · subst hmn;obtain⟨qn,rfl⟩: ∃qn:Nat,q=(qn:Int):=⟨q.toNat,by omega⟩
        have HQ:=Lib.hid hq;go_enter Tryz.func16,Tryz.ntmps16;go_wp2_with fail;rw[<-HW0.out,<-HGs.out];rw[<-HW0.out,<-HGs.out]at q0 q1;refine(KM.out _).mono ?_
        rintro e w1 ⟨rfl,rfl⟩;clear HW0 KM;go_wp2;clear q0 q1;go_loopw [29] (fun i wr=> ∃j:Nat,j<=m/\i= .int .i64 j/\Hid (∀(x:Nat) s c,x<j->S[x]? =some s->C[x]? =some c->SuitQ (qn:Int) s c)/\Hid (RowV g 28 [.slice A m c, .slice G m d] wr)/\Hid (Below g wf wr)) (fun i _=>m - (intOf i).toNat)
        case atStart=>exact⟨0,Nat.zero_le _,rfl,Lib.hid (fun x s c hx=>absurd hx (Nat.not_lt_zero _)),HR,HB⟩
        case round=>
          obtain⟨j,hj,rfl,HSu,HR,HB⟩:=hrel;have hgw:g<wr.heap.size:=HR.out.lt
          by_cases hlt:j<m
          · have hP:=HPl.out wr HB.out;obtain⟨b,off,t,lg,mo,dd,pp,hAe,hbg,hek,c0,c1,c2,c3,c4⟩:=hP.shp.at_ (k:=j) (by rw[HN.out.1.1];exact hlt)
            obtain⟨b2,off2,row,A1,n1,c1',hGe,hb2,hrow,hn1,hcell,hI,_⟩:=hP.lol.at_ (k:=j) (by rw[HN.out.2.1];exact hlt)
            subst hAe hGe;have q0:=HR.out.cell (j:=0) rfl;have HCe:=Lib.hid hcell;have HI:=Lib.hid (fun W (hb:Below wr.heap.size wr W)=>(hI.below hb).more hb.size)
            have HN1:=Lib.hid (show row.length=n1/\n1<=100 from⟨hn1,by have:=HF.out.f3 row (List.mem_of_getElem? hrow);omega⟩)
            have HEK:=Lib.hid hek;have HRW:=Lib.hid hrow;have HB2:=Lib.hid hb2;obtain⟨rs,hrs⟩: ∃rs:Bool,rs=true↔SuitQ (qn:Int) ⟨t,lg,mo,dd,pp⟩ row:=by
              by_cases z:SuitQ (qn:Int) ⟨t,lg,mo,dd,pp⟩ row
              · exact⟨true,fun _=>z,fun _=>rfl⟩
              · exact⟨false,fun y=>Bool.noConfusion y,fun y=>absurd y z⟩
            have HRS:=Lib.hid hrs;have KS:=Lib.hid (fun W (hb:Below wr.heap.size wr W)=>suits_any (c:=c1') ⟨t,lg,mo,dd,pp⟩ (qn:Int) (by have:=HQ.out;omega) W HN1.out.1 HN1.out.2 (HI.out W hb) (HTB.out W (HB.out.trans (hb.mono (Nat.le_of_lt hgw)))) rs hrs)
            clear hP hek hrow hn1 hcell hI hb2 hrs;go_wp2_with fail;obtain⟨w2,hw2⟩: ∃w2,w2=wr.alloc (.cells #[.int .i64 t, .int .i64 lg, .int .i64 mo, .int .i64 dd, .int .i64 pp] 44):=⟨_,rfl⟩;have HBW:=Lib.hid (show Below wr.heap.size wr w2 by rw[hw2];exact below_alloc _)
            obtain⟨p,hp⟩: ∃p,p=wr.heap.size:=⟨_,rfl⟩;have HRp:=Lib.hid (show RowV p 44 (shpC ⟨t,lg,mo,dd,pp⟩) w2 by rw[hp,hw2];exact RowV.new _ _ _)
            rw[<-hw2,<-hp];have HPp:=Lib.hid hp;clear hw2 c0 c1 c2 c3 c4 q0 hp;refine wp_region_b [34,35,36,37,38,39,40,41,42] (by kernel_rfl) (by kernel_rfl) (by kernel_rfl) (by intro d hd;simp at hd⊢;omega) (by simp) (PhiRt p g (some ⟨b,off,none⟩) m c b2 off2 j (some ⟨b2,off2,none⟩) m d A1 n1 c1' (qn:Int) rs ⟨t,lg,mo,dd,pp⟩) phiRt_keep ?hstep ?hend
            case hstep=>
              intro k o ho a w hI hA hd K hK;obtain⟨ρ,hρ⟩: ∃ρ,a.eval=ρ:=⟨_,rfl⟩;rw[hρ]at hA hd;have hbw:Below wr.heap.size wr w:=HBW.out.trans (hI.mono HBW.out.size)
              match k,ho,hK with
              | 0, ho, hK =>
                have hoo:=Option.some.inj ho;subst hoo;have h6:=hA.tmp 6 (by decide)
                have hR:=HRp.out.below hI HRp.out.lt;have e0:=hR.cell (j:=0) rfl;have e1:=hR.cell (j:=1) rfl;have e2:=hR.cell (j:=2) rfl;have e3:=hR.cell (j:=3) rfl;have e4:=hR.cell (j:=4) rfl;exact ux_val hK hρ (by decide) (.agg #[.int .i64 t, .int .i64 lg, .int .i64 mo, .int .i64 dd, .int .i64 pp]) w (by simp[execOp,h6,e0,e1,e2,e3,e4,go_sem]) rfl (Below.refl _ _)
              | 1, ho, hK =>
                have hoo:=Option.some.inj ho;subst hoo;have h2:=hA.tmp 2 (by decide)
                exact ux_val hK hρ (by decide) (.pointer (some ⟨g,1,none⟩)) w (by simp[execOp,h2,go_sem]) rfl (Below.refl _ _)
              | 2, ho, hK =>
                have hoo:=Option.some.inj ho;subst hoo;have f1:ρ (.tmp 35)= .pointer (some ⟨g,1,none⟩):=hd ⟨1, .data⟩ (by simp) (by rfl)
                have e1:=(HR.out.below hbw hgw).cell (j:=1) rfl;exact ux_val hK hρ (by decide) (.slice (some ⟨b2,off2,none⟩) m d) w (by simp[execOp,f1,e1,go_sem]) rfl (Below.refl _ _)
              | 3, ho, hK =>
                have hoo:=Option.some.inj ho;subst hoo;have h5:=hA.tmp 5 (by decide)
                exact ux_val hK hρ (by decide) (.int .i64 j) w (by simp[execOp,h5,go_sem]) rfl (Below.refl _ _)
              | 4, ho, hK =>
                have hoo:=Option.some.inj ho;subst hoo;have f2:ρ (.tmp 36)= .slice (some ⟨b2,off2,none⟩) m d:=hd ⟨2, .data⟩ (by simp) (by rfl)
                have f3:ρ (.tmp 37)= .int .i64 j:=hd ⟨3, .data⟩ (by simp) (by rfl)
                exact ux_val hK hρ (by decide) (.pointer (some ⟨b2,off2+j,none⟩)) w (by simp[execOp,f2,f3,hlt,go_sem]) rfl (Below.refl _ _)
              | 5, ho, hK =>
                have hoo:=Option.some.inj ho;subst hoo;have f4:ρ (.tmp 38)= .pointer (some ⟨b2,off2+j,none⟩):=hd ⟨4, .data⟩ (by simp) (by rfl)
                have e1:=(hbw.cell (p:=⟨b2,off2+j,none⟩) HB2.out).trans HCe.out;exact ux_val hK hρ (by decide) (.slice A1 n1 c1') w (by simp[execOp,f4,e1,go_sem]) rfl (Below.refl _ _)
              | 6, ho, hK =>
                have hoo:=Option.some.inj ho;subst hoo;have h1:=hA.tmp 1 (by decide)
                exact ux_val hK hρ (by decide) (.int .i64 qn) w (by simp[execOp,h1,go_sem]) rfl (Below.refl _ _)
              | 7, ho, hK =>
                have hoo:=Option.some.inj ho;subst hoo;have f0:ρ (.tmp 34)= .agg #[.int .i64 t, .int .i64 lg, .int .i64 mo, .int .i64 dd, .int .i64 pp]:=hd ⟨0, .data⟩ (by simp) (by rfl)
                have f5:ρ (.tmp 39)= .slice A1 n1 c1':=hd ⟨5, .data⟩ (by simp) (by rfl)
                have f6:ρ (.tmp 40)= .int .i64 qn:=hd ⟨6, .data⟩ (by simp) (by rfl)
                exact ux_call hK hρ (by decide) 41 _ _ #[.agg #[.int .i64 t, .int .i64 lg, .int .i64 mo, .int .i64 dd, .int .i64 pp], .slice A1 n1 c1', .int .i64 qn] rfl (by simp only[List.map_toArray,List.map_cons,List.map_nil,hA.const,f0,f5,f6]) (eg_of Tryz.func41 (by kernel_rfl) rfl) ((KS.out w hbw).mono fun e w' ⟨he,hb⟩=>⟨_,he,rfl,hb⟩)
              | 8, ho, hK =>
                have hoo:=Option.some.inj ho;subst hoo;have f7:ρ (.tmp 41)= .bool rs:=hd ⟨7, .data⟩ (by simp) (by rfl)
                exact ux_val hK hρ (by decide) (.bool (!rs)) w (by simp[execOp,f7,go_sem]) rfl (Below.refl _ _)
              |k+9,ho,_=>simp at ho
            case hend=>
              intro vals w3 hI hF;have e8:vals 42= .bool (!rs):=hF 8 (by decide)
              have HB3:=Lib.hid (HB.out.trans ((HBW.out.trans (hI.mono HBW.out.size)).mono (Nat.le_of_lt hgw)));have HR3:=Lib.hid (HR.out.below (HBW.out.trans (hI.mono HBW.out.size)) hgw);have g34:vals 34= .agg #[.int .i64 t, .int .i64 lg, .int .i64 mo, .int .i64 dd, .int .i64 pp]:=hF 0 (by decide)
              have g35:vals 35= .pointer (some ⟨g,1,none⟩):=hF 1 (by decide)
              clear hF hI;simp only[fillA,fillL,List.contains_cons,List.contains_nil,Nat.reduceBEq,Bool.or_false,Bool.false_or,Bool.or_true,Bool.true_or,cond_true,cond_false,Nat.zero_add,Nat.reduceAdd,e8];clear e8;cases rs with
              | true =>
                go_wp2;go_roundw
                case rel=>exact⟨j+1,by omega,by go_num,Lib.hid (fun x s c hx hs hc=>by
                  by_cases e:x=j
                  · subst e;rw[HEK.out]at hs;rw[HRW.out]at hc;obtain rfl:=Option.some.inj hs;obtain rfl:=Option.some.inj hc;exact HRS.out.mp rfl
                  · exact HSu.out x s c (by omega) hs hc),HR3,HB3⟩
                case measure=>simp[intOf];omega
              | false =>
                have HF0:=Lib.hid (show r=false by
                  cases r with
                  |false=>rfl
                  |true=>have:=HRS.out.mpr ((HRr.out.mp rfl).2.2.2.1 j _ _ HEK.out HRW.out);cases this)
                go_wp2;refine bodyPost_ret (v:= .bool false) ?_ rfl ⟨by rw[HF0.out],HB3.out⟩
                simp[results,Tryz.results16,go_sem]
          · obtain rfl:j=m:=by omega
            have HSA:=Lib.hid (show∀(x:Nat) s c,S[x]? =some s->C[x]? =some c->SuitQ (qn:Int) s c from fun x s c hs hc=>HSu.out x s c (by have:=(List.getElem?_eq_some_iff.mp hs).1;rw[HN.out.1.1]at this;exact this) hs hc)
            clear HSu;go_wp2;go_loopw [45] (fun i wr=> ∃x:Nat,x<=qn/\i= .int .i64 x/\Hid (∀y:Int,0<=y->y<(x:Int)->EnoughP S C y)/\Hid (RowV g 28 [.slice A j c, .slice G j d] wr)/\Hid (Below g wf wr)) (fun i _=>qn - (intOf i).toNat)
            case atStart=>exact⟨0,Nat.zero_le _,rfl,Lib.hid (fun y h1 h2=>by omega),HR,HB⟩
            case round=>
              obtain⟨x,hx,rfl,HE,HR,HB⟩:=hrel
              by_cases hxq:x<qn
              · have q0:=HR.out.cell (j:=0) rfl;have q1:=HR.out.cell (j:=1) rfl;obtain⟨re,hre⟩: ∃re:Bool,re=true↔EnoughP S C (x:Int):=by
                  by_cases z:EnoughP S C (x:Int)
                  · exact⟨true,fun _=>z,fun _=>rfl⟩
                  · exact⟨false,fun y=>Bool.noConfusion y,fun y=>absurd y z⟩
                have KE:=Lib.hid (isEnough_any (x:Int) wr (HPl.out wr HB.out) HF.out (HTB.out wr HB.out) re hre);have HRE:=Lib.hid hre;have hgw:g<wr.heap.size:=HR.out.lt;clear hre;go_wp2_with fail;refine KE.out.mono ?_
                rintro e w3 ⟨rfl,b3⟩;have HB3:=Lib.hid (HB.out.trans (b3.mono (Nat.le_of_lt hgw)));have HR3:=Lib.hid (HR.out.below b3 hgw);clear b3 KE q0 q1;cases re with
                | true =>
                  go_wp2;go_roundw
                  case rel=>exact⟨x+1,by omega,by go_num,Lib.hid (fun y h1 h2=>by
                    by_cases e:y=(x:Int)
                    · rw[e];exact HRE.out.mp (by trivial)
                    · exact HE.out y h1 (by omega)),HR3,HB3⟩
                  case measure=>simp[intOf];omega
                | false =>
                  have HF0:=Lib.hid (show r=false by
                    cases r with
                    |false=>rfl
                    |true=>have:=HRE.out.mpr ((HRr.out.mp rfl).2.2.2.2 (x:Int) (by omega) (by omega));cases this)
                  go_wp2;refine bodyPost_ret (v:= .bool false) ?_ rfl ⟨by rw[HF0.out],HB3.out⟩
                  simp[results,Tryz.results16,go_sem]
              · obtain rfl:x=qn:=by omega
                have HF0:=Lib.hid (show r=true from HRr.out.mpr ⟨HQ.out,by rw[HN.out.1.1];exact h8,by rw[HN.out.1.1,HN.out.2.1],HSA.out,HE.out⟩)
                go_wp2;refine bodyPost_ret (v:= .bool true) ?_ rfl ⟨by rw[HF0.out],HB.out⟩
                simp[results,Tryz.results16,go_sem]
      · have he:((m:Int)==(n:Int))=false:=by simp;omega
        have he2:(m==n)=false:=by simpa using hmn
        have HF0:=Lib.hid (show r=false by
          cases r with
          |false=>rfl
          |true=>have:=(HRr.out.mp rfl).2.2.1;rw[HN.out.1.1,HN.out.2.1]at this;exact absurd this hmn)
        go_enter Tryz.func16,Tryz.ntmps16;go_wp2_with fail;rw[<-HW0.out,<-HGs.out];rw[<-HW0.out,<-HGs.out]at q0 q1;refine(KM.out _).mono ?_
        rintro e w1 ⟨rfl,rfl⟩;go_wp2;refine bodyPost_ret (v:= .bool false) ?_ rfl ⟨by rw[HF0.out],HB.out⟩
        simp[results,Tryz.results16,go_sem]
    · have hd:decide ((8:Int)<(n:Int))=true:=decide_eq_true (by omega)
      have hd':decide (8<n)=true:=decide_eq_true (by omega)
      have HF0:=Lib.hid (show r=false by
        cases r with
        |false=>rfl
        |true=>have:=(HRr.out.mp rfl).2.1;rw[HN.out.1.1]at this;exact absurd this h8)
      go_enter Tryz.func16,Tryz.ntmps16;go_wp2_with fail;rw[<-HW0.out,<-HGs.out];rw[<-HW0.out,<-HGs.out]at q0 q1;refine(KM.out _).mono ?_
      rintro e w1 ⟨rfl,rfl⟩;go_wp2;refine bodyPost_ret (v:= .bool false) ?_ rfl ⟨by rw[HF0.out],HB.out⟩
      simp[results,Tryz.results16,go_sem]
  · rw[decide_eq_false hq]at KM;have HF0:=Lib.hid (show r=false by
      cases r with
      |false=>rfl
      |true=>exact absurd (HRr.out.mp rfl).1 hq)
    go_enter Tryz.func16,Tryz.ntmps16;go_wp2_with fail;rw[<-HW0.out,<-HGs.out];rw[<-HW0.out,<-HGs.out]at q0 q1;refine(KM.out _).mono ?_
    rintro e w1 ⟨rfl,rfl⟩;go_wp2;refine bodyPost_ret (v:= .bool false) ?_ rfl ⟨by rw[HF0.out],HB.out⟩
    simp[results,Tryz.results16,go_sem]
instance:DecidableEq Shp:=fun a b=>
 if h:a.t=b.t/\a.l=b.l/\a.m=b.m/\a.d=b.d/\a.p=b.p then .isTrue (by obtain⟨_,_,_,_,_⟩:=a;obtain⟨_,_,_,_,_⟩:=b;simp only at h;obtain⟨rfl,rfl,rfl,rfl,rfl⟩:=h;rfl)else .isFalse (fun e=>h (by rw[e];exact⟨rfl,rfl,rfl,rfl,rfl⟩))
theorem shp_fields17:(Tryz.prog.fieldsOf 44).toList.map (fun f=>(f.name,f.type,f.offset))= [("Total",3,0),("Long",3,1),("Most",3,2),("Deadline",3,3),("Period",3,4)]:=by kernel_rfl
theorem shp_same(s u:Shp)(W:World):(Op.equalIn 10000 44 (.agg #[.int .i64 s.t, .int .i64 s.l, .int .i64 s.m, .int .i64 s.d, .int .i64 s.p]) (.agg #[.int .i64 u.t, .int .i64 u.l, .int .i64 u.m, .int .i64 u.d, .int .i64 u.p])).run Tryz.prog W= .ok (decide (s=u)) W:=by
  have hf:=shp_fields17;rw[run_equalIn_agg (d:=9999) W 44 _ _ (by kernel_rfl) (by kernel_rfl)]
  generalize (Tryz.prog.fieldsOf 44).toList=fs at hf
  have e1:=fun a b W=>run_equalIn_int (P:=Tryz.prog) W 9998 3 .i64 .i64 a b Tryz.underlying3
  have p0: ∀(a b c d e:Int) W,(part 3 #[.int .i64 a, .int .i64 b, .int .i64 c, .int .i64 d, .int .i64 e] 0).run Tryz.prog W= .ok (.int .i64 a) W:=fun a b c d e W=>by kernel_rfl
  have p1: ∀(a b c d e:Int) W,(part 3 #[.int .i64 a, .int .i64 b, .int .i64 c, .int .i64 d, .int .i64 e] 1).run Tryz.prog W= .ok (.int .i64 b) W:=fun a b c d e W=>by kernel_rfl
  have p2: ∀(a b c d e:Int) W,(part 3 #[.int .i64 a, .int .i64 b, .int .i64 c, .int .i64 d, .int .i64 e] 2).run Tryz.prog W= .ok (.int .i64 c) W:=fun a b c d e W=>by kernel_rfl
  have p3: ∀(a b c d e:Int) W,(part 3 #[.int .i64 a, .int .i64 b, .int .i64 c, .int .i64 d, .int .i64 e] 3).run Tryz.prog W= .ok (.int .i64 d) W:=fun a b c d e W=>by kernel_rfl
  have p4: ∀(a b c d e:Int) W,(part 3 #[.int .i64 a, .int .i64 b, .int .i64 c, .int .i64 d, .int .i64 e] 4).run Tryz.prog W= .ok (.int .i64 e) W:=fun a b c d e W=>by kernel_rfl
  match fs,hf with
  | [],hf=>simp at hf
  | [_],hf=>simp at hf
  | [_,_],hf=>simp at hf
  | [_,_,_],hf=>simp at hf
  | [_,_,_,_],hf=>simp at hf
  |_::_::_::_::_::_::_,hf=>simp at hf
  | [f0, f1, f2, f3, f4], hf =>
    simp only[List.map_cons,List.map_nil,List.cons.injEq,Prod.mk.injEq,and_true]at hf;obtain⟨⟨n0,t0,o0⟩,⟨n1,t1,o1⟩,⟨n2,t2,o2⟩,⟨n3,t3,o3⟩,n4,t4,o4⟩:=hf;simp only[Op.eqFields,n0,n1,n2,n3,n4,t0,t1,t2,t3,t4,o0,o1,o2,o3,o4];obtain⟨a0,a1,a2,a3,a4⟩:=s;obtain⟨b0,b1,b2,b3,b4⟩:=u
    by_cases h0:a0=b0
    · by_cases h1:a1=b1
      · by_cases h2:a2=b2
        · by_cases h3:a3=b3
          · by_cases h4:a4=b4
            · simp[p0,p1,p2,p3,p4,e1,h0,h1,h2,h3,h4]
            · simp[p0,p1,p2,p3,p4,e1,h0,h1,h2,h3,h4]
          · simp[p0,p1,p2,p3,p4,e1,h0,h1,h2,h3]
        · simp[p0,p1,p2,p3,p4,e1,h0,h1,h2]
      · simp[p0,p1,p2,p3,p4,e1,h0,h1]
    · simp[p0,p1,p2,p3,p4,e1,h0]
theorem shp_neq(s u:Shp)(W:World):(binOp .neq 44 (.agg #[.int .i64 s.t,.int .i64 s.l,.int .i64 s.m,.int .i64 s.d,.int .i64 s.p]) (.agg #[.int .i64 u.t,.int .i64 u.l,.int .i64 u.m,.int .i64 u.d,.int .i64 u.p])).run Tryz.prog W= .ok (.bool (!decide (s=u))) W:=by
 rw[run_neq_struct,shp_same];rfl
theorem shp_guard17(op:BinOp)(o1 o2:Operand)(xs ys:Array Value)(W:World):(eqGuard op 44 o1 o2 (.agg xs) (.agg ys)).run Tryz.prog W= .ok () W:=
 run_eqGuard_agg W op _ o1 o2 _ _ (by kernel_rfl)
def PhiSm(A:Option Addr)(n c:Nat)(b off:Nat)(A2:Option Addr)(m d:Nat)(b2 off2 k:Nat)(s u:Shp):Nat->Value->World->Prop
 |0,v,w=>v= .slice A n c
 |1,v,w=>v= .int .i64 k
 |2,v,w=>v= .pointer (some ⟨b,off+k * 5,none⟩)
 |3,v,w=>v= .agg #[.int .i64 s.t,.int .i64 s.l,.int .i64 s.m,.int .i64 s.d,.int .i64 s.p]
 |4,v,w=>v= .slice A2 m d
 |5,v,w=>v= .int .i64 k
 |6,v,w=>v= .pointer (some ⟨b2,off2+k * 5,none⟩)
 |7,v,w=>v= .agg #[.int .i64 u.t,.int .i64 u.l,.int .i64 u.m,.int .i64 u.d,.int .i64 u.p]
 |8,v,w=>v= .bool (!decide (s=u))
 |_,_,_=>True
theorem phiSm_keep{A:Option Addr}{n c b off:Nat}{A2:Option Addr}{m d b2 off2 k:Nat}{s u:Shp}: ∀x v w w',PhiSm A n c b off A2 m d b2 off2 k s u x v w->Below w.heap.size w w'->PhiSm A n c b off A2 m d b2 off2 k s u x v w':=by
 intro x v w w' h _
 match x,h with
 |0,h=>exact h
 |1,h=>exact h
 |2,h=>exact h
 |3,h=>exact h
 |4,h=>exact h
 |5,h=>exact h
 |6,h=>exact h
 |7,h=>exact h
 |8,h=>exact h
 |x+9,h=>exact trivial
theorem eqShps_any{A:Option Addr}{n c:Nat}{A2:Option Addr}{m d:Nat}{es us:List Shp}(w:World)(hn:es.length=n)(hm:us.length=m)(hl:n<=100)(hl2:m<=100)(hS:Shps w w.heap.size A es)(hU:Shps w w.heap.size A2 us):
    Calls Tryz.prog 49 #[.slice A n c, .slice A2 m d] w fun e w'=>e= .returned (.bool (decide (es=us)))/\Below w.heap.size w w':=by
  have HS:=Lib.hid (fun W (b:Below w.heap.size w W)=>hS.via b)
  have HU:=Lib.hid (fun W (b:Below w.heap.size w W)=>hU.via b)
  have HN:=Lib.hid (show es.length=n/\us.length=m from⟨hn,hm⟩)
  obtain⟨r,hr⟩: ∃r,r=decide (es=us):=⟨_,rfl⟩;rw[<-hr];have HR:=Lib.hid hr;clear hn hm hS hU hr
  by_cases hnm:n=m
  · subst hnm;go_enter Tryz.func49,Tryz.ntmps49;go_wp2;go_loopw [13] (fun i wr=> ∃k:Nat,k<=n/\i= .int .i64 k/\Hid (es.take k=us.take k)/\Hid (Below w.heap.size w wr)) (fun i _=>n - (intOf i).toNat)
    case atStart=>exact⟨0,Nat.zero_le _,rfl,Lib.hid rfl,Lib.hid (Below.refl _ _)⟩
    case round=>
      obtain⟨k,hk,rfl,HT,HB⟩:=hrel
      by_cases hlt:k<n
      · obtain⟨b,off,t,l,mo,dd,p,rfl,hb,hek,c0,c1,c2,c3,c4⟩:=(HS.out wr HB.out).at_ (k:=k) (by rw[HN.out.1];exact hlt)
        obtain⟨b2,off2,t2,l2,mo2,dd2,p2,rfl,hb2,huk,d0,d1,d2,d3,d4⟩:=(HU.out wr HB.out).at_ (k:=k) (by rw[HN.out.2];exact hlt)
        have HE:=Lib.hid hek;have HK:=Lib.hid huk;have HC:=Lib.hid (show∀W,Below wr.heap.size wr W->((W.cell? ⟨b,off+k * 5,none⟩=some (.int .i64 t)/\W.cell? ⟨b,off+k * 5+1,none⟩=some (.int .i64 l))/\W.cell? ⟨b,off+k * 5+2,none⟩=some (.int .i64 mo)/\W.cell? ⟨b,off+k * 5+3,none⟩=some (.int .i64 dd)/\W.cell? ⟨b,off+k * 5+4,none⟩=some (.int .i64 p))/\((W.cell? ⟨b2,off2+k * 5,none⟩=some (.int .i64 t2)/\W.cell? ⟨b2,off2+k * 5+1,none⟩=some (.int .i64 l2))/\W.cell? ⟨b2,off2+k * 5+2,none⟩=some (.int .i64 mo2)/\W.cell? ⟨b2,off2+k * 5+3,none⟩=some (.int .i64 dd2)/\W.cell? ⟨b2,off2+k * 5+4,none⟩=some (.int .i64 p2))from fun W h=>
          ⟨⟨⟨(h.cell (p:=⟨_,_,_⟩) hb).trans c0,(h.cell (p:=⟨_,_,_⟩) hb).trans c1⟩,(h.cell (p:=⟨_,_,_⟩) hb).trans c2,(h.cell (p:=⟨_,_,_⟩) hb).trans c3,(h.cell (p:=⟨_,_,_⟩) hb).trans c4⟩,
            ⟨⟨(h.cell (p:=⟨_,_,_⟩) hb2).trans d0,(h.cell (p:=⟨_,_,_⟩) hb2).trans d1⟩,(h.cell (p:=⟨_,_,_⟩) hb2).trans d2,(h.cell (p:=⟨_,_,_⟩) hb2).trans d3,(h.cell (p:=⟨_,_,_⟩) hb2).trans d4⟩⟩)
        clear hek huk c0 c1 c2 c3 c4 d0 d1 d2 d3 d4;go_wp2_with fail;refine wp_region_b [16,17,18,19,20,21,22,23,24] (by kernel_rfl) (by kernel_rfl) (by kernel_rfl) (by intro d hd;simp at hd⊢;omega) (by simp) (PhiSm (some ⟨b,off,none⟩) n c b off (some ⟨b2,off2,none⟩) n d b2 off2 k ⟨t,l,mo,dd,p⟩ ⟨t2,l2,mo2,dd2,p2⟩) phiSm_keep ?hstep ?hend
        case hstep=>
          intro x o ho a w1 hI hA hd K hK;obtain⟨ρ,hρ⟩: ∃ρ,a.eval=ρ:=⟨_,rfl⟩;rw[hρ]at hA hd;obtain⟨⟨⟨c0,c1⟩,c2,c3,c4⟩,⟨d0,d1⟩,d2,d3,d4⟩:=HC.out w1 hI
          match x,ho,hK with
          | 0, ho, hK =>
            have hoo:=Option.some.inj ho;subst hoo;have h0:=hA.tmp 0 (by decide)
            exact ux_val hK hρ (by decide) (.slice (some ⟨b,off,none⟩) n c) w1 (by simp[execOp,h0,go_sem]) rfl (Below.refl _ _)
          | 1, ho, hK =>
            have hoo:=Option.some.inj ho;subst hoo;have h5:=hA.tmp 5 (by decide)
            exact ux_val hK hρ (by decide) (.int .i64 k) w1 (by simp[execOp,h5,go_sem]) rfl (Below.refl _ _)
          | 2, ho, hK =>
            have hoo:=Option.some.inj ho;subst hoo;have f0:ρ (.tmp 16)= .slice (some ⟨b,off,none⟩) n c:=hd ⟨0, .data⟩ (by simp) (by rfl)
            have f1:ρ (.tmp 17)= .int .i64 k:=hd ⟨1, .data⟩ (by simp) (by rfl)
            exact ux_val hK hρ (by decide) (.pointer (some ⟨b,off+k * 5,none⟩)) w1 (by simp[execOp,f0,f1,hlt,go_sem]) rfl (Below.refl _ _)
          | 3, ho, hK =>
            have hoo:=Option.some.inj ho;subst hoo;have f2:ρ (.tmp 18)= .pointer (some ⟨b,off+k * 5,none⟩):=hd ⟨2, .data⟩ (by simp) (by rfl)
            exact ux_val hK hρ (by decide) (.agg #[.int .i64 t, .int .i64 l, .int .i64 mo, .int .i64 dd, .int .i64 p]) w1 (by simp[execOp,f2,c0,c1,c2,c3,c4,go_sem]) rfl (Below.refl _ _)
          | 4, ho, hK =>
            have hoo:=Option.some.inj ho;subst hoo;have h1:=hA.tmp 1 (by decide)
            exact ux_val hK hρ (by decide) (.slice (some ⟨b2,off2,none⟩) n d) w1 (by simp[execOp,h1,go_sem]) rfl (Below.refl _ _)
          | 5, ho, hK =>
            have hoo:=Option.some.inj ho;subst hoo;have h5:=hA.tmp 5 (by decide)
            exact ux_val hK hρ (by decide) (.int .i64 k) w1 (by simp[execOp,h5,go_sem]) rfl (Below.refl _ _)
          | 6, ho, hK =>
            have hoo:=Option.some.inj ho;subst hoo;have f4:ρ (.tmp 20)= .slice (some ⟨b2,off2,none⟩) n d:=hd ⟨4, .data⟩ (by simp) (by rfl)
            have f5:ρ (.tmp 21)= .int .i64 k:=hd ⟨5, .data⟩ (by simp) (by rfl)
            exact ux_val hK hρ (by decide) (.pointer (some ⟨b2,off2+k * 5,none⟩)) w1 (by simp[execOp,f4,f5,hlt,go_sem]) rfl (Below.refl _ _)
          | 7, ho, hK =>
            have hoo:=Option.some.inj ho;subst hoo;have f6:ρ (.tmp 22)= .pointer (some ⟨b2,off2+k * 5,none⟩):=hd ⟨6, .data⟩ (by simp) (by rfl)
            exact ux_val hK hρ (by decide) (.agg #[.int .i64 t2, .int .i64 l2, .int .i64 mo2, .int .i64 dd2, .int .i64 p2]) w1 (by simp[execOp,f6,d0,d1,d2,d3,d4,go_sem]) rfl (Below.refl _ _)
          | 8, ho, hK =>
            have hoo:=Option.some.inj ho;subst hoo;have f3:ρ (.tmp 19)= .agg #[.int .i64 t, .int .i64 l, .int .i64 mo, .int .i64 dd, .int .i64 p]:=hd ⟨3, .data⟩ (by simp) (by rfl)
            have f7:ρ (.tmp 23)= .agg #[.int .i64 t2, .int .i64 l2, .int .i64 mo2, .int .i64 dd2, .int .i64 p2]:=hd ⟨7, .data⟩ (by simp) (by rfl)
            have hq:=shp_neq ⟨t,l,mo,dd,p⟩ ⟨t2,l2,mo2,dd2,p2⟩;have hg:=fun o1 o2 xs ys W=>shp_guard17 .neq o1 o2 xs ys W
            exact ux_val hK hρ (by decide) (.bool (!decide ((⟨t,l,mo,dd,p⟩:Shp)=⟨t2,l2,mo2,dd2,p2⟩))) w1 (by simp[execOp,f3,f7,hg,hq,go_sem]) rfl (Below.refl _ _)
          |x+9,ho,_=>simp at ho
        case hend=>
          intro vals w1 hI hF;have e8:vals 24= .bool (!decide ((⟨t,l,mo,dd,p⟩:Shp)=⟨t2,l2,mo2,dd2,p2⟩)):=hF 8 (by decide)
          have HB1:=Lib.hid (HB.out.trans (hI.mono HB.out.size));clear hF hI;simp only[fillA,fillL,List.contains_cons,List.contains_nil,Nat.reduceBEq,Bool.or_false,Bool.false_or,Bool.or_true,Bool.true_or,cond_true,cond_false,Nat.zero_add,Nat.reduceAdd,e8];clear e8
          by_cases hsu:(⟨t,l,mo,dd,p⟩:Shp)=⟨t2,l2,mo2,dd2,p2⟩
          · have HSU:=Lib.hid hsu;rw[decide_eq_true hsu];clear hsu;go_wp2;go_roundw
            case rel=>exact⟨k+1,by omega,by go_num,Lib.hid (by rw[take_one HE.out,take_one HK.out,HT.out,HSU.out]),HB1⟩
            case measure=>simp[intOf];omega
          · have HF0:=Lib.hid (show r=false by
              rw[HR.out];refine decide_eq_false fun e=>hsu ?_
              have h1:=HE.out;rw[e,HK.out]at h1;exact(Option.some.inj h1).symm)
            rw[decide_eq_false hsu];clear hsu;go_wp2;refine bodyPost_ret (v:= .bool false) ?_ rfl ⟨by rw[HF0.out],HB1.out⟩
            simp[results,Tryz.results49,go_sem]
      · obtain rfl:k=n:=by omega
        have HF0:=Lib.hid (show r=true by
          rw[HR.out];refine decide_eq_true ?_
          have:=HT.out;rw[List.take_of_length_le (by rw[HN.out.1];exact Nat.le_refl _),List.take_of_length_le (by rw[HN.out.2];exact Nat.le_refl _)]at this
          exact this)
        go_wp2;refine bodyPost_ret (v:= .bool true) ?_ rfl ⟨by rw[HF0.out],HB.out⟩
        simp[results,Tryz.results49,go_sem]
  · have he:((n:Int)==(m:Int))=false:=by simp;omega
    have he2:(n==m)=false:=by simpa using hnm
    have HF0:=Lib.hid (show r=false by
      rw[HR.out];refine decide_eq_false fun e=>hnm ?_
      rw[<-HN.out.1,<-HN.out.2,e])
    go_enter Tryz.func49,Tryz.ntmps49;go_wp2;refine bodyPost_ret (v:= .bool false) ?_ rfl ⟨by rw[HF0.out],Below.refl _ _⟩
    simp[results,Tryz.results49,go_sem]
theorem rsame16_any{A:Option Addr}{n c:Nat}{A2:Option Addr}{m d:Nat}{es us:List Shp}(w:World)(hn:es.length=n)(hm:us.length=m)(hl:n<=100)(hl2:m<=100)(hS:Shps w w.heap.size A es)(hU:Shps w w.heap.size A2 us):
    Calls Tryz.prog 40 #[.slice A n c, .slice A2 m d] w fun e w'=>e= .returned (.bool (decide (es=us)))/\Below w.heap.size w w':=by
  have HS:=Lib.hid (fun W (b:Below w.heap.size w W)=>hS.via b)
  have HU:=Lib.hid (fun W (b:Below w.heap.size w W)=>hU.via b)
  have HN:=Lib.hid (show es.length=n/\us.length=m from⟨hn,hm⟩)
  obtain⟨r,hr⟩: ∃r,r=decide (es=us):=⟨_,rfl⟩;rw[<-hr];have HR:=Lib.hid hr;clear hn hm hS hU hr
  by_cases hnm:n=m
  · subst hnm;go_enter Tryz.func40,Tryz.ntmps40;go_wp2;go_loopw [5] (fun i wr=> ∃k:Nat,k<=n/\i= .int .i64 k/\Hid (es.take k=us.take k)/\Hid (Below w.heap.size w wr)) (fun i _=>n - (intOf i).toNat)
    case atStart=>exact⟨0,Nat.zero_le _,rfl,Lib.hid rfl,Lib.hid (Below.refl _ _)⟩
    case round=>
      obtain⟨k,hk,rfl,HT,HB⟩:=hrel
      by_cases hlt:k<n
      · obtain⟨b,off,t,l,mo,dd,p,rfl,hb,hek,c0,c1,c2,c3,c4⟩:=(HS.out wr HB.out).at_ (k:=k) (by rw[HN.out.1];exact hlt)
        obtain⟨b2,off2,t2,l2,mo2,dd2,p2,rfl,hb2,huk,d0,d1,d2,d3,d4⟩:=(HU.out wr HB.out).at_ (k:=k) (by rw[HN.out.2];exact hlt)
        have HE:=Lib.hid hek;have HK:=Lib.hid huk;have HC:=Lib.hid (show∀W,Below wr.heap.size wr W->((W.cell? ⟨b,off+k * 5,none⟩=some (.int .i64 t)/\W.cell? ⟨b,off+k * 5+1,none⟩=some (.int .i64 l))/\W.cell? ⟨b,off+k * 5+2,none⟩=some (.int .i64 mo)/\W.cell? ⟨b,off+k * 5+3,none⟩=some (.int .i64 dd)/\W.cell? ⟨b,off+k * 5+4,none⟩=some (.int .i64 p))/\((W.cell? ⟨b2,off2+k * 5,none⟩=some (.int .i64 t2)/\W.cell? ⟨b2,off2+k * 5+1,none⟩=some (.int .i64 l2))/\W.cell? ⟨b2,off2+k * 5+2,none⟩=some (.int .i64 mo2)/\W.cell? ⟨b2,off2+k * 5+3,none⟩=some (.int .i64 dd2)/\W.cell? ⟨b2,off2+k * 5+4,none⟩=some (.int .i64 p2))from fun W h=>
          ⟨⟨⟨(h.cell (p:=⟨_,_,_⟩) hb).trans c0,(h.cell (p:=⟨_,_,_⟩) hb).trans c1⟩,(h.cell (p:=⟨_,_,_⟩) hb).trans c2,(h.cell (p:=⟨_,_,_⟩) hb).trans c3,(h.cell (p:=⟨_,_,_⟩) hb).trans c4⟩,
            ⟨⟨(h.cell (p:=⟨_,_,_⟩) hb2).trans d0,(h.cell (p:=⟨_,_,_⟩) hb2).trans d1⟩,(h.cell (p:=⟨_,_,_⟩) hb2).trans d2,(h.cell (p:=⟨_,_,_⟩) hb2).trans d3,(h.cell (p:=⟨_,_,_⟩) hb2).trans d4⟩⟩)
        clear hek huk c0 c1 c2 c3 c4 d0 d1 d2 d3 d4;go_wp2_with fail;refine wp_region_b [17,18,19,20,21,22,23,24,25] (by kernel_rfl) (by kernel_rfl) (by kernel_rfl) (by intro d hd;simp at hd⊢;omega) (by simp) (PhiSm (some ⟨b,off,none⟩) n c b off (some ⟨b2,off2,none⟩) n d b2 off2 k ⟨t,l,mo,dd,p⟩ ⟨t2,l2,mo2,dd2,p2⟩) phiSm_keep ?hstep ?hend
        case hstep=>
          intro x o ho a w1 hI hA hd K hK;obtain⟨ρ,hρ⟩: ∃ρ,a.eval=ρ:=⟨_,rfl⟩;rw[hρ]at hA hd;obtain⟨⟨⟨c0,c1⟩,c2,c3,c4⟩,⟨d0,d1⟩,d2,d3,d4⟩:=HC.out w1 hI
          match x,ho,hK with
          | 0, ho, hK =>
            have hoo:=Option.some.inj ho;subst hoo;have h0:=hA.tmp 0 (by decide)
            exact ux_val hK hρ (by decide) (.slice (some ⟨b,off,none⟩) n c) w1 (by simp[execOp,h0,go_sem]) rfl (Below.refl _ _)
          | 1, ho, hK =>
            have hoo:=Option.some.inj ho;subst hoo;have h5:=hA.tmp 5 (by decide)
            exact ux_val hK hρ (by decide) (.int .i64 k) w1 (by simp[execOp,h5,go_sem]) rfl (Below.refl _ _)
          | 2, ho, hK =>
            have hoo:=Option.some.inj ho;subst hoo;have f0:ρ (.tmp 17)= .slice (some ⟨b,off,none⟩) n c:=hd ⟨0, .data⟩ (by simp) (by rfl)
            have f1:ρ (.tmp 18)= .int .i64 k:=hd ⟨1, .data⟩ (by simp) (by rfl)
            exact ux_val hK hρ (by decide) (.pointer (some ⟨b,off+k * 5,none⟩)) w1 (by simp[execOp,f0,f1,hlt,go_sem]) rfl (Below.refl _ _)
          | 3, ho, hK =>
            have hoo:=Option.some.inj ho;subst hoo;have f2:ρ (.tmp 19)= .pointer (some ⟨b,off+k * 5,none⟩):=hd ⟨2, .data⟩ (by simp) (by rfl)
            exact ux_val hK hρ (by decide) (.agg #[.int .i64 t, .int .i64 l, .int .i64 mo, .int .i64 dd, .int .i64 p]) w1 (by simp[execOp,f2,c0,c1,c2,c3,c4,go_sem]) rfl (Below.refl _ _)
          | 4, ho, hK =>
            have hoo:=Option.some.inj ho;subst hoo;have h1:=hA.tmp 1 (by decide)
            exact ux_val hK hρ (by decide) (.slice (some ⟨b2,off2,none⟩) n d) w1 (by simp[execOp,h1,go_sem]) rfl (Below.refl _ _)
          | 5, ho, hK =>
            have hoo:=Option.some.inj ho;subst hoo;have h5:=hA.tmp 5 (by decide)
            exact ux_val hK hρ (by decide) (.int .i64 k) w1 (by simp[execOp,h5,go_sem]) rfl (Below.refl _ _)
          | 6, ho, hK =>
            have hoo:=Option.some.inj ho;subst hoo;have f4:ρ (.tmp 21)= .slice (some ⟨b2,off2,none⟩) n d:=hd ⟨4, .data⟩ (by simp) (by rfl)
            have f5:ρ (.tmp 22)= .int .i64 k:=hd ⟨5, .data⟩ (by simp) (by rfl)
            exact ux_val hK hρ (by decide) (.pointer (some ⟨b2,off2+k * 5,none⟩)) w1 (by simp[execOp,f4,f5,hlt,go_sem]) rfl (Below.refl _ _)
          | 7, ho, hK =>
            have hoo:=Option.some.inj ho;subst hoo;have f6:ρ (.tmp 23)= .pointer (some ⟨b2,off2+k * 5,none⟩):=hd ⟨6, .data⟩ (by simp) (by rfl)
            exact ux_val hK hρ (by decide) (.agg #[.int .i64 t2, .int .i64 l2, .int .i64 mo2, .int .i64 dd2, .int .i64 p2]) w1 (by simp[execOp,f6,d0,d1,d2,d3,d4,go_sem]) rfl (Below.refl _ _)
          | 8, ho, hK =>
            have hoo:=Option.some.inj ho;subst hoo;have f3:ρ (.tmp 20)= .agg #[.int .i64 t, .int .i64 l, .int .i64 mo, .int .i64 dd, .int .i64 p]:=hd ⟨3, .data⟩ (by simp) (by rfl)
            have f7:ρ (.tmp 24)= .agg #[.int .i64 t2, .int .i64 l2, .int .i64 mo2, .int .i64 dd2, .int .i64 p2]:=hd ⟨7, .data⟩ (by simp) (by rfl)
            have hq:=shp_neq ⟨t,l,mo,dd,p⟩ ⟨t2,l2,mo2,dd2,p2⟩;have hg:=fun o1 o2 xs ys W=>shp_guard17 .neq o1 o2 xs ys W
            exact ux_val hK hρ (by decide) (.bool (!decide ((⟨t,l,mo,dd,p⟩:Shp)=⟨t2,l2,mo2,dd2,p2⟩))) w1 (by simp[execOp,f3,f7,hg,hq,go_sem]) rfl (Below.refl _ _)
          |x+9,ho,_=>simp at ho
        case hend=>
          intro vals w1 hI hF;have e8:vals 25= .bool (!decide ((⟨t,l,mo,dd,p⟩:Shp)=⟨t2,l2,mo2,dd2,p2⟩)):=hF 8 (by decide)
          have HB1:=Lib.hid (HB.out.trans (hI.mono HB.out.size));clear hF hI;simp only[fillA,fillL,List.contains_cons,List.contains_nil,Nat.reduceBEq,Bool.or_false,Bool.false_or,Bool.or_true,Bool.true_or,cond_true,cond_false,Nat.zero_add,Nat.reduceAdd,e8];clear e8
          by_cases hsu:(⟨t,l,mo,dd,p⟩:Shp)=⟨t2,l2,mo2,dd2,p2⟩
          · have HSU:=Lib.hid hsu;rw[decide_eq_true hsu];clear hsu;go_wp2;go_roundw
            case rel=>exact⟨k+1,by omega,by go_num,Lib.hid (by rw[take_one HE.out,take_one HK.out,HT.out,HSU.out]),HB1⟩
            case measure=>simp[intOf];omega
          · have HF0:=Lib.hid (show r=false by
              rw[HR.out];refine decide_eq_false fun e=>hsu ?_
              have h1:=HE.out;rw[e,HK.out]at h1;exact(Option.some.inj h1).symm)
            rw[decide_eq_false hsu];clear hsu;go_wp2;refine bodyPost_ret (v:= .bool false) ?_ rfl ⟨by rw[HF0.out],HB1.out⟩
            simp[results,Tryz.results40,go_sem]
      · obtain rfl:k=n:=by omega
        have HF0:=Lib.hid (show r=true by
          rw[HR.out];refine decide_eq_true ?_
          have:=HT.out;rw[List.take_of_length_le (by rw[HN.out.1];exact Nat.le_refl _),List.take_of_length_le (by rw[HN.out.2];exact Nat.le_refl _)]at this
          exact this)
        go_wp2;refine bodyPost_ret (v:= .bool true) ?_ rfl ⟨by rw[HF0.out],HB.out⟩
        simp[results,Tryz.results40,go_sem]
  · have he:((n:Int)==(m:Int))=false:=by simp;omega
    have he2:(n==m)=false:=by simpa using hnm
    have HF0:=Lib.hid (show r=false by
      rw[HR.out];refine decide_eq_false fun e=>hnm ?_
      rw[<-HN.out.1,<-HN.out.2,e])
    go_enter Tryz.func40,Tryz.ntmps40;go_wp2;refine bodyPost_ret (v:= .bool false) ?_ rfl ⟨by rw[HF0.out],Below.refl _ _⟩
    simp[results,Tryz.results40,go_sem]
end Go.Proofs.YtlfekmbalgkmeaaGreatDoor
