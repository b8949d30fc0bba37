import Derived.Test.YtfahabphncmbfaaGreatDoorZQ20
set_option linter.all false
set_option maxRecDepth 100000
set_option maxHeartbeats 8000000
namespace Go.Proofs.YtfahabphncmbfaaGreatDoor
open Go.RowKit
open Go.Lib renaming hid→Zf
open List renaming count_cons→YP,getD_eq_getElem?_getD→Zi,getElem?_eq_getElem→Zh,getElem?_map→ZO,getElem_mem→Zz,getElem_of_mem→ZA,length_set→ZU,length_take→ZP,mem_filter→YQ,mem_map→YG,mem_range→ZD,range→Zo
open Nat renaming le_refl→Zm,le_trans→ZK,lt_of_lt_of_le→ZE,lt_or_ge→Zv,zero_le→Zu
open Go.Proofs.Tryz renaming prog→Zg
open Go.Proofs.Tryz
theorem ZjV:Zg.underlying 260=some (.array 2 3):=by kernel_rfl
theorem ZnN:Zg.cellsOf 3=1:=by kernel_rfl
theorem ZnO(x y u v:Int)(W:World):(binOp .neq 260 (.agg #[.int .i64 x,.int .i64 y]) (.agg #[.int .i64 u,.int .i64 v])).run Zg W=.ok (.bool (!(x==u&&y==v))) W:=by
 obtain⟨i0,hi,_⟩:=info_parts Zbj;have p1:=fun(a b:Int) (W:World)=>(ZfA a b W).1;have p2:=fun(a b:Int) (W:World)=>(ZfA a b W).2;have e1:=fun a b W=>run_equalIn_int (P:=Zg) W 9998 3 .i64 .i64 a b underlying3;rw[run_neq_struct,run_equalIn_array W 9999 _ _ ZjV hi,ZnN];have hr:Zo 2= [0,1]:=by decide
 rw[hr];simp only[Op.eqItems,Nat.zero_mul,Nat.one_mul];by_cases h1:x=u
 ·subst h1
  by_cases h2:y=v
  ·simp[p1,p2,e1,h2]
  ·simp[p1,p2,e1,h2]
 ·simp[p1,p2,e1,h1]
section
variable {A: Option Addr}{n c: Nat}{F: Option Addr}{m d: Nat}{W: List Int}{E: List (Int × Int)}{N: Option Addr}{nn nc: Nat}{need: List Int}{T: Option Addr}{tn tc: Nat}{t: List (List Int)}{cores: Nat}
structure Mid(w:World)(gw gp gv gn:Nat)(n:Nat)(W:List Int)(E:List (Int×Int))(N:Option Addr)(nn nc:Nat)(need:List Int)(cores:Nat)(t:List (List Int))(i:Nat)(w':World):Prop where
 bel:Below w.heap.size w w'
 waits:Waits gp gw n W E w'
 gplt:gp<=w'.heap.size
 watch:∃ran lt lc,Watch gp gv gn N nn nc need ran lt lc w'/\Track cores t i ran lt lc
 good:Good E need cores (t.take i)
 lw:gw<gp
 lp:w.heap.size<=gp
theorem Mid.below{w:World}{gw gp gv gn i:Nat}{w1 w2:World}(h:Mid w gw gp gv gn n W E N nn nc need cores t i w1)(hb:Below w1.heap.size w1 w2):Mid w gw gp gv gn n W E N nn nc need cores t i w2:=
 ⟨h.bel.trans (hb.mono h.bel.size),h.waits.below (hb.mono h.gplt),ZK h.gplt hb.size,by
  obtain⟨ran,lt,lc,h1,h2⟩:=h.watch;exact⟨ran,lt,lc,h1.below hb,h2⟩,h.good,h.lw,h.lp⟩
theorem ZnP(w:World)(h:IsG w A n c F m d W E)(hS:IsS w N nn nc T tn tc need t)(hM:May W E)(hF:Zb2 W need cores)(hR:∀r∈t,r.length=cores):
  Calls Zg 199 #[.agg #[.slice A n c,.slice F m d],.slice N nn nc,.slice T tn tc] w fun e w'=>e=.returned (.int .i64 (ZdT E need cores t))/\Below w.heap.size w w':=by
 have H:=Zf h;have HS:=Zf hS;have HM:=Zf hM;have HF:=Zf hF;have HR:=Zf hR;have C1:=Zf (fun W' (h:IsG W' A n c F m d W E)=>Zj1 W' h);have C2:=Zf (fun W' (h:IsS W' N nn nc T tn tc need t)=>ZnY N nn nc need W' h.hn h.ints);obtain⟨w0,hw0⟩:∃w0,w0=w.alloc (.cells #[.slice A n c,.slice F m d] 25):=⟨_,rfl⟩;have HW0:=Zf hw0;have HB0:Hid (Below w.heap.size w w0):=Zf (by rw[hw0];exact Zaa _);obtain⟨r,hr⟩:∃r,r=ZdT E need cores t:=⟨_,rfl⟩;rw[<-hr];have HRR:=Zf hr;clear h hS hM hF hR hw0 hr;go_enter func199,ntmps199;go_wp2
 go_step3
 go_wp2_with fail;refine(C1.out _ (H.out.below (Zaa _))).mono ?_;rintro e w1 ⟨gw,rfl,hw,hb,hgw⟩;have HB1:Hid (Below w.heap.size w w1):=Zf (HB0.out.trans (by rw[HW0.out];exact hb.mono (by simp)));have HWT:=Zf hw;have HGW:Hid (w.heap.size<=gw):=Zf (by simp at hgw;omega);clear hw hb hgw HB0 C1;go_wp2_with fail;refine(C2.out _ (HS.out.below HB1.out)).mono ?_;rintro e w2 ⟨gp,gv,gn,rfl,hw,hb,hgn,hgv,hgp⟩;have HMID:Hid (Mid w gw gp gv gn n W E N nn nc need cores t 0 w2):=Zf ⟨HB1.out.trans (hb.mono HB1.out.size),(HWT.out.below hb).more hgp,Nat.le_of_lt hw.past.lt_,⟨_,_,_,hw,Track.start cores t _ _⟩,⟨fun r hr=>by simp at hr,fun i hi=>by simp at hi⟩,ZE HWT.out.lt hgp,ZK HB1.out.size hgp⟩;clear hw hb hgn hgv hgp HWT HGW HB1 C2;go_wp2
 go_step3
 go_wp2;go_loopw [8,24] (fun ev v wr=>∃i:Nat,i<=tn/\v=.int .i64 i/\ev=.int .i64 0/\Hid (Mid w gw gp gv gn n W E N nn nc need cores t i wr)) (fun _ v _=>tn - (intOf v).toNat)
 case atStart=>exact⟨0,Zu _,rfl,rfl,HMID⟩
 case round=>
  obtain⟨i,hi,rfl,rfl,HK⟩:=hrel;clear HMID;by_cases hlt:i<tn
  ·obtain ⟨bt,ot,row,A1,n1,c1,rfl,hbt,hrow,hn1,hcell,hints,hnil⟩:=HS.out.rows.at_ (k:=i) (by rw [HS.out.ht]; exact hlt)
   obtain rfl:n1=cores:=hn1.symm.trans (HR.out row (List.mem_of_getElem? hrow));have hd:wr.cell? ⟨bt,ot+i,none⟩=some (.slice A1 n1 c1):=(HK.out.bel.cell hbt).trans hcell;have HI1:=Zf hints;have HROW:=Zf hrow;have HN1:=Zf hn1;have hbt2:bt<wr.heap.size:=ZE hbt HK.out.bel.size;have hn8:n1<=8:=by have:=HF.out.2.2.2;omega
   have htn:tn<=400:=HS.out.lt;have HCAP:=Zf hnil.2;clear hcell hints hrow hn1 hnil;go_wp2;go_loopw [8,31] (fun ev v wi=>∃k:Nat,k<=n1/\v=.int .i64 k/\ev=.int .i64 0/\Hid (Mid w gw gp gv gn n W E N nn nc need n1 t i wi)/\Hid (Za7 (oneV E need t i) k=0)) (fun _ v _=>n1 - (intOf v).toNat)
   case atStart=>exact⟨0,Zu _,rfl,rfl,HK,Zf rfl⟩
   case round=>
    obtain⟨k,hk,rfl,rfl,HK2,HFI⟩:=hrel;by_cases hlt2:k<n1
    ·obtain ⟨bk,off,x,rfl,hbk,hxk,hcx⟩:=HI1.out.at_ (k:=k) (by rw [HN1.out]; exact hlt2)
     have hdx:wr.cell? ⟨bk,off+k,none⟩=some (.int .i64 x):=(HK2.out.bel.cell hbk).trans hcx;have hbk2:bk<wr.heap.size:=ZE hbk HK2.out.bel.size;have HNUM:=Zf (Zrr HROW.out hxk);have HRT:=Zf (Zdp HROW.out);clear hcx hxk;by_cases hx1:x= -1
     ·subst hx1
      have HO:=Zf (ZpR (E:=E) (need:=need) HNUM.out);go_wp2;go_roundw
      case rel=>exact⟨k+1,by omega,by go_num,rfl,HK2,Zf (ZcX HFI.out HO.out)⟩
      case measure=>simp[intOf];omega
     ·have hne: (x == -1) = false:=by simpa using hx1
      have HX1:=Zf hx1;clear hx1;by_cases hx2:x< -1
      ·obtain rfl: r = 101:=HRR.out.trans (ZcL HK2.out.good (by rw [HS.out.ht]; exact hlt) hlt2 HFI.out (Zle (by rw [HNUM.out]; exact HX1.out) (.inl (by rw [HNUM.out]; omega))) (by decide))
       go_wp2;try rw[Exit.noGoto_ret]
       go_ret;exact⟨rfl,HK2.out.bel⟩
      ·have h0: 0 <= x:=by have:=HX1.out; omega
       have hx2':decide (x< -1)=false:=Zd hx2;clear hx2;by_cases hx3:(nn:Int)<=x
       ·obtain rfl: r = 101:=HRR.out.trans (ZcL HK2.out.good (by rw [HS.out.ht]; exact hlt) hlt2 HFI.out (Zle (by rw [HNUM.out]; exact HX1.out) (.inr (by rw [HNUM.out,HS.out.hn]; exact hx3))) (by decide))
        go_wp2;try rw[Exit.noGoto_ret]
        go_ret;exact⟨rfl,HK2.out.bel⟩
       ·have hx3': decide ((nn: Int) <= x) = false:=Zd hx3
        have hq0:x<nn:=by omega
        clear hx3;have hnn:nn<=64:=by have h1:=HF.out.1;have h2:=HM.out.nodes;have h3:=HS.out.hn;omega
        have HNO:=Zf (show¬(numT t i k<0\/(need.length:Int)<=numT t i k) by rw[HNUM.out,HS.out.hn];omega);have HNE:=Zf (show numT t i k≠ -1 by rw[HNUM.out];exact HX1.out);have C3:=Zf (Za2 (some ⟨bk,off,none⟩) c1 k (row.take k) x w.heap.size wr (by rw[ZP,HN1.out];omega) (by omega) ((HI1.out.below HK2.out.bel).take k));have hcap:=HCAP.out;by_cases hx4:x∈row.take k
        ·obtain rfl: r = 102:=HRR.out.trans (ZcL HK2.out.good (by rw [HS.out.ht]; exact hlt) hlt2 HFI.out (ZnU HNE.out HNO.out (by rw [HNUM.out,HRT.out]; exact hx4)) (by decide))
         rw[Ze hx4]at C3;clear hx4;go_wp2_with fail;refine C3.out.mono ?_;rintro e w3 ⟨rfl,rfl⟩;go_wp2;try rw[Exit.noGoto_ret];go_ret;exact⟨rfl,HK2.out.bel⟩
        ·rw [Zd hx4] at C3
         have HX4:=Zf (show numT t i k∉(rowT t i).take k by rw[HNUM.out,HRT.out];exact hx4);clear hx4;obtain⟨ran,lt,lc,hw,htr⟩:=HK2.out.watch;have HW:=Zf hw;have HTR:=Zf htr;have hov:=htr.over HK2.out.good (fun z hz=>(HF.out.2.1 z hz).1) h0 (show x<need.length by rw[HS.out.hn];exact hq0);have hdone:=ZiR x wr hw h0 (by rw[HS.out.hn];exact hq0) hnn;rw[hov]at hdone;clear hw htr hov;by_cases hx5:ZaJ need x<=ranT t x i
         ·obtain rfl: r = 105:=HRR.out.trans (ZcL HK2.out.good (by rw [HS.out.ht]; exact hlt) hlt2 HFI.out (ZpS HNE.out HNO.out HX4.out (by rw [HNUM.out]; exact hx5)) (by decide))
          rw[Ze hx5]at hdone;have C4:=Zf hdone;clear hx5 hdone;go_wp2_with fail;refine C3.out.mono ?_;rintro e w3 ⟨rfl,rfl⟩;go_wp2_with(go_at_call 253;refine C4.out.mono ?_;rintro e w4 ⟨rfl,b⟩;have HK4:=Zf (HK2.out.below b);clear b)
          try rw[Exit.noGoto_ret]
          go_ret;exact⟨rfl,HK4.out.bel⟩
         ·rw [Zd hx5] at hdone
          have C4:=Zf hdone;have HX5:=Zf (show¬ZaJ need (numT t i k)<=ranT t (numT t i k) i by rw[HNUM.out];exact hx5);clear hx5 hdone;obtain⟨q,rfl⟩:∃q:Nat,x=(q:Int):=⟨x.toNat,by omega⟩;have hq64:q<64:=by omega
          go_wp2_with fail;refine C3.out.mono ?_;rintro e w3 ⟨rfl,rfl⟩;go_wp2_with fail;refine C4.out.mono ?_;rintro e w4 ⟨rfl,b⟩;have HK4:=Zf (HK2.out.below b);have HW4:=Zf (HW.out.below b);obtain⟨d1,d2,d3⟩:=(HW.out.below b).past.cells hq64;have hgp4:=(HW.out.below b).past.lt_;clear b hdx;obtain⟨v1,hv1⟩:∃v,v=ran q:=⟨_,rfl⟩;obtain⟨v2,hv2⟩:∃v,v=lt q:=⟨_,rfl⟩;obtain⟨v3,hv3⟩:∃v,v=lc q:=⟨_,rfl⟩;rw[<-hv1]at d1;rw[<-hv2]at d2;rw[<-hv3]at d3;have HV1:=Zf (hv1.trans (HTR.out.ran q));have HSP:=Zf (fun h=>HTR.out.split HK2.out.good (by rw[HS.out.ht];exact hi) (n:=q) hlt2 h);rw[<-hv2,<-hv3]at HSP;have hb1:0<=v1:=by have:=HV1.out;omega
          have hpn:=ZnO v2 v3 ((i:Int) - 1) (k:Int);clear hv1 hv2 hv3;by_cases hp:0<v1
          ·by_cases hs: v2 = (i: Int) - 1 /\ v3 = (k: Int)
           ·have HO:=Zf (Zlf (E:=E) HNE.out HNO.out HX4.out (by have:=HX5.out; omega) (by
             rw[HNUM.out];rintro⟨h1,h2⟩;exact h2 ((HSP.out h1).mp hs)) (by
             rw[HNUM.out];rintro⟨h1,_⟩;have:=HV1.out;omega))
            have hpb:(!(v2==(i:Int) - 1&&v3==(k:Int)))=false:=by simp[hs.1,hs.2]
            rw[hpb]at hpn;have hz:(v1==0)=false:=by simp;omega
            clear hs hpb;go_wp2;go_roundw
            case rel=>exact⟨k+1,by omega,by go_num,rfl,HK4,Zf (ZcX HFI.out HO.out)⟩
            case measure=>simp[intOf];omega
           ·obtain rfl: r = 104:=HRR.out.trans (ZcL HK2.out.good (by rw [HS.out.ht]; exact hlt) hlt2 HFI.out (ZnV HNE.out HNO.out HX4.out (by have:=HX5.out; omega) (by
             rw[HNUM.out];have h1:0<ranT t (q:Int) i:=by have:=HV1.out;omega
             exact⟨h1,fun h2=>hs ((HSP.out h1).mpr h2)⟩)) (by decide))
            have hpb:(!(v2==(i:Int) - 1&&v3==(k:Int)))=true:=by
             simp only[Bool.not_eq_true',Bool.and_eq_false_iff,beq_eq_false_iff_ne];by_cases h1:v2=(i:Int) - 1
             ·exact .inr fun h2=>hs ⟨h1,h2⟩
             ·exact .inl h1
            rw[hpb]at hpn;clear hs hpb;go_wp2;try rw[Exit.noGoto_ret];go_ret;exact⟨rfl,HK4.out.bel⟩
          ·obtain rfl: v1 = 0:=by omega
           have HR0:=Zf (show ranT t (q:Int) i=0 by have:=HV1.out;omega);have hqn:q<n:=by have h1:=HF.out.1;have h3:=HS.out.hn;have h4:=H.out.hn;omega
           obtain⟨A2,c2,e1,e2⟩:=HK4.out.waits.at_ q hqn;have hfr:=HTR.out.free HK2.out.good (fun z hz=>(HF.out.2.1 z hz).1) HM.out HF.out.1.symm (q:Int);have hpl:(Zbr W E (q:Int)).length<=n:=by unfold Zbr;rw[Zc HM.out,H.out.hn];exact ZhE _ _ _
           have hpx:∀y∈Zbr W E (q:Int),0<=y/\y<need.length:=by intro y hy;unfold Zbr at hy;rw[Zc HM.out]at hy;unfold Zc4 at hy;rw[YQ,YG]at hy;obtain⟨⟨z,hz,rfl⟩,_⟩:=hy;have:=HF.out.1;simp at hz⊢;omega
           have hall:=Zrm A2 c2 _ _ w4 rfl (by have:=H.out.ln;omega) (e2.more HK4.out.gplt) hpx hnn HW4.out;rw[hfr]at hall;obtain⟨l2,hl2⟩:∃l,l=(Zbr W E (q:Int)).length:=⟨_,rfl⟩;rw[<-hl2]at hall e1;have hgw:gw<w4.heap.size:=ZE HK4.out.waits.lt HK4.out.gplt;clear e2 hfr hpl hpx hl2 hpn hb1;by_cases hf:Zdr E need t (q:Int) i
           ·have HO:=Zf (Zlf (E:=E) HNE.out HNO.out HX4.out (by have:=HX5.out; omega) (by
             rw[HNUM.out];rintro⟨h1,_⟩;have:=HR0.out;omega) (by
             rw[HNUM.out];rintro⟨_,h1⟩;exact h1 hf))
            rw[Ze hf]at hall;have C6:=Zf hall;clear hf hall;go_wp2_with(go_at_call 232;refine C6.out.mono ?_;rintro e w6 ⟨rfl,b⟩;have HK6:=Zf (HK4.out.below b);clear b);go_roundw
            case rel=>exact⟨k+1,by omega,by go_num,rfl,HK6,Zf (ZcX HFI.out HO.out)⟩
            case measure=>simp[intOf];omega
           ·obtain rfl: r = 103:=HRR.out.trans (ZcL HK2.out.good (by rw [HS.out.ht]; exact hlt) hlt2 HFI.out (ZpT HNE.out HNO.out HX4.out (by have:=HX5.out; omega) (by
             rw[HNUM.out];rintro⟨h1,_⟩;have:=HR0.out;omega) (by rw[HNUM.out];exact⟨HR0.out,hf⟩)) (by decide))
            rw[Zd hf]at hall;have C6:=Zf hall;clear hf hall;go_wp2_with(go_at_call 232;refine C6.out.mono ?_;rintro e w6 ⟨rfl,b⟩;have HK6:=Zf (HK4.out.below b);clear b)
            try rw[Exit.noGoto_ret]
            go_ret;exact⟨rfl,HK6.out.bel⟩
    ·obtain rfl: k = n1:=by omega
     obtain⟨ran,lt,lc,hw,htr⟩:=HK2.out.watch;have hG:=HK2.out.good.snoc HR.out HFI.out;have hti:i<t.length:=by rw[HS.out.ht];exact hlt
     have CA:=Zf (Zrn (i:Int) A1 k c1 row wr HN1.out (by omega) ((HI1.out.below HK2.out.bel).more HK2.out.lp) (fun x hx=>by have h1:=hG.mem (i:=i) (by rw[ZP];omega) (x:=x) (by rw[Zcn t (i+1) i (by omega),Zdp HROW.out];exact hx);have h2:=HF.out.1;have h3:=HM.out.nodes;omega) (fun j=>htr.bound HR.out (by omega) (by rw[HS.out.ht];exact htn) (by omega) j) hw.past)
     have HNX:=Zf (htr.next hti HROW.out HN1.out);have HG:=Zf hG;have HW:=Zf hw;clear hw htr hG hti;go_wp2_with(go_at_call 233;refine CA.out.mono ?_;rintro e w5 ⟨rfl,hp,b⟩;have HP5:=Zf hp;have HB5:=Zf b;clear hp b);go_roundw
     case rel=>exact⟨i+1,by omega,by go_num,rfl,Zf ⟨HK2.out.bel.trans (HB5.out.mono HK2.out.lp),HK2.out.waits.below HB5.out,Nat.le_of_lt HP5.out.lt_,⟨_,_,_,HW.out.turned HB5.out HP5.out,HNX.out⟩,HG.out,HK2.out.lw,HK2.out.lp⟩⟩
     case measure=>simp[intOf];omega
  ·obtain rfl: i = tn:=by omega
   have hrv:r=0:=by rw[HRR.out];exact Zma (by rw[HS.out.ht];exact HK.out.good)
   subst hrv;go_wp2;try rw[Exit.noGoto_ret];go_ret;exact⟨rfl,HK.out.bel⟩
end
open Classical in
noncomputable def ZdS (W:List Int) (E:List (Int×Int)) (need:List Int) (cores:Int) (t:List (List Int)):Int:=
 if chkE W E≠0 then chkE W E else if¬(Zb2 W need cores/\∀r∈t,(r.length:Int)=cores)then 100 else ZdT E need cores.toNat t
theorem Zl8{W:List Int}{E:List (Int×Int)}{need:List Int}{cores:Int}{t:List (List Int)}(h:chkE W E≠0):ZdS W E need cores t=chkE W E:=by unfold ZdS;rw[Zc h]
theorem Zf8{W:List Int}{E:List (Int×Int)}{need:List Int}{cores:Int}{t:List (List Int)}(h:chkE W E=0)(h2:¬(Zb2 W need cores/\∀r∈t,(r.length:Int)=cores)):ZdS W E need cores t=100:=by unfold ZdS;rw[Zb (fun q=>q h),Zc h2]
theorem ZiP{W:List Int}{E:List (Int×Int)}{need:List Int}{cores:Int}{t:List (List Int)}(h:chkE W E=0)(h2:Zb2 W need cores/\∀r∈t,(r.length:Int)=cores):ZdS W E need cores t=ZdT E need cores.toNat t:=by unfold ZdS;rw[Zb (fun q=>q h),Zb (fun q=>q h2)]
section
variable {A: Option Addr}{n c: Nat}{F: Option Addr}{m d: Nat}{W: List Int}{E: List (Int × Int)}{N: Option Addr}{nn nc: Nat}{need: List Int}{T: Option Addr}{tn tc: Nat}{t: List (List Int)}
theorem Zl9(cores:Int)(w:World)(h:IsG w A n c F m d W E)(hS:IsS w N nn nc T tn tc need t):
  Calls Zg 141 #[.agg #[.slice A n c,.slice F m d],.slice N nn nc,.int .i64 cores,.slice T tn tc] w fun e w'=>e=.returned (.int .i64 (ZdS W E need cores t))/\Below w.heap.size w w':=by
 have H:=Zf h;have HS:=Zf hS;obtain⟨w0,hw0⟩:∃w0,w0=w.alloc (.cells #[.slice A n c,.slice F m d] 25):=⟨_,rfl⟩;have HW0:=Zf hw0;have hb0:Below w.heap.size w w0:=by rw[hw0];exact Zaa _
 have hs0:w.heap.size<w0.heap.size:=by rw[hw0];simp
 have p0:w0.cell? ⟨w.heap.size,0,none⟩=some (.slice A n c):=by rw[hw0,World.cell?_alloc_at _ _ _ _ rfl];rfl
 have p1:w0.cell? ⟨w.heap.size,1,none⟩=some (.slice F m d):=by rw[hw0,World.cell?_alloc_at _ _ _ _ rfl];rfl
 have HB0:=Zf hb0;have HS0:=Zf hs0;have P0:=Zf p0;have P1:=Zf p1;have C1:=Zf (ZdC w0 (h.below hb0));obtain⟨e1,he1⟩:∃e,e=chkE W E:=⟨_,rfl⟩;rw[<-he1]at C1;have HE1:=Zf he1;obtain⟨r,hr⟩:∃r,r=ZdS W E need cores t:=⟨_,rfl⟩;rw[<-hr];have HR:=Zf hr;have CN:=Zf (fun(W':World) (hS:IsS W' N nn nc T tn tc need t)=>ZgK (A:=A) (n:=n) (c:=c) (F:=F) (m:=m) (d:=d) (W:=W) (nc:=nc) cores W' hS.hn (by have:=hS.ln;omega) h.hn hS.ints);have CR:=Zf (fun(W':World) (hS:IsS W' N nn nc T tn tc need t)=>ZhS (tc:=tc) cores W' hS.ht (by have:=hS.lt;omega) hS.rows);clear h hS hw0 hb0 hs0 p0 p1 he1 hr;by_cases hz:e1=0
 ·subst hz
  have HZ:=Zf HE1.out.symm;by_cases h1:Zb2 W need cores
  ·rw [Ze h1] at CN
   by_cases h2:∀r∈t,(r.length:Int)=cores
   ·rw [Ze h2] at CR
    obtain⟨k,rfl⟩:∃k:Nat,cores=(k:Int):=⟨cores.toNat,by have:=h1.2.2;omega⟩;have hrv:r=ZdT E need k t:=by rw[HR.out,ZiP HZ.out ⟨h1,h2⟩,Int.toNat_natCast]
    have CF:=Zf (fun(W':World) (h:IsG W' A n c F m d W E) (hS:IsS W' N nn nc T tn tc need t)=>ZnP W' h hS (chkE_zero.mp HZ.out) h1 (fun r hr=>by have:=h2 r hr;omega));rw[<-hrv]at CF;clear h1 h2 hrv;go_enter func141,ntmps141;go_wp2_with fail;rw[<-HW0.out];refine C1.out.mono ?_;rintro e w1 ⟨rfl,b⟩;have HB1:=Zf (HB0.out.trans (b.mono HB0.out.size));have q0:=(b.cell HS0.out).trans P0.out;have q1:=(b.cell HS0.out).trans P1.out;have HQ0:=Zf q0;have HQ1:=Zf q1;have HS1:=Zf (ZE HS0.out b.size);clear b;go_wp2_with fail;refine(CN.out _ (HS.out.below HB1.out)).mono ?_;rintro e w2 ⟨rfl,b⟩;have HB2:=Zf (HB1.out.trans (b.mono HB1.out.size));have q0:=(b.cell HS1.out).trans HQ0.out;have q1:=(b.cell HS1.out).trans HQ1.out;have HS2:=Zf (ZE HS1.out b.size);have HQ0:=Zf q0;have HQ1:=Zf q1;clear b;go_wp2_with fail;refine(CR.out _ (HS.out.below HB2.out)).mono ?_;rintro e w3 ⟨rfl,b⟩;have HB3:=Zf (HB2.out.trans (b.mono HB2.out.size));have q0:=(b.cell HS2.out).trans HQ0.out;have q1:=(b.cell HS2.out).trans HQ1.out;clear b;go_wp2_with fail;refine(CF.out _ (H.out.below HB3.out) (HS.out.below HB3.out)).mono ?_;rintro e w4 ⟨rfl,b⟩;have HB4:=Zf (HB3.out.trans (b.mono HB3.out.size));clear b;go_wp2;go_ret;exact⟨rfl,HB4.out⟩
   ·rw [Zd h2] at CR
    obtain rfl:r=100:=HR.out.trans (Zf8 HZ.out fun q=>h2 q.2);clear h1 h2;go_enter func141,ntmps141;go_wp2_with fail;rw[<-HW0.out];refine C1.out.mono ?_;rintro e w1 ⟨rfl,b⟩;have HB1:=Zf (HB0.out.trans (b.mono HB0.out.size));have q0:=(b.cell HS0.out).trans P0.out;have q1:=(b.cell HS0.out).trans P1.out;clear b;go_wp2_with fail;refine(CN.out _ (HS.out.below HB1.out)).mono ?_;rintro e w2 ⟨rfl,b⟩;have HB2:=Zf (HB1.out.trans (b.mono HB1.out.size));clear b q0 q1;go_wp2_with fail;refine(CR.out _ (HS.out.below HB2.out)).mono ?_;rintro e w3 ⟨rfl,b⟩;have HB3:=Zf (HB2.out.trans (b.mono HB2.out.size));clear b;go_wp2;go_ret;exact⟨rfl,HB3.out⟩
  ·rw [Zd h1] at CN
   obtain rfl:r=100:=HR.out.trans (Zf8 HZ.out fun q=>h1 q.1);clear h1;go_enter func141,ntmps141;go_wp2_with fail;rw[<-HW0.out];refine C1.out.mono ?_;rintro e w1 ⟨rfl,b⟩;have HB1:=Zf (HB0.out.trans (b.mono HB0.out.size));have q0:=(b.cell HS0.out).trans P0.out;have q1:=(b.cell HS0.out).trans P1.out;clear b;go_wp2_with fail;refine(CN.out _ (HS.out.below HB1.out)).mono ?_;rintro e w2 ⟨rfl,b⟩;have HB2:=Zf (HB1.out.trans (b.mono HB1.out.size));clear b q0 q1;go_wp2;go_ret;exact⟨rfl,HB2.out⟩
 ·have hne: (e1 == 0) = false:=by simpa using hz
  obtain rfl:r=e1:=by rw[HR.out,HE1.out];exact Zl8 (by rw[<-HE1.out];exact hz)
  clear hz;go_enter func141,ntmps141;go_wp2_with fail;rw[<-HW0.out];refine C1.out.mono ?_;rintro e w1 ⟨rfl,b⟩;have HB1:=Zf (HB0.out.trans (b.mono HB0.out.size));clear b;go_wp2;go_ret;exact⟨rfl,HB1.out⟩
end
def Zaj(L:List Int)(x:Int):Int:=L.getD x.toNat 0
theorem Za6(L:List Int)(x:Nat):Zaj L (x:Int)=L.getD x 0:=by unfold Zaj;rw[Int.toNat_natCast]
theorem Zck{L:List Int}{x:Nat}(h:x<L.length):Zaj L (x:Int)∈L:=by rw[Za6,Zi,Zh h];exact Zz h
def OverC(E:List (Int×Int))(L:List Int)(x:Int):Prop:=∀ e∈E,e.2=x->¬0<Zaj L e.1
instance (E:List (Int×Int)) (L:List Int) (x:Int):Decidable (OverC E L x):=by unfold OverC;infer_instance
structure CrewOk(n:Nat)(E:List (Int×Int))(O L:List Int):Prop where
 lo:1<=O.length
 hi:O.length<=8
 ln:L.length=n
 left:∀z∈L,0<=z/\z<=1000
 done:∀x:Nat,x<n->Zaj L (x:Int)=0->OverC E L (x:Int)
 on:∀x∈O,x= -1\/((0<=x/\x<n)/\Zaj L x≠0/\OverC E L x)
 once:∀x,x≠ -1->O.count x<=1
def ZaD(E:List (Int×Int))(O L:List Int)(x:Nat):Prop:=0<Zaj L (x:Int)/\(x:Int)∉O/\OverC E L (x:Int)
instance (E:List (Int×Int)) (O L:List Int) (x:Nat):Decidable (ZaD E O L x):=by unfold ZaD;infer_instance
def Zaw(n:Nat)(E:List (Int×Int))(O L:List Int):List Nat:=(Zo n).filter fun x=>decide (ZaD E O L x)
theorem mem_readyU{n:Nat}{E:List (Int×Int)}{O L:List Int}{x:Nat}:x∈Zaw n E O L↔x<n/\ZaD E O L x:=by unfold Zaw;rw[YQ,ZD,decide_eq_true_iff]
def fillOne(n:Nat)(E:List (Int×Int))(L O:List Int)(i:Nat):List Int:=
 if O.getD i 0= -1 then match Zaw n E O L with
  | []=>O
  |x::_=>O.set i (x:Int)
 else O
def fillK(n:Nat)(E:List (Int×Int))(L O:List Int):Nat->List Int
 |0=>O
 |k+1=>fillOne n E L (fillK n E L O k) k
def ZcJ(n:Nat)(E:List (Int×Int))(L O:List Int):List Int:=fillK n E L O O.length
def ZaC(O L:List Int):List Int:=(Zo L.length).map fun(x:Nat)=>Zaj L (x:Int) - if(x:Int)∈O then 1 else 0
def onT(O L:List Int):List Int:=O.map fun x=>if x≠ -1/\Zaj L x=1 then -1 else x
def Zb6(O L:List Int):List Nat:=(Zo L.length).filter fun x=>decide ((x:Int)∈O/\Zaj L (x:Int)=1)
section
variable {n: Nat}{E: List (Int × Int)}{O L: List Int}
theorem CrewOk.pos(h:CrewOk n E O L){x:Int}(h0:0<=x)(hx:x<n):0<=Zaj L x/\Zaj L x<=1000:=by obtain⟨m,rfl⟩:∃m:Nat,x=m:=⟨x.toNat,by omega⟩;exact h.left _ (Zck (by rw[h.ln];omega))
theorem ZbI{i x:Nat}{y:Int}(h:y∈O.set i (x:Int)):y∈O\/y=x:=List.mem_or_eq_of_mem_set h
theorem Zb7(n:Nat)(E:List (Int×Int))(L O:List Int)(i:Nat):fillOne n E L O i=O\/ ∃x r,O.getD i 0= -1/\Zaw n E O L=x::r/\fillOne n E L O i=O.set i (x:Int):=by
 unfold fillOne;split
 ·next h =>
  split
  ·exact .inl rfl
  ·next x r hr=>exact .inr ⟨x,r,h,hr,rfl⟩
 ·exact .inl rfl
theorem ZjW(n:Nat)(E:List (Int×Int))(L O:List Int)(i:Nat):(fillOne n E L O i).length=O.length:=by
 rcases Zb7 n E L O i with h|⟨x,r,_,_,h⟩<;>rw[h]
 exact ZU
theorem Zdo(n:Nat)(E:List (Int×Int))(L O:List Int):∀k,(fillK n E L O k).length=O.length
 |0=>rfl
 |k+1=>by show(fillOne n E L (fillK n E L O k) k).length=_;rw[ZjW,Zdo n E L O k]
theorem Zb8{l:List Int}{i:Nat}(h:i<l.length)(z d:Int):(l.set i z).getD i d=z:=by rw[Zi,List.getElem?_set_self h];rfl
theorem Zcl{l:List Int}{i j:Nat}(h:i≠j)(z d:Int):(l.set i z).getD j d=l.getD j d:=by rw[Zi,List.getElem?_set_ne h,<-Zi]
theorem ZiQ{i j:Nat}(h:O.getD j 0≠ -1):(fillOne n E L O i).getD j 0=O.getD j 0:=by
 rcases Zb7 n E L O i with e|⟨x,r,h0,_,e⟩<;>rw[e]
 exact Zcl (fun e=>h (by rw[<-e];exact h0)) _ _
theorem ZeS{j:Nat}(h:O.getD j 0≠ -1):∀k,(fillK n E L O k).getD j 0=O.getD j 0
  |0=>rfl
  | k + 1 => by
    have ih:=ZeS h k;show(fillOne n E L (fillK n E L O k) k).getD j 0=_;rw[ZiQ (by rw[ih];exact h),ih]
theorem ZjX{x:Nat}{r:List Nat}(h:Zaw n E O L=x::r):x<n/\ZaD E O L x:=mem_readyU.mp (by rw[h];exact List.mem_cons_self)
theorem CrewOk.fillOne(h:CrewOk n E O L){i:Nat}(hi:i<O.length):CrewOk n E (fillOne n E L O i) L:=by
 rcases Zb7 n E L O i with e|⟨x,r,h0,hr,e⟩<;>rw[e]
 ·exact h
 ·obtain ⟨hx,r1,r2,r3⟩:=ZjX hr
  refine⟨by rw[ZU];exact h.lo,by rw[ZU];exact h.hi,h.ln,h.left,h.done,fun y hy=> ?_,fun y hy=> ?_⟩
  ·rcases ZbI hy with hy | rfl
   ·exact h.on y hy
   ·exact .inr ⟨⟨by omega,by omega⟩,by omega,r3⟩
  ·rw [List.count_set hi]
   have h1:=h.once y hy;by_cases hxy:(x:Int)=y
   ·have h2: O.count y = 0:=List.count_eq_zero.mpr (by rw [<- hxy]; exact r2)
    rw[h2];split<;>split<;>omega
   ·have h3: ((x: Int) == y) = false:=by simpa using hxy
    rw[h3];simp only[Bool.false_eq_true,if_false];omega
theorem CrewOk.fillK(h:CrewOk n E O L):∀k,k<=O.length->CrewOk n E (fillK n E L O k) L
 |0,_=>h
 |k+1,hk=>(CrewOk.fillK h k (by omega)).fillOne (by rw[Zdo];omega)
theorem CrewOk.fill(h:CrewOk n E O L):CrewOk n E (ZcJ n E L O) L:=h.fillK _ (Zm _)
theorem Zf9(n:Nat)(E:List (Int×Int))(L O:List Int):(ZcJ n E L O).length=O.length:=Zdo n E L O _
theorem ZpN{k:Nat}{x:Int}(hx:x≠ -1)(h:x∈O):x∈fillK n E L O k:=by
 obtain⟨j,hj,he⟩:=ZA h;have h3:O.getD j 0=x:=by rw[Zi,Zh hj];exact he
 have h4:=ZeS (n:=n) (E:=E) (L:=L) (O:=O) (j:=j) (by rw[h3];exact hx) k;have h5:j<(fillK n E L O k).length:=by rw[Zdo];exact hj
 rw[Zi,Zh h5]at h4;have h6:(fillK n E L O k)[j]=x:=by rw[<-h3];exact h4
 rw[<-h6];exact Zz h5
theorem Zhe:∀k,k<=O.length->Zaw n E (fillK n E L O k) L= []\/ ∀j,j<k->(fillK n E L O k).getD j 0≠ -1
  |0,_=> .inr fun j hj=>absurd hj (by omega)
  | k + 1, hk => by
    have hl:k<(fillK n E L O k).length:=by rw[Zdo];omega
    show Zaw n E (fillOne n E L (fillK n E L O k) k) L= []\/ ∀j,j<k+1->(fillOne n E L (fillK n E L O k) k).getD j 0≠ -1;rcases Zhe k (by omega)with h|h
    · left;have:fillOne n E L (fillK n E L O k) k=fillK n E L O k:=by unfold fillOne;rw[h];split<;>rfl
      rw[this];exact h
    · rcases Zb7 n E L (fillK n E L O k) k with e|⟨x,r,h0,hr,e⟩
      · by_cases h1:(fillK n E L O k).getD k 0= -1
        · left
          rw[e];cases hr:Zaw n E (fillK n E L O k) L with
          |nil=>rfl
          | cons x r =>
            exfalso;have h2:fillOne n E L (fillK n E L O k) k=(fillK n E L O k).set k (x:Int):=by unfold fillOne;rw[Zc h1,hr]
            rw[e]at h2;have h3:=Zb8 hl (x:Int) 0;rw[<-h2,h1]at h3;omega
        · right;intro j hj;rw[e];rcases Zv j k with h2|h2
          · exact h j h2
          · obtain rfl:j=k:=by omega
            exact h1
      · right;intro j hj;rw[e];rcases Zv j k with h2|h2
        · rw[Zcl (by omega)];exact h j h2
        · obtain rfl:j=k:=by omega
          rw[Zb8 hl];omega
theorem ZpO{l:List Int}(h:∀j,j<l.length->l.getD j 0≠ -1):(-1)∉l:=fun hm=>by obtain⟨j,hj,he⟩:=ZA hm;refine h j hj ?_;rw[Zi,Zh hj];exact he
theorem Zhf:Zaw n E (ZcJ n E L O) L= []\/(-1)∉ZcJ n E L O:=by
 rcases Zhe (n:=n) (E:=E) (L:=L) (O:=O) O.length (Zm _)with h|h
 ·exact .inl h
 ·exact .inr (ZpO fun j hj=>h j (by rw[Zf9]at hj;exact hj))
theorem ZcK(O L:List Int):(ZaC O L).length=L.length:=by simp[ZaC]
theorem ZbJ{x:Nat}(h:x<L.length):Zaj (ZaC O L) (x:Int)=Zaj L (x:Int) - if(x:Int)∈O then 1 else 0:=by rw[Za6,Zi,ZaC,ZO,List.getElem?_range h];rfl
theorem Zga(O L:List Int):(onT O L).length=O.length:=by simp[onT]
theorem ZnQ{i:Nat}(h:i<O.length):(onT O L).getD i 0=if O.getD i 0≠ -1/\Zaj L (O.getD i 0)=1 then -1 else O.getD i 0:=by unfold onT;rw[Zi,ZO,Zi,Zh h];rfl
theorem Zgb{x:Int}(hx:x≠ -1):x∈onT O L↔x∈O/\Zaj L x≠1:=by
 unfold onT;rw[YG];constructor
 ·rintro ⟨y,hy,he⟩
  by_cases h:y≠ -1/\Zaj L y=1
  ·rw[Zc h]at he;exact absurd he.symm hx
  ·rw [Zb h] at he
   subst he;exact⟨hy,fun h1=>h ⟨hx,h1⟩⟩
 ·rintro ⟨h1,h2⟩
  exact⟨x,h1,Zb fun h=>h2 h.2⟩
theorem mem_doneT{x:Nat}:x∈Zb6 O L↔x<L.length/\(x:Int)∈O/\Zaj L (x:Int)=1:=by unfold Zb6;rw[YQ,ZD,decide_eq_true_iff]
theorem Zfp{f:Int->Int}{x:Int}(h:∀y,f y=x->y=x):∀l:List Int,(l.map f).count x<=l.count x
  | []=>by simp
  | y :: l => by
    have ih:=Zfp h l;rw[List.map_cons,YP,YP];by_cases hy:f y=x
    · have:=h y hy;subst this;simp only[hy,beq_self_eq_true,if_true];omega
    · have:(f y==x)=false:=by simpa using hy
      rw[this];simp only[Bool.false_eq_true,if_false];split<;>omega
theorem OverC.mono{L':List Int}{x:Int}(h:OverC E L x)(hF:Fits n E)(hl:∀m:Nat,m<n->Zaj L' (m:Int)<=Zaj L (m:Int)):OverC E L' x:=fun e he e2 hp=>by obtain⟨h1,h2,_,_⟩:=hF e he;obtain⟨m,hm⟩:∃m:Nat,e.1=m:=⟨e.1.toNat,by omega⟩;have h3:=hl m (by omega);have h4:=h e he e2;rw[hm]at hp h4;omega
theorem ZhQ{x:Nat}(h:x<L.length):Zaj (ZaC O L) (x:Int)<=Zaj L (x:Int):=by rw[ZbJ h];split<;>omega
theorem CrewOk.tick(h:CrewOk n E O L)(hF:Fits n E):CrewOk n E (onT O L) (ZaC O L):=by
 have hln:=h.ln;have hle:∀m:Nat,m<n->Zaj (ZaC O L) (m:Int)<=Zaj L (m:Int):=fun m hm=>ZhQ (by omega);have hon:∀x:Nat,(x:Int)∈O->x<n/\Zaj L (x:Int)≠0/\OverC E L (x:Int):=fun x hx=>by
  rcases h.on _ hx with h1|⟨⟨_,h1⟩,h2,h3⟩
  ·omega
  ·exact⟨by omega,h2,h3⟩
 have hpos:∀m:Nat,m<n->0<=Zaj L (m:Int)/\Zaj L (m:Int)<=1000:=fun m hm=>h.pos (by omega) (by omega);have hleft:∀m:Nat,m<n->0<=Zaj (ZaC O L) (m:Int):=fun m hm=>by
  rw[ZbJ (by omega)];split
  ·next hmo =>have:=(hon m hmo).2.1;have:=hpos m hm;omega
  ·have:=hpos m hm;omega
 refine⟨by rw[Zga];exact h.lo,by rw[Zga];exact h.hi,by rw[ZcK];exact h.ln,fun z hz=> ?_,fun x hx h0=> ?_,fun x hx=> ?_,fun x hx=> ?_⟩
 ·obtain ⟨m,hm,he⟩:=ZA hz
  rw[ZcK]at hm;have h1:=hleft m (by omega);have h2:=hle m (by omega);have h3:=hpos m (by omega);have h4:Zaj (ZaC O L) (m:Int)=z:=by rw[Za6,Zi,Zh (by rw[ZcK];exact hm)];exact he
  omega
 ·rw [ZbJ (by omega)] at h0
  by_cases hxo:(x:Int)∈O
  ·exact((hon x hxo).2.2).mono hF hle
  ·rw [Zb hxo] at h0
   exact(h.done x hx (by omega)).mono hF hle
 ·by_cases hx1: x = -1
  ·exact .inl hx1
  ·right
   obtain⟨h1,h2⟩:=(Zgb hx1).mp hx;rcases h.on x h1 with h3|⟨⟨h3,h4⟩,h5,h6⟩
   ·exact absurd h3 hx1
   ·obtain ⟨m,rfl⟩:∃ m: Nat,x = m:=⟨x.toNat,by omega⟩
    refine⟨⟨h3,h4⟩,?_,h6.mono hF hle⟩;rw[ZbJ (by omega),Zc h1];omega
 ·refine ZK (Zfp (fun y hy => ?_) O) (h.once x hx)
  split at hy
  ·exact absurd hy.symm hx
  ·exact hy
end
end Go.Proofs.YtfahabphncmbfaaGreatDoor
