import Derived.Test.YtlfekmbalgkmeaaGreatDoorZM20
import Derived.Test.YtlfekmbalgkmeaaGreatDoorZShelf
import Derived.Test.YtlfekmbalgkmeaaGreatDoorZM18
import Derived.Test.YtlfekmbalgkmeaaGreatDoorZM16
import Derived.WalkMore
set_option linter.unusedSimpArgs false
set_option linter.unnecessarySimpa false
set_option linter.unusedVariables false
set_option maxRecDepth 100000
set_option maxHeartbeats 16000000
namespace Go.Proofs.YtlfekmbalgkmeaaGreatDoor
open Go.RowKit
theorem cmpI_neg(a b:Int):cmpI a b<0↔a<b:=by
 unfold cmpI
 split
 ·exact⟨fun _=>by assumption,fun _=>by decide⟩
 ·split
  ·exact⟨fun h=>absurd h (by decide),fun h=>by omega⟩
  ·exact⟨fun h=>absurd h (by decide),fun h=>by omega⟩
theorem lt_cmpI{α:Type}(f:α->Int)(x y:α):ltOf (fun a b=>cmpI (f a) (f b)) x y=decide (f x<f y):=by
 unfold ltOf;rw[decide_eq_decide];exact cmpI_neg _ _
theorem swo_cmpI{α:Type} [Inhabited α](f:α->Int):Go.Sort.SWO (ltOf fun a b=>cmpI (f a) (f b)) where
 irrefl x:=by rw[lt_cmpI];simp
 trans x y z h1 h2:=by rw[lt_cmpI]at *;simp at *;omega
 ntrans x y z h1 h2:=by rw[lt_cmpI]at *;simp at *;omega
theorem sort_any(F:Option Addr)(nf fc:Nat)(ps fs:List (Int×Int×Int))(x:Int)(gb:Nat)(A:Option Addr)(k c:Nat)(w:World)(base:Nat)(hm:fs.length=nf)(hl:nf<=1000)(hps:partsOk ps)(hfs:FutsOk ps fs)
    (hk:(ownF fs x nf).length=k) (hO:OwnI w base (.slice A k c) (nums (ownF fs x nf))) (hb:base<=w.heap.size) (hT:Trips w base F fs) (hgb:gb<base) (hbox:w.cell? ⟨gb,4,none⟩=some (.slice F nf fc)):
    Calls Tryz.prog 171 #[.slice A k c, .func (.func 172) #[] #[.pointer (some ⟨gb,0,none⟩)]] w fun e w'=>e= .returned (.tuple #[])/\(touL fs x).length=k/\OwnI w' base (.slice A k c) (nums (touL fs x))/\Below base w w':=by
  subst hm;cases k with
  | zero =>
    have h1:ownF fs x fs.length= []:=List.eq_nil_of_length_eq_zero hk;have h2:([]:List Nat)=touL fs x:=places_sorted hps hfs hk [] (by rw[List.finRange_zero]) List.Pairwise.nil
    refine(Tryz.slices_SortFunc_none (α:=Nat) A c (.func (.func 172) #[] #[.pointer (some ⟨gb,0,none⟩)]) w).mono ?_
    rintro e w' ⟨he,rfl⟩;rw[h1]at hO;rw[<-h2];exact⟨he,rfl,hO,Below.refl _ _⟩
  | succ m =>
    obtain⟨pl,hpl⟩: ∃pl,pl=ownF fs x fs.length:=⟨_,rfl⟩;rw[<-hpl]at hk hO;obtain⟨g,rfl,hbg,hgl,hfz⟩: ∃g,A=some ⟨g,0,none⟩/\base<=g/\g<w.heap.size/\ ∀j,w.frozen? ⟨g,j,none⟩=false:=by
      rcases hO.2 with⟨_,h2⟩|⟨g,cap,cur,h1,h2,h3,_⟩
      · rw[nums_length,hk]at h2;cases h2
      · injection h1 with h1;refine⟨g,h1,h2,(Array.getElem?_eq_some_iff.1 h3).1,fun j=> ?_⟩
        simp[World.frozen?,h3]
    have hcell: ∀j,j<m+1->w.cell? ⟨g,0+j,none⟩=some (.int .i64 (plAt pl j:Nat)):=fun j hj=>by
      obtain⟨b',o',z,e,_,hz,hc⟩:=hO.ints.at_ (k:=j) (by rw[nums_length];omega)
      injection e with e;injection e with e1 e2;subst e1 e2;obtain⟨y,rfl,hy⟩:=nums_atD hz;have:plAt pl j=y:=by unfold plAt;rw[List.getD_eq_getElem?_getD,hy];rfl
      rw[this];exact hc
    have hd:(List.finRange (m+1)).toArray.size=m+1:=by simp
    have hdj: ∀j (hj:j<m+1),(List.finRange (m+1)).toArray[j]! =⟨j,hj⟩:=fun j hj=>by
      rw[getElem!_pos _ j (by rw[hd];exact hj)]
      simp
    have hin: ∀i:Fin (m+1),plAt pl i.val<fs.length/\(futAt fs (plAt pl i.val)).2.1=x:=fun i=>by
      rw[hpl];exact mem_ownF.mp (plAt_mem (by rw[<-hpl];have:=i.isLt;omega))
    have hinj: ∀i j:Fin (m+1),atOf fs pl i.val=atOf fs pl j.val->i=j:=fun i j h=>by
      have e:=fut_inj hfs.once (hin i).1 (hin j).1 (Prod.ext ((hin i).2.trans (hin j).2.symm) h);unfold plAt at e;have hi:i.val<pl.length:=by have:=i.isLt;omega
      have hj:j.val<pl.length:=by have:=j.isLt;omega
      rw[List.getD_eq_getElem?_getD,List.getElem?_eq_getElem hi,List.getD_eq_getElem?_getD,List.getElem?_eq_getElem hj]at e
      have hnd:=ownF_nodup fs x fs.length;rw[<-hpl]at hnd;exact Fin.ext ((List.getElem_inj (h₀:=hi) (h₁:=hj) hnd).mp (by simpa using e))
    have hcon:=Tryz.slices_SortFunc_total (α:=Fin (m+1)) (fun i=> .int .i64 (plAt pl i.val:Nat)) (fun _=>rfl) (fun i j=>cmpI (atOf fs pl i.val) (atOf fs pl j.val)) (swo_cmpI fun i:Fin (m+1)=>atOf fs pl i.val) 172 #[.pointer (some ⟨gb,0,none⟩)] g 0 c (List.finRange (m+1)).toArray w
      (eg_of Tryz.func172 (by kernel_rfl) rfl)
      (CmpReads.lays fun M os dk hdk i j=>byAt_any F fs.length fc fs gb (plAt pl i.val) (plAt pl j.val) _ base rfl hl (hin i).1 (hin j).1 (hT.below (below_sortWorld _ w g M dk os hbg hb)) (((below_sortWorld _ w g M dk os hbg hb).cell hgb).trans hbox))
      (fun j hj=>⟨by rw[hdj j (by rwa [hd]at hj)];exact hcell j (by rwa [hd]at hj),hfz _⟩) hgl (by rw[hd];have:=ownF_len fs x fs.length;rw[<-hpl]at this;omega)
      (fun i j h1 h2=>by
        rw[lt_cmpI (fun i:Fin (m+1)=>atOf fs pl i.val)]at h1 h2
        simp only[decide_eq_false_iff_not]at h1 h2;exact hinj i j (by omega))
    rw[hd]at hcon;refine hcon.mono ?_
    rintro e w' ⟨he,n,os,rfl⟩;obtain⟨S,hS⟩: ∃S,S=(List.finRange (m+1)).toArray.toList.mergeSort (fun i j=> !(ltOf fun i j:Fin (m+1)=>cmpI (atOf fs pl i.val) (atOf fs pl j.val)) j i):=⟨_,rfl⟩
    have hperm:S.Perm (List.finRange (m+1)):=by rw[hS];exact List.mergeSort_perm _ _
    have hsort:S.Pairwise fun i j:Fin (m+1)=>atOf fs pl i.val<=atOf fs pl j.val:=by
      rw[hS];refine(List.pairwise_mergeSort (le:=fun i j=> !(ltOf fun i j:Fin (m+1)=>cmpI (atOf fs pl i.val) (atOf fs pl j.val)) j i) ?_ ?_ _).imp fun{i j} h=> ?_
      · intro a b c h1 h2;rw[lt_cmpI (fun i:Fin (m+1)=>atOf fs pl i.val)]at *
        simp at *
        omega
      · intro a b;rw[lt_cmpI (fun i:Fin (m+1)=>atOf fs pl i.val),lt_cmpI (fun i:Fin (m+1)=>atOf fs pl i.val)]
        simp
        omega
      · rw[lt_cmpI (fun i:Fin (m+1)=>atOf fs pl i.val)]at h
        simp at h
        exact h
    have hmap:(S.map fun i:Fin (m+1)=>plAt pl i.val)=touL fs x:=by
      have h:=places_sorted hps hfs (by rw[<-hpl];exact hk) S hperm (by rw[<-hpl];exact hsort)
      rw[<-hpl]at h;exact h
    have hlen:(touL fs x).length=m+1:=by rw[<-hmap,List.length_map,hperm.length_eq,List.length_finRange]
    have hnum:S.map (fun i:Fin (m+1)=>((plAt pl i.val:Nat):Int))=nums (touL fs x):=by
      rw[<-hmap];unfold nums;rw[List.map_map];rfl
    rw[<-hS];refine⟨he,hlen,?_,below_sortWorld _ w g n _ os hbg hb⟩
    have ho:=own_sortWorld (f:=fun i:Fin (m+1)=>((plAt pl i.val:Nat):Int)) (enc:=fun i=> .int .i64 (plAt pl i.val:Nat)) (fun _=>rfl) n S.toArray os (by rw[nums_length];exact hk) (by rw[List.size_toArray,hperm.length_eq,List.length_finRange]) hO
    rw[List.toList_toArray,hnum]at ho;exact ho
open Classical in
noncomputable def touchesV (T:Task) (x:Int):List Int:=if MayT T then nums (touL T.futures x)else []
theorem ownI_nilR(w:World)(base:Nat):OwnI w base (.slice none 0 0) []:=⟨rfl,.inl ⟨rfl,rfl⟩⟩
theorem gotOwn_nil{w w':World}(hb:Below w.heap.size w w'):GotOwn [] w (.returned (.slice none 0 0)) w':=⟨none,0,rfl,ownI_nilR _ _,hb⟩
theorem wr_ge{w w0 wr:World}{o:Obj}(h0:w0=w.alloc o)(h:Below (w.heap.size+1) w0 wr):w.heap.size+1<=wr.heap.size:=by
 have:=h.size;rw[h0]at this
 simpa using this
theorem wr_bel{w w0 wr:World}{o:Obj}(h0:w0=w.alloc o)(h:Below (w.heap.size+1) w0 wr):Below w.heap.size w wr:=by
 refine Below.trans ?_ (h.mono (by omega))
 rw[h0];exact below_alloc _
theorem touches_any5(s:Sh)(T:Task)(x:Int)(w:World)(hD:IsD w s T):
  Calls Tryz.prog 150 #[s.arg T.period T.deadline,.int .i64 x] w (GotOwn (touchesV T x) w):=by
 obtain⟨P,np,pc,E,ne,ec,F,nf,fc,R,nr,rc⟩:=s;obtain⟨p,q,ps,es,fs,bs⟩:=T;have B0:=Lib.hid (BxI.start hD p q);have C:=Lib.hid (fun(W':World) (h:IsD W' ⟨P,np,pc,E,ne,ec,F,nf,fc,R,nr,rc⟩ ⟨p,q,ps,es,fs,bs⟩)=>check_any5 ⟨P,np,pc,E,ne,ec,F,nf,fc,R,nr,rc⟩ ⟨p,q,ps,es,fs,bs⟩ W' h)
 have HD:=Lib.hid hD;have hm:=hD.t.hf;have hl:=hD.few.nf;simp only at hm hl;rw[hm]at hl;have HM:=Lib.hid hm;simp only[Sh.arg]at C⊢;obtain⟨w0,hw0⟩: ∃w0,w0=w.alloc (.cells #[.int .i64 p,.int .i64 q,.slice P np pc,.slice E ne ec,.slice F nf fc,.slice R nr rc] 57):=⟨_,rfl⟩;have HW0:=Lib.hid hw0;rw[<-hw0]at B0;clear hD hm
 by_cases hM:MayT ⟨p,q,ps,es,fs,bs⟩
 ·have HV:=Lib.hid (show touchesV ⟨p,q,ps,es,fs,bs⟩ x = nums (touL fs x) by unfold touchesV; rw [if_pos hM])
  have HMAY:=Lib.hid hM;have C1:=Lib.hid (fun W' h=>by have:=C.out W' h;rwa [chkT_zero.mpr hM]at this)
  obtain⟨l,hl0⟩: ∃l,l=touchesV ⟨p,q,ps,es,fs,bs⟩ x:=⟨_,rfl⟩;rw[<-hl0]at HV⊢;clear hM C hl0;rw[hw0]at B0;clear hw0;go_enter Tryz.func150,Tryz.ntmps150;go_wp2_with fail;refine(C1.out _ B0.out.d).mono ?_
  rintro e w1 ⟨rfl,b⟩;have HB1:Hid (Below (w.heap.size+1) w0 w1):=Lib.hid (by rw[HW0.out];exact b.mono (by simp))
  have hbox1:w1.cell? ⟨w.heap.size,4,none⟩=some (.slice F nf fc):=(B0.out.next b).b.c4
  clear b B0;go_wp2;go_loopw [5,14] (fun v i wr=> ∃(t k:Nat) (A':Option Addr) (c':Nat),t<=nf/\i= .int .i64 t/\v= .slice A' k c'/\Hid ((ownF fs x t).length=k)/\Hid (OwnI wr (w.heap.size+1) (.slice A' k c') (nums (ownF fs x t)))/\Hid (Below (w.heap.size+1) w0 wr)) (fun _ i _=>nf - (intOf i).toNat)
  case atStart=>exact⟨0,0,none,0,Nat.zero_le _,rfl,rfl,Lib.hid rfl,Lib.hid (ownI_nilR _ _),HB1⟩
  case round=>
   obtain⟨t,k,A',c',ht,rfl,rfl,HK,HO,HB⟩:=hrel;clear hbox1 HB1;have hsz:=wr_ge HW0.out HB.out;have HDr:=Lib.hid (HD.out.below (wr_bel HW0.out HB.out));have hk:k<=400:=by
    have h1:=ownF_len fs x t;rw[HK.out]at h1;omega
   by_cases hlt:t<nf
   ·obtain ⟨bk,o,f1,f2,f3,hFe,hbg,hft,d1,d2,d3⟩:=(HD.out.t.futures.below (wr_bel HW0.out HB.out)).at_ (k:=t) (by rw [HM.out]; exact hlt)
    simp only at hFe;subst hFe;have HS:=Lib.hid (ownF_step (x:=x) hft);have HB5:Hid (∀o5,Below (w.heap.size+1) w0 (wr.alloc o5)):=Lib.hid (fun o5=>HB.out.trans ((below_alloc o5).mono hsz))
    have HO5:=Lib.hid (fun o5=>HO.out.alloc o5)
    clear hft
    by_cases h1:f2=x
    ·have HS2:=Lib.hid (show ownF fs x (t + 1) = ownF fs x t ++ [t] by rw [HS.out,if_pos h1])
     have g1:(f2==x)=true:=by simpa using h1
     clear h1
     go_wp2_with(at_builtin;refine wpList_push rfl _ _ rfl (wr.alloc (.cells #[.int .i64 f1,.int .i64 f2,.int .i64 f3] 156)) (w.heap.size+1) _ (nums (ownF fs x t)) t k (by rw[nums_length];exact HK.out) (by omega) (HO5.out _) (by simp;omega) rfl (by simp;rfl) ?_;intro A4 c4' w4 HO4 HB4;(have HO4':=Lib.hid HO4);(have HB4':=Lib.hid HB4);clear HO4 HB4)
     go_roundw
     case rel=>exact⟨t+1,k+1,A4,c4',by omega,by go_num,rfl,Lib.hid (by rw[HS2.out,List.length_append,HK.out];rfl),Lib.hid (by rw[HS2.out,nums_snoc];exact HO4'.out),Lib.hid ((HB5.out _).trans HB4'.out)⟩
     case measure=>simp[intOf];omega
    ·have HS2:=Lib.hid (show ownF fs x (t + 1) = ownF fs x t by rw [HS.out,if_neg h1])
     have g1:(f2==x)=false:=by simpa using h1
     clear h1;go_wp2;go_roundw
     case rel=>exact⟨t+1,k,A',c',by omega,by go_num,rfl,Lib.hid (by rw[HS2.out];exact HK.out),Lib.hid (by rw[HS2.out];exact HO5.out _),Lib.hid (HB5.out _)⟩
     case measure=>simp[intOf];omega
   ·have e: t = nf:=by omega
    have HST:=Lib.hid (sort_any F nf fc ps fs x w.heap.size A' k c' wr (w.heap.size+1) HM.out (by omega) HMAY.out.parts HMAY.out.futures (by rw[<-e];exact HK.out) (by rw[<-e];exact HO.out) hsz
     ((HD.out.t.futures.below (wr_bel HW0.out HB.out)).more (by omega)) (by omega) ((HB.out.cell (Nat.lt_succ_self _)).trans (by rw[HW0.out,World.cell?_alloc_at _ _ _ _ rfl];rfl)))
    clear e;go_wp2_with fail;refine HST.out.mono ?_
    rintro e w2 ⟨rfl,hlen,hO2,hb2⟩;have HL2:=Lib.hid hlen;have HO2:=Lib.hid hO2;have HB2:=Lib.hid hb2;clear hlen hO2 hb2;go_wp2;go_ret;refine⟨A',c',by rw[HV.out,nums_length,HL2.out];rfl,?_,(wr_bel HW0.out (HB.out.trans HB2.out))⟩
    rw[HV.out,nums_length,HL2.out];exact HO2.out.down (by omega)
 ·have HV: touchesV ⟨p,q,ps,es,fs,bs⟩ x = []:=by unfold touchesV; rw [if_neg hM]
  rw[HV];have hc:(chkT ⟨p,q,ps,es,fs,bs⟩ !=0)=true:=by
   rw[bne_iff_ne];exact fun k=>hM (chkT_zero.mp k)
  obtain⟨r,hr⟩: ∃r,r=chkT ⟨p,q,ps,es,fs,bs⟩:=⟨_,rfl⟩;rw[<-hr]at C hc;rw[hw0]at B0;clear hM hr HV hw0;go_enter Tryz.func150,Tryz.ntmps150;go_wp2_with fail;refine(C.out _ B0.out.d).mono ?_
  rintro e w1 ⟨rfl,b⟩;have B1:=Lib.hid (B0.out.next b);clear b;go_wp2;go_ret;exact gotOwn_nil B1.out.b.bel
theorem ends_take{fs:List (Int×Int×Int)}{l:List Nat}{j k:Nat}(h:l[j]? =some k):((l.take (j+1)).map fun k=>(futAt fs k).2.2)=((l.take j).map fun k=>(futAt fs k).2.2)++ [(futAt fs k).2.2]:=by
 rw[List.take_add_one,h,List.map_append];rfl
theorem touL_lt{fs:List (Int×Int×Int)}{x:Int}{j k:Nat}(h:(touL fs x)[j]? =some k):k<fs.length:=(mem_touK.mp (List.mem_of_getElem? h)).1
theorem ends_any(s:Sh)(T:Task)(x:Nat)(w:World)(hD:IsD w s T)(hM:MayT T)(hx:x<T.parts.length):
  Calls Tryz.prog 110 #[s.arg T.period T.deadline,.int .i64 (x:Int)] w (GotOwn (endsL T.futures T.parts x) w):=by
 obtain⟨P,np,pc,E,ne,ec,F,nf,fc,R,nr,rc⟩:=s;obtain⟨p,q,ps,es,fs,bs⟩:=T;have B0:=Lib.hid (BxI.start hD p q);have hm:=hD.t.hf;have hp:=hD.t.hp;have hl:=hD.few.nf;have hlp:=hD.few.np;simp only at hm hl hp hlp hx;rw[hm]at hl;rw[hp]at hlp hx;have HM:=Lib.hid hm;have HP:=Lib.hid hp;have HV:touchesV ⟨p,q,ps,es,fs,bs⟩ (x:Int)=nums (touL fs (x:Int)):=by unfold touchesV;rw[if_pos hM]
 have C:=fun W' (h:IsD W' ⟨P,np,pc,E,ne,ec,F,nf,fc,R,nr,rc⟩ ⟨p,q,ps,es,fs,bs⟩)=>touches_any5 ⟨P,np,pc,E,ne,ec,F,nf,fc,R,nr,rc⟩ ⟨p,q,ps,es,fs,bs⟩ (x:Int) W' h
 rw[HV]at C;have HC:=Lib.hid C;have hnt:(touL fs (x:Int)).length<=400:=by have:=touK_len fs (x:Int) 99;unfold touL;omega
 obtain⟨nt,hntE⟩: ∃nt,nt=(touL fs (x:Int)).length:=⟨_,rfl⟩;rw[<-hntE]at hnt;have HNT:=Lib.hid hntE;simp only[Sh.arg]at HC⊢;obtain⟨w0,hw0⟩: ∃w0,w0=w.alloc (.cells #[.int .i64 p,.int .i64 q,.slice P np pc,.slice E ne ec,.slice F nf fc,.slice R nr rc] 57):=⟨_,rfl⟩;rw[<-hw0]at B0;clear hD hm hp hM HV C hntE;obtain⟨c0,c1,c2,c3,c4,c5⟩:=B0.out.b.cells;go_enter Tryz.func110,Tryz.ntmps110;go_wp2_with fail;rw[<-hw0];clear hw0;refine(HC.out _ B0.out.d).mono ?_
 rintro e w1 ⟨A,c,rfl,hO,b1⟩;rw[nums_length,<-HNT.out]at hO⊢;have B1:=Lib.hid (B0.out.next b1);have HO:=Lib.hid hO;clear hO b1 HC B0 c0 c1 c2 c3 c4 c5;go_wp2;go_loopw [5,12] (fun v i wr=> ∃(j c':Nat) (A':Option Addr),j<=nt/\i= .int .i64 (j:Int)/\v= .slice A' j c'/\Hid (OwnI wr w1.heap.size (.slice A' j c') (((touL fs (x:Int)).take j).map fun k=>(futAt fs k).2.2))/\Hid (Below w1.heap.size w1 wr)) (fun _ i _=>nt - (intOf i).toNat)
 case atStart=>exact⟨0,0,none,Nat.zero_le _,rfl,rfl,Lib.hid (ownI_nilR _ _),Lib.hid (Below.refl _ _)⟩
 case round=>
  obtain⟨j,c',A',hj,rfl,rfl,HOJ,HBJ⟩:=hrel;have HSZ:=Lib.hid HBJ.out.size;have B2:=Lib.hid (B1.out.next HBJ.out);have k2:=B2.out.b.c2;have k4:=B2.out.b.c4;have hlj:(((touL fs (x:Int)).take j).map fun k=>(futAt fs k).2.2).length=j:=by rw[List.length_map,List.length_take,<-HNT.out];omega
  have HLJ:=Lib.hid hlj
  by_cases hlt:j<nt
  ·obtain ⟨k,hk⟩: ∃ k,(touL fs (x: Int))[j]? = some k:=⟨_,List.getElem?_eq_getElem (by rw [<- HNT.out]; exact hlt)⟩
   have hkf:k<nf:=by have:=touL_lt hk;rw[HM.out]at this;exact this
   have HET:=Lib.hid (ends_take (fs:=fs) hk);obtain⟨gb,go,eA,hq⟩:=HO.out.at_ (j:=j) (by rw[nums_length,<-HNT.out];exact hlt)
   have hqv:(nums (touL fs (x:Int))).getD j 0=(k:Int):=by unfold nums;rw[List.getD_eq_getElem?_getD,List.getElem?_map,hk];rfl
   rw[hqv]at hq;subst eA;have hq1:wr.cell? ⟨gb,go+j,none⟩=some (.int .i64 (k:Int)):=(HBJ.out.cell (World.block_lt_of_cell? _ _ hq)).trans hq
   obtain⟨fb,fo,f1,f2,f3,hFe,hfb,hft,d1,d2,d3⟩:=B2.out.d.t.futures.at_ (k:=k) (by rw[HM.out];exact hkf)
   simp only at hFe;subst hFe;have hfa:(futAt fs k).2.2=f3:=by unfold futAt;rw[List.getD_eq_getElem?_getD,hft];rfl
   have HFA:=Lib.hid hfa;clear hk hq hqv hft hfa hlj d1 d2
   go_wp2_with(at_builtin;refine wpList_push rfl _ _ rfl wr w1.heap.size _ _ f3 j HLJ.out (by omega) HOJ.out HSZ.out rfl rfl ?_;intro A4 c4' w4 HO4 HB4;(have HO4':=Lib.hid HO4);(have HB4':=Lib.hid (HBJ.out.trans HB4));clear HO4 HB4)
   go_roundw
   case rel=>exact⟨j+1,c4',A4,hlt,by go_num,rfl,Lib.hid (by rw[HET.out,HFA.out];exact HO4'.out),HB4'⟩
   case measure=>simp[intOf];omega
  ·obtain rfl: nt = j:=by omega
   obtain⟨pb,po,p1,p2,p3,hPe,hpb,hpt,d1,d2,d3⟩:=B2.out.d.t.parts.at_ (k:=x) (by rw[HP.out];exact hx)
   simp only at hPe;subst hPe;have htk:(touL fs (x:Int)).take nt=touL fs (x:Int):=List.take_of_length_le (by rw[<-HNT.out];exact Nat.le_refl _)
   have hpd:(ps.getD x (0,0,0)).2.2=p3:=by rw[List.getD_eq_getElem?_getD,hpt];rfl
   have HEL:Hid (endsL fs ps x=(((touL fs (x:Int)).take nt).map fun k=>(futAt fs k).2.2)++ [p3]):=Lib.hid (by unfold endsL;rw[htk,hpd])
   have HEN:Hid ((endsL fs ps x).length=nt+1):=Lib.hid (by rw[endsL_len];unfold nst;rw[<-HNT.out])
   clear htk hpd hpt d1 d2 hlj
   go_wp2_with(at_builtin;refine wpList_push rfl _ _ rfl wr w1.heap.size _ _ p3 nt HLJ.out (by omega) HOJ.out HSZ.out rfl rfl ?_;intro A4 c4' w4 HO4 HB4;(have HO4':=Lib.hid HO4);(have HB4':=Lib.hid (HBJ.out.trans HB4));clear HO4 HB4)
   go_ret;refine⟨A4,c4',by rw[HEN.out];rfl,?_,B1.out.b.bel.trans (HB4'.out.mono B1.out.b.bel.size)⟩
   rw[HEN.out,HEL.out];exact HO4'.out.down B1.out.b.bel.size
end Go.Proofs.YtlfekmbalgkmeaaGreatDoor
namespace Go.Proofs.YtlfekmbalgkmeaaGreatDoor
open Go.RowKit Go.Maps
theorem Ints.cell_{w:World}{B j:Nat}{A:Option Addr}{l:List Int}(h:Ints w B A l)(hj:j<l.length): ∃b off,A=some ⟨b,off,none⟩/\b<B/\w.cell? ⟨b,off+j,none⟩=some (.int .i64 (l.getD j 0)):=by
 obtain⟨b,off,e,hb,hc⟩:=h (by omega)
 exact⟨b,off,e,hb,hc j hj⟩
theorem tells_run{w:World}{b n x k:Nat}{D:DataW Unit}{f:Nat->Nat}(h:OwnM w b n D)(ht:Tells D f x)(hk:k<x)(hx:x<=1000000):(Instr.lookup 139 (.map (some b)) (.int .i64 (k:Int)) false).run Tryz.prog w= .ok (.int .i64 ((f k:Nat):Int)) w:=by
 obtain⟨c,hr,hat,_⟩:=h.lookup_int law_int Tryz.underlying139 Tryz.underlying3 (zero_intL w) (key_int (n:=(k:Int)) (by omega) (by omega))
 rw[ht k hk]at hat;injection hat with h1;injection h1 with _ h2;rw[hr,h2]
def inE(fs:List (Int×Int×Int))(n:Nat)(l:List Int):List (Int×Int):=l.map fun i=>(((lasN fs i.toNat:Nat):Int),((n:Nat):Int))
def outE(fs:List (Int×Int×Int))(n:Nat)(l:List Int):List (Int×Int):=l.map fun i=>(((n:Nat):Int),((firN fs i.toNat:Nat):Int))
theorem take_in{fs:List (Int×Int×Int)}{n j k:Nat}{l:List Int}(h:l[j]? =some (k:Int)):inE fs n (l.take (j+1))=inE fs n (l.take j)++ [(((lasN fs k:Nat):Int),((n:Nat):Int))]:=by unfold inE;rw[List.take_add_one,h,List.map_append];rfl
theorem take_out{fs:List (Int×Int×Int)}{n j k:Nat}{l:List Int}(h:l[j]? =some (k:Int)):outE fs n (l.take (j+1))=outE fs n (l.take j)++ [(((n:Nat):Int),((firN fs k:Nat):Int))]:=by unfold outE;rw[List.take_add_one,h,List.map_append];rfl
theorem barrier_any(fs:List (Int×Int×Int))(np base gb b1 b2 n1 n2:Nat)(D1 D2:DataW Unit)(vW vE vP:Value)(W:List Int)(E P:List (Int×Int))(x N mi ci mo co:Nat)(Ai Ao:Option Addr)(li lo:List Int)(w:World)(hnp:np<=400)(hW:W.length<=400)(hP:P.length=N)(hN:N<=400)(hE:E.length<=500)(hx:x<=400)(hli:li.length=mi)(hlo:lo.length=mo)(hmi:mi<=100)(hmo:mo<=100)
  (hzi: ∀z∈li,0<=z/\z<(np:Int)) (hzo: ∀z∈lo,0<=z/\z<(np:Int)) (h:Gl base gb b1 b2 n1 n2 D1 D2 vW vE vP W E P w) (hIi:Ints w base Ai li) (hIo:Ints w base Ao lo) (h1:Tells D1 (firN fs) np) (h2:Tells D2 (lasN fs) np):
  Calls Tryz.prog 113 #[.pointer (some ⟨gb,0,none⟩),.int .i64 (x:Int),.agg #[.slice Ai mi ci,.slice Ao mo co]] w fun e w'=>e= .returned (.tuple #[])/\ ∃vW' vE' vP',Gl base gb b1 b2 n1 n2 D1 D2 vW' vE' vP' (W++ [1]) (E++(inE fs N li++outE fs N lo)) (P++ [(-1,(x:Int))]) w'/\Below base w w':=by
 have hbw:base<=w.heap.size:=by have:=h.le;have:=h.lt;omega
 obtain⟨w0,hw0⟩: ∃w0,w0=w.alloc (.cells #[.slice Ai mi ci,.slice Ao mo co] 97):=⟨_,rfl⟩;have hb0:Below w.heap.size w w0:=by rw[hw0];exact below_alloc _
 have hr0:w0.heap[w.heap.size]? =some (.cells #[.slice Ai mi ci,.slice Ao mo co] 97 (0,0)):=by rw[hw0];exact heap_alloc_new w _
 have HR0:=Lib.hid hr0;have HB0:=Lib.hid (hb0.mono hbw);have HG0:=Lib.hid (h.below hb0);have HI:=Lib.hid hIi;have HO:=Lib.hid hIo;have HT1:=Lib.hid h1;have HT2:=Lib.hid h2;have HLI:=Lib.hid hli;have HLO:=Lib.hid hlo;have HZI:=Lib.hid hzi;have HZO:=Lib.hid hzo;have CN:=gnode_any base gb b1 b2 n1 n2 D1 D2 vW vE vP W E P (-1) (x:Int) 1 w0 _ _ (by omega) (by omega) HG0.out (Side.nil w0 base vW)
 rw[hP]at CN;have HCN:=Lib.hid CN;clear h hb0 hr0 hIi hIo h1 h2 hli hlo hzi hzo CN hP;go_enter Tryz.func113,Tryz.ntmps113;go_wp2_with fail;rw[<-hw0];clear hw0;refine HCN.out.mono ?_
 rintro e w1 ⟨rfl,uW,uP,hG1,_,b1',k1'⟩;have HG1:=Lib.hid hG1;have HB1:=Lib.hid (HB0.out.trans b1');have HK1:=Lib.hid k1';have hbx:=k1' _ _ _ _ HR0.out (by decide) (by decide) (by decide) (by decide)
 have d0:=cell_of_row w1 w.heap.size 0 _ _ _ hbx;have d1:=cell_of_row w1 w.heap.size 1 _ _ _ hbx;simp at d0 d1;clear hG1 b1' k1' hbx HCN HG0;go_wp2;go_loopw [18] (fun iv wr=> ∃(j:Nat) (vE':Value),j<=mi/\iv= .int .i64 (j:Int)/\Hid (Gl base gb b1 b2 n1 n2 D1 D2 uW vE' uP (W++ [1]) (E++inE fs N (li.take j)) (P++ [(-1,(x:Int))]) wr)/\Hid (Below base w wr)/\Hid (Keeps w0 wr)) (fun iv _=>mi - (intOf iv).toNat)
 case atStart=>exact⟨0,_,Nat.zero_le _,rfl,Lib.hid (by have h:=HG1.out;simpa[inE]using h),HB1,HK1⟩
 case round=>
  obtain⟨j,vE',hj,rfl,HGJ,HBJ,HKJ⟩:=hrel;clear HG1 HB1 HK1
  by_cases hlt:j<mi
  ·obtain ⟨eb,eo,eA,heb,hq⟩:=HI.out.cell_ (j:=j) (by rw [HLI.out]; exact hlt)
   have hqr:=(HBJ.out.cell heb).trans hq;obtain⟨z,hz⟩: ∃z,li[j]? =some z:=⟨_,List.getElem?_eq_getElem (by rw[HLI.out];exact hlt)⟩
   have hzv:li.getD j 0=z:=by rw[List.getD_eq_getElem?_getD,hz];rfl
   obtain⟨hz0,hz1⟩:=HZI.out z (List.mem_of_getElem? hz)
   obtain⟨k,rfl⟩: ∃k:Nat,z=(k:Int):=⟨z.toNat,by omega⟩
   rw[hzv]at hqr;subst eA;have hkn:k<np:=by omega
   have HTK:=Lib.hid (take_in (fs:=fs) (n:=N) hz);have c4:=HGJ.out.cell 4;simp at c4;have hlk:=tells_run HGJ.out.m2 HT2.out hkn (by omega)
   have CE:=edge_any base gb b1 b2 n1 n2 D1 D2 uW vE' uP (W++ [1]) (E++inE fs N (li.take j)) (P++ [(-1,(x:Int))]) ((lasN fs k:Nat):Int) (N:Int) wr _ _ (by simp only[List.length_append,inE,outE,List.length_map,List.length_take];omega) HGJ.out (Side.nil wr base uW)
   obtain⟨nk,hnk⟩: ∃nk,nk=lasN fs k:=⟨_,rfl⟩;rw[<-hnk]at hlk CE HTK;have HCE:=Lib.hid CE;clear hq hz hzv CE hnk;go_wp2_with fail;refine HCE.out.mono ?_
   rintro e w4 ⟨rfl,uE',hG4,_,b4,k4⟩;have HG4:=Lib.hid hG4;have HB4:=Lib.hid (HBJ.out.trans b4);have HK4:=Lib.hid (HKJ.out.trans k4);clear hG4 b4 k4 HCE hqr hlk HGJ HBJ HKJ;go_wp2;go_roundw
   case rel=>exact⟨j+1,uE',hlt,by go_num,Lib.hid (by rw[HTK.out];have h:=HG4.out;simpa only[List.append_assoc]using h),HB4,HK4⟩
   case measure=>simp[intOf];omega
  ·obtain rfl: mi = j:=by omega
   have htk:li.take mi=li:=List.take_of_length_le (by rw[HLI.out];exact Nat.le_refl _)
   have hG:=HGJ.out;rw[htk]at hG;have HGE:=Lib.hid hG;have hbx:=HKJ.out _ _ _ _ HR0.out (by decide) (by decide) (by decide) (by decide)
   have d0:=cell_of_row wr w.heap.size 0 _ _ _ hbx;have d1:=cell_of_row wr w.heap.size 1 _ _ _ hbx;simp at d0 d1;clear htk hG HGJ hbx;go_wp2;go_loopw [35] (fun iv wr=> ∃(j:Nat) (vE':Value),j<=mo/\iv= .int .i64 (j:Int)/\Hid (Gl base gb b1 b2 n1 n2 D1 D2 uW vE' uP (W++ [1]) (E++inE fs N li++outE fs N (lo.take j)) (P++ [(-1,(x:Int))]) wr)/\Hid (Below base w wr)/\Hid (Keeps w0 wr)) (fun iv _=>mo - (intOf iv).toNat)
   case atStart=>exact⟨0,_,Nat.zero_le _,rfl,Lib.hid (by have h:=HGE.out;simpa[outE]using h),HBJ,HKJ⟩
   case round=>
    obtain⟨j,vE',hj,rfl,HGJ,HBJ,HKJ⟩:=hrel;clear HGE
    by_cases hlt:j<mo
    ·obtain ⟨eb,eo,eA,heb,hq⟩:=HO.out.cell_ (j:=j) (by rw [HLO.out]; exact hlt)
     have hqr:=(HBJ.out.cell heb).trans hq;obtain⟨z,hz⟩: ∃z,lo[j]? =some z:=⟨_,List.getElem?_eq_getElem (by rw[HLO.out];exact hlt)⟩
     have hzv:lo.getD j 0=z:=by rw[List.getD_eq_getElem?_getD,hz];rfl
     obtain⟨hz0,hz1⟩:=HZO.out z (List.mem_of_getElem? hz)
     obtain⟨k,rfl⟩: ∃k:Nat,z=(k:Int):=⟨z.toNat,by omega⟩
     rw[hzv]at hqr;subst eA;have hkn:k<np:=by omega
     have HTK:=Lib.hid (take_out (fs:=fs) (n:=N) hz);have c3:=HGJ.out.cell 3;simp at c3;have hlk:=tells_run HGJ.out.m1 HT1.out hkn (by omega)
     have CE:=edge_any base gb b1 b2 n1 n2 D1 D2 uW vE' uP (W++ [1]) (E++inE fs N li++outE fs N (lo.take j)) (P++ [(-1,(x:Int))]) (N:Int) ((firN fs k:Nat):Int) wr _ _ (by simp only[List.length_append,inE,outE,List.length_map,List.length_take];rw[HLI.out];omega) HGJ.out (Side.nil wr base uW)
     obtain⟨nk,hnk⟩: ∃nk,nk=firN fs k:=⟨_,rfl⟩;rw[<-hnk]at hlk CE HTK;have HCE:=Lib.hid CE;clear hq hz hzv CE hnk;go_wp2_with fail;refine HCE.out.mono ?_
     rintro e w4 ⟨rfl,uE',hG4,_,b4,k4⟩;have HG4:=Lib.hid hG4;have HB4:=Lib.hid (HBJ.out.trans b4);have HK4:=Lib.hid (HKJ.out.trans k4);clear hG4 b4 k4 HCE hqr hlk HGJ HBJ HKJ;go_wp2;go_roundw
     case rel=>exact⟨j+1,uE',hlt,by go_num,Lib.hid (by rw[HTK.out];have h:=HG4.out;simpa only[List.append_assoc]using h),HB4,HK4⟩
     case measure=>simp[intOf];omega
    ·obtain rfl: mo = j:=by omega
     have htk:lo.take mo=lo:=List.take_of_length_le (by rw[HLO.out];exact Nat.le_refl _)
     have hG:=HGJ.out;rw[htk,List.append_assoc]at hG;have HGF:=Lib.hid hG;clear htk hG;go_wp2;go_end0;exact⟨rfl,_,_,_,HGF.out,HBJ.out⟩
end Go.Proofs.YtlfekmbalgkmeaaGreatDoor
namespace Go.Proofs.YtlfekmbalgkmeaaGreatDoor
theorem fut_mem{ps fs:List (Int×Int×Int)}(hps:partsOk ps)(hf:FutsOk ps fs){k:Nat}(hk:k<fs.length):k∈touL fs (futAt fs k).2.1:=by
 have e:futAt fs k=fs[k]:=by unfold futAt;rw[List.getD_eq_getElem?_getD,List.getElem?_eq_getElem hk];rfl
 have h:=hf.each fs[k] (List.getElem_mem hk);refine mem_touK.mpr ⟨hk,rfl,?_,?_⟩
 ·rw[e];exact h.first
 ·rw [e]
  have hu:=h.user;have hul:fs[k].2.1.toNat<ps.length:=by omega
  have h2:=h.last _ (List.getElem?_eq_getElem hul)
  have h3:=hps _ (List.getElem_mem hul);unfold partOk at h3;omega
theorem stepW_at: ∀(b:Int) (l:List Int) (p:Nat),p<l.length->(stepW b l).getD p 0=l.getD p 0 - (if p=0 then b else l.getD (p - 1) 0)
  |b, [],p,h=>by simp at h
  |b,x::l,0,h=>by simp[stepW]
  | b, x :: l, p + 1, h => by
    have ih:=stepW_at x l p (by simpa using h)
    rw[stepW,List.getD_cons_succ,ih,List.getD_cons_succ,if_neg (by omega: ¬p+1=0)]
    cases p with
    |zero=>simp
    |succ p=>simp
theorem wPs_at{fs ps:List (Int×Int×Int)}{u p:Nat}(hp:p<nst fs u): ∀np,u<np->(wPs fs ps np).getD (firN fs u+p) 0=(endsL fs ps u).getD p 0 - befE (endsL fs ps u) p
  |0,h=>by omega
  | x + 1, h => by
    rw[wPs]
    by_cases e:u=x
    · subst e;rw[List.getD_eq_getElem?_getD,List.getElem?_append_right (by rw[wPs_len];omega),wPs_len,Nat.add_sub_cancel_left,<-List.getD_eq_getElem?_getD,stepW_at 0 _ p (by rw[endsL_len];exact hp)]
      rfl
    · have hl:firN fs u+p<(wPs fs ps x).length:=by
        rw[wPs_len];have:firN fs (u+1)<=firN fs x:=by
          have: ∀a b,a<=b->firN fs a<=firN fs b:=fun a b hab=>by
            induction b with
            |zero=>simp[Nat.le_zero.mp hab]
            | succ b ih =>
              rcases Nat.lt_or_ge a (b+1)with h1|h1
              · have:=ih (by omega)
                rw[firN];omega
              · rw[show a=b+1 by omega]
                exact Nat.le_refl _
          exact this _ _ (by omega)
        rw[firN]at this;omega
      rw[List.getD_eq_getElem?_getD,List.getElem?_append_left hl,<-List.getD_eq_getElem?_getD]
      exact wPs_at hp x (by omega)
theorem ends_at{fs ps:List (Int×Int×Int)}{u p k:Nat}(h:(touL fs (u:Int))[p]? =some k):(endsL fs ps u).getD p 0=(futAt fs k).2.2:=by
 have hp:=(List.getElem?_eq_some_iff.mp h).1
 unfold endsL;rw[List.getD_eq_getElem?_getD,List.getElem?_append_left (by rw[List.length_map];exact hp),List.getElem?_map,h]
 rfl
structure FutWay(fs ps:List (Int×Int×Int))(k u q:Nat):Prop where
 lt:q<nst fs u
 hit:befE (endsL fs ps u) q=(futAt fs k).2.2
 ahead: ∀p,p<q->befE (endsL fs ps u) p<(futAt fs k).2.2
 node:begN fs k=firN fs u+q
 nonneg: ∀p,p<=q->0<=befE (endsL fs ps u) p
 small:(futAt fs k).2.2<=99
theorem pair_at{L:List Nat}{r:Nat->Nat->Prop}(hr:L.Pairwise r){i j m k:Nat}(hij:i<j)(hi:L[i]? =some m)(hj:L[j]? =some k):r m k:=by
 obtain⟨h1,rfl⟩:=List.getElem?_eq_some_iff.mp hi
 obtain⟨h2,rfl⟩:=List.getElem?_eq_some_iff.mp hj
 exact List.pairwise_iff_getElem.mp hr i j h1 h2 hij
theorem idx_at{L:List Nat}{k:Nat}(h:k∈L):L[L.idxOf k]? =some k/\L.idxOf k<L.length:=by
 have hpos:=List.idxOf_lt_length_iff.mpr h;exact⟨by rw[List.getElem?_eq_getElem hpos,List.getElem_idxOf hpos],hpos⟩
theorem fut_way{ps fs:List (Int×Int×Int)}(hps:partsOk ps)(hf:FutsOk ps fs){k u:Nat}(hk:k<fs.length)(hu:(futAt fs k).2.1=(u:Int)): ∃q,FutWay fs ps k u q:=by
 have hm:=fut_mem hps hf hk;have hr:(touL fs (u:Int)).Pairwise fun i j=>(futAt fs i).2.2<(futAt fs j).2.2:=touL_rises (x:=(u:Int)) hf.once 99
 have h1:1<=(futAt fs k).2.2:=(mem_touK.mp hm).2.2.1;have hn:begN fs k=firN fs u+((touL fs (u:Int)).idxOf k+1):=by unfold begN;rw[hu,Int.toNat_natCast,Nat.add_assoc]
 have hE: ∀(p m:Nat),(touL fs (u:Int))[p]? =some m->(endsL fs ps u).getD p 0=(futAt fs m).2.2:=fun p m h=>ends_at h
 have hN:nst fs u=(touL fs (u:Int)).length+1:=rfl;have hQ: ∀m∈touL fs (u:Int),1<=(futAt fs m).2.2:=fun m h=>(mem_touK.mp h).2.2.1
 have h9:(futAt fs k).2.2<=99:=(mem_touK.mp hm).2.2.2;rw[hu]at hm;generalize touL fs (u:Int)=L at hm hr hn hE hN hQ;obtain⟨hat,hpos⟩:=idx_at hm;refine⟨L.idxOf k+1,⟨by omega,?_,fun p hp=> ?_,hn,fun p hp=> ?_,h9⟩⟩
 ·unfold befE
  rw[if_neg (by omega),Nat.add_sub_cancel,hE _ _ hat]
 ·unfold befE
  by_cases h0:p=0
  ·rw[if_pos h0];omega
  ·rw [if_neg h0]
   have hj:L[p - 1]? =some L[p - 1]:=List.getElem?_eq_getElem (by omega)
   rw[hE _ _ hj];exact pair_at hr (by omega:p - 1<L.idxOf k) hj hat
 ·unfold befE
  by_cases h0:p=0
  ·rw[if_pos h0];exact Int.le_refl _
  ·rw [if_neg h0]
   have hj:L[p - 1]? =some L[p - 1]:=List.getElem?_eq_getElem (by omega)
   rw[hE _ _ hj];have:=hQ _ (List.getElem_mem (by omega:p - 1<L.length))
   omega
end Go.Proofs.YtlfekmbalgkmeaaGreatDoor
