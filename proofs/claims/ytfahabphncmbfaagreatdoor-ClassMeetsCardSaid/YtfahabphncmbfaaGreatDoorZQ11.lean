import Derived.Test.YtfahabphncmbfaaGreatDoorZQ10
import Derived.Test.YtfahabphncmbfaaGreatDoorZShelf
set_option linter.all false
set_option maxRecDepth 100000
set_option maxHeartbeats 16000000
namespace Go.Proofs.YtfahabphncmbfaaGreatDoor
open Go.RowKit
open _root_.Array renaming getElem?_eq_getElem→ZS,getElem?_eq_some_iff→Zk,getElem?_toList→Y9
open Go.Lib renaming hid→Zf
open List renaming append_assoc→Yr,finRange→YR,getD_cons_succ→ZG,getD_eq_getElem?_getD→Zi,getElem?_append_left→Ym,getElem?_eq_getElem→Zh,getElem?_eq_some_iff→Zs,getElem?_map→ZO,getElem_mem→Zz,length_append→Zq,length_map→ZH,length_take→ZP,map_append→Yk,mem_of_getElem?→ZC,take_of_length_le→Z6
open Nat renaming le_refl→Zm,zero_le→Zu
open Go.Proofs.Tryz renaming prog→Zg
open Go renaming cell_of_row→Yaf,execOp→Yae
open Go.Proofs.Tryz
section
variable {α: Type}[Inhabited α]
theorem ZdR(enc:α->Value)(w:World)(blk m:Nat)(dk:Array α)(os:Array Obj)(k:Nat)(hk:k<w.heap.size):
  (sortWorld enc w blk 0 m dk os).heap[k]?=if blk=k then(w.heap[k]?).map (Go.Sort.onCells (Go.Sort.putCells enc 0 dk))else w.heap[k]?:=by
 show((w.heap.modify blk (Go.Sort.onCells (Go.Sort.putCells enc 0 dk)))++os)[k]?=_;rw[Array.getElem?_append,Zc (by rw[Array.size_modify];exact hk),Array.getElem?_modify]
theorem Zci(enc:α->Value)(w:World)(blk m:Nat)(dk:Array α)(os:Array Obj){B:Nat}(hB:B<=blk)(hs:B<=w.heap.size):Below B w (sortWorld enc w blk 0 m dk os):=by
 refine⟨rfl,rfl,rfl,?_,fun k hk=> ?_⟩
 ·show _ <= ((w.heap.modify blk (Go.Sort.onCells (Go.Sort.putCells enc 0 dk))) ++ os).size
  rw[Array.size_append,Array.size_modify];omega
 ·rw[ZdR enc w blk m dk os k (by omega),Zb (by omega)]
theorem ZhI{f:α->Int}{enc:α->Value}(he:∀a,enc a=.int .i64 (f a)){w:World}{base g n c:Nat}{zs:List Int}(m:Nat)(dk:Array α)(os:Array Obj)(hn:zs.length=n)(hd:dk.size=n)(h:OwnI w base (.slice (some ⟨g,0,none⟩) n c) zs):
  OwnI (sortWorld enc w g 0 m dk os) base (.slice (some ⟨g,0,none⟩) n c) (dk.toList.map f):=by
 obtain⟨h0,h⟩:=h;rcases h with⟨h1,_⟩|⟨g',cap,cur,h1,h2,h3,h4,h5,h6,h7⟩
 ·injection h1 with h1;cases h1
 ·injection h1 with e1 e2 e3
  injection e1 with e1;injection e1 with e1;subst e1 e3;have hg:=(Zk.1 h3).1;have hl:(dk.toList.map f).length=n:=by rw[ZH,Array.length_toList,hd]
  refine⟨by rw[ZH,Nat.mul_one],.inr ⟨g,c,Go.Sort.putCells enc 0 dk cur,by rw[hl],h2,?_,by rw[hl];omega,h5,?_,?_⟩⟩
  ·rw [ZdR enc w g m dk os g hg,Zc rfl,h3]
   rfl
  ·unfold Go.Sort.putCells
   rw[Array.size_mapIdx];exact h6
  ·apply List.ext_getElem?
   intro k;rw[hl,Nat.mul_one,List.getElem?_take,ZO,ZO];by_cases hk:k<n
   ·rw [Zc hk]
    unfold Go.Sort.putCells;have hc:k<cur.size:=by omega
    rw[Y9,Array.getElem?_mapIdx,ZS hc,Option.map_some,Zc ⟨by omega,by omega⟩,Y9,ZS (by omega:k<dk.size),he,Nat.sub_zero,getElem!_pos dk k (by omega)];rfl
   ·rw [Zb hk,Y9,Array.getElem?_eq_none (by omega)]
    rfl
end
def cmpI(a b:Int):Int:=if a<b then -1 else if b<a then 1 else 0
theorem Ziy(a:Int)(w:World):Calls Zg 250 #[.int .i64 a] w fun e w'=>e=.returned (.bool false)/\w=w':=by go_enter func250,ntmps250;go_wp2;go_ret;exact⟨rfl,rfl⟩
theorem ZjG(a b:Int)(w:World):Calls Zg 226 #[.int .i64 a,.int .i64 b] w fun e w'=>e=.returned (.int .i64 (cmpI a b))/\w'=w:=by
 have C1:=Zf (Ziy a);have C2:=Zf (Ziy b);unfold cmpI;by_cases h1:a<b
 ·rw [Zc h1]
  go_enter func226,ntmps226;go_wp2_with fail;refine(C1.out _).mono ?_;rintro e w' ⟨rfl,rfl⟩;go_wp2_with fail;refine(C2.out _).mono ?_;rintro e w' ⟨rfl,rfl⟩;go_wp2;go_ret;exact⟨rfl,rfl⟩
 ·rw [Zb h1]
  by_cases h2:b<a
  ·rw [Zc h2]
   have h1':decide (a<b)=false:=Zd h1;clear h1;go_enter func226,ntmps226;go_wp2_with fail;refine(C1.out _).mono ?_;rintro e w' ⟨rfl,rfl⟩;go_wp2_with fail;refine(C2.out _).mono ?_;rintro e w' ⟨rfl,rfl⟩;go_wp2;go_ret;exact⟨rfl,rfl⟩
  ·rw [Zb h2]
   have h1':decide (a<b)=false:=Zd h1;have h2':decide (b<a)=false:=Zd h2;clear h1 h2;go_enter func226,ntmps226;go_wp2_with fail;refine(C1.out _).mono ?_;rintro e w' ⟨rfl,rfl⟩;go_wp2_with fail;refine(C2.out _).mono ?_;rintro e w' ⟨rfl,rfl⟩;go_wp2;go_ret;exact⟨rfl,rfl⟩
theorem Zps(F:Option Addr)(nf fc:Nat)(fs:List (Int×Int×Int))(gb i j:Nat)(w:World)(B:Nat)(hm:fs.length=nf)(hl:nf<=1000)(hi:i<nf)(hj:j<nf)(hT:Trips w B F fs)(hbox:w.cell? ⟨gb,4,none⟩=some (.slice F nf fc)):
  Calls Zg 225 #[.int .i64 i,.int .i64 j,.pointer (some ⟨gb,0,none⟩)] w fun e w'=>e=.returned (.int .i64 (cmpI (Zap fs i).2.2 (Zap fs j).2.2))/\∃q,w'=w.drewN q:=by
 obtain⟨b,off,x1,x2,x3,rfl,_,hk1,d1,d2,d3⟩:=hT.at_ (k:=i) (by omega);obtain⟨b',off',y1,y2,y3,e,_,hk2,f1,f2,f3⟩:=hT.at_ (k:=j) (by omega);injection e with e;injection e with e1 e2;subst e1 e2;have g1:(Zap fs i).2.2=x3:=by unfold Zap;rw[Zi,hk1];rfl
 have g2:(Zap fs j).2.2=y3:=by unfold Zap;rw[Zi,hk2];rfl
 rw[g1,g2];have C:=Zf (ZjG x3 y3);generalize cmpI x3 y3=r at C⊢;clear hT hk1 hk2 d1 d2 f1 f2 g1 g2;go_enter func225,ntmps225;go_wp2
 go_quiet (first
  |(go_at_call 226;exact Calls.quiet_of_same (C.out _)))
 go_wp2;go_ret;exact⟨rfl,_,rfl⟩
theorem Zpt(a b:Int):cmpI a b<0↔a<b:=by
 unfold cmpI;split
 ·exact⟨fun _=>by assumption,fun _=>by decide⟩
 ·split
  ·exact⟨fun h=>Za h,fun h=>by omega⟩
  ·exact⟨fun h=>Za h,fun h=>by omega⟩
theorem Zdg{α:Type}(f:α->Int)(x y:α):ltOf (fun a b=>cmpI (f a) (f b)) x y=decide (f x<f y):=by unfold ltOf;rw[decide_eq_decide];exact Zpt _ _
theorem Zpu{α:Type}[Inhabited α](f:α->Int):Go.Sort.SWO (ltOf fun a b=>cmpI (f a) (f b)) where
 irrefl x:=by rw[Zdg];simp
 trans x y z h1 h2:=by rw[Zdg]at *;simp at *;omega
 ntrans x y z h1 h2:=by rw[Zdg]at *;simp at *;omega
theorem Zpv(F:Option Addr)(nf fc:Nat)(ps fs:List (Int×Int×Int))(x:Int)(gb:Nat)(A:Option Addr)(k c:Nat)(w:World)(base:Nat)(hm:fs.length=nf)(hl:nf<=1000)(hps:ZaM ps)(hfs:FutsOk ps fs)
    (hk:(ownF fs x nf).length=k)(hO:OwnI w base (.slice A k c) (nums (ownF fs x nf)))(hb:base<=w.heap.size)(hT:Trips w base F fs)(hgb:gb<base)(hbox:w.cell? ⟨gb,4,none⟩=some (.slice F nf fc)):
    Calls Zg 224 #[.slice A k c,.func (.func 225) #[] #[.pointer (some ⟨gb,0,none⟩)]] w fun e w'=>e=.returned (.tuple #[])/\(touL fs x).length=k/\OwnI w' base (.slice A k c) (nums (touL fs x))/\Below base w w':=by
  subst hm;cases k with
  | zero =>
    have h1:ownF fs x fs.length= []:=List.eq_nil_of_length_eq_zero hk;have h2:([]:List Nat)=touL fs x:=Zef hps hfs hk [] (by rw[List.finRange_zero]) List.Pairwise.nil;refine(Tryz.slices_SortFunc_none (α:=Nat) A c (.func (.func 225) #[] #[.pointer (some ⟨gb,0,none⟩)]) w).mono ?_
    rintro e w' ⟨he,rfl⟩;rw[h1]at hO;rw[<-h2];exact⟨he,rfl,hO,Below.refl _ _⟩
  | succ m =>
    obtain⟨pl,hpl⟩:∃pl,pl=ownF fs x fs.length:=⟨_,rfl⟩;rw[<-hpl]at hk hO;obtain⟨g,rfl,hbg,hgl,hfz⟩:∃g,A=some ⟨g,0,none⟩/\base<=g/\g<w.heap.size/\∀j,w.frozen? ⟨g,j,none⟩=false:=by
      rcases hO.2 with⟨_,h2⟩|⟨g,cap,cur,h1,h2,h3,_⟩
      · rw[Zai,hk]at h2;cases h2
      · injection h1 with h1;refine⟨g,h1,h2,(Zk.1 h3).1,fun j=> ?_⟩;simp[World.frozen?,h3]
    have hcell:∀j,j<m+1->w.cell? ⟨g,0+j,none⟩=some (.int .i64 (plAt pl j:Nat)):=fun j hj=>by
      obtain⟨b',o',z,e,_,hz,hc⟩:=hO.ints.at_ (k:=j) (by rw[Zai];omega);injection e with e;injection e with e1 e2;subst e1 e2;obtain⟨y,rfl,hy⟩:=Zpz hz;have:plAt pl j=y:=by unfold plAt;rw[Zi,hy];rfl
      rw[this];exact hc
    have hd:(YR (m+1)).toArray.size=m+1:=by simp
    have hdj:∀j (hj:j<m+1),(YR (m+1)).toArray[j]! =⟨j,hj⟩:=fun j hj=>by rw[getElem!_pos _ j (by rw[hd];exact hj)];simp
    have hin:∀i:Fin (m+1),plAt pl i.val<fs.length/\(Zap fs (plAt pl i.val)).2.1=x:=fun i=>by rw[hpl];exact mem_ownF.mp (Zk6 (by rw[<-hpl];have:=i.isLt;omega))
    have hinj:∀i j:Fin (m+1),atOf fs pl i.val=atOf fs pl j.val->i=j:=fun i j h=>by
      have e:=ZjK hfs.once (hin i).1 (hin j).1 (Prod.ext ((hin i).2.trans (hin j).2.symm) h);unfold plAt at e;have hi:i.val<pl.length:=by have:=i.isLt;omega
      have hj:j.val<pl.length:=by have:=j.isLt;omega
      rw[Zi,Zh hi,Zi,Zh hj]at e;have hnd:=Zg5 fs x fs.length;rw[<-hpl]at hnd;exact Fin.ext ((List.getElem_inj (h₀:=hi) (h₁:=hj) hnd).mp (by simpa using e))
    have hcon:=Tryz.slices_SortFunc_total (α:=Fin (m+1)) (fun i=> .int .i64 (plAt pl i.val:Nat)) (fun _=>rfl) (fun i j=>cmpI (atOf fs pl i.val) (atOf fs pl j.val)) (Zpu fun i:Fin (m+1)=>atOf fs pl i.val) 225 #[.pointer (some ⟨gb,0,none⟩)] g 0 c (YR (m+1)).toArray w
      (Za1 func225 (by kernel_rfl) rfl)
      (CmpReads.lays fun M os dk hdk i j=>Zps F fs.length fc fs gb (plAt pl i.val) (plAt pl j.val) _ base rfl hl (hin i).1 (hin j).1 (hT.below (Zci _ w g M dk os hbg hb)) (((Zci _ w g M dk os hbg hb).cell hgb).trans hbox))
      (fun j hj=>⟨by rw[hdj j (by rwa [hd]at hj)];exact hcell j (by rwa [hd]at hj),hfz _⟩) hgl (by rw[hd];have:=Zk5 fs x fs.length;rw[<-hpl]at this;omega)
      (fun i j h1 h2=>by rw[Zdg (fun i:Fin (m+1)=>atOf fs pl i.val)]at h1 h2;simp only[decide_eq_false_iff_not]at h1 h2;exact hinj i j (by omega))
    rw[hd]at hcon;refine hcon.mono ?_;rintro e w' ⟨he,n,os,rfl⟩;obtain⟨S,hS⟩:∃S,S=(YR (m+1)).toArray.toList.mergeSort (fun i j=> !(ltOf fun i j:Fin (m+1)=>cmpI (atOf fs pl i.val) (atOf fs pl j.val)) j i):=⟨_,rfl⟩;have hperm:S.Perm (YR (m+1)):=by rw[hS];exact List.mergeSort_perm _ _
    have hsort:S.Pairwise fun i j:Fin (m+1)=>atOf fs pl i.val<=atOf fs pl j.val:=by
      rw[hS];refine(List.pairwise_mergeSort (le:=fun i j=> !(ltOf fun i j:Fin (m+1)=>cmpI (atOf fs pl i.val) (atOf fs pl j.val)) j i) ?_ ?_ _).imp fun{i j} h=> ?_
      · intro a b c h1 h2;rw[Zdg (fun i:Fin (m+1)=>atOf fs pl i.val)]at *;simp at *;omega
      · intro a b;rw[Zdg (fun i:Fin (m+1)=>atOf fs pl i.val),Zdg (fun i:Fin (m+1)=>atOf fs pl i.val)];simp;omega
      · rw[Zdg (fun i:Fin (m+1)=>atOf fs pl i.val)]at h;simp at h;exact h
    have hmap:(S.map fun i:Fin (m+1)=>plAt pl i.val)=touL fs x:=by have h:=Zef hps hfs (by rw[<-hpl];exact hk) S hperm (by rw[<-hpl];exact hsort);rw[<-hpl]at h;exact h
    have hlen:(touL fs x).length=m+1:=by rw[<-hmap,ZH,hperm.length_eq,List.length_finRange]
    have hnum:S.map (fun i:Fin (m+1)=>((plAt pl i.val:Nat):Int))=nums (touL fs x):=by rw[<-hmap];unfold nums;rw[List.map_map];rfl
    rw[<-hS];refine⟨he,hlen,?_,Zci _ w g n _ os hbg hb⟩;have ho:=ZhI (f:=fun i:Fin (m+1)=>((plAt pl i.val:Nat):Int)) (enc:=fun i=> .int .i64 (plAt pl i.val:Nat)) (fun _=>rfl) n S.toArray os (by rw[Zai];exact hk) (by rw[List.size_toArray,hperm.length_eq,List.length_finRange]) hO;rw[List.toList_toArray,hnum]at ho;exact ho
open Classical in
noncomputable def Zcv (T:Task) (x:Int):List Int:=if MayT T then nums (touL T.futures x)else []
theorem Zf1(w:World)(base:Nat):OwnI w base (.slice none 0 0) []:=⟨rfl,.inl ⟨rfl,rfl⟩⟩
theorem ZlS{w w':World}(hb:Below w.heap.size w w'):GotOwn [] w (.returned (.slice none 0 0)) w':=⟨none,0,rfl,Zf1 _ _,hb⟩
theorem ZsL{w w0 wr:World}{o:Obj}(h0:w0=w.alloc o)(h:Below (w.heap.size+1) w0 wr):w.heap.size+1<=wr.heap.size:=by have:=h.size;rw[h0]at this;simpa using this
theorem Zk3{w w0 wr:World}{o:Obj}(h0:w0=w.alloc o)(h:Below (w.heap.size+1) w0 wr):Below w.heap.size w wr:=by refine Below.trans ?_ (h.mono (by omega));rw[h0];exact Zaa _
theorem Ziz(s:Sh)(T:Task)(x:Int)(w:World)(hD:IsD w s T):
  Calls Zg 196 #[s.arg T.period T.deadline,.int .i64 x] w (GotOwn (Zcv T x) w):=by
 obtain⟨P,np,pc,E,ne,ec,F,nf,fc,R,nr,rc⟩:=s;obtain⟨p,q,ps,es,fs,bs⟩:=T;have B0:=Zf (BxI.start hD p q);have C:=Zf (fun(W':World) (h:IsD W' ⟨P,np,pc,E,ne,ec,F,nf,fc,R,nr,rc⟩ ⟨p,q,ps,es,fs,bs⟩)=>ZeP ⟨P,np,pc,E,ne,ec,F,nf,fc,R,nr,rc⟩ ⟨p,q,ps,es,fs,bs⟩ W' h);have HD:=Zf hD;have hm:=hD.t.hf;have hl:=hD.few.nf;simp only at hm hl;rw[hm]at hl;have HM:=Zf hm;simp only[Sh.arg]at C⊢;obtain⟨w0,hw0⟩:∃w0,w0=w.alloc (.cells #[.int .i64 p,.int .i64 q,.slice P np pc,.slice E ne ec,.slice F nf fc,.slice R nr rc] 64):=⟨_,rfl⟩;have HW0:=Zf hw0;rw[<-hw0]at B0;clear hD hm;by_cases hM:MayT ⟨p,q,ps,es,fs,bs⟩
 ·have HV:=Zf (show Zcv ⟨p,q,ps,es,fs,bs⟩ x = nums (touL fs x) by unfold Zcv; rw [Zc hM])
  have HMAY:=Zf hM;have C1:=Zf (fun W' h=>by have:=C.out W' h;rwa [chkT_zero.mpr hM]at this);obtain⟨l,hl0⟩:∃l,l=Zcv ⟨p,q,ps,es,fs,bs⟩ x:=⟨_,rfl⟩;rw[<-hl0]at HV⊢;clear hM C hl0;rw[hw0]at B0;clear hw0;go_enter func196,ntmps196;go_wp2_with fail;refine(C1.out _ B0.out.d).mono ?_;rintro e w1 ⟨rfl,b⟩;have HB1:Hid (Below (w.heap.size+1) w0 w1):=Zf (by rw[HW0.out];exact b.mono (by simp));have hbox1:w1.cell? ⟨w.heap.size,4,none⟩=some (.slice F nf fc):=(B0.out.next b).b.c4;clear b B0;go_wp2;go_loopw [5,14] (fun v i wr=>∃(t k:Nat) (A':Option Addr) (c':Nat),t<=nf/\i=.int .i64 t/\v=.slice A' k c'/\Hid ((ownF fs x t).length=k)/\Hid (OwnI wr (w.heap.size+1) (.slice A' k c') (nums (ownF fs x t)))/\Hid (Below (w.heap.size+1) w0 wr)) (fun _ i _=>nf - (intOf i).toNat)
  case atStart=>exact⟨0,0,none,0,Zu _,rfl,rfl,Zf rfl,Zf (Zf1 _ _),HB1⟩
  case round=>
   obtain⟨t,k,A',c',ht,rfl,rfl,HK,HO,HB⟩:=hrel;clear hbox1 HB1;have hsz:=ZsL HW0.out HB.out;have HDr:=Zf (HD.out.below (Zk3 HW0.out HB.out));have hk:k<=400:=by have h1:=Zk5 fs x t;rw[HK.out]at h1;omega
   by_cases hlt:t<nf
   ·obtain ⟨bk,o,f1,f2,f3,hFe,hbg,hft,d1,d2,d3⟩:=(HD.out.t.futures.below (Zk3 HW0.out HB.out)).at_ (k:=t) (by rw [HM.out]; exact hlt)
    simp only at hFe;subst hFe;have HS:=Zf (Znq (x:=x) hft);have HB5:Hid (∀o5,Below (w.heap.size+1) w0 (wr.alloc o5)):=Zf (fun o5=>HB.out.trans ((Zaa o5).mono hsz));have HO5:=Zf (fun o5=>HO.out.alloc o5);clear hft;by_cases h1:f2=x
    ·have HS2:=Zf (show ownF fs x (t + 1) = ownF fs x t ++ [t] by rw [HS.out,Zc h1])
     have g1:(f2==x)=true:=by simpa using h1
     clear h1;go_wp2_with(at_builtin;refine ZaV rfl _ _ rfl (wr.alloc (.cells #[.int .i64 f1,.int .i64 f2,.int .i64 f3] 220)) (w.heap.size+1) _ (nums (ownF fs x t)) t k (by rw[Zai];exact HK.out) (by omega) (HO5.out _) (by simp;omega) rfl (by simp;rfl) ?_;intro A4 c4' w4 HO4 HB4;(have HO4':=Zf HO4);(have HB4':=Zf HB4);clear HO4 HB4);go_roundw
     case rel=>exact⟨t+1,k+1,A4,c4',by omega,by go_num,rfl,Zf (by rw[HS2.out,Zq,HK.out];rfl),Zf (by rw[HS2.out,ZcH];exact HO4'.out),Zf ((HB5.out _).trans HB4'.out)⟩
     case measure=>simp[intOf];omega
    ·have HS2:=Zf (show ownF fs x (t + 1) = ownF fs x t by rw [HS.out,Zb h1])
     have g1:(f2==x)=false:=by simpa using h1
     clear h1;go_wp2;go_roundw
     case rel=>exact⟨t+1,k,A',c',by omega,by go_num,rfl,Zf (by rw[HS2.out];exact HK.out),Zf (by rw[HS2.out];exact HO5.out _),Zf (HB5.out _)⟩
     case measure=>simp[intOf];omega
   ·have e: t = nf:=by omega
    have HST:=Zf (Zpv F nf fc ps fs x w.heap.size A' k c' wr (w.heap.size+1) HM.out (by omega) HMAY.out.parts HMAY.out.futures (by rw[<-e];exact HK.out) (by rw[<-e];exact HO.out) hsz
     ((HD.out.t.futures.below (Zk3 HW0.out HB.out)).more (by omega)) (by omega) ((HB.out.cell (Nat.lt_succ_self _)).trans (by rw[HW0.out,World.cell?_alloc_at _ _ _ _ rfl];rfl)))
    clear e;go_wp2_with fail;refine HST.out.mono ?_;rintro e w2 ⟨rfl,hlen,hO2,hb2⟩;have HL2:=Zf hlen;have HO2:=Zf hO2;have HB2:=Zf hb2;clear hlen hO2 hb2;go_wp2;go_ret;refine⟨A',c',by rw[HV.out,Zai,HL2.out];rfl,?_,(Zk3 HW0.out (HB.out.trans HB2.out))⟩;rw[HV.out,Zai,HL2.out];exact HO2.out.down (by omega)
 ·have HV: Zcv ⟨p,q,ps,es,fs,bs⟩ x = []:=by unfold Zcv; rw [Zb hM]
  rw[HV];have hc:(chkT ⟨p,q,ps,es,fs,bs⟩ !=0)=true:=by rw[bne_iff_ne];exact fun k=>hM (chkT_zero.mp k)
  obtain⟨r,hr⟩:∃r,r=chkT ⟨p,q,ps,es,fs,bs⟩:=⟨_,rfl⟩;rw[<-hr]at C hc;rw[hw0]at B0;clear hM hr HV hw0;go_enter func196,ntmps196;go_wp2_with fail;refine(C.out _ B0.out.d).mono ?_;rintro e w1 ⟨rfl,b⟩;have B1:=Zf (B0.out.next b);clear b;go_wp2;go_ret;exact ZlS B1.out.b.bel
theorem Znl{fs:List (Int×Int×Int)}{l:List Nat}{j k:Nat}(h:l[j]?=some k):((l.take (j+1)).map fun k=>(Zap fs k).2.2)=((l.take j).map fun k=>(Zap fs k).2.2)++ [(Zap fs k).2.2]:=by rw[List.take_add_one,h,Yk];rfl
theorem Zq7{fs:List (Int×Int×Int)}{x:Int}{j k:Nat}(h:(touL fs x)[j]?=some k):k<fs.length:=(mem_touK.mp (ZC h)).1
theorem Zpw(s:Sh)(T:Task)(x:Nat)(w:World)(hD:IsD w s T)(hM:MayT T)(hx:x<T.parts.length):
  Calls Zg 137 #[s.arg T.period T.deadline,.int .i64 (x:Int)] w (GotOwn (Zbs T.futures T.parts x) w):=by
 obtain⟨P,np,pc,E,ne,ec,F,nf,fc,R,nr,rc⟩:=s;obtain⟨p,q,ps,es,fs,bs⟩:=T;have B0:=Zf (BxI.start hD p q);have hm:=hD.t.hf;have hp:=hD.t.hp;have hl:=hD.few.nf;have hlp:=hD.few.np;simp only at hm hl hp hlp hx;rw[hm]at hl;rw[hp]at hlp hx;have HM:=Zf hm;have HP:=Zf hp;have HV:Zcv ⟨p,q,ps,es,fs,bs⟩ (x:Int)=nums (touL fs (x:Int)):=by unfold Zcv;rw[Zc hM]
 have C:=fun W' (h:IsD W' ⟨P,np,pc,E,ne,ec,F,nf,fc,R,nr,rc⟩ ⟨p,q,ps,es,fs,bs⟩)=>Ziz ⟨P,np,pc,E,ne,ec,F,nf,fc,R,nr,rc⟩ ⟨p,q,ps,es,fs,bs⟩ (x:Int) W' h;rw[HV]at C;have HC:=Zf C;have hnt:(touL fs (x:Int)).length<=400:=by have:=ZhJ fs (x:Int) 99;unfold touL;omega
 obtain⟨nt,hntE⟩:∃nt,nt=(touL fs (x:Int)).length:=⟨_,rfl⟩;rw[<-hntE]at hnt;have HNT:=Zf hntE;simp only[Sh.arg]at HC⊢;obtain⟨w0,hw0⟩:∃w0,w0=w.alloc (.cells #[.int .i64 p,.int .i64 q,.slice P np pc,.slice E ne ec,.slice F nf fc,.slice R nr rc] 64):=⟨_,rfl⟩;rw[<-hw0]at B0;clear hD hm hp hM HV C hntE;obtain⟨c0,c1,c2,c3,c4,c5⟩:=B0.out.b.cells;go_enter func137,ntmps137;go_wp2_with fail;rw[<-hw0];clear hw0;refine(HC.out _ B0.out.d).mono ?_;rintro e w1 ⟨A,c,rfl,hO,b1⟩;rw[Zai,<-HNT.out]at hO⊢;have B1:=Zf (B0.out.next b1);have HO:=Zf hO;clear hO b1 HC B0 c0 c1 c2 c3 c4 c5;go_wp2;go_loopw [5,12] (fun v i wr=>∃(j c':Nat) (A':Option Addr),j<=nt/\i=.int .i64 (j:Int)/\v=.slice A' j c'/\Hid (OwnI wr w1.heap.size (.slice A' j c') (((touL fs (x:Int)).take j).map fun k=>(Zap fs k).2.2))/\Hid (Below w1.heap.size w1 wr)) (fun _ i _=>nt - (intOf i).toNat)
 case atStart=>exact⟨0,0,none,Zu _,rfl,rfl,Zf (Zf1 _ _),Zf (Below.refl _ _)⟩
 case round=>
  obtain⟨j,c',A',hj,rfl,rfl,HOJ,HBJ⟩:=hrel;have HSZ:=Zf HBJ.out.size;have B2:=Zf (B1.out.next HBJ.out);have k2:=B2.out.b.c2;have k4:=B2.out.b.c4;have hlj:(((touL fs (x:Int)).take j).map fun k=>(Zap fs k).2.2).length=j:=by rw[ZH,ZP,<-HNT.out];omega
  have HLJ:=Zf hlj;by_cases hlt:j<nt
  ·obtain ⟨k,hk⟩:∃ k,(touL fs (x: Int))[j]?= some k:=⟨_,Zh (by rw [<- HNT.out]; exact hlt)⟩
   have hkf:k<nf:=by have:=Zq7 hk;rw[HM.out]at this;exact this
   have HET:=Zf (Znl (fs:=fs) hk);obtain⟨gb,go,eA,hq⟩:=HO.out.at_ (j:=j) (by rw[Zai,<-HNT.out];exact hlt);have hqv:(nums (touL fs (x:Int))).getD j 0=(k:Int):=by unfold nums;rw[Zi,ZO,hk];rfl
   rw[hqv]at hq;subst eA;have hq1:wr.cell? ⟨gb,go+j,none⟩=some (.int .i64 (k:Int)):=(HBJ.out.cell (World.block_lt_of_cell? _ _ hq)).trans hq;obtain⟨fb,fo,f1,f2,f3,hFe,hfb,hft,d1,d2,d3⟩:=B2.out.d.t.futures.at_ (k:=k) (by rw[HM.out];exact hkf);simp only at hFe;subst hFe;have hfa:(Zap fs k).2.2=f3:=by unfold Zap;rw[Zi,hft];rfl
   have HFA:=Zf hfa;clear hk hq hqv hft hfa hlj d1 d2;go_wp2_with(at_builtin;refine ZaV rfl _ _ rfl wr w1.heap.size _ _ f3 j HLJ.out (by omega) HOJ.out HSZ.out rfl rfl ?_;intro A4 c4' w4 HO4 HB4;(have HO4':=Zf HO4);(have HB4':=Zf (HBJ.out.trans HB4));clear HO4 HB4);go_roundw
   case rel=>exact⟨j+1,c4',A4,hlt,by go_num,rfl,Zf (by rw[HET.out,HFA.out];exact HO4'.out),HB4'⟩
   case measure=>simp[intOf];omega
  ·obtain rfl: nt = j:=by omega
   obtain⟨pb,po,p1,p2,p3,hPe,hpb,hpt,d1,d2,d3⟩:=B2.out.d.t.parts.at_ (k:=x) (by rw[HP.out];exact hx);simp only at hPe;subst hPe;have htk:(touL fs (x:Int)).take nt=touL fs (x:Int):=Z6 (by rw[<-HNT.out];exact Zm _);have hpd:(ps.getD x (0,0,0)).2.2=p3:=by rw[Zi,hpt];rfl
   have HEL:Hid (Zbs fs ps x=(((touL fs (x:Int)).take nt).map fun k=>(Zap fs k).2.2)++ [p3]):=Zf (by unfold Zbs;rw[htk,hpd]);have HEN:Hid ((Zbs fs ps x).length=nt+1):=Zf (by rw[Zei];unfold nst;rw[<-HNT.out]);clear htk hpd hpt d1 d2 hlj;go_wp2_with(at_builtin;refine ZaV rfl _ _ rfl wr w1.heap.size _ _ p3 nt HLJ.out (by omega) HOJ.out HSZ.out rfl rfl ?_;intro A4 c4' w4 HO4 HB4;(have HO4':=Zf HO4);(have HB4':=Zf (HBJ.out.trans HB4));clear HO4 HB4);go_ret;refine⟨A4,c4',by rw[HEN.out];rfl,?_,B1.out.b.bel.trans (HB4'.out.mono B1.out.b.bel.size)⟩;rw[HEN.out,HEL.out];exact HO4'.out.down B1.out.b.bel.size
open Go.Maps
theorem Ints.cell_{w:World}{B j:Nat}{A:Option Addr}{l:List Int}(h:Ints w B A l)(hj:j<l.length):∃b off,A=some ⟨b,off,none⟩/\b<B/\w.cell? ⟨b,off+j,none⟩=some (.int .i64 (l.getD j 0)):=by obtain⟨b,off,e,hb,hc⟩:=h (by omega);exact⟨b,off,e,hb,hc j hj⟩
theorem ZaX{w:World}{b n x k:Nat}{D:DataW Unit}{f:Nat->Nat}(h:OwnM w b n D)(ht:Tells D f x)(hk:k<x)(hx:x<=1000000):(Instr.lookup 188 (.map (some b)) (.int .i64 (k:Int)) false).run Zg w=.ok (.int .i64 ((f k:Nat):Int)) w:=by obtain⟨c,hr,hat,_⟩:=h.lookup_int law_int underlying188 underlying3 (ZiA w) (ZjI (n:=(k:Int)) (by omega) (by omega));rw[ht k hk]at hat;injection hat with h1;injection h1 with _ h2;rw[hr,h2]
def inE(fs:List (Int×Int×Int))(n:Nat)(l:List Int):List (Int×Int):=l.map fun i=>(((lasN fs i.toNat:Nat):Int),((n:Nat):Int))
def outE(fs:List (Int×Int×Int))(n:Nat)(l:List Int):List (Int×Int):=l.map fun i=>(((n:Nat):Int),((firN fs i.toNat:Nat):Int))
theorem Zq8{fs:List (Int×Int×Int)}{n j k:Nat}{l:List Int}(h:l[j]?=some (k:Int)):inE fs n (l.take (j+1))=inE fs n (l.take j)++ [(((lasN fs k:Nat):Int),((n:Nat):Int))]:=by unfold inE;rw[List.take_add_one,h,Yk];rfl
theorem Zpx{fs:List (Int×Int×Int)}{n j k:Nat}{l:List Int}(h:l[j]?=some (k:Int)):outE fs n (l.take (j+1))=outE fs n (l.take j)++ [(((n:Nat):Int),((firN fs k:Nat):Int))]:=by unfold outE;rw[List.take_add_one,h,Yk];rfl
theorem ZjH(fs:List (Int×Int×Int))(np base gb b1 b2 n1 n2:Nat)(D1 D2:DataW Unit)(vW vE vP:Value)(W:List Int)(E P:List (Int×Int))(x N mi ci mo co:Nat)(Ai Ao:Option Addr)(li lo:List Int)(w:World)(hnp:np<=400)(hW:W.length<=400)(hP:P.length=N)(hN:N<=400)(hE:E.length<=500)(hx:x<=400)(hli:li.length=mi)(hlo:lo.length=mo)(hmi:mi<=100)(hmo:mo<=100)
  (hzi:∀z∈li,0<=z/\z<(np:Int))(hzo:∀z∈lo,0<=z/\z<(np:Int))(h:Gl base gb b1 b2 n1 n2 D1 D2 vW vE vP W E P w)(hIi:Ints w base Ai li)(hIo:Ints w base Ao lo)(h1:Tells D1 (firN fs) np)(h2:Tells D2 (lasN fs) np):
  Calls Zg 140 #[.pointer (some ⟨gb,0,none⟩),.int .i64 (x:Int),.agg #[.slice Ai mi ci,.slice Ao mo co]] w fun e w'=>e=.returned (.tuple #[])/\∃vW' vE' vP',Gl base gb b1 b2 n1 n2 D1 D2 vW' vE' vP' (W++ [1]) (E++(inE fs N li++outE fs N lo)) (P++ [(-1,(x:Int))]) w'/\Below base w w':=by
 have hbw:base<=w.heap.size:=by have:=h.le;have:=h.lt;omega
 obtain⟨w0,hw0⟩:∃w0,w0=w.alloc (.cells #[.slice Ai mi ci,.slice Ao mo co] 122):=⟨_,rfl⟩;have hb0:Below w.heap.size w w0:=by rw[hw0];exact Zaa _
 have hr0:w0.heap[w.heap.size]?=some (.cells #[.slice Ai mi ci,.slice Ao mo co] 122 (0,0)):=by rw[hw0];exact heap_alloc_new w _
 have HR0:=Zf hr0;have HB0:=Zf (hb0.mono hbw);have HG0:=Zf (h.below hb0);have HI:=Zf hIi;have HO:=Zf hIo;have HT1:=Zf h1;have HT2:=Zf h2;have HLI:=Zf hli;have HLO:=Zf hlo;have HZI:=Zf hzi;have HZO:=Zf hzo;have CN:=ZiB base gb b1 b2 n1 n2 D1 D2 vW vE vP W E P (-1) (x:Int) 1 w0 _ _ (by omega) (by omega) HG0.out (Side.nil w0 base vW);rw[hP]at CN;have HCN:=Zf CN;clear h hb0 hr0 hIi hIo h1 h2 hli hlo hzi hzo CN hP;go_enter func140,ntmps140;go_wp2_with fail;rw[<-hw0];clear hw0;refine HCN.out.mono ?_;rintro e w1 ⟨rfl,uW,uP,hG1,_,b1',k1'⟩;have HG1:=Zf hG1;have HB1:=Zf (HB0.out.trans b1');have HK1:=Zf k1';have hbx:=k1' _ _ _ _ HR0.out (by decide) (by decide) (by decide) (by decide);have d0:=Yaf w1 w.heap.size 0 _ _ _ hbx;have d1:=Yaf w1 w.heap.size 1 _ _ _ hbx;simp at d0 d1;clear hG1 b1' k1' hbx HCN HG0;go_wp2;go_loopw [18] (fun iv wr=>∃(j:Nat) (vE':Value),j<=mi/\iv=.int .i64 (j:Int)/\Hid (Gl base gb b1 b2 n1 n2 D1 D2 uW vE' uP (W++ [1]) (E++inE fs N (li.take j)) (P++ [(-1,(x:Int))]) wr)/\Hid (Below base w wr)/\Hid (Keeps w0 wr)) (fun iv _=>mi - (intOf iv).toNat)
 case atStart=>exact⟨0,_,Zu _,rfl,Zf (by have h:=HG1.out;simpa[inE]using h),HB1,HK1⟩
 case round=>
  obtain⟨j,vE',hj,rfl,HGJ,HBJ,HKJ⟩:=hrel;clear HG1 HB1 HK1;by_cases hlt:j<mi
  ·obtain ⟨eb,eo,eA,heb,hq⟩:=HI.out.cell_ (j:=j) (by rw [HLI.out]; exact hlt)
   have hqr:=(HBJ.out.cell heb).trans hq;obtain⟨z,hz⟩:∃z,li[j]?=some z:=⟨_,Zh (by rw[HLI.out];exact hlt)⟩;have hzv:li.getD j 0=z:=by rw[Zi,hz];rfl
   obtain⟨hz0,hz1⟩:=HZI.out z (ZC hz);obtain⟨k,rfl⟩:∃k:Nat,z=(k:Int):=⟨z.toNat,by omega⟩;rw[hzv]at hqr;subst eA;have hkn:k<np:=by omega
   have HTK:=Zf (Zq8 (fs:=fs) (n:=N) hz);have c4:=HGJ.out.cell 4;simp at c4;have hlk:=ZaX HGJ.out.m2 HT2.out hkn (by omega);have CE:=Zee base gb b1 b2 n1 n2 D1 D2 uW vE' uP (W++ [1]) (E++inE fs N (li.take j)) (P++ [(-1,(x:Int))]) ((lasN fs k:Nat):Int) (N:Int) wr _ _ (by simp only[Zq,inE,outE,ZH,ZP];omega) HGJ.out (Side.nil wr base uW);obtain⟨nk,hnk⟩:∃nk,nk=lasN fs k:=⟨_,rfl⟩;rw[<-hnk]at hlk CE HTK;have HCE:=Zf CE;clear hq hz hzv CE hnk;go_wp2_with fail;refine HCE.out.mono ?_;rintro e w4 ⟨rfl,uE',hG4,_,b4,k4⟩;have HG4:=Zf hG4;have HB4:=Zf (HBJ.out.trans b4);have HK4:=Zf (HKJ.out.trans k4);clear hG4 b4 k4 HCE hqr hlk HGJ HBJ HKJ;go_wp2;go_roundw
   case rel=>exact⟨j+1,uE',hlt,by go_num,Zf (by rw[HTK.out];have h:=HG4.out;simpa only[Yr]using h),HB4,HK4⟩
   case measure=>simp[intOf];omega
  ·obtain rfl: mi = j:=by omega
   have htk:li.take mi=li:=Z6 (by rw[HLI.out];exact Zm _);have hG:=HGJ.out;rw[htk]at hG;have HGE:=Zf hG;have hbx:=HKJ.out _ _ _ _ HR0.out (by decide) (by decide) (by decide) (by decide);have d0:=Yaf wr w.heap.size 0 _ _ _ hbx;have d1:=Yaf wr w.heap.size 1 _ _ _ hbx;simp at d0 d1;clear htk hG HGJ hbx;go_wp2;go_loopw [35] (fun iv wr=>∃(j:Nat) (vE':Value),j<=mo/\iv=.int .i64 (j:Int)/\Hid (Gl base gb b1 b2 n1 n2 D1 D2 uW vE' uP (W++ [1]) (E++inE fs N li++outE fs N (lo.take j)) (P++ [(-1,(x:Int))]) wr)/\Hid (Below base w wr)/\Hid (Keeps w0 wr)) (fun iv _=>mo - (intOf iv).toNat)
   case atStart=>exact⟨0,_,Zu _,rfl,Zf (by have h:=HGE.out;simpa[outE]using h),HBJ,HKJ⟩
   case round=>
    obtain⟨j,vE',hj,rfl,HGJ,HBJ,HKJ⟩:=hrel;clear HGE;by_cases hlt:j<mo
    ·obtain ⟨eb,eo,eA,heb,hq⟩:=HO.out.cell_ (j:=j) (by rw [HLO.out]; exact hlt)
     have hqr:=(HBJ.out.cell heb).trans hq;obtain⟨z,hz⟩:∃z,lo[j]?=some z:=⟨_,Zh (by rw[HLO.out];exact hlt)⟩;have hzv:lo.getD j 0=z:=by rw[Zi,hz];rfl
     obtain⟨hz0,hz1⟩:=HZO.out z (ZC hz);obtain⟨k,rfl⟩:∃k:Nat,z=(k:Int):=⟨z.toNat,by omega⟩;rw[hzv]at hqr;subst eA;have hkn:k<np:=by omega
     have HTK:=Zf (Zpx (fs:=fs) (n:=N) hz);have c3:=HGJ.out.cell 3;simp at c3;have hlk:=ZaX HGJ.out.m1 HT1.out hkn (by omega);have CE:=Zee base gb b1 b2 n1 n2 D1 D2 uW vE' uP (W++ [1]) (E++inE fs N li++outE fs N (lo.take j)) (P++ [(-1,(x:Int))]) (N:Int) ((firN fs k:Nat):Int) wr _ _ (by simp only[Zq,inE,outE,ZH,ZP];rw[HLI.out];omega) HGJ.out (Side.nil wr base uW);obtain⟨nk,hnk⟩:∃nk,nk=firN fs k:=⟨_,rfl⟩;rw[<-hnk]at hlk CE HTK;have HCE:=Zf CE;clear hq hz hzv CE hnk;go_wp2_with fail;refine HCE.out.mono ?_;rintro e w4 ⟨rfl,uE',hG4,_,b4,k4⟩;have HG4:=Zf hG4;have HB4:=Zf (HBJ.out.trans b4);have HK4:=Zf (HKJ.out.trans k4);clear hG4 b4 k4 HCE hqr hlk HGJ HBJ HKJ;go_wp2;go_roundw
     case rel=>exact⟨j+1,uE',hlt,by go_num,Zf (by rw[HTK.out];have h:=HG4.out;simpa only[Yr]using h),HB4,HK4⟩
     case measure=>simp[intOf];omega
    ·obtain rfl: mo = j:=by omega
     have htk:lo.take mo=lo:=Z6 (by rw[HLO.out];exact Zm _);have hG:=HGJ.out;rw[htk,Yr]at hG;have HGF:=Zf hG;clear htk hG;go_wp2;go_end0;exact⟨rfl,_,_,_,HGF.out,HBJ.out⟩
theorem Znm{ps fs:List (Int×Int×Int)}(hps:ZaM ps)(hf:FutsOk ps fs){k:Nat}(hk:k<fs.length):k∈touL fs (Zap fs k).2.1:=by
 have e:Zap fs k=fs[k]:=by unfold Zap;rw[Zi,Zh hk];rfl
 have h:=hf.each fs[k] (Zz hk);refine mem_touK.mpr ⟨hk,rfl,?_,?_⟩
 ·rw[e];exact h.first
 ·rw [e]
  have hu:=h.user;have hul:fs[k].2.1.toNat<ps.length:=by omega
  have h2:=h.last _ (Zh hul);have h3:=hps _ (Zz hul);unfold ZcG at h3;omega
theorem Zk4:∀(b:Int) (l:List Int) (p:Nat),p<l.length->(Zb5 b l).getD p 0=l.getD p 0 - (if p=0 then b else l.getD (p - 1) 0)
  |b, [],p,h=>by simp at h
  |b,x::l,0,h=>by simp[Zb5]
  | b, x :: l, p + 1, h => by
    have ih:=Zk4 x l p (by simpa using h);rw[Zb5,ZG,ih,ZG,Zb (by omega:¬p+1=0)]
    cases p with
    |zero=>simp
    |succ p=>simp
theorem ZqB{fs ps:List (Int×Int×Int)}{u p:Nat}(hp:p<nst fs u):∀np,u<np->(wPs fs ps np).getD (firN fs u+p) 0=(Zbs fs ps u).getD p 0 - befE (Zbs fs ps u) p
  |0,h=>by omega
  | x + 1, h => by
    rw[wPs];by_cases e:u=x
    · subst e;rw[Zi,List.getElem?_append_right (by rw[ZcT];omega),ZcT,Nat.add_sub_cancel_left,<-Zi,Zk4 0 _ p (by rw[Zei];exact hp)];rfl
    · have hl:firN fs u+p<(wPs fs ps x).length:=by
        rw[ZcT];have:firN fs (u+1)<=firN fs x:=by
          have:∀a b,a<=b->firN fs a<=firN fs b:=fun a b hab=>by
            induction b with
            |zero=>simp[Nat.le_zero.mp hab]
            | succ b ih =>
              rcases Nat.lt_or_ge a (b+1)with h1|h1
              · have:=ih (by omega);rw[firN];omega
              · rw[show a=b+1 by omega];exact Zm _
          exact this _ _ (by omega)
        rw[firN]at this;omega
      rw[Zi,Ym hl,<-Zi];exact ZqB hp x (by omega)
theorem Zq9{fs ps:List (Int×Int×Int)}{u p k:Nat}(h:(touL fs (u:Int))[p]?=some k):(Zbs fs ps u).getD p 0=(Zap fs k).2.2:=by have hp:=(Zs.mp h).1;unfold Zbs;rw[Zi,Ym (by rw[ZH];exact hp),ZO,h];rfl
structure FutWay(fs ps:List (Int×Int×Int))(k u q:Nat):Prop where
 lt:q<nst fs u
 hit:befE (Zbs fs ps u) q=(Zap fs k).2.2
 ahead:∀p,p<q->befE (Zbs fs ps u) p<(Zap fs k).2.2
 node:begN fs k=firN fs u+q
 nonneg:∀p,p<=q->0<=befE (Zbs fs ps u) p
 small:(Zap fs k).2.2<=99
theorem Zra{L:List Nat}{r:Nat->Nat->Prop}(hr:L.Pairwise r){i j m k:Nat}(hij:i<j)(hi:L[i]?=some m)(hj:L[j]?=some k):r m k:=by obtain⟨h1,rfl⟩:=Zs.mp hi;obtain⟨h2,rfl⟩:=Zs.mp hj;exact List.pairwise_iff_getElem.mp hr i j h1 h2 hij
theorem Zsh{L:List Nat}{k:Nat}(h:k∈L):L[L.idxOf k]?=some k/\L.idxOf k<L.length:=by have hpos:=List.idxOf_lt_length_iff.mpr h;exact⟨by rw[Zh hpos,List.getElem_idxOf hpos],hpos⟩
theorem Zrb{ps fs:List (Int×Int×Int)}(hps:ZaM ps)(hf:FutsOk ps fs){k u:Nat}(hk:k<fs.length)(hu:(Zap fs k).2.1=(u:Int)):∃q,FutWay fs ps k u q:=by
 have hm:=Znm hps hf hk;have hr:(touL fs (u:Int)).Pairwise fun i j=>(Zap fs i).2.2<(Zap fs j).2.2:=ZeM (x:=(u:Int)) hf.once 99;have h1:1<=(Zap fs k).2.2:=(mem_touK.mp hm).2.2.1;have hn:begN fs k=firN fs u+((touL fs (u:Int)).idxOf k+1):=by unfold begN;rw[hu,Int.toNat_natCast,Nat.add_assoc]
 have hE:∀(p m:Nat),(touL fs (u:Int))[p]?=some m->(Zbs fs ps u).getD p 0=(Zap fs m).2.2:=fun p m h=>Zq9 h;have hN:nst fs u=(touL fs (u:Int)).length+1:=rfl;have hQ:∀m∈touL fs (u:Int),1<=(Zap fs m).2.2:=fun m h=>(mem_touK.mp h).2.2.1;have h9:(Zap fs k).2.2<=99:=(mem_touK.mp hm).2.2.2;rw[hu]at hm;generalize touL fs (u:Int)=L at hm hr hn hE hN hQ;obtain⟨hat,hpos⟩:=Zsh hm;refine⟨L.idxOf k+1,⟨by omega,?_,fun p hp=> ?_,hn,fun p hp=> ?_,h9⟩⟩
 ·unfold befE
  rw[Zb (by omega),Nat.add_sub_cancel,hE _ _ hat]
 ·unfold befE
  by_cases h0:p=0
  ·rw[Zc h0];omega
  ·rw [Zb h0]
   have hj:L[p - 1]?=some L[p - 1]:=Zh (by omega);rw[hE _ _ hj];exact Zra hr (by omega:p - 1<L.idxOf k) hj hat
 ·unfold befE
  by_cases h0:p=0
  ·rw[Zc h0];exact Int.le_refl _
  ·rw [Zb h0]
   have hj:L[p - 1]?=some L[p - 1]:=Zh (by omega);rw[hE _ _ hj];have:=hQ _ (Zz (by omega:p - 1<L.length));omega
open Go
section
variable {P: Program}{ops: Array Oper}{Q: Exit -> Act -> World -> Prop}
theorem ZsY{o:Oper}{a:Act}{w:World}{K:Act->World->Prop}{ρ:Operand->Value}(hρ:a.eval=ρ)(c:Nat)(xs:Array Operand)(tys:Array TypeId)(f:FuncId)(bs cs vs:Array Value)
  (ho:o.op=.call {callee:=.value (.tmp c),args:=xs,argTypes:=tys})(hc:ρ (.tmp c)=.func (.func f) bs cs)(hxs:xs.map ρ=vs)(eg:∀args w,(callFunc f args).run P w=.ok (.enter f args) w)
  (h:Calls P f (bs++vs++cs) w fun e w'=>∃v,e=.returned v/\K (a.put o.dst v) w'):o.wp P a w K Q:=by
 subst hρ;have hr:(Yae a.eval o).run P w=.ok (.enter f (bs++vs++cs)) w:=by
  have:=eg (bs++vs++cs) w;rw[Array.append_assoc]at this;have hc2:a.tmps[c]?.getD undef=.func (.func f) bs cs:=by simpa[Act.eval]using hc
  simp[Yae,ho,resolve,hxs,invoke,Deferred.ofValue,Act.eval,hc2,this,go_sem]
 unfold Oper.wp;rw[hr,Oper.upon_enter];refine h.mono fun e w' ⟨v,he,hv⟩=> ?_;subst he;exact hv
theorem ZqC{o:Oper}{a:Act}{w:World}{K:Act->World->Prop}{ρ:Operand->Value}(hρ:a.eval=ρ)(f:FuncId)(xs:Array Operand)(tys:Array TypeId)(vs:Array Value)
  (ho:o.op=.call {callee:=.value (.func f),args:=xs,argTypes:=tys})(hxs:xs.map ρ=vs)(eg:∀args w,(callFunc f args).run P w=.ok (.enter f args) w)
  (h:Calls P f vs w fun e w'=>∃v,e=.returned v/\K (a.put o.dst v) w'):o.wp P a w K Q:=by
 subst hρ;have hr:(Yae a.eval o).run P w=.ok (.enter f vs) w:=by have:=eg vs w;simp[Yae,ho,resolve,hxs,invoke,Deferred.ofValue,Act.eval,this,go_sem]
 unfold Oper.wp;rw[hr,Oper.upon_enter];refine h.mono fun e w' ⟨v,he,hv⟩=> ?_;subst he;exact hv
end
end Go.Proofs.YtfahabphncmbfaaGreatDoor
