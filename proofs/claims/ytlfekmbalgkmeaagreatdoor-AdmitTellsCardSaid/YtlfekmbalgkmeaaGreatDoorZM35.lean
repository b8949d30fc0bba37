import Derived.Test.YtlfekmbalgkmeaaGreatDoorZM34
import Derived.Lib.SliceRun
import Derived.Lib.EndianMore
set_option linter.unusedSimpArgs false
set_option linter.unnecessarySimpa false
set_option linter.unusedVariables false
set_option maxRecDepth 100000
set_option maxHeartbeats 16000000
namespace Go.Proofs.YtlfekmbalgkmeaaGreatDoor
open Go Go.RowKit
def setL:List Value->Nat->List Value->List Value
 |L,_,[]=>L
 |L,o,v::vs=>setL (L.set o v) (o+1) vs
theorem setL_take: ∀(vs L:List Value) (o i:Nat),i<=o->(setL L o vs).take i=L.take i
  | [],L,o,i,_=>rfl
  | v :: vs, L, o, i, h => by
    unfold setL;rw[setL_take vs _ (o+1) i (by omega),List.take_set_of_le h]
theorem setL_len: ∀(vs L:List Value) (o:Nat),(setL L o vs).length=L.length
  | [],L,o=>rfl
  | v :: vs, L, o => by
    unfold setL;rw[setL_len vs,List.length_set]
theorem RowV.setCells{g:Nat}{t:TypeId}: ∀(vs L:List Value) (o:Nat) (w:World),RowV g t L w->RowV g t (setL L o vs) (w.setCells g o vs)
 | [],L,o,w,h=>h
 |v::vs,L,o,w,h=>RowV.setCells vs (L.set o v) (o+1) (w.setCell ⟨g,o,none⟩ v) (h.set o v)
theorem zero_int17(w:World):(zeroValue 3).run Tryz.prog w= .ok (.int .i64 0) w:=by
 obtain⟨i0,hi,hz0,hz1,hz2⟩:=int_info;simp[zeroValue,typeInfo,hi,hz0]
theorem idx17{B:Nat}(A:Option Addr)(c n:Nat)(zs:List Int)(g:Nat)(lb:Array Value)(eg: ∀args w,(callFunc g args).run Tryz.prog w= .ok (.enter g args) w)(p:Int->Bool)(w:World)(hn:zs.length=n)(hl:n<=1000)(hT:Ints w w.heap.size A zs)
    (hp: ∀z W,z∈zs->Below w.heap.size w W->Calls Tryz.prog g (#[.int .i64 z]++lb) W fun e w'=>e= .returned (.bool (p z))/\Below W.heap.size W w'):
    Calls Tryz.prog 81 #[.slice A n c, .func (.func g) #[] lb] w fun e w'=> ∃r,e= .returned (.int .i64 r)/\Below w.heap.size w w'/\((r= -1/\ ∀z∈zs,p z=false)\/ ∃i:Nat,r=(i:Int)/\i<n/\(∀z∈zs.take i,p z=false)/\ ∀z,zs[i]? =some z->p z=true):=by
  have HT:=Lib.hid hT;have HP:=Lib.hid hp;have HN:=Lib.hid hn;clear hT hp hn;go_enter Tryz.func81,Tryz.ntmps81;go_wp2;go_loopw [8] (fun v wr=> ∃k:Nat,k<=n/\v= .int .i64 k/\Hid (Below w.heap.size w wr)/\Hid (∀s∈zs.take k,p s=false)) (fun v _=>n - (intOf v).toNat)
  case atStart=>exact⟨0,Nat.zero_le _,rfl,Lib.hid (Below.refl _ _),Lib.hid (fun s hs=>by simp at hs)⟩
  case round=>
    obtain⟨k,hk,rfl,HI,HF⟩:=hrel
    by_cases hlt:k<n
    · obtain⟨bk,off,z,rfl,hbg,hek,d1⟩:=(HT.out.below HI.out).at_ (k:=k) (by rw[HN.out];exact hlt)
      have HEK:=Lib.hid hek;have hcall:=HP.out z wr (List.mem_of_getElem? hek) HI.out
      clear hek;cases hq:p z with
      | true =>
        have HQ:=Lib.hid hq;rw[hq]at hcall;clear hq
        go_wp2_with(go_at_fn g;refine hcall.mono ?_;rintro e w' ⟨rfl,hb'⟩)
        go_ret;exact⟨_,rfl,HI.out.trans (hb'.mono HI.out.size), .inr ⟨k,rfl,hlt,HF.out,fun y hy=>by rw[HEK.out]at hy;obtain rfl:=Option.some.inj hy;exact HQ.out⟩⟩
      | false =>
        have HQ:=Lib.hid hq;rw[hq]at hcall;clear hq
        go_wp2_with(go_at_fn g;refine hcall.mono ?_;rintro e w' ⟨rfl,hb'⟩;have HB:=Lib.hid (HI.out.trans (hb'.mono HI.out.size));clear hb')
        go_roundw
        case rel=>exact⟨k+1,by omega,by go_num,HB,Lib.hid (fun s hs=>by
          rw[List.take_add_one,HEK.out]at hs;rcases List.mem_append.mp hs with h|h
          · exact HF.out s h
          · obtain rfl:s=z:=by simpa using h
            exact HQ.out)⟩
        case measure=>simp[intOf];omega
    · obtain rfl:n=k:=by omega
      go_wp2;go_ret
      exact⟨-1,rfl,HI.out, .inl ⟨rfl,fun s hs=>HF.out s (by rw[List.take_of_length_le (by rw[HN.out];exact Nat.le_refl _)];exact hs)⟩⟩
def keepF(p:Int->Bool)(zs:List Int):List Int:=zs.filter fun x=> !p x
theorem keepF_all{p:Int->Bool}{zs:List Int}(h: ∀z∈zs,p z=false):keepF p zs=zs:=List.filter_eq_self.mpr fun z hz=>by simp[h z hz]
theorem keepF_snoc{p:Int->Bool}{zs:List Int}{k:Nat}{z:Int}(h:zs[k]? =some z):keepF p (zs.take (k+1))=keepF p (zs.take k)++if p z=true then []else [z]:=by
 unfold keepF;rw[take_one h,List.filter_append];congr 1;cases hp:p z<;>simp[hp]
theorem del17{B ob:Nat}{n c:Nat}{zs:List Int}{row:List Value}(g:Nat)(lb:Array Value)(eg: ∀args w,(callFunc g args).run Tryz.prog w= .ok (.enter g args) w)(p:Int->Bool)(w:World)(hn:zs.length=n)(hl:n<=1000)
    (hO:RowV ob 3 row w) (hr:row.length=c) (hnc:n<=c) (ht:row.take n=zs.map (Value.int .i64)) (hB:B<=ob)
    (hp: ∀z W,z∈zs->Below B w W->Calls Tryz.prog g (#[.int .i64 z]++lb) W fun e w'=>e= .returned (.bool (p z))/\Below W.heap.size W w'):
    Calls Tryz.prog 48 #[.slice (some ⟨ob,0,none⟩) n c, .func (.func g) #[] lb] w fun e w'=>e= .returned (.slice (some ⟨ob,0,none⟩) (keepF p zs).length c)/\Below B w w'/\
      ∃row',RowV ob 3 row' w'/\row'.length=c/\row'.take (keepF p zs).length=(keepF p zs).map (Value.int .i64):=by
  have hlt0:=hO.lt;have hcell0: ∀(t:Nat) (z:Int),zs[t]? =some z->row[t]? =some (Value.int .i64 z):=fun t z hz=>by
    have h1:(row.take n)[t]? =(zs.map (Value.int .i64))[t]? :=by rw[ht]
    have hl2:=(List.getElem?_eq_some_iff.mp hz).1
    rw[List.getElem?_take,if_pos (by omega),List.getElem?_map,hz]at h1
    exact h1
  have hI:Ints w w.heap.size (some ⟨ob,0,none⟩) zs:=fun hp0=>⟨ob,0,rfl,hlt0,fun t ht'=>by
    rw[Nat.zero_add,List.getD_eq_getElem?_getD,List.getElem?_eq_getElem ht']
    exact hO.cell (hcell0 t _ (List.getElem?_eq_getElem ht'))⟩
  have KI:=Lib.hid (idx17 (B:=B) (some ⟨ob,0,none⟩) c n zs g lb eg p w hn hl hI (fun z W hz b=>hp z W hz (b.mono (by omega))))
  have HP:=Lib.hid hp;have HN:=Lib.hid hn;have HO:=Lib.hid hO;have HRL:=Lib.hid hr;have HT:=Lib.hid ht;have HC0:=Lib.hid hcell0;have HB:=Lib.hid hB;clear hp hn hO hr ht hcell0 hI hB;go_enter Tryz.func48,Tryz.ntmps48;go_wp2_with fail;refine KI.out.mono ?_
  rintro e w1 ⟨r,rfl,b1,hway⟩;have HB1:=Lib.hid (show Below B w w1 from b1.mono (by have:=HB.out;omega))
  have HR1:=Lib.hid (HO.out.below b1 hlt0);clear b1 KI;rcases hway with⟨rfl,hall⟩|⟨i0,rfl,hi0,hbef,hat⟩
  · have HK:=Lib.hid (keepF_all hall);clear hall;go_wp2;refine bodyPost_ret (v:= .slice (some ⟨ob,0,none⟩) n c) ?_ rfl ?_
    · simp[results,Tryz.results48,go_sem]
    · rw[HK.out,HN.out];exact⟨rfl,HB1.out,row,HR1.out,HRL.out,HT.out⟩
  · have hne:decide ((i0:Int)= -1)=false:=decide_eq_false (by omega)
    have hz0: ∃z,zs[i0]? =some z:=⟨_,List.getElem?_eq_getElem (by rw[HN.out];exact hi0)⟩
    have HS0:=Lib.hid (show keepF p (zs.take (i0+1))=zs.take i0 from by
      obtain⟨z,hz⟩:=hz0;rw[keepF_snoc hz,if_pos (hat z hz),List.append_nil,keepF_all hbef])
    obtain⟨i1,hi1⟩: ∃i1:Nat,i1=i0+1:=⟨_,rfl⟩;have hwr:IntKind.wrap .i64 ((i0:Int)+1)=(i1:Int):=by rw[hi1];exact IntWalk.i64_in _ (by omega)
    have hne2:((i0:Int)== -1)=false:=by simpa using hne
    rw[<-hi1]at HS0;have HI1:=Lib.hid hi1;have hi1n:i1<=n:=by omega
    have hi01:i0<i1:=by omega
    clear hz0 hbef hat hi1;go_wp2;clear hne hne2 hwr;go_loopw [5,6] (fun iv jv wr=> ∃(i j:Nat) (rw_:List Value),j<=n/\i<j/\iv= .int .i64 i/\jv= .int .i64 j/\Hid (i=(keepF p (zs.take j)).length)/\Hid (RowV ob 3 rw_ wr)/\Hid (rw_.length=c)/\Hid (rw_.take i=(keepF p (zs.take j)).map (Value.int .i64))/\Hid (∀(t:Nat) (z:Int),j<=t->zs[t]? =some z->rw_[t]? =some (Value.int .i64 z))/\Hid (Below B w wr)) (fun _ jv _=>n - (intOf jv).toNat)
    case atStart=>exact⟨i0,i1,row,hi1n,hi01,rfl,rfl,Lib.hid (by rw[HS0.out,List.length_take,HN.out];omega),HR1,HRL,Lib.hid (by rw[HS0.out,List.map_take,<-HT.out,List.take_take];congr 1;omega),Lib.hid (fun t z _ hz=>HC0.out t z hz),HB1⟩
    case round=>
      obtain⟨i,j,L,hj,hij,rfl,rfl,HI,HR,HL,HTk,HC,HBe⟩:=hrel;have hBw:B<=wr.heap.size:=by have:=HB.out;have:=HR.out.lt;omega
      by_cases hlt:j<n
      · obtain⟨z,hz⟩: ∃z,zs[j]? =some z:=⟨_,List.getElem?_eq_getElem (by rw[HN.out];exact hlt)⟩
        have hcz:=HR.out.cell (HC.out j z (Nat.le_refl _) hz);have hcall:=HP.out z wr (List.mem_of_getElem? hz) HBe.out
        have HS:=Lib.hid (keepF_snoc (p:=p) hz);have HZ:=Lib.hid hz;have hwr:IntKind.wrap .i64 ((j:Int)+1)=(j:Int)+1:=IntWalk.i64_in _ (by omega)
        have hwr2:IntKind.wrap .i64 ((i:Int)+1)=(i:Int)+1:=IntWalk.i64_in _ (by omega)
        clear hz;cases hq:p z with
        | true =>
          have HQ:=Lib.hid hq;rw[hq]at hcall;clear hq
          go_wp2_with(go_at_fn g;refine hcall.mono ?_;rintro e w' ⟨rfl,hb'⟩;have HB':=Lib.hid (HBe.out.trans (hb'.mono hBw));have HR':=Lib.hid (HR.out.below hb' HR.out.lt);clear hb')
          go_roundw
          case rel=>exact⟨i,j+1,L,by omega,by omega,rfl,by go_num,Lib.hid (by rw[HS.out,if_pos HQ.out,List.append_nil];exact HI.out),HR',HL,Lib.hid (by rw[HS.out,if_pos HQ.out,List.append_nil];exact HTk.out),Lib.hid (fun t z' ht hz'=>HC.out t z' (by omega) hz'),HB'⟩
          case measure=>simp[intOf];omega
        | false =>
          have HQ:=Lib.hid hq;rw[hq]at hcall;clear hq;have hiL:i<L.length:=by rw[HL.out];omega
          go_wp2_with(go_at_fn g;refine hcall.mono ?_;rintro e w' ⟨rfl,hb'⟩;have HB':=Lib.hid (HBe.out.trans (hb'.mono hBw));have hR':=HR.out.below hb' HR.out.lt;have hc1:=hR'.cell (List.getElem?_eq_getElem hiL);have hf1:=hR'.frozen i;have HR':=Lib.hid hR';clear hb' hR')
          go_roundw
          case rel=>
            refine⟨i+1,j+1,L.set i (.int .i64 z),by omega,by omega,by go_num,by go_num,Lib.hid ?_,Lib.hid (HR'.out.set i (.int .i64 z)),Lib.hid (by rw[List.length_set];exact HL.out),Lib.hid ?_,Lib.hid ?_,Lib.hid (HB'.out.setCell (p:=⟨ob,i,none⟩) HB.out _)⟩
            · rw[HS.out,if_neg (by rw[HQ.out];decide),List.length_append,<-HI.out];rfl
            · have e1:(L.set i (Value.int .i64 z))[i]? =some (.int .i64 z):=List.getElem?_set_self hiL
              rw[HS.out,if_neg (by rw[HQ.out];decide),take_one e1,List.take_set_of_le (Nat.le_refl _),HTk.out,List.map_append]
              rfl
            · intro t z' ht hz';rw[List.getElem?_set_ne (by omega)]
              exact HC.out t z' (by omega) hz'
          case measure=>simp[intOf];omega
      · obtain rfl:j=n:=by omega
        have hall:zs.take j=zs:=List.take_of_length_le (by rw[HN.out];exact Nat.le_refl _)
        rw[hall]at HI HTk;clear hall;have hcl:=fun ty=>Lib.run_clear_slice (P:=Tryz.prog) wr 40 3 ty (.int .i64 0) Tryz.underlying40 zero_int17 rfl rfl ob i (j - i) (c - i) (by omega)
          (fun t ht=>by rw[HR.out.cell (List.getElem?_eq_getElem (show i+t<L.length by rw[HL.out];omega))];rfl) (fun t _=>HR.out.frozen _)
        have hic:i<=c:=by omega
        have hij2:i<=j:=by omega
        go_wp2;refine bodyPost_ret (v:= .slice (some ⟨ob,0,none⟩) i c) ?_ rfl ⟨by rw[<-HI.out],HBe.out.trans (Lib.below_setCells_w HB.out _ _ _),setL L i (List.replicate (j - i) (.int .i64 0)),RowV.setCells _ _ _ _ HR.out,by rw[setL_len,HL.out],by rw[<-HI.out,setL_take _ _ _ _ (Nat.le_refl _),HTk.out]⟩
        simp[results,Tryz.results48,go_sem]
theorem owns_lt{S:List Shp}{C:List (List Int)}{k:Int}{i:Nat}(h:i∈owns S C k):i<S.length:=by have:=ownT_lt h;omega
theorem light_heavy{s:Shp}(h:s.Ok):(!(decide (LightS s)))=heavyS s:=by
 by_cases z:s.d<s.t
 ·have h1: ¬ LightS s:=fun q => by have:=q.2; omega
  have h2:heavyS s=true:=decide_eq_true ⟨h,z⟩;rw[decide_eq_false h1,h2];rfl
 ·have h1: LightS s:=⟨h,by omega⟩
  have h2:heavyS s=false:=decide_eq_false fun q=>z q.2
  rw[decide_eq_true h1,h2];rfl
theorem firstH_at{S:List Shp}{l:List Nat}{x i:Nat}(h0: ∀y∈l.take x,hvT S y=false)(hi:l[x]? =some i)(h1:hvT S i=true):firstH S l=(i:Int):=by
 unfold firstH;have e:l=l.take x++i::l.drop (x+1):=list_cut hi;rw[e,List.find?_append,List.find?_eq_none.mpr (fun y hy=>by rw[h0 y hy];decide)]
 simp[h1]
theorem firstH_no{S:List Shp}{l:List Nat}(h0: ∀y∈l,hvT S y=false):firstH S l= -1:=by
 unfold firstH;rw[List.find?_eq_none.mpr (fun y hy=>by rw[h0 y hy];decide)]
theorem nums_at{l:List Nat}{x i:Nat}(h:l[x]? =some i):(nums l)[x]? =some (i:Int):=by unfold nums;rw[List.getElem?_map,h];rfl
theorem OwnI.cellZ{w:World}{base:Nat}{A:Option Addr}{n c:Nat}{zs:List Int}(h:OwnI w base (.slice A n c) zs){x:Nat}{z:Int}(hx:zs[x]? =some z): ∃b,A=some ⟨b,0,none⟩/\w.cell? ⟨b,0+x,none⟩=some (.int .i64 z):=by
 have hl:=(List.getElem?_eq_some_iff.mp hx).1
 rcases h.2 with⟨e,h0⟩|⟨g,cap,cur,e,hg,hh,h1,h2,h3,h4⟩
 ·omega
 ·injection e with e1 e2 e3
  subst e1;refine⟨g,rfl,?_⟩
  have:=h.cells (g:=g) rfl x (.int .i64 z) (by rw[List.getElem?_map,hx];rfl)
  rw[addr_add]at this;exact this
theorem aheavy_any{A:Option Addr}{n c:Nat}{G:Option Addr}{m d:Nat}{S:List Shp}{C:List (List Int)}(k:Int)(wf:World)(h:IsPl wf A n c G m d S C)(hf:FewP S C)(hT:DTab wf):
    Calls Tryz.prog 19 #[.agg #[.slice A n c, .slice G m d], .int .i64 k] wf fun e w'=>e= .returned (.int .i64 (heavyQ S C k))/\Below wf.heap.size wf w':=by
  obtain⟨g,hg⟩: ∃g,g=wf.heap.size:=⟨_,rfl⟩;have HGs:=Lib.hid hg;obtain⟨w0,hw0⟩: ∃w0,w0=wf.alloc (.cells #[.slice A n c, .slice G m d] 28):=⟨_,rfl⟩;have HR:=Lib.hid (show RowV g 28 [.slice A n c, .slice G m d] w0 from by rw[hg,hw0];exact h.box)
  have HB:=Lib.hid (show Below g wf w0 from by rw[hg,hw0];exact below_alloc _)
  have HS:=Lib.hid (fun W (b:Below g wf W)=>h.shp.via (by rw[<-hg];exact b))
  have HTB:=Lib.hid (fun W (b:Below g wf W)=>DTab.via hT (by rw[<-hg];exact b))
  have KO:=Lib.hid (owners_any k w0 (h.via (by rw[<-hg];exact HB.out)) hf)
  have HN:=Lib.hid (show S.length=n/\n<=20 from⟨h.l1,by have:=hf.f1;rw[h.l1]at this;exact this⟩)
  have HW0:=Lib.hid hw0;have HC2:=Lib.hid (show C.length=m/\m<=20 from⟨h.l2,by have:=hf.f2;rw[h.l2]at this;exact this⟩)
  rw[<-hg];have q0:=HR.out.cell (j:=0) rfl;have q1:=HR.out.cell (j:=1) rfl;rw[hw0,hg]at q0 q1;clear h hf hT hg hw0;go_enter Tryz.func19,Tryz.ntmps19;go_wp2_with fail;rw[<-HW0.out,<-HGs.out];refine KO.out.mono ?_
  rintro e w1 ⟨F,q,d1,rfl,b1,hq,hO⟩;have HB1:=Lib.hid (HB.out.trans (b1.mono (Nat.le_of_lt HR.out.lt)));have HR1:=Lib.hid (HR.out.below b1 HR.out.lt);have HO1:=Lib.hid hO;have HQ:=Lib.hid hq;have hq20:q<=20:=by
    have:=ownT_len C k (min S.length C.length);have h2:=HN.out;have h3:(owns S C k).length<=min S.length C.length:=this;rw[hq]at h3;omega
  clear b1 hO hq KO HB HR q0 q1 HW0;obtain⟨l,hl⟩: ∃l,l=owns S C k:=⟨_,rfl⟩;rw[<-hl]at HO1 HQ;have HL:=Lib.hid hl;have HLt:=Lib.hid (show∀i∈l,i<n from fun i hi=>by rw[hl]at hi;have:=owns_lt hi;rw[HN.out.1]at this;exact this)
  clear hl;go_wp2;go_loopw [11] (fun i wr=> ∃x:Nat,x<=q/\i= .int .i64 x/\Hid (∀y∈l.take x,hvT S y=false)/\Hid (OwnI wr w0.heap.size (.slice F q d1) (nums l))/\Hid (RowV g 28 [.slice A n c, .slice G m d] wr)/\Hid (Below g wf wr)) (fun i _=>q - (intOf i).toNat)
  case atStart=>exact⟨0,Nat.zero_le _,rfl,Lib.hid (fun y hy=>by simp at hy),HO1,HR1,HB1⟩
  case round=>
    obtain⟨x,hx,rfl,HF,HO,HR,HB⟩:=hrel
    by_cases hlt:x<q
    · obtain⟨i,hi⟩: ∃i,l[x]? =some i:=⟨_,List.getElem?_eq_getElem (by rw[HQ.out];exact hlt)⟩
      have hin:=HLt.out i (List.mem_of_getElem? hi)
      obtain⟨b1,rfl,hc1⟩:=HO.out.cellZ (nums_at hi);obtain⟨b,off,t,lg,mo,dd,pp,rfl,hbg,hek,c0,c1,c2,c3,c4⟩:=(HS.out wr HB.out).at_ (k:=i) (by rw[HN.out.1];exact hin)
      have q0:=HR.out.cell (j:=0) rfl;have HI:=Lib.hid hi;obtain⟨hv,hhv⟩: ∃hv,hv=heavyS ⟨t,lg,mo,dd,pp⟩:=⟨_,rfl⟩;have CH:=Lib.hid (cheavy_any ⟨t,lg,mo,dd,pp⟩ wr (HTB.out wr HB.out));rw[<-hhv]at CH;have HV:=Lib.hid (show hvT S i=hv by rw[hhv];exact hvT_at hek)
      unfold Shp.val at CH;clear hhv hek hi;dsimp only at CH;simp only[Nat.zero_add]at hc1;go_wp2_with fail;refine CH.out.mono ?_
      rintro e w3 ⟨rfl,b3⟩;cases hv with
      | true =>
        have HF2:=Lib.hid (firstH_at HF.out HI.out HV.out);have HB3:=Lib.hid (HB.out.trans (b3.mono (Nat.le_of_lt HR.out.lt)));clear b3;go_wp2;refine bodyPost_ret (v:= .int .i64 i) ?_ rfl ⟨?_,HB3.out⟩
        · simp[results,Tryz.results19,go_sem]
        · unfold heavyQ;rw[<-HL.out,HF2.out]
      | false =>
        have HB3:=Lib.hid (HB.out.trans (b3.mono (Nat.le_of_lt HR.out.lt)));have HO3:=Lib.hid (HO.out.below b3);have HR3:=Lib.hid (HR.out.below b3 HR.out.lt);clear b3;go_wp2;go_roundw
        case rel=>exact⟨x+1,by omega,by go_num,Lib.hid (fun y hy=>by
          rw[take_one HI.out]at hy;rcases List.mem_append.mp hy with z|z
          · exact HF.out y z
          · rw[List.mem_singleton.mp z];exact HV.out),HO3,HR3,HB3⟩
        case measure=>simp[intOf];omega
    · obtain rfl:x=q:=by omega
      have HF2:=Lib.hid (show firstH S l= -1 from firstH_no (fun y hy=>HF.out y (by rw[List.take_of_length_le (by rw[HQ.out];exact Nat.le_refl _)];exact hy)))
      go_wp2;refine bodyPost_ret (v:= .int .i64 (-1)) ?_ rfl ⟨?_,HB.out⟩
      · simp[results,Tryz.results19,go_sem]
      · unfold heavyQ;rw[<-HL.out,HF2.out]
theorem lclo_any{A:Option Addr}{n c:Nat}{v2:Value}{S:List Shp}{g i:Nat}(w:World)(hn:S.length=n)(hi:i<n)(hR:RowV g 28 [.slice A n c,v2] w)(hS:Shps w w.heap.size A S)(hT:DTab w):
  Calls Tryz.prog 46 #[.int .i64 i,.pointer (some ⟨g,0,none⟩)] w fun e w'=>e= .returned (.bool (!(ltT S i)))/\Below w.heap.size w w':=by
 obtain⟨b,off,t,lg,mo,dd,pp,rfl,hbg,hek,c0,c1,c2,c3,c4⟩:=hS.at_ (k:=i) (by rw[hn];exact hi)
 have q0:=hR.cell (j:=0) rfl;have HLT:=Lib.hid (ltT_at hek);have KC:=Lib.hid (clcheck_any ⟨t,lg,mo,dd,pp⟩ w hT);have HS:=Lib.hid (fun W (b:Below w.heap.size w W)=>hS.via b)
 have HTB:=Lib.hid (fun W (b:Below w.heap.size w W)=>DTab.via hT b)
 have HR:=Lib.hid hR;unfold Shp.val at KC;dsimp only at KC
 by_cases hok:(⟨t,lg,mo,dd,pp⟩:Shp).Ok
 ·rw [chkS_ok hok] at KC
  obtain⟨hv,hhv⟩: ∃hv,hv=heavyS ⟨t,lg,mo,dd,pp⟩:=⟨_,rfl⟩;have CH:=Lib.hid (fun W (hD:DTab W)=>cheavy_any ⟨t,lg,mo,dd,pp⟩ W hD)
  rw[<-hhv]at CH;unfold Shp.val at CH;dsimp only at CH;have HV:=Lib.hid (show(!(ltT S i))=hv by
   rw[HLT.out,hhv];exact light_heavy hok)
  have HCe:=Lib.hid (show∀W,Below w.heap.size w W->(W.cell? ⟨b,off+i * 5,none⟩=some (.int .i64 t)/\W.cell? ⟨b,off+i * 5+1,none⟩=some (.int .i64 lg))/\W.cell? ⟨b,off+i * 5+2,none⟩=some (.int .i64 mo)/\W.cell? ⟨b,off+i * 5+3,none⟩=some (.int .i64 dd)/\W.cell? ⟨b,off+i * 5+4,none⟩=some (.int .i64 pp)from fun W hb=>
   ⟨⟨(hb.cell (p:=⟨_,_,_⟩) hbg).trans c0,(hb.cell (p:=⟨_,_,_⟩) hbg).trans c1⟩,(hb.cell (p:=⟨_,_,_⟩) hbg).trans c2,(hb.cell (p:=⟨_,_,_⟩) hbg).trans c3,(hb.cell (p:=⟨_,_,_⟩) hbg).trans c4⟩)
  clear hS hT hR hhv hok hek hn;go_enter Tryz.func46,Tryz.ntmps46;go_wp2_with fail;refine KC.out.mono ?_
  rintro e w1 ⟨rfl,b1⟩;have HD:=Lib.hid (HTB.out w1 b1);have q1:=(HR.out.below b1 HR.out.lt).cell (j:=0) rfl;obtain⟨⟨e0,e1⟩,e2,e3,e4⟩:=HCe.out w1 b1;have HB1:=Lib.hid b1;clear c0 c1 c2 c3 c4 q0 b1;go_wp2_with fail;refine(CH.out w1 HD.out).mono ?_
  rintro e w2 ⟨rfl,b2⟩;have HB2:=Lib.hid (HB1.out.trans (b2.mono HB1.out.size));clear b2 q1 e0 e1 e2 e3 e4;go_wp2;refine bodyPost_ret (v:=.bool hv) ?_ rfl ⟨by rw[HV.out],HB2.out⟩
  simp[results,Tryz.results46,go_sem]
 ·rw [chkS_no hok] at KC
  have HV:=Lib.hid (show(!(ltT S i))=true by rw[HLT.out,decide_eq_false (fun q=>hok q.1)];rfl)
  clear hS hT hR hok hek hn;go_enter Tryz.func46,Tryz.ntmps46;go_wp2_with fail;refine KC.out.mono ?_
  rintro e w1 ⟨rfl,b1⟩;have HB1:=Lib.hid b1;clear b1;go_wp2;refine bodyPost_ret (v:=.bool true) ?_ rfl ⟨by rw[HV.out],HB1.out⟩
  simp[results,Tryz.results46,go_sem]
theorem keep_nums(p:Nat->Bool)(l:List Nat):keepF (fun z=> !(p z.toNat)) (nums l)=nums (l.filter p):=by
  unfold keepF nums
  induction l with
  |nil=>rfl
  | cons x l ih =>
    have e:(!(fun z:Int=> !p z.toNat) (Int.ofNat x))=p x:=by simp
    rw[List.map_cons,List.filter_cons,List.filter_cons,e];cases p x
    · simpa using ih
    · simpa using ih
theorem del17_nil{B:Nat}(g:Nat)(lb:Array Value)(eg: ∀args w,(callFunc g args).run Tryz.prog w= .ok (.enter g args) w)(w:World):
  Calls Tryz.prog 48 #[.slice none 0 0,.func (.func g) #[] lb] w fun e w'=>e= .returned (.slice none 0 0)/\Below w.heap.size w w':=by
 have KI:=Lib.hid (idx17 (B:=B) none 0 0 [] g lb eg (fun _=>true) w rfl (by omega) (fun h=>absurd h (by simp)) (fun z W hz=>by cases hz))
 go_enter Tryz.func48,Tryz.ntmps48;go_wp2_with fail;refine KI.out.mono ?_
 rintro e w1 ⟨r,rfl,b1,hway⟩;obtain rfl:r= -1:=by
  rcases hway with⟨q,_⟩|⟨i,_,q,_⟩
  ·exact q
  ·omega
 have HB:=Lib.hid b1;clear b1 hway;go_wp2;refine bodyPost_ret (v:=.slice none 0 0) ?_ rfl ⟨rfl,HB.out⟩
 simp[results,Tryz.results48,go_sem]
theorem alight_any{A:Option Addr}{n c:Nat}{G:Option Addr}{m d:Nat}{S:List Shp}{C:List (List Int)}(k:Int)(wf:World)(h:IsPl wf A n c G m d S C)(hf:FewP S C)(hT:DTab wf):
  Calls Tryz.prog 22 #[.agg #[.slice A n c,.slice G m d],.int .i64 k] wf fun e w'=> ∃F q d1,e= .returned (.slice F q d1)/\Below wf.heap.size wf w'/\((lightQ S C k).length=q/\OwnI w' wf.heap.size (.slice F q d1) (nums (lightQ S C k))):=by
 obtain⟨g,hg⟩: ∃g,g=wf.heap.size:=⟨_,rfl⟩;have HGs:=Lib.hid hg;obtain⟨w0,hw0⟩: ∃w0,w0=wf.alloc (.cells #[.slice A n c,.slice G m d] 28):=⟨_,rfl⟩;have HR:=Lib.hid (show RowV g 28 [.slice A n c,.slice G m d] w0 from by rw[hg,hw0];exact h.box)
 have HB:=Lib.hid (show Below g wf w0 from by rw[hg,hw0];exact below_alloc _)
 have HS:=Lib.hid (fun W (b:Below g wf W)=>h.shp.via (by rw[<-hg];exact b))
 have HTB:=Lib.hid (fun W (b:Below g wf W)=>DTab.via hT (by rw[<-hg];exact b))
 have KO:=Lib.hid (owners_any k w0 (h.via (by rw[<-hg];exact HB.out)) hf)
 have HN:=Lib.hid (show S.length=n/\n<=20 from⟨h.l1,by have:=hf.f1;rw[h.l1]at this;exact this⟩)
 have HC2:=Lib.hid (show C.length=m/\m<=20 from⟨h.l2,by have:=hf.f2;rw[h.l2]at this;exact this⟩)
 have HW0:=Lib.hid hw0;rw[<-hg];have q0:=HR.out.cell (j:=0) rfl;have q1:=HR.out.cell (j:=1) rfl;rw[hw0,hg]at q0 q1;clear h hf hT hg hw0;go_enter Tryz.func22,Tryz.ntmps22;go_wp2_with fail;rw[<-HW0.out,<-HGs.out];refine KO.out.mono ?_
 rintro e w1 ⟨F,q,d1,rfl,b1,hq,hO⟩;have HB1:=Lib.hid (HB.out.trans (b1.mono (Nat.le_of_lt HR.out.lt)));have HR1:=Lib.hid (HR.out.below b1 HR.out.lt);obtain⟨l,hl⟩: ∃l,l=owns S C k:=⟨_,rfl⟩;rw[<-hl]at hq hO;have hLt: ∀i∈l,i<n:=fun i hi=>by rw[hl]at hi;have:=owns_lt hi;rw[HN.out.1]at this;exact this
 have HLQ:=Lib.hid (show lightQ S C k=l.filter (ltT S) by rw[hl];rfl)
 have hq20:q<=20:=by
  have h2:=HN.out;have h3:l.length<=min S.length C.length:=by rw[hl];exact ownT_len C k (min S.length C.length)
  omega
 have hgw:g+1<=w0.heap.size:=HR.out.lt;have eg: ∀args w,(callFunc 46 args).run Tryz.prog w= .ok (.enter 46 args) w:=eg_of Tryz.func46 (by kernel_rfl) rfl
 have KD:Hid (Calls Tryz.prog 48 #[.slice F q d1,.func (.func 46) #[] #[.pointer (some ⟨g,0,none⟩)]] w1 fun e w'=> ∃q',e= .returned (.slice F q' d1)/\Below (g+1) w1 w'/\((l.filter (ltT S)).length=q'/\OwnI w' (g+1) (.slice F q' d1) (nums (l.filter (ltT S))))):=by
  refine Lib.hid ?_
  rcases hO.2 with⟨e,h0⟩|⟨ob,cap,cur,e,hob,hh,h1,h2,h3,h4⟩
  ·injection e with e1 e2 e3
   subst e1 e2 e3;obtain rfl:l= []:=List.eq_nil_of_length_eq_zero hq;refine(del17_nil (B:=0) _ _ eg w1).mono ?_
   rintro e w' ⟨rfl,b⟩;exact⟨0,rfl,b.mono (by have:=HR1.out.lt;omega),rfl,rfl,.inl ⟨rfl,rfl⟩⟩
  ·injection e with e1 e2 e3
   subst e1 e3;have hlen:(nums l).length=q:=by rw[nums_len];exact hq
   have hrow:RowV ob 3 cur.toList w1:=by unfold RowV;rw[Array.toArray_toList];exact hh
   rw[hlen,Nat.mul_one]at h4;refine(del17 (B:=g+1) 46 #[.pointer (some ⟨g,0,none⟩)] eg (fun z=> !(ltT S z.toNat)) w1 hlen (by omega) hrow (by rw[Array.length_toList,h3,Nat.mul_one]) (by omega) h4 (by omega) (fun z W hz hb=> ?_)).mono ?_
   ·obtain ⟨i,hi,rfl⟩:=List.mem_map.mp hz
    have hbW:Below g wf W:=HB1.out.trans (hb.mono (by omega))
    exact lclo_any W HN.out.1 (hLt i hi) (HR1.out.below hb (by omega)) (HS.out W hbW) (HTB.out W hbW)
   ·rintro e w' ⟨rfl,b,row',r1,r2,r3⟩
    have e1:=keep_nums (ltT S) l;rw[e1]at r3⊢;refine⟨_,rfl,b,(nums_len _).symm,by rw[List.length_map,Nat.mul_one],.inr ⟨ob,d1,row'.toArray,by rw[nums_len],by omega,r1,?_,h2,by rw[List.size_toArray,r2,Nat.mul_one],by rw[Nat.mul_one];exact r3⟩⟩
    have:=List.length_filter_le (ltT S) l;rw[nums_len];omega
 have HBf:=Lib.hid (show∀W,Below (g+1) w1 W->Below g wf W from fun W hb=>HB1.out.trans (hb.mono (by omega)))
 clear b1 hO hq KO HB HR q0 q1 HW0 hLt hl;go_wp2_with fail;refine KD.out.mono ?_
 rintro e w2 ⟨q',rfl,b2,hq2,hO2⟩;have HB2:=Lib.hid (HBf.out w2 b2);have HO2:=Lib.hid (hO2.down (show g<=g+1 by omega))
 have HQ2:=Lib.hid hq2;clear b2 hO2 hq2 KD;go_wp2;refine bodyPost_ret (v:=.slice F q' d1) ?_ rfl ⟨F,q',d1,rfl,HB2.out,by rw[HLQ.out];exact HQ2.out,by rw[HLQ.out];exact HO2.out⟩
 simp[results,Tryz.results22,go_sem]
theorem rises_any{A:Option Addr}{n c:Nat}{zs:List Int}(m:Int)(hm:m<=1000)(w:World)(hn:zs.length=n)(hl:n<=100)(hI:Ints w w.heap.size A zs)(r:Bool)(hr:r=true↔Rise m 0 zs):
  Calls Tryz.prog 72 #[.slice A n c,.int .i64 m] w fun e w'=>e= .returned (.bool r)/\w=w':=by
 have HI:=Lib.hid hI;have HN:=Lib.hid hn;have HR:=Lib.hid hr;clear hI hn hr;go_enter Tryz.func72,Tryz.ntmps72;go_wp2;go_loop [5,10] (fun bv iv=> ∃(j:Nat) (b:Int),j<=n/\0<=b/\b<=1000/\bv= .int .i64 b/\iv= .int .i64 j/\Hid (∀t,Rise m 0 (zs.take j++t)↔Rise m b t)) (fun _ iv=>n - (intOf iv).toNat)
 case atStart=>exact⟨0,0,Nat.zero_le _,Int.le_refl _,by omega,rfl,rfl,Lib.hid (fun t=>by simp)⟩
 case round=>
  obtain⟨j,b,hj,hb0,hb1,rfl,rfl,HP⟩:=hrel
  by_cases hlt:j<n
  ·obtain ⟨bk,off,x,rfl,hbg,hek,d1⟩:=HI.out.at_ (k:=j) (by rw [HN.out]; exact hlt)
   have HX:=Lib.hid hek;have HS:=Lib.hid (show∀t,Rise m 0 (zs.take (j+1)++t)↔(b<=x/\x<m/\Rise m (x+1) t)from fun t=>by rw[take_one hek,List.append_assoc];exact HP.out (x::t))
   have HW:=Lib.hid (show Rise m 0 zs↔(b<=x/\x<m/\Rise m (x+1) (zs.drop (j+1))) by
    conv=>lhs;rw[list_cut hek]
    exact HP.out (x::zs.drop (j+1)))
   clear hek
   by_cases h1:x<b
   ·have hd: decide (x < b) = true:=decide_eq_true h1
    have HF:=Lib.hid (show r=false by
     cases r with
     |false=>rfl
     |true=>have:=HW.out.mp (HR.out.mp rfl);omega)
    go_wp2;go_ret
    rw[HF.out];exact⟨rfl,rfl⟩
   ·have hd: decide (x < b) = false:=decide_eq_false h1
    by_cases h2:m<=x
    ·have hd2: decide (m <= x) = true:=decide_eq_true h2
     have HF:=Lib.hid (show r=false by
      cases r with
      |false=>rfl
      |true=>have:=HW.out.mp (HR.out.mp rfl);omega)
     go_wp2;go_ret
     rw[HF.out];exact⟨rfl,rfl⟩
    ·have hd2: decide (m <= x) = false:=decide_eq_false h2
     have hwr:IntKind.wrap .i64 (x+1)=x+1:=IntWalk.i64_in _ (by omega)
     go_wp2;go_round
     case rel=>exact⟨j+1,x+1,by omega,by omega,by omega,rfl,by go_num,Lib.hid (fun t=>by rw[HS.out];exact⟨fun q=>q.2.2,fun q=>⟨by omega,by omega,q⟩⟩)⟩
     case measure=>simp[intOf];omega
  ·obtain rfl: j = n:=by omega
   have HF:=Lib.hid (show r=true by
    refine HR.out.mpr ?_
    have:=(HP.out []).mpr trivial;rw[List.append_nil,List.take_of_length_le (by rw[HN.out];exact Nat.le_refl _)]at this
    exact this)
   go_wp2;go_ret
   rw[HF.out];exact⟨rfl,rfl⟩
theorem suits_any{A:Option Addr}{n c:Nat}{zs:List Int}(s:Shp)(m:Int)(hm:m<=1000)(w:World)(hn:zs.length=n)(hl:n<=100)(hI:Ints w w.heap.size A zs)(hT:DTab w)(r:Bool)(hr:r=true↔SuitQ m s zs):
    Calls Tryz.prog 41 #[s.val, .slice A n c, .int .i64 m] w fun e w'=>e= .returned (.bool r)/\Below w.heap.size w w':=by
  obtain⟨t,lg,mo,dd,pp⟩:=s;have KC:=Lib.hid (ccores_any ⟨t,lg,mo,dd,pp⟩ (w.alloc (.cells #[.int .i64 t, .int .i64 lg, .int .i64 mo, .int .i64 dd, .int .i64 pp] 44)) (hT.via (below_alloc _)));have HN:=Lib.hid hn;have HR:=Lib.hid hr;have HI:=Lib.hid (fun W (b:Below w.heap.size w W)=>(hI.below b).more b.size)
  obtain⟨z,hz⟩: ∃z,z=coresS ⟨t,lg,mo,dd,pp⟩:=⟨_,rfl⟩;obtain⟨y,hy⟩: ∃y,y=faultS ⟨t,lg,mo,dd,pp⟩:=⟨_,rfl⟩;rw[<-hz,<-hy]at KC;have HZ:=Lib.hid hz;have HY:=Lib.hid hy;unfold Shp.val at KC⊢;dsimp only at KC⊢;clear hn hI hT hr hz hy
  by_cases h0:y=0
  · subst h0
    by_cases h1:(n:Int)=z
    · obtain⟨r2,hr2⟩: ∃r2:Bool,r2=true↔Rise m 0 zs:=⟨r,HR.out.trans ⟨fun q=>q.2.2,fun q=>⟨HY.out.symm,by rw[HN.out,<-HZ.out];exact h1,q⟩⟩⟩
      have KR:=Lib.hid (fun W (b:Below w.heap.size w W)=>rises_any (c:=c) m hm W HN.out hl (HI.out W b) r2 hr2)
      have HRR:=Lib.hid (show r=r2 by
        cases r with
        |true=>exact(hr2.mpr (HR.out.mp rfl).2.2).symm
        | false =>
          cases r2 with
          |false=>rfl
          |true=>have:=HR.out.mpr ⟨HY.out.symm,by rw[HN.out,<-HZ.out];exact h1,hr2.mp rfl⟩;cases this)
      subst h1;clear hr2;go_enter Tryz.func41,Tryz.ntmps41;go_wp2_with fail;refine(KC.out).mono ?_
      rintro e w1 ⟨rfl,b1⟩;have HB1:=Lib.hid ((below_alloc (.cells #[.int .i64 t, .int .i64 lg, .int .i64 mo, .int .i64 dd, .int .i64 pp] 44)).trans (b1.mono (by simp)))
      clear b1 KC;go_wp2_with fail;refine(KR.out w1 HB1.out).mono ?_
      rintro e w2 ⟨rfl,rfl⟩;go_wp2;refine bodyPost_ret (v:= .bool r2) ?_ rfl ⟨by rw[HRR.out],HB1.out⟩
      simp[results,Tryz.results41,go_sem]
    · have hd:decide ((n:Int)=z)=false:=decide_eq_false h1;have hd2:((n:Int)==z)=false:=by simpa using h1
      have HF:=Lib.hid (show r=false by
        cases r with
        |false=>rfl
        |true=>have:=(HR.out.mp rfl).2.1;rw[HN.out,<-HZ.out]at this;exact absurd this h1)
      go_enter Tryz.func41,Tryz.ntmps41;go_wp2_with fail;refine(KC.out).mono ?_
      rintro e w1 ⟨rfl,b1⟩;have HB1:=Lib.hid ((below_alloc (.cells #[.int .i64 t, .int .i64 lg, .int .i64 mo, .int .i64 dd, .int .i64 pp] 44)).trans (b1.mono (by simp)))
      clear b1 KC;go_wp2;refine bodyPost_ret (v:= .bool false) ?_ rfl ⟨by rw[HF.out],HB1.out⟩
      simp[results,Tryz.results41,go_sem]
  · have hd:decide (y=0)=false:=decide_eq_false h0;have hd2:(y==0)=false:=by simpa using h0
    have HF:=Lib.hid (show r=false by
      cases r with
      |false=>rfl
      |true=>have:=(HR.out.mp rfl).1;rw[<-HY.out]at this;exact absurd this h0)
    go_enter Tryz.func41,Tryz.ntmps41;go_wp2_with fail;refine(KC.out).mono ?_
    rintro e w1 ⟨rfl,b1⟩;have HB1:=Lib.hid ((below_alloc (.cells #[.int .i64 t, .int .i64 lg, .int .i64 mo, .int .i64 dd, .int .i64 pp] 44)).trans (b1.mono (by simp)))
    clear b1 KC;go_wp2;refine bodyPost_ret (v:= .bool false) ?_ rfl ⟨by rw[HF.out],HB1.out⟩
    simp[results,Tryz.results41,go_sem]
theorem shpsL_snoc{S:List Shp}{l:List Nat}{x i:Nat}{s:Shp}(hi:l[x]? =some i)(hs:S[i]? =some s):shpsL S (l.take (x+1))=shpsL S (l.take x)++ [s]:=by
 unfold shpsL;rw[take_one hi,List.filterMap_append];simp[hs]
theorem lightQ_len(S:List Shp)(C:List (List Int))(k:Int):(lightQ S C k).length<=S.length:=by
 have h1:=List.length_filter_le (ltT S) (owns S C k);have h2:=ownT_len C k (min S.length C.length);unfold lightQ;unfold owns at h1⊢;omega
theorem lightQ_lt{S:List Shp}{C:List (List Int)}{k:Int}{i:Nat}(h:i∈lightQ S C k):i<S.length:=owns_lt (List.mem_filter.mp h).1
def EnoughP(S:List Shp)(C:List (List Int))(k:Int):Prop:=(heavyQ S C k≠ -1/\(owns S C k).length=1)\/(heavyQ S C k= -1/\FitE (shpsL S (lightQ S C k)))
theorem isEnough_any{A:Option Addr}{n c:Nat}{G:Option Addr}{m d:Nat}{S:List Shp}{C:List (List Int)}(k:Int)(wf:World)(h:IsPl wf A n c G m d S C)(hf:FewP S C)(hT:DTab wf)(r:Bool)(hr:r=true↔EnoughP S C k):
    Calls Tryz.prog 42 #[.agg #[.slice A n c, .slice G m d], .int .i64 k] wf fun e w'=>e= .returned (.bool r)/\Below wf.heap.size wf w':=by
  obtain⟨g,hg⟩: ∃g,g=wf.heap.size:=⟨_,rfl⟩;have HGs:=Lib.hid hg;obtain⟨w0,hw0⟩: ∃w0,w0=wf.alloc (.cells #[.slice A n c, .slice G m d] 28):=⟨_,rfl⟩;have HR:=Lib.hid (show RowV g 28 [.slice A n c, .slice G m d] w0 from by rw[hg,hw0];exact h.box)
  have HB:=Lib.hid (show Below g wf w0 from by rw[hg,hw0];exact below_alloc _)
  have HPl:=Lib.hid (fun W (b:Below g wf W)=>h.via (by rw[<-hg];exact b))
  have HTB:=Lib.hid (fun W (b:Below g wf W)=>DTab.via hT (by rw[<-hg];exact b))
  have KH:=Lib.hid (aheavy_any k w0 (HPl.out w0 HB.out) hf (HTB.out w0 HB.out));have HF:=Lib.hid hf;have HN:=Lib.hid (show S.length=n/\n<=20 from⟨h.l1,by have:=hf.f1;rw[h.l1]at this;exact this⟩)
  have HW0:=Lib.hid hw0;have HRr:=Lib.hid hr;rw[<-hg];have q0:=HR.out.cell (j:=0) rfl;have q1:=HR.out.cell (j:=1) rfl;rw[hw0,hg]at q0 q1;clear h hf hT hg hw0 hr;obtain⟨hq,hhq⟩: ∃hq,hq=heavyQ S C k:=⟨_,rfl⟩;rw[<-hhq]at KH;have HHQ:=Lib.hid hhq;clear hhq
  by_cases hm:hq= -1
  · subst hm;go_enter Tryz.func42,Tryz.ntmps42;go_wp2_with fail;rw[<-HW0.out,<-HGs.out];refine KH.out.mono ?_
    rintro e w1 ⟨rfl,b1⟩;have HB1:=Lib.hid (HB.out.trans (b1.mono (Nat.le_of_lt HR.out.lt)));have HR1:=Lib.hid (HR.out.below b1 HR.out.lt);have q0:=HR1.out.cell (j:=0) rfl;have q1:=HR1.out.cell (j:=1) rfl;have KL:=Lib.hid (alight_any k w1 (HPl.out w1 HB1.out) HF.out (HTB.out w1 HB1.out));clear b1 KH HB HR HW0;go_wp2_with fail;refine KL.out.mono ?_
    rintro e w2 ⟨F,q,d1,rfl,b2,hql,hO⟩;have HB2:=Lib.hid (HB1.out.trans (b2.mono (Nat.le_of_lt HR1.out.lt)));have HR2:=Lib.hid (HR1.out.below b2 HR1.out.lt);have hgw1:g+1<=w1.heap.size:=HR1.out.lt;have HO2:=Lib.hid (hO.down hgw1);have hq20:q<=20:=by
      have:=lightQ_len S C k;have h2:=HN.out;omega
    obtain⟨l,hl⟩: ∃l,l=lightQ S C k:=⟨_,rfl⟩;rw[<-hl]at HO2 hql;have HL:=Lib.hid hl;have HQ:=Lib.hid hql;have HLt:=Lib.hid (show∀i∈l,i<n from fun i hi=>by rw[hl]at hi;have:=lightQ_lt hi;rw[HN.out.1]at this;exact this)
    have HI2:=Lib.hid hO.ints;obtain⟨B2,hB2⟩: ∃B2,B2=w2.heap.size:=⟨_,rfl⟩;have HBB:=Lib.hid hB2;have HIn:=Lib.hid (show Ints w2 B2 F (nums l) by rw[hB2,hl];exact HI2.out)
    have hnil:=OwnS.nil w2 B2;clear b2 hql hO hl KL q0 q1 hgw1 HO2 HI2;have HNil:=Lib.hid hnil;have HBr:=Lib.hid (show Below B2 w2 w2 from Below.refl _ _)
    clear hB2 hnil;go_wp2;go_loopw [5,21] (fun v i wr=> ∃(x:Nat) (F2:Option Addr) (d2:Nat),x<=q/\i= .int .i64 x/\v= .slice F2 x d2/\Hid ((shpsL S (l.take x)).length=x)/\Hid (OwnS wr B2 (.slice F2 x d2) (shpsL S (l.take x)))/\Hid (Below B2 w2 wr)) (fun _ i _=>q - (intOf i).toNat)
    case atStart=>exact⟨0,none,0,Nat.zero_le _,rfl,rfl,Lib.hid (by simp[shpsL]),Lib.hid (by simpa[shpsL]using HNil.out),HBr⟩
    case round=>
      obtain⟨x,F2,d2,hx,rfl,rfl,HX,HOS,HBe⟩:=hrel;have HRr':=Lib.hid (HR2.out.below HBe.out (by rw[HBB.out];exact HR2.out.lt))
      have HBw:=Lib.hid (HB2.out.trans (HBe.out.mono (by rw[HBB.out];exact Nat.le_of_lt HR2.out.lt)))
      have hBs:B2<=wr.heap.size:=by rw[HBB.out];exact HBe.out.size
      by_cases hlt:x<q
      · obtain⟨i,hi⟩: ∃i,l[x]? =some i:=⟨_,List.getElem?_eq_getElem (by rw[HQ.out];exact hlt)⟩
        have hin:=HLt.out i (List.mem_of_getElem? hi)
        obtain⟨b1,o1,z1,rfl,hb1,hx1,hc1⟩:=(HIn.out.below HBe.out).at_ (k:=x) (by rw[nums_len,HQ.out];exact hlt)
        rw[nums_at hi]at hx1;obtain rfl:=Option.some.inj hx1;obtain⟨b,off,t,lg,mo,dd,pp,rfl,hbg,hek,c0,c1,c2,c3,c4⟩:=(HPl.out wr HBw.out).shp.at_ (k:=i) (by rw[HN.out.1];exact hin)
        have q0:=HRr'.out.cell (j:=0) rfl;have HSn:=Lib.hid (shpsL_snoc hi hek);clear hi hx1 hek
        go_wp2_with(at_builtin;refine wpList_pushS rfl _ _ rfl wr B2 _ _ t lg mo dd pp x HX.out (by omega) HOS.out hBs rfl rfl ?_;intro F' d' w3 hO3 hb3;have HO3:=Lib.hid hO3;have HI3:=Lib.hid (HBe.out.trans hb3);clear hO3 hb3)
        go_roundw
        case rel=>exact⟨x+1,F',d',by omega,by go_num,rfl,Lib.hid (by rw[HSn.out,List.length_append,HX.out];rfl),Lib.hid (by rw[HSn.out];exact HO3.out),HI3⟩
        case measure=>simp[intOf];omega
      · obtain rfl:x=q:=by omega
        have htk:l.take x=l:=List.take_of_length_le (by rw[HQ.out];exact Nat.le_refl _)
        rw[htk]at HOS HX;obtain⟨F2',c2',e2,hS2,_⟩:=HOS.out.slice;rw[HX.out]at e2;injection e2 with a1 a2 a3;subst a1 a3;have KF:=Lib.hid (efits_any (c:=d2) r (HRr.out.trans ⟨fun z=>by
          rcases z with⟨z,_⟩|⟨_,z⟩
          · exact absurd HHQ.out.symm z
          · rw[HL.out];exact z,fun z=> .inr ⟨HHQ.out.symm,by rw[<-HL.out];exact z⟩⟩) wr (HTB.out wr HBw.out) HX.out (by omega) hS2)
        clear htk hS2;go_wp2_with fail;refine KF.out.mono ?_
        rintro e w3 ⟨rfl,b3⟩;have HB3:=Lib.hid (HBw.out.trans (b3.mono (by have:=HR2.out.lt;rw[<-HBB.out]at this;omega)))
        clear b3;go_wp2;refine bodyPost_ret (v:= .bool r) ?_ rfl ⟨rfl,HB3.out⟩
        simp[results,Tryz.results42,go_sem]
  · have hd:decide (hq= -1)=false:=decide_eq_false hm;have hd2:(hq== -1)=false:=by simpa using hm
    go_enter Tryz.func42,Tryz.ntmps42;go_wp2_with fail;rw[<-HW0.out,<-HGs.out];refine KH.out.mono ?_
    rintro e w1 ⟨rfl,b1⟩;have HB1:=Lib.hid (HB.out.trans (b1.mono (Nat.le_of_lt HR.out.lt)));have HR1:=Lib.hid (HR.out.below b1 HR.out.lt);have q0:=HR1.out.cell (j:=0) rfl;have q1:=HR1.out.cell (j:=1) rfl;have KO:=Lib.hid (owners_any k w1 (HPl.out w1 HB1.out) HF.out);clear b1 KH HB HR HW0;go_wp2_with fail;refine KO.out.mono ?_
    rintro e w2 ⟨F,q,d1,rfl,b2,hql,hO⟩;have HB2:=Lib.hid (HB1.out.trans (b2.mono (Nat.le_of_lt HR1.out.lt)));have HQ:=Lib.hid hql;clear b2 hql hO KO q0 q1
    by_cases h1:q=1
    · subst h1;have HT:=Lib.hid (show r=true from HRr.out.mpr (.inl ⟨by rw[<-HHQ.out];exact hm,HQ.out⟩))
      go_wp2;refine bodyPost_ret (v:= .bool true) ?_ rfl ⟨by rw[HT.out],HB2.out⟩
      simp[results,Tryz.results42,go_sem]
    · have hd3:decide ((q:Int)=1)=false:=decide_eq_false (by omega)
      have hd4:((q:Int)==1)=false:=by simp;omega
      have hd5:decide (q=1)=false:=decide_eq_false h1;have hd6:(q==1)=false:=by simpa using h1
      have HT:=Lib.hid (show r=false by
        cases r with
        |false=>rfl
        | true =>
          rcases HRr.out.mp rfl with⟨_,z⟩|⟨z,_⟩
          · rw[HQ.out]at z;exact absurd z h1
          · rw[<-HHQ.out]at z;exact absurd z hm)
      go_wp2;refine bodyPost_ret (v:= .bool false) ?_ rfl ⟨by rw[HT.out],HB2.out⟩
      simp[results,Tryz.results42,go_sem]
end Go.Proofs.YtlfekmbalgkmeaaGreatDoor
