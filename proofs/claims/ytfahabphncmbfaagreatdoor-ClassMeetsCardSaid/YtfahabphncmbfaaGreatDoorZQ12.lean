import Derived.Test.YtfahabphncmbfaaGreatDoorZLowFut
set_option linter.all false
set_option maxRecDepth 100000
set_option maxHeartbeats 32000000
namespace Go.Proofs.YtfahabphncmbfaaGreatDoor
open Go.RowKit Go.Maps
open Go.RowKit.Below renaming refl→Zl
open Classical renaming byContradiction→Zn
open Int renaming le_refl→ZX,le_trans→YW
open Go.Lib renaming hid→Zf
open List renaming append_assoc→Yr,contains_iff_mem→Y7,count_cons→YP,getD_eq_getElem?_getD→Zi,getElem?_eq_getElem→Zh,getElem_mem→Zz,getElem_of_mem→ZA,getElem_take→Y4,length_append→Zq,length_map→ZH,length_range→Yo,length_set→ZU,length_take→ZP,map_append→Yk,map_cons→ZM,mem_append→Z2,mem_cons→ZT,mem_of_getElem?→ZC,mem_range→ZD,range→Zo,replicate→Zj,sum_cons→ZY
open Nat renaming le_refl→Zm,lt_or_ge→Zv,zero_le→Zu
open Go renaming cell_of_row→Yaf,execOp→Yae,frozen_of_row→Yaj,heap_alloc_new→Yak,heap_setCell_other→Yah,heap_setCell_same→Yai
open Go.Proofs.Tryz
def LayE(gb b1 b2 eb a b la fb:Nat):Nat->Value->World->Prop
 |0,v,_=>v=.pointer (some ⟨gb,0,none⟩)
 |1,v,_=>v=.pointer (some ⟨gb,0,none⟩)
 |2,v,_=>v=.pointer (some ⟨gb,0,none⟩)
 |3,v,_=>v=.pointer (some ⟨gb,4,none⟩)
 |4,v,_=>v=.map (some b2)
 |5,v,_=>v=.pointer (some ⟨eb,0,none⟩)
 |6,v,_=>v=.int .i64 ((a:Nat):Int)
 |7,v,_=>v=.int .i64 ((la:Nat):Int)
 |8,v,_=>v=.pointer (some ⟨gb,0,none⟩)
 |9,v,_=>v=.pointer (some ⟨gb,0,none⟩)
 |10,v,_=>v=.pointer (some ⟨gb,3,none⟩)
 |11,v,_=>v=.map (some b1)
 |12,v,_=>v=.pointer (some ⟨eb,1,none⟩)
 |13,v,_=>v=.int .i64 ((b:Nat):Int)
 |14,v,_=>v=.int .i64 ((fb:Nat):Int)
 |_,_,_=>True
theorem Zpn{gb b1 b2 eb a b la fb:Nat}:∀(k:Nat) (v:Value) (w w':World),LayE gb b1 b2 eb a b la fb k v w->LayE gb b1 b2 eb a b la fb k v w'
 |0,_,_,_,h|1,_,_,_,h|2,_,_,_,h|3,_,_,_,h|4,_,_,_,h|5,_,_,_,h|6,_,_,_,h|7,_,_,_,h|8,_,_,_,h|9,_,_,_,h|10,_,_,_,h|11,_,_,_,h|12,_,_,_,h|13,_,_,_,h|14,_,_,_,h=>h
 |_+15,_,_,_,_=>trivial
theorem ZjC{ps fs:List (Int×Int×Int)}(hps:ZaM ps){x:Nat}(hx:x<ps.length):∀z∈Zbs fs ps x,0<=z/\z<=100000:=by
 intro z hz;unfold Zbs at hz;rcases Z2.mp hz with h|h
 ·obtain ⟨k,hk,rfl⟩:=List.mem_map.mp h
  have:=mem_touK.mp hk;omega
 ·rw [List.mem_singleton.mp h,Zi,Zh hx]
  have:=hps _ (Zz hx);unfold ZcG at this;show 0<=(ps[x]).2.2/\(ps[x]).2.2<=100000;omega
theorem Zni(fs:List (Int×Int×Int)):∀x,firN fs x<=x * (fs.length+1)
  |0=>by simp[firN]
  | x + 1 => by
    rw[firN];have h1:=Zni fs x;have h2:nst fs x<=fs.length+1:=by unfold nst;have:=ZhJ fs (x:Int) 99;unfold touL;omega
    have h3:(x+1) * (fs.length+1)=x * (fs.length+1)+(fs.length+1):=Nat.succ_mul _ _;omega
theorem ZjD(fs:List (Int×Int×Int))(bs:List (List Int×List Int))(n m:Nat)(hb:∀b∈bs,b.1.length<=m/\b.2.length<=m):∀j,(bEs fs bs n j).length<=j * (2 * m)
  |0=>by simp[bEs]
  | j + 1 => by
    rw[bEs,Zq,barN,Zq,ZH,ZH];have h1:=ZjD fs bs n m hb j;have h3:(j+1) * (2 * m)=j * (2 * m)+2 * m:=Nat.succ_mul _ _;have h2:(bs.getD j ([], [])).1.length<=m/\(bs.getD j ([], [])).2.length<=m:=by
      rcases Zv j bs.length with h|h
      · rw[Zi,Zh h];exact hb _ (Zz h)
      · rw[Zi,List.getElem?_eq_none h];exact⟨Zu _,Zu _⟩
    omega
theorem ZdD{np:Nat}{l:List Int}(h:RowOk np l):l.length<=np:=by
  have hat:∀(i:Nat) (x:Int),l[i]?=some x->(i:Int)<=x:=by
    intro i
    induction i with
    |zero=>intro x e;have:=h.parts x (ZC e);omega
    | succ i ih =>
      intro x e;have hi:i<l.length:=by have:=(List.getElem?_eq_some_iff.mp e).1;omega
      have e':l[i]?=some l[i]:=Zh hi;have h1:=ih _ e';have h2:=h.rises i _ _ e' e;omega
  rcases Nat.eq_zero_or_pos l.length with h0|h0
  · omega
  · have e:l[l.length - 1]?=some l[l.length - 1]:=Zh (by omega);have h1:=hat _ _ e;have h2:=h.parts _ (ZC e);omega
def ZsK(T:Task)(w:World)(e:Ending)(w':World):Prop:=∃ vW vE vP,e=.returned (.agg #[vW,vE,vP])/\OwnI w' w.heap.size vW (lowW T)/\OwnE w' w.heap.size vE (lowE T)/\OwnP w' w.heap.size vP (lowP T)/\Below w.heap.size w w'
theorem Zq5(s:Sh)(T:Task)(w:World)(hD:IsD w s T)(hM:MayT T):Calls Tryz.prog 73 #[s.arg T.period T.deadline] w (ZsK T w):=by
  obtain⟨P,np,pc,E,ne,ec,F,nf,fc,R,nr,rc⟩:=s;obtain⟨p,q,ps,es,fs,bs⟩:=T;have hmm:= @run_makeMap Tryz.prog;have HD:=Zf hD;have HM:=Zf hM;have hp:=hD.t.hp;have he:=hD.t.he;have hf:=hD.t.hf;have hr:=hD.t.hr;have hfew:=hM.few;unfold ZhK at hfew;simp only at hp he hf hr hfew;rw[hp,he,hf,hr]at hfew;have hnp:np<=16:=by omega
  have hne:ne<=48:=by omega
  have hnf:nf<=16:=by omega
  have hnr:nr<=4:=by omega
  have HP:=Zf hp;have HE:=Zf he;have HF:=Zf hf;have HR:=Zf hr;have HFI:Hid (∀x,x<=np->firN fs x<=272):=Zf (fun x hx=>by have h1:=Zni fs x;have h2:x * (fs.length+1)<=16 * 17:=Nat.mul_le_mul (by omega) (by rw[hf];omega);omega)
  simp only[Sh.arg];obtain⟨wA,hwA⟩:∃wA,wA=w.alloc (.cells #[.int .i64 p,.int .i64 q,.slice P np pc,.slice E ne ec,.slice F nf fc,.slice R nr rc] 64):=⟨_,rfl⟩;obtain⟨wB,hwB⟩:∃wB,wB=wA.alloc (.cells #[.slice none 0 0,.slice none 0 0,.slice none 0 0] 76):=⟨_,rfl⟩;obtain⟨wC,hwC⟩:∃wC,wC=wB.alloc (.map #[] 0):=⟨_,rfl⟩;obtain⟨wD,hwD⟩:∃wD,wD=wC.alloc (.map #[] 0):=⟨_,rfl⟩;obtain⟨b1,hb1⟩:∃b,b=w.heap.size+2:=⟨_,rfl⟩;obtain⟨b2,hb2⟩:∃b,b=w.heap.size+3:=⟨_,rfl⟩;obtain⟨gb,hgb⟩:∃b,b=w.heap.size+4:=⟨_,rfl⟩;obtain⟨wG,hwG⟩:∃wG,wG=wD.alloc (.cells #[.slice none 0 0,.slice none 0 0,.slice none 0 0,.map (some b1),.map (some b2)] 190):=⟨_,rfl⟩;have sA:wA.heap.size=w.heap.size+1:=by rw[hwA];simp
  have sB:wB.heap.size=w.heap.size+2:=by rw[hwB];simp[sA]
  have sC:wC.heap.size=w.heap.size+3:=by rw[hwC];simp[sB]
  have sD:wD.heap.size=w.heap.size+4:=by rw[hwD];simp[sC]
  have sG:wG.heap.size=w.heap.size+5:=by rw[hwG];simp[sD]
  have kA:Below w.heap.size w wA:=by rw[hwA];exact Zaa _
  have kB:Below wA.heap.size wA wB:=by rw[hwB];exact Zaa _
  have kC:Below wB.heap.size wB wC:=by rw[hwC];exact Zaa _
  have kD:Below wC.heap.size wC wD:=by rw[hwD];exact Zaa _
  have kG:Below wD.heap.size wD wG:=by rw[hwG];exact Zaa _
  have rA:wA.heap[w.heap.size]?=some (.cells #[.int .i64 p,.int .i64 q,.slice P np pc,.slice E ne ec,.slice F nf fc,.slice R nr rc] 64 (0,0)):=by rw[hwA];exact Yak w _
  have rB:wB.heap[w.heap.size+1]?=some (.cells #[.slice none 0 0,.slice none 0 0,.slice none 0 0] 76 (0,0)):=by rw[hwB,<-sA];exact Yak wA _
  have mC:OwnM wC b1 0 (.map []):=by unfold OwnM;rw[hwC,hb1,<-sB];exact World.ownsMap_made _ _ _ _
  have mD:OwnM wD b2 0 (.map []):=by unfold OwnM;rw[hwD,hb2,<-sC];exact World.ownsMap_made _ _ _ _
  have kBG:Below wB.heap.size wB wG:=kC.trans ((kD.mono (by omega)).trans (kG.mono (by omega)));have kAG:Below wA.heap.size wA wG:=kB.trans (kBG.mono (by omega));have HRA:Hid (wG.heap[w.heap.size]?=some (.cells #[.int .i64 p,.int .i64 q,.slice P np pc,.slice E ne ec,.slice F nf fc,.slice R nr rc] 64 (0,0))):=Zf (by rw[kAG.block _ (by omega)];exact rA);have HRB:Hid (wG.heap[w.heap.size+1]?=some (.cells #[.slice none 0 0,.slice none 0 0,.slice none 0 0] 76 (0,0))):=Zf (by rw[kBG.block _ (by omega)];exact rB);obtain⟨base,hbase⟩:∃b,b=w.heap.size+2:=⟨_,rfl⟩;have HG0:Hid (Gl base gb b1 b2 0 0 (.map []) (.map []) (.slice none 0 0) (.slice none 0 0) (.slice none 0 0) (wPs fs ps 0) (ePs fs 0) (pPs fs 0) wG):=Zf ⟨by rw[hwG,hgb,<-sD];exact Yak wD _,by omega,by omega,by omega,by omega,⟨rfl,.inl ⟨rfl,rfl⟩⟩,⟨rfl,.inl ⟨rfl,rfl⟩⟩,⟨rfl,.inl ⟨rfl,rfl⟩⟩,(mC.below (kD.trans (kG.mono (by omega)))),mD.below kG⟩;have HWG:Hid (Below w.heap.size w wG):=Zf (kA.trans (kAG.mono (by omega)));have HSG:=Zf sG;have HBS:=Zf hbase;have HGBE:Hid (gb=w.heap.size+1+1+1+1):=Zf (by omega);have HB1E:Hid (b1=w.heap.size+1+1):=Zf (by omega);have HB2E:Hid (b2=w.heap.size+1+1+1):=Zf (by omega);have HWS:=Zf (And.intro hwA (And.intro hwB (And.intro hwC (And.intro hwD hwG))));clear hD hM hp he hf hr hfew rA rB mC mD kA kB kC kD kG kBG kAG sA sB sC sD sG hwA hwB hwC hwD hwG hb1 hb2 hgb hbase;go_enter func73,ntmps73;go_wp2;rw[<-HGBE.out,<-HB2E.out,<-HB1E.out,<-HWS.out.1,<-HWS.out.2.1,<-HWS.out.2.2.1,<-HWS.out.2.2.2.1,<-HWS.out.2.2.2.2];clear HGBE HB1E HB2E HWS hmm;go_loopw [16] (fun iv wr=>∃(j n1 n2:Nat) (D1 D2:DataW Unit) (vW vE vP:Value),j<=np/\iv=.int .i64 (j:Int)/\n1<=j/\n2<=300/\Hid (n2<=firN fs j)/\Hid (Gl base gb b1 b2 n1 n2 D1 D2 vW vE vP (wPs fs ps j) (ePs fs j) (pPs fs j) wr)/\Hid (Tells D1 (firN fs) j)/\Hid (Tells D2 (lasN fs) j)/\Hid (Below base wG wr)) (fun iv _=>np - (intOf iv).toNat)
  case atStart=>exact⟨0,0,0,_,_,_,_,_,Zu _,rfl,Zm _,by omega,Zf (Zu _),HG0,Zf (Tells.zero _ _),Zf (Tells.zero _ _),Zf (Zl _ _)⟩
  case round=>
    obtain⟨j,n1,n2,D1,D2,vW,vE,vP,hj,rfl,hn1,hn2,HN2,HGJ,HT1,HT2,HBJ⟩:=hrel;clear HG0;have HWJ:Hid (Below w.heap.size w wr):=Zf (HWG.out.trans (HBJ.out.mono (by rw[HBS.out];omega)));have hrd:=(HBJ.out.block w.heap.size (by rw[HBS.out];omega)).trans HRA.out;have d0:=Yaf wr w.heap.size 0 _ _ _ hrd;have d1:=Yaf wr w.heap.size 1 _ _ _ hrd;have d2:=Yaf wr w.heap.size 2 _ _ _ hrd;have d3:=Yaf wr w.heap.size 3 _ _ _ hrd;have d4:=Yaf wr w.heap.size 4 _ _ _ hrd;have d5:=Yaf wr w.heap.size 5 _ _ _ hrd;simp at d0 d1 d2 d3 d4 d5;clear hrd;by_cases hlt:j<np
    · have CE:=Zpw ⟨P,np,pc,E,ne,ec,F,nf,fc,R,nr,rc⟩ ⟨p,q,ps,es,fs,bs⟩ j wr (HD.out.below HWJ.out) HM.out (by rw[HP.out];exact hlt);simp only[Sh.arg]at CE;have hnst:(Zbs fs ps j).length=nst fs j:=Zei _ _ _;have hns9:nst fs j<=17:=by
        unfold nst;have:=ZhJ fs (j:Int) 99;rw[HF.out]at this;unfold touL;omega
      obtain⟨m,hm⟩:∃m,m=nst fs j:=⟨_,rfl⟩;have hfj:=HFI.out j (by omega);have hfj1:=HFI.out (j+1) (by omega);have hfs1:firN fs (j+1)=firN fs j+m:=by rw[firN,hm]
      have hm1:1<=m:=by rw[hm];exact ZjR _ _
      have HM2:=Zf hm;have HNS:=Zf hnst;have HCE:=Zf CE;have HFS1:=Zf hfs1;have HHJ:=Zf (And.intro hfj hfj1);have hm9:m<=17:=by omega
      clear CE hnst hm hfj hfj1 hfs1 hns9;go_wp2_with fail;refine HCE.out.mono ?_;rintro e w4 ⟨A4,c4',rfl,hO4,b4⟩;rw[HNS.out,<-HM2.out]at hO4⊢;have hG4:=HGJ.out.below b4;have hS4:Side w4 base vW (.slice A4 m c4') (Zbs fs ps j):=⟨ZaG hO4 (by have:=HBJ.out.size;rw[HSG.out]at this;rw[HBS.out];omega),fun k hk e=>by have h1:=(Zfi hO4 k hk).1;have h2:=(Zfi HGJ.out.hW k e).2.1;omega⟩
      have CS:=ZnE base gb b1 b2 n1 n2 D1 D2 vW vE vP (wPs fs ps j) (ePs fs j) (pPs fs j) j m (firN fs j) c4' A4 (Zbs fs ps j) (firN fs) (lasN fs) w4 (by omega) (by rw[HNS.out,HM2.out]) hm1 (by omega) (ZjC HM.out.parts (by rw[HP.out];exact hlt)) (ZcT _ _ _) (ZhM _ _) (by have:=HHJ.out.1;omega) (by have:=ZhN fs j;have:=HHJ.out.1;omega) (by omega) (by omega) hG4 hS4 HT1.out HT2.out rfl (by unfold lasN;rw[HM2.out]);have HCS:=Zf CS;have HB4:=Zf (HBJ.out.trans (b4.mono (by have:=HBJ.out.size;rw[HSG.out]at this;rw[HBS.out];omega)));clear CS hO4 b4 hG4 hS4 HCE d0 d1 d2 d3 d4 d5;go_wp2_with fail;refine HCS.out.mono ?_;rintro e w5 ⟨rfl,n1',n2',D1',D2',uW,uE,uP,hG5,hT1,hT2,hn1',hn2',b5⟩;have HG5:=Zf hG5;have HT15:=Zf hT1;have HT25:=Zf hT2;have HB5:=Zf (HB4.out.trans b5);have hn3:n2'<=firN fs (j+1):=by rw[HFS1.out];have:=HN2.out;omega
      have HN3:=Zf hn3;have hn4:n2'<=300:=by have:=HHJ.out.2;omega
      clear hG5 hT1 hT2 b5 hn3 hn2' HCS;go_wp2;go_roundw
      case rel=>exact⟨j+1,n1',n2',D1',D2',uW,uE,uP,hlt,by go_num,by omega,hn4,HN3,Zf (by have h:=HG5.out;rw[HM2.out]at h;exact h),HT15,HT25,HB5⟩
      case measure=>simp[intOf];omega
    · obtain rfl:np=j:=by omega
      have hE0:Hid (Gl base gb b1 b2 n1 n2 D1 D2 vW vE vP (wPs fs ps np) (ePs fs np++(es.take 0).map (edgN fs)) (pPs fs np) wr):=Zf (by have h:=HGJ.out;simpa using h);have hfn:=HFI.out np (Zm _);have hep:(ePs fs np).length<=272:=by have:=ZhN fs np;omega
      have HB0:=HBJ;clear HGJ HBJ HWJ HN2 d0 d1 d2 d4 d5;go_wp2;go_loopw [29] (fun iv wr=>∃(j:Nat) (vE':Value),j<=ne/\iv=.int .i64 (j:Int)/\Hid (Gl base gb b1 b2 n1 n2 D1 D2 vW vE' vP (wPs fs ps np) (ePs fs np++(es.take j).map (edgN fs)) (pPs fs np) wr)/\Hid (Below base wG wr)) (fun iv _=>ne - (intOf iv).toNat)
      case atStart=>exact⟨0,_,Zu _,rfl,hE0,HB0⟩
      case round=>
        obtain⟨j,vE',hj,rfl,HGJ,HBJ⟩:=hrel;clear hE0 HB0 d3;have HWJ:Hid (Below w.heap.size w wr):=Zf (HWG.out.trans (HBJ.out.mono (by rw[HBS.out];omega)));by_cases hlt:j<ne
        · obtain⟨tb,to_,⟨x,y⟩,eE,htb,het,x0,x1⟩:=((HD.out.below HWJ.out).t.edges).at_ (k:=j) (by rw[HE.out];exact hlt);simp only at eE x0 x1;subst eE;have heo:=HM.out.edges.1 _ (ZC het);simp only at heo;rw[HP.out]at heo;obtain⟨a,rfl⟩:∃k:Nat,x=(k:Int):=⟨x.toNat,by omega⟩;obtain⟨b,rfl⟩:∃k:Nat,y=(k:Int):=⟨y.toNat,by omega⟩;have han:a<np:=by omega
          have hbn:b<np:=by omega
          have htk:es.take (j+1)=es.take j++ [((a:Int),(b:Int))]:=by rw[List.take_add_one,het];rfl
          obtain⟨la,hla⟩:∃la,la=lasN fs a:=⟨_,rfl⟩;obtain⟨fb,hfb⟩:∃fb,fb=firN fs b:=⟨_,rfl⟩;have HTK:Hid ((es.take (j+1)).map (edgN fs)=(es.take j).map (edgN fs)++ [((la:Int),(fb:Int))]):=Zf (by rw[htk,Yk,hla,hfb];rfl);have HLA:=Zf hla;have HFB:=Zf hfb;obtain⟨eb,heb⟩:∃eb,eb=wr.heap.size:=⟨_,rfl⟩;obtain⟨wE,hwE⟩:∃wE,wE=wr.alloc (.cells #[.int .i64 (a:Int),.int .i64 (b:Int)] 179):=⟨_,rfl⟩;have hbE:Below wr.heap.size wr wE:=by rw[hwE];exact Zaa _
          have HGE:=Zf (HGJ.out.below hbE);have HEB:Hid (wE.heap[eb]?=some (.cells #[.int .i64 (a:Int),.int .i64 (b:Int)] 179 (0,0))):=Zf (by rw[hwE,heb];exact Yak wr _);have hbsz:base<=wr.heap.size:=by have:=HBJ.out.size;rw[HSG.out]at this;rw[HBS.out];omega
          have HBE:=Zf (HBJ.out.trans (hbE.mono hbsz));have hbsE:base<=wE.heap.size:=Nat.le_trans hbsz hbE.size;clear het heo htk hla hfb hbE HGJ HBJ HWJ;go_wp2_with fail;rw[<-hwE,<-heb];clear hwE heb;refine Zar 15 15 [33,34,35,36,37,38,39,40,41,42,43,44,45,46,47] (by kernel_rfl) (by kernel_rfl) (by intro d hd;simp at hd⊢;omega) (fun y=>Below wE.heap.size wE y) (fun _=>True) (fun y z=>Below y.heap.size y z) (LayE gb b1 b2 eb a b la fb)
            (fun _ _ h=>h) (fun y z h hr=>h.trans (hr.mono h.size)) (fun _ _ h _=>trivial) (fun k v y z _ h _=>Zpn k v y z h) (fun v y z h _=>trivial) (Zl _ _).drew trivial ?hs ?hl
          case hs=>
            intro j o hj ho ρ y hI hA hd hJ;have h3:ρ (.tmp 3)=.pointer (some ⟨gb,0,none⟩):=hA.tmp 3 (by decide);have h6:ρ (.tmp 6)=.pointer (some ⟨eb,0,none⟩):=hA.tmp 6 (by decide);have hG:=HGE.out.below hI;have hrow:=(hI.block eb (Array.getElem?_eq_some_iff.1 HEB.out).1).trans HEB.out;have x0:y.cell? ⟨eb,0,none⟩=some (.int .i64 (a:Int)):=by rw[Yaf _ _ _ _ _ _ hrow];rfl
            have x1:y.cell? ⟨eb,1,none⟩=some (.int .i64 (b:Int)):=by rw[Yaf _ _ _ _ _ _ hrow];rfl
            have c3:y.cell? ⟨gb,3,none⟩=some (.map (some b1)):=by rw[hG.cell];rfl
            have c4:y.cell? ⟨gb,4,none⟩=some (.map (some b2)):=by rw[hG.cell];rfl
            have r1:=ZaX hG.m2 HT2.out han (by omega);have r2:=ZaX hG.m1 HT1.out hbn (by omega);rw[<-HLA.out]at r1;rw[<-HFB.out]at r2
            match j,hj with
            | 0, _ =>cases ho;exact⟨.pointer (some ⟨gb,0,none⟩),y,by simp[Yae,h3,go_sem],rfl,Zl _ _⟩
            | 1, _ =>cases ho;exact⟨.pointer (some ⟨gb,0,none⟩),y,by simp[Yae,h3,go_sem],rfl,Zl _ _⟩
            | 2, _ =>
              cases ho;have f1:ρ (.tmp 34)=.pointer (some ⟨gb,0,none⟩):=hd ⟨1,.data⟩ (by simp) (by rfl)
              exact⟨.pointer (some ⟨gb,0,none⟩),y,by simp[Yae,f1,go_sem],rfl,Zl _ _⟩
            | 3, _ =>
              cases ho;have f2:ρ (.tmp 35)=.pointer (some ⟨gb,0,none⟩):=hd ⟨2,.data⟩ (by simp) (by rfl)
              exact⟨.pointer (some ⟨gb,4,none⟩),y,by simp[Yae,f2,go_sem],rfl,Zl _ _⟩
            | 4, _ =>
              cases ho;have f3:ρ (.tmp 36)=.pointer (some ⟨gb,4,none⟩):=hd ⟨3,.data⟩ (by simp) (by rfl)
              exact⟨.map (some b2),y,by simp[Yae,f3,c4,go_sem],rfl,Zl _ _⟩
            | 5, _ =>cases ho;exact⟨.pointer (some ⟨eb,0,none⟩),y,by simp[Yae,h6,go_sem],rfl,Zl _ _⟩
            | 6, _ =>
              cases ho;have f5:ρ (.tmp 38)=.pointer (some ⟨eb,0,none⟩):=hd ⟨5,.data⟩ (by simp) (by rfl)
              exact⟨.int .i64 ((a:Nat):Int),y,by simp[Yae,f5,x0,go_sem],rfl,Zl _ _⟩
            | 7, _ =>
              cases ho;have f4:ρ (.tmp 37)=.map (some b2):=hd ⟨4,.data⟩ (by simp) (by rfl);have f6:ρ (.tmp 39)=.int .i64 ((a:Nat):Int):=hd ⟨6,.data⟩ (by simp) (by rfl)
              exact⟨.int .i64 ((la:Nat):Int),y,by simp[Yae,f4,f6,r1,Result.andThen],rfl,Zl _ _⟩
            | 8, _ =>cases ho;exact⟨.pointer (some ⟨gb,0,none⟩),y,by simp[Yae,h3,go_sem],rfl,Zl _ _⟩
            | 9, _ =>
              cases ho;have f8:ρ (.tmp 41)=.pointer (some ⟨gb,0,none⟩):=hd ⟨8,.data⟩ (by simp) (by rfl)
              exact⟨.pointer (some ⟨gb,0,none⟩),y,by simp[Yae,f8,go_sem],rfl,Zl _ _⟩
            | 10, _ =>
              cases ho;have f9:ρ (.tmp 42)=.pointer (some ⟨gb,0,none⟩):=hd ⟨9,.data⟩ (by simp) (by rfl)
              exact⟨.pointer (some ⟨gb,3,none⟩),y,by simp[Yae,f9,go_sem],rfl,Zl _ _⟩
            | 11, _ =>
              cases ho;have f10:ρ (.tmp 43)=.pointer (some ⟨gb,3,none⟩):=hd ⟨10,.data⟩ (by simp) (by rfl)
              exact⟨.map (some b1),y,by simp[Yae,f10,c3,go_sem],rfl,Zl _ _⟩
            | 12, _ =>cases ho;exact⟨.pointer (some ⟨eb,1,none⟩),y,by simp[Yae,h6,go_sem],rfl,Zl _ _⟩
            | 13, _ =>
              cases ho;have f12:ρ (.tmp 45)=.pointer (some ⟨eb,1,none⟩):=hd ⟨12,.data⟩ (by simp) (by rfl)
              exact⟨.int .i64 ((b:Nat):Int),y,by simp[Yae,f12,x1,go_sem],rfl,Zl _ _⟩
            | 14, _ =>
              cases ho;have f11:ρ (.tmp 44)=.map (some b1):=hd ⟨11,.data⟩ (by simp) (by rfl);have f13:ρ (.tmp 46)=.int .i64 ((b:Nat):Int):=hd ⟨13,.data⟩ (by simp) (by rfl)
              exact⟨.int .i64 ((fb:Nat):Int),y,by simp[Yae,f11,f13,r2,Result.andThen],rfl,Zl _ _⟩
            |j+15,hk=>omega
          case hl=>
            intro o ho vals y hI hF;cases ho;have q0:vals 33=.pointer (some ⟨gb,0,none⟩):=hF 0 (by decide);have q7:vals 40=.int .i64 (la:Int):=hF 7 (by decide);have q14:vals 47=.int .i64 (fb:Int):=hF 14 (by decide);have hG:=HGE.out.below hI;refine ZqC rfl 138 _ _ #[.pointer (some ⟨gb,0,none⟩),.int .i64 (la:Int),.int .i64 (fb:Int)] rfl (by rw[<-q0,<-q7,<-q14];simp only[List.map_toArray,ZM,List.map_nil];rfl) Znk ?_;refine(Zee base gb b1 b2 n1 n2 D1 D2 vW vE' vP (wPs fs ps np) (ePs fs np++(es.take j).map (edgN fs)) (pPs fs np) (la:Int) (fb:Int) y _ _ (by rw[Zq,ZH,ZP];omega) hG (Side.nil y base vW)).mono ?_;rintro e y' ⟨rfl,uE',hG4,_,b4,_⟩;refine⟨_,rfl,?_⟩;have HG4:=Zf hG4;have HB4:=Zf (HBE.out.trans ((hI.mono (by have:=HBE.out.size;omega)).trans b4));clear hI hF q0 q7 q14 hG hG4 b4;simp only[ZaW,Zba,List.contains_cons,List.contains_nil,Nat.reduceBEq,Bool.or_false,Bool.false_or,Bool.or_true,Bool.true_or,cond_true,cond_false,Nat.zero_add,Nat.reduceAdd];go_wp2;go_roundw
            case rel=>exact⟨j+1,uE',hlt,by go_num,Zf (by rw[HTK.out,<-Yr];exact HG4.out),HB4⟩
            case measure=>simp[intOf];omega
        · obtain rfl:ne=j:=by omega
          have htk:es.take ne=es:=List.take_of_length_le (by rw[HE.out];exact Zm _);have hG:=HGJ.out;rw[htk]at hG;have hrd:=(HBJ.out.block w.heap.size (by rw[HBS.out];omega)).trans HRA.out;have d4:=Yaf wr w.heap.size 4 _ _ _ hrd;simp at d4;have hbsz:base<=wr.heap.size:=by have:=HBJ.out.size;rw[HSG.out]at this;rw[HBS.out];omega
          have CF:=ZjF fs ps np base gb b1 b2 n1 n2 D1 D2 vW vE' vP (ePs fs np++es.map (edgN fs)) (pPs fs np) (firN fs np) nf fc F wr HM.out.parts HM.out.futures HP.out HF.out rfl (by omega) (by omega) (by rw[Zq,ZH,HE.out];omega) (by omega) hG (((HD.out.t.futures.below HWJ.out)).more (by rw[HBS.out];omega)) HT1.out HT2.out;have HCF:=Zf CF;have HBF:=HBJ;clear htk hG hrd CF HGJ HBJ HWJ;go_wp2_with fail;refine HCF.out.mono ?_;rintro e w6 ⟨rfl,uE,hG6,b6⟩;have hG7:Hid (Gl base gb b1 b2 n1 n2 D1 D2 vW uE vP (wPs fs ps np++Zj 0 1) (((ePs fs np++es.map (edgN fs))++(Zo nf).map (futN fs))++bEs fs bs (firN fs np) 0) (pPs fs np++(Zo 0).map fun j=>((-1:Int),((j:Nat):Int))) w6):=Zf (by simpa[bEs]using hG6);have HB6:=Zf (HBF.out.trans b6);have hrd:=(HB6.out.block w.heap.size (by rw[HBS.out];omega)).trans HRA.out;have d5:=Yaf w6 w.heap.size 5 _ _ _ hrd;simp at d5;have hle:((ePs fs np++es.map (edgN fs))++(Zo nf).map (futN fs)).length<=336:=by rw[Zq,Zq,ZH,ZH,Yo,HE.out];omega
          obtain⟨E6,hE6⟩:∃E6,E6=(ePs fs np++es.map (edgN fs))++(Zo nf).map (futN fs):=⟨_,rfl⟩;rw[<-hE6]at hG7 hle;have HE6:=Zf hE6;clear hG6 b6 HBF HCF hrd hE6;go_wp2;go_loopw [57] (fun iv wr=>∃(j:Nat) (uW uE' uP:Value),j<=nr/\iv=.int .i64 (j:Int)/\Hid (Gl base gb b1 b2 n1 n2 D1 D2 uW uE' uP (wPs fs ps np++Zj j 1) (E6++bEs fs bs (firN fs np) j) (pPs fs np++(Zo j).map fun j=>((-1:Int),((j:Nat):Int))) wr)/\Hid (Below base wG wr)) (fun iv _=>nr - (intOf iv).toNat)
          case atStart=>exact⟨0,_,_,_,Zu _,rfl,hG7,HB6⟩
          case round=>
            obtain⟨j,uW,uE',uP,hj,rfl,HGJ,HBJ⟩:=hrel;clear hG7 HB6 d5;have HWJ:Hid (Below w.heap.size w wr):=Zf (HWG.out.trans (HBJ.out.mono (by rw[HBS.out];omega)));by_cases hlt:j<nr
            · obtain⟨tb,to_,xs,ys,A1,k1,c1,A2,k2,c2,eR,htb,hbt,hl1,hl2,x0,x1,hi1,hi2,_,_⟩:=((HD.out.t.bars.below HWJ.out)).at_ (k:=j) (by rw[HR.out];exact hlt);simp only at eR;subst eR;have hws:=HWJ.out.size;have hbo:=HM.out.bars _ (ZC hbt);have hb1:=ZdD hbo.1;have hb2:=ZdD hbo.2;simp only at hb1 hb2;rw[HP.out]at hb1 hb2;rw[hl1]at hb1;rw[hl2]at hb2;have hgd:bs.getD j ([], [])=(xs,ys):=by rw[Zi,hbt];rfl
              have hpx:∀z∈xs,0<=z/\z<(np:Int):=by have h:=hbo.1.parts;rw[HP.out]at h;exact h
              have hpy:∀z∈ys,0<=z/\z<(np:Int):=by have h:=hbo.2.parts;rw[HP.out]at h;exact h
              obtain⟨wE,hwE⟩:∃wE,wE=wr.alloc (.cells #[.slice A1 k1 c1,.slice A2 k2 c2] 122):=⟨_,rfl⟩;have hbE:Below wr.heap.size wr wE:=by rw[hwE];exact Zaa _
              have hbsz:base<=wr.heap.size:=by have:=HBJ.out.size;rw[HSG.out]at this;rw[HBS.out];omega
              have hbl:(bEs fs bs (firN fs np) j).length<=128:=by
                have h1:=ZjD fs bs (firN fs np) 16 (fun b hb=>by have h:=HM.out.bars b hb;have h1:=ZdD h.1;have h2:=ZdD h.2;rw[HP.out]at h1 h2;omega) j
                have h2:j * (2 * 16)<=4 * 32:=Nat.mul_le_mul (by omega) (by omega);omega
              have CB:=ZjH fs np base gb b1 b2 n1 n2 D1 D2 uW uE' uP (wPs fs ps np++Zj j 1) (E6++bEs fs bs (firN fs np) j) (pPs fs np++(Zo j).map fun j=>((-1:Int),((j:Nat):Int))) j (firN fs np+j) k1 c1 k2 c2 A1 A2 xs ys wE (by omega) (by rw[Zq,ZcT,List.length_replicate];omega) (by rw[Zq,ZhM,ZH,Yo]) (by omega) (by rw[Zq];omega) (by omega) hl1 hl2 (by omega) (by omega) hpx hpy (HGJ.out.below hbE) (((hi1.keep fun a ha=>hbE.cell (by omega))).more (by rw[HBS.out];omega)) (((hi2.keep fun a ha=>hbE.cell (by omega))).more (by rw[HBS.out];omega)) HT1.out HT2.out;have HCB:=Zf CB;have HGD:=Zf hgd;have HBE:=Zf (HBJ.out.trans (hbE.mono hbsz));clear CB hbt hl1 hl2 hi1 hi2 hbo hb1 hb2 hgd hpx hpy hbE hbl HGJ HBJ HWJ;go_wp2_with fail;rw[<-hwE];clear hwE;refine HCB.out.mono ?_;rintro e w7 ⟨rfl,uW',uE'',uP',hG8,b8⟩;have HG8:=Zf hG8;have HB8:=Zf (HBE.out.trans b8);clear hG8 b8 HCB;go_wp2;go_roundw
              case rel=>exact⟨j+1,uW',uE'',uP',hlt,by go_num,Zf (by rw[List.replicate_succ',<-Yr,bEs,HGD.out,<-Yr,List.range_succ,Yk,<-Yr];exact HG8.out),HB8⟩
              case measure=>simp[intOf];omega
            · obtain rfl:nr=j:=by omega
              have hG:=HGJ.out;have g0:=hG.cell 0;have g1:=hG.cell 1;have g2:=hG.cell 2;simp at g0 g1 g2;have hrb:=(HBJ.out.block (w.heap.size+1) (by rw[HBS.out];omega)).trans HRB.out;have y0:=Yaf wr (w.heap.size+1) 0 _ _ _ hrb;have y1:=Yaf wr (w.heap.size+1) 1 _ _ _ hrb;have y2:=Yaf wr (w.heap.size+1) 2 _ _ _ hrb;simp at y0 y1 y2;have z0:=Yaj wr (w.heap.size+1) 0 _ _ hrb;have z1:=Yaj wr (w.heap.size+1) 1 _ _ hrb;have z2:=Yaj wr (w.heap.size+1) 2 _ _ hrb;have HRW:=Zf hrb;clear hG hrb HWJ;obtain⟨AW,cW,eW,_⟩:=HGJ.out.hW.slice;obtain⟨AE,cE,eE,_⟩:=HGJ.out.hE.slice;obtain⟨AP,cP,eP⟩:=HGJ.out.hP.slice;subst eW eE eP;have lW:(wPs fs ps np++Zj nr (1:Int))=lowW ⟨p,q,ps,es,fs,bs⟩:=by unfold lowW;simp only;rw[HP.out,HR.out]
              have lP:(pPs fs np++(Zo nr).map fun j=>((-1:Int),((j:Nat):Int)))=lowP ⟨p,q,ps,es,fs,bs⟩:=by unfold lowP;simp only;rw[HP.out,HR.out]
              have lE:(E6++bEs fs bs (firN fs np) nr)=lowE ⟨p,q,ps,es,fs,bs⟩:=by unfold lowE;simp only;rw[HP.out,HF.out,HR.out,HE6.out]
              have HOW:=HGJ.out.hW;have HOE:=HGJ.out.hE;have HOP:=HGJ.out.hP;rw[lW]at HOW;rw[lE]at HOE;rw[lP]at HOP;have HO:=Zf (And.intro HOW (And.intro HOE HOP));have hbw:=HBJ.out;have HBW:=Zf (HWG.out.trans (hbw.mono (by rw[HBS.out];omega)));obtain⟨kW,hkW⟩:∃k,k=(lowW ⟨p,q,ps,es,fs,bs⟩).length:=⟨_,rfl⟩;obtain⟨kE,hkE⟩:∃k,k=(lowE ⟨p,q,ps,es,fs,bs⟩).length:=⟨_,rfl⟩;obtain⟨kP,hkP⟩:∃k,k=(lowP ⟨p,q,ps,es,fs,bs⟩).length:=⟨_,rfl⟩;rw[<-hkW,<-hkE,<-hkP]at HO;rw[lW,<-hkW]at g0;rw[lE,<-hkE]at g1;rw[lP,<-hkP]at g2;clear lW lP lE HOW HOE HOP hbw hkW hkE hkP HGJ;go_wp2;have h1:=Yai wr (w.heap.size+1) 0 _ _ (.slice AW kW cW) HRW.out;have h2:=Yai _ (w.heap.size+1) 1 _ _ (.slice AE kE cE) h1;have h3:=Yai _ (w.heap.size+1) 2 _ _ (.slice AP kP cP) h2;obtain⟨x2,hx2⟩:∃x2,x2=((wr.setCell ⟨w.heap.size+1,0,none⟩ (.slice AW kW cW)).setCell ⟨w.heap.size+1,1,none⟩ (.slice AE kE cE)).setCell ⟨w.heap.size+1,2,none⟩ (.slice AP kP cP):=⟨_,rfl⟩;rw[<-hx2]at h3⊢;have ho:∀k,k≠w.heap.size+1->x2.heap[k]?=wr.heap[k]? :=fun k hk=>by rw[hx2,Yah _ _ _ _ hk,Yah _ _ _ _ hk,Yah _ _ _ _ hk]
              have hle:w.heap.size<=w.heap.size+1:=Nat.le_succ _;have hbx:Below w.heap.size wr x2:=by rw[hx2];exact(((Zl _ wr).setCell hle _).setCell hle _).setCell hle _
              have k0:=Yaf x2 (w.heap.size+1) 0 _ _ _ h3;have k1:=Yaf x2 (w.heap.size+1) 1 _ _ _ h3;have k2:=Yaf x2 (w.heap.size+1) 2 _ _ _ h3;simp at k0 k1 k2;clear hx2;refine bodyPost_ret (v:=.agg #[.slice AW kW cW,.slice AE kE cE,.slice AP kP cP]) ?_ rfl ⟨_,_,_,rfl,ZaG (Zao HO.out.1 HRW.out (by decide) ho) (by rw[HBS.out];omega),ZaG (Zao HO.out.2.1 HRW.out (by decide) ho) (by rw[HBS.out];omega),ZaG (Zao HO.out.2.2 HRW.out (by decide) ho) (by rw[HBS.out];omega),HBW.out.trans hbx⟩;simp[results,Tryz.results73,go_sem,k0,k1,k2]
def ZfW(a:Nat)(out:List Bool)(e:Int×Int):List Bool:=if e.1=a\/out.getD e.1.toNat false=true then out.set e.2.toNat true else out
def Zc5(a:Nat)(E:List (Int×Int))(out:List Bool):List Bool:=E.foldl (ZfW a) out
def Zb1(n:Nat)(E:List (Int×Int))(a:Nat):Nat->List Bool
 |0=>Zj n false
 |k+1=>Zc5 a E (Zb1 n E a k)
def ZlR(n:Nat)(E:List (Int×Int))(a:Nat):List Bool:=Zb1 n E a n
def leB(l m:List Bool):Prop:=l.length=m.length/\∀b,l.getD b false=true->m.getD b false=true
theorem leB.refl(l:List Bool):leB l l:=⟨rfl,fun _ h=>h⟩
theorem leB.trans{l m k:List Bool}(h:leB l m)(h2:leB m k):leB l k:=⟨h.1.trans h2.1,fun b hb=>h2.2 b (h.2 b hb)⟩
theorem Ziw:∀{l m:List Bool},leB l m->l.count true<=m.count true/\(l.count true=m.count true->l=m)
  | [], [],_=>⟨Zm _,fun _=>rfl⟩
  | [],_::_,h=>absurd h.1 (by simp)
  |_::_, [],h=>absurd h.1 (by simp)
  | x :: l, y :: m, h => by
    have ih:=Ziw (l:=l) (m:=m) ⟨by simpa using h.1,fun b hb=>by simpa using h.2 (b+1) (by simpa using hb)⟩;have h0:x=true->y=true:=fun hx=>by simpa using h.2 0 (by simpa using hx)
    rw[YP,YP];cases x<;>cases y
    · simpa using ih
    · simp;omega
    · simp at h0
    · simpa using ih
theorem ZbH{α:Type}(l:List α)(i j:Nat)(x d:α):(l.set i x).getD j d=if i=j/\i<l.length then x else l.getD j d:=by
 rw[Zi,List.getElem?_set,Zi];by_cases h:i=j
 ·subst h
  by_cases h2:i<l.length
  ·simp[h2]
  ·simp[h2]
 ·simp[h]
theorem ZfX(a:Nat)(out:List Bool)(e:Int×Int):leB out (ZfW a out e):=by
 unfold ZfW;split
 ·refine ⟨by rw [ZU],fun b hb => ?_⟩
  rw[ZbH];split
  ·rfl
  ·exact hb
 ·exact leB.refl _
theorem Zea(a:Nat):∀(E:List (Int×Int)) (out:List Bool),leB out (Zc5 a E out)
 | [],out=>leB.refl _
 |e::E,out=>(ZfX a out e).trans (Zea a E _)
theorem Zfa(a n:Nat):∀(E:List (Int×Int)) (out:List Bool),out.length=n->Fits n E->∀e∈E,(e.1=a\/out.getD e.1.toNat false=true)->(Zc5 a E out).getD e.2.toNat false=true
  | e :: E, out, hl, hF, f, hf, h => by
    show(Zc5 a E (ZfW a out e)).getD _ _=true;rcases ZT.mp hf with rfl|hf
    · refine(Zea a E _).2 _ ?_;unfold ZfW;have:=hF f (by simp);rw[Zc h,ZbH,Zc ⟨rfl,by omega⟩]
    · refine Zfa a n E _ (by rw[<-(ZfX a out e).1,hl]) (fun e he=>hF e (by simp[he])) f hf ?_;exact h.imp id ((ZfX a out e).2 _)
theorem Zeb(n:Nat)(E:List (Int×Int))(a:Nat):∀k,(Zb1 n E a k).length=n
  |0=>by simp[Zb1]
  | k + 1 => by
    show(Zc5 a E _).length=n;rw[<-(Zea a E _).1,Zeb n E a k]
theorem Zq6{E:List (Int×Int)}{n:Nat}{e:Int×Int}(hF:Fits n E)(he:e∈E):ed E e.1.toNat e.2.toNat:=by
 have:=hF e he;unfold ed;rw[show((e.1.toNat:Int),(e.2.toNat:Int))=e by
  cases e;simp only at this;simp only[Prod.mk.injEq];omega]
 exact he
theorem Zfb{a n:Nat}{E0:List (Int×Int)}(hF0:Fits n E0):∀(E:List (Int×Int)) (out:List Bool),(∀e∈E,e∈E0)->(∀b,out.getD b false=true->Way E0 a b)->∀b,(Zc5 a E out).getD b false=true->Way E0 a b
  | [],_,_,h=>h
  | e :: E, out, hE, h => by
    refine Zfb hF0 E (ZfW a out e) (fun f hf=>hE f (by simp[hf])) ?_;intro b hb;have he:=hE e (by simp);unfold ZfW at hb;split at hb
    · rename_i hc;rw[ZbH]at hb;split at hb
      · rename_i hi;rw[<-hi.1];rcases hc with hc|hc
        · have h1:=Zq6 hF0 he;rw[hc]at h1;exact .one (by simpa using h1)
        · exact .more (h _ hc) (Zq6 hF0 he)
      · exact h b hb
    · exact h b hb
theorem Zfc{n:Nat}{E:List (Int×Int)}(hF:Fits n E)(a:Nat):∀(k b:Nat),(Zb1 n E a k).getD b false=true->Way E a b
  | 0, b, h => by
    rw[show Zb1 n E a 0=Zj n false from rfl,Zi,List.getElem?_replicate]at h
    split at h<;>simp at h
  |k+1,b,h=>Zfb hF E _ (fun _ he=>he) (fun b hb=>Zfc hF a k b hb) b h
theorem Zfd(n:Nat)(E:List (Int×Int))(a:Nat):∀k,Zc5 a E (Zb1 n E a k)=Zb1 n E a k\/k<=(Zb1 n E a k).count true
  |0=> .inr (Zu _)
  | k + 1 => by
    show Zc5 a E (Zc5 a E (Zb1 n E a k))=Zc5 a E (Zb1 n E a k)\/k+1<=(Zc5 a E (Zb1 n E a k)).count true;rcases Zfd n E a k with h|h
    · rw[h];exact .inl h
    · have hl:=Zea a E (Zb1 n E a k);obtain⟨h1,h2⟩:=Ziw hl;by_cases he:(Zb1 n E a k).count true=(Zc5 a E (Zb1 n E a k)).count true
      · have:=h2 he;rw[<-this];exact .inl this.symm
      · exact .inr (by omega)
theorem Zk1:∀{l:List Bool},l.length<=l.count true->∀b,b<l.length->l.getD b false=true
  | [],_,b,hb=>by simp at hb
  | x :: l, h, b, hb => by
    have hc:=List.count_le_length (a:=true) (l:=l);rw[YP,List.length_cons]at h;have hx:x=true:=by
      cases x
      · simp at h;omega
      · rfl
    subst hx;cases b with
    |zero=>rfl
    |succ b=>exact Zk1 (l:=l) (by simp at h;omega) b (by simpa using hb)
theorem Zfe{n:Nat}{E:List (Int×Int)}(hF:Fits n E)(a:Nat):∀e∈E,(e.1=a\/(ZlR n E a).getD e.1.toNat false=true)->(ZlR n E a).getD e.2.toNat false=true:=by
 intro e he h;have hl:=Zeb n E a n;rcases Zfd n E a n with hs|hs
 ·have:=Zfa a n E (Zb1 n E a n) hl hF e he h
  rw[hs]at this;exact this
 ·have:=hF e he
  exact Zk1 (by unfold ZlR;omega) _ (by rw[show(ZlR n E a).length=n from hl];omega)
theorem Znj{n:Nat}{E:List (Int×Int)}(hF:Fits n E)(a b:Nat):(ZlR n E a).getD b false=true↔Way E a b:=by
 constructor
 ·exact Zfc hF a n b
 ·intro h
  induction h with
  |one e=>simpa using Zfe hF a _ e (.inl rfl)
  |more _ e ih=>simpa using Zfe hF a _ e (.inr (by simpa using ih))
def Zff(W:List Int)(far:List Int)(e:Int×Int):List Int:=if far.getD e.2.toNat 0<far.getD e.1.toNat 0+W.getD e.2.toNat 0 then far.set e.2.toNat (far.getD e.1.toNat 0+W.getD e.2.toNat 0)else far
def Zec(W:List Int)(E:List (Int×Int))(far:List Int):List Int:=E.foldl (Zff W) far
def farK(W:List Int)(E:List (Int×Int)):Nat->List Int
 |0=>W
 |k+1=>Zec W E (farK W E k)
def leL(l m:List Int):Prop:=l.length=m.length/\∀b,l.getD b 0<=m.getD b 0
theorem leL.refl(l:List Int):leL l l:=⟨rfl,fun _=>ZX _⟩
theorem leL.trans{l m k:List Int}(h:leL l m)(h2:leL m k):leL l k:=⟨h.1.trans h2.1,fun b=>YW (h.2 b) (h2.2 b)⟩
theorem ZfY(W far:List Int)(e:Int×Int):leL far (Zff W far e):=by
 unfold Zff;split
 ·rename_i hlt
  refine⟨by rw[ZU],fun b=> ?_⟩;rw[ZbH];split
  ·rename_i hi
   rw[<-hi.1];omega
  ·exact ZX _
 ·exact leL.refl _
theorem Zed(W:List Int):∀(E:List (Int×Int)) (far:List Int),leL far (Zec W E far)
 | [],far=>leL.refl _
 |e::E,far=>(ZfY W far e).trans (Zed W E _)
theorem Zfg(W:List Int)(n:Nat):∀(E:List (Int×Int)) (far:List Int),far.length=n->Fits n E->∀e∈E,far.getD e.1.toNat 0+W.getD e.2.toNat 0<=(Zec W E far).getD e.2.toNat 0
  | e :: E, far, hl, hF, f, hf => by
    show _<=(Zec W E (Zff W far e)).getD _ _;rcases ZT.mp hf with rfl|hf
    · refine YW ?_ ((Zed W E _).2 _);have:=hF f (by simp);unfold Zff;split
      · rw[ZbH,Zc ⟨rfl,by omega⟩];exact ZX _
      · omega
    · have h1:=Zfg W n E (Zff W far e) (by rw[<-(ZfY W far e).1,hl]) (fun e he=>hF e (by simp[he])) f hf;have h2:=(ZfY W far e).2 f.1.toNat;omega
theorem ZbO(W:List Int)(E:List (Int×Int)):∀k,(farK W E k).length=W.length
  |0=>rfl
  | k + 1 => by
    show(Zec W E _).length=_;rw[<-(Zed W E _).1,ZbO W E k]
def Told(W:List Int)(E:List (Int×Int))(far:List Int):Prop:=far.length=W.length/\∀b,b<W.length->∃r,Up E (b::r)/\In W.length (b::r)/\wsum W (b::r)=far.getD b 0
theorem Zdf{W:List Int}{E0:List (Int×Int)}(hF0:Fits W.length E0):∀(E:List (Int×Int)) (far:List Int),(∀e∈E,e∈E0)->Told W E0 far->Told W E0 (Zec W E far)
  | [],_,_,h=>h
  | e :: E, far, hE, h => by
    refine Zdf hF0 E (Zff W far e) (fun f hf=>hE f (by simp[hf])) ?_;have he:=hE e (by simp);have hf:=hF0 e he;unfold Zff;split
    · refine⟨by rw[ZU];exact h.1,fun b hb=> ?_⟩;rw[ZbH];split
      · rename_i hi;obtain⟨r,h1,h2,h3⟩:=h.2 e.1.toNat (by omega);refine⟨e.1.toNat::r,⟨by rw[<-hi.1];exact Zq6 hF0 he,h1⟩,?_,?_⟩
        · intro x hx;rcases ZT.mp hx with rfl|hx
          · exact hb
          · exact h2 x hx
        · rw[<-h3,<-hi.1];unfold wsum;simp only[ZM,ZY];omega
      · exact h.2 b hb
    · exact h
theorem ZdE{W:List Int}{E:List (Int×Int)}(hF:Fits W.length E):∀k,Told W E (farK W E k)
 | 0 => ⟨rfl,fun b hb => ⟨[],trivial,fun x hx => by
   obtain rfl:x=b:=by simpa using hx
   exact hb,by simp[wsum,farK]⟩⟩
 |k+1=>Zdf hF E _ (fun _ h=>h) (ZdE hF k)
theorem Zcb{W:List Int}{E:List (Int×Int)}(hF:Fits W.length E):∀(k b:Nat) (r:List Nat),Up E (b::r)->r.length<=k->wsum W (b::r)<=(farK W E k).getD b 0
  | 0, b, r, h, hk => by
    obtain rfl:r= []:=List.eq_nil_of_length_eq_zero (by omega)
    simp[wsum,farK]
  | k + 1, b, [], h, hk => by
    have h1:=Zcb hF k b [] h (by simp)
    exact YW h1 ((Zed W E _).2 b)
  | k + 1, b, a :: r, h, hk => by
    have h1:=Zcb hF k a r h.2 (by simpa using hk);have h2:=Zfg W W.length E (farK W E k) (ZbO W E k) hF _ h.1;simp only[Int.toNat_natCast]at h2;show _<=(Zec W E (farK W E k)).getD b 0;unfold wsum at h1⊢;simp only[ZM,ZY]at h1⊢;omega
def most(l:List Int):Int:=l.foldl max 0
theorem ZfZ(l:List Int):∀m:Int,m<=l.foldl max m/\(∀x∈l,x<=l.foldl max m)/\(l.foldl max m=m\/l.foldl max m∈l):=by
  induction l with
  |nil=>exact fun m=>⟨ZX _,fun x hx=>by simp at hx,.inl rfl⟩
  | cons y l ih =>
    intro m;obtain⟨h1,h2,h3⟩:=ih (max m y);refine⟨by simp only[List.foldl_cons];omega,fun x hx=> ?_,?_⟩
    · simp only[List.foldl_cons];rcases ZT.mp hx with rfl|hx
      · omega
      · exact h2 x hx
    · simp only[List.foldl_cons];rcases h3 with h3|h3
      · rw[h3];by_cases hm:m<=y
        · exact .inr (by rw[Int.max_eq_right hm];simp)
        · exact .inl (Int.max_eq_left (by omega))
      · exact .inr (by simp[h3])
theorem ZjE{W:List Int}{E:List (Int×Int)}(hF:Fits W.length E)(hA:Acyc E)(hw:∀z∈W,0<=z):Zg8 W E (most (farK W E W.length)):=by
  have hS:=ZdE hF W.length;obtain⟨h1,h2,h3⟩:=ZfZ (farK W E W.length) 0;have hmem:∀b,b<W.length->(farK W E W.length).getD b 0∈farK W E W.length:=fun b hb=>by
    have hb2:b<(farK W E W.length).length:=by rw[ZbO];exact hb
    rw[Zi,Zh hb2];exact Zz hb2
  constructor
  · intro p hp hi;cases p with
    |nil=>exact hp.elim
    | cons b r =>have hl:=Zbe W.length (b::r) (hp.nodup hA) hi;have hk:=Zcb hF W.length b r hp (by simp at hl;omega);exact YW hk (h2 _ (hmem b (hi b (by simp))))
  · rcases h3 with h3|h3
    · by_cases h0:W= []
      · exact .inl ⟨h0,h3⟩
      · refine .inr ?_;have hpos:0<W.length:=List.length_pos_iff.mpr h0;obtain⟨r,k1,k2,k3⟩:=hS.2 0 hpos;refine⟨0::r,k1,k2,?_⟩;have hle:wsum W (0::r)<=most (farK W E W.length):=by rw[k3];exact h2 _ (hmem 0 hpos)
        have hge:0<=wsum W (0::r):=by
          have:∀q:List Nat,0<=wsum W q:=by
            intro q
            induction q with
            |nil=>exact ZX _
            | cons x q ih =>
              unfold wsum at ih⊢;simp only[ZM,ZY];have h0:0<=W.getD x 0:=by
                rw[Zi]
                cases hx:W[x]? with
                |none=>exact ZX _
                |some z=>exact hw z (ZC hx)
              omega
          exact this _
        have h3':most (farK W E W.length)=0:=h3;omega
    · obtain⟨b,hb,he⟩:=ZA h3;have hb2:b<W.length:=by rw[ZbO]at hb;exact hb
      obtain⟨r,k1,k2,k3⟩:=hS.2 b hb2;refine .inr ⟨b::r,k1,k2,?_⟩;rw[k3,Zi,Zh hb];exact he
def ready(n:Nat)(E:List (Int×Int))(out:List Nat)(m:Nat):Bool:=!out.contains m&&(Zo n).all fun a=> !decide (ed E a m)||out.contains a
def pick(n:Nat)(E:List (Int×Int))(out:List Nat):Option Nat:=(Zo n).find? (ready n E out)
def ordK(n:Nat)(E:List (Int×Int)):Nat->List Nat
  |0=> []
  | k + 1 => match pick n E (ordK n E k) with
    |some m=>ordK n E k++ [m]
    |none=>ordK n E k
def ord(n:Nat)(E:List (Int×Int)):List Nat:=ordK n E n
theorem Zf0{n:Nat}{E:List (Int×Int)}(hF:Fits n E){out:List Nat}{m:Nat}:ready n E out m=true↔m∉out/\∀a,ed E a m->a∈out:=by
 unfold ready;rw[Bool.and_eq_true,List.all_eq_true];simp only[Bool.not_eq_true',Bool.or_eq_true,Y7,decide_eq_false_iff_not,ZD];rw[<-Bool.not_eq_true,Y7];refine and_congr_right fun _=>⟨fun h a ha=> ?_,fun h a _=> ?_⟩
 ·exact(h a (Zf4 hF ha).1).resolve_left (fun hn=>hn ha)
 ·by_cases ha: ed E a m
  ·exact .inr (h a ha)
  ·exact .inl ha
structure Ordered(n:Nat)(E:List (Int×Int))(out:List Nat):Prop where
 nodup:out.Nodup
 lt:∀x∈out,x<n
 behind:∀(i:Nat) (hi:i<out.length) (a:Nat),ed E a out[i]->a∈out.take i
theorem Ordered.nil(n:Nat)(E:List (Int×Int)):Ordered n E []:=⟨by simp,fun x h=>by simp at h,fun i h=>by simp at h⟩
theorem Ordered.snoc{n:Nat}{E:List (Int×Int)}{out:List Nat}(h:Ordered n E out){m:Nat}(hm:m<n)(hn:m∉out)(hp:∀a,ed E a m->a∈out):Ordered n E (out++ [m]):=by
 refine⟨?_,?_,?_⟩
 ·rw [List.nodup_append]
  refine⟨h.nodup,by simp,fun a ha b hb=> ?_⟩;obtain rfl:b=m:=by simpa using hb
  exact fun e=>hn (e▸ha)
 ·intro x hx
  rcases Z2.mp hx with hx|hx
  ·exact h.lt x hx
  ·obtain rfl: x = m:=by simpa using hx
   exact hm
 ·intro i hi a ha
  rw[Zq,List.length_singleton]at hi;rcases Zv i out.length with h1|h1
  ·rw [List.getElem_append_left h1] at ha
   rw[List.take_append_of_le_length (by omega)];exact h.behind i h1 a ha
  ·obtain rfl: i = out.length:=by omega
   rw[List.getElem_append_right (Zm _)]at ha;rw[List.take_left];simp at ha;exact hp a ha
theorem Zbd{n:Nat}{E:List (Int×Int)}(hF:Fits n E):∀k,Ordered n E (ordK n E k)
  |0=>Ordered.nil n E
  | k + 1 => by
    have ih:=Zbd hF k;show Ordered n E (match pick n E (ordK n E k)with|some m=>ordK n E k++ [m]|none=>ordK n E k)
    cases hp:pick n E (ordK n E k)with
    |none=>exact ih
    | some m =>have h1:=List.find?_some hp;have h2:=List.mem_of_find?_eq_some hp;obtain⟨k1,k2⟩:=(Zf0 hF).mp h1;exact ih.snoc (ZD.mp h2) k1 k2
theorem Ordered.all{n:Nat}{E:List (Int×Int)}{out:List Nat}(h:Ordered n E out)(hl:out.length=n)(x:Nat)(hx:x<n):x∈out:=by
 apply Zn;intro hm;have:=Zbe n (x::out) (List.nodup_cons.mpr ⟨hm,h.nodup⟩) (fun y hy=>by
  rcases ZT.mp hy with rfl|hy
  ·exact hx
  ·exact h.lt y hy)
 simp[hl]at this;omega
theorem Zix{n:Nat}{E:List (Int×Int)}(hF:Fits n E)(hA:Acyc E){out:List Nat}(h:Ordered n E out)(hl:out.length<n):∃m,pick n E out=some m:=by
  have hex:∃u,u<n/\u∉out:=by apply Zn;intro hno;have hall:∀x∈Zo n,x∈out:=fun x hx=>Zn fun hm=>hno ⟨x,ZD.mp hx,hm⟩;have hs:=(List.nodup_range (n:=n)).length_le_of_subset hall;rw[Yo]at hs;omega
  obtain⟨u,hu,hn⟩:=hex;obtain⟨v,⟨hv,hvo⟩,hp⟩:=Znv hF hA (fun x=>x<n/\x∉out) u ⟨hu,hn⟩
  cases hq:pick n E out with
  |some m=>exact⟨m,rfl⟩
  | none =>have:=List.find?_eq_none.mp hq v (ZD.mpr hv);exact absurd ((Zf0 hF).mpr ⟨hvo,fun a ha=>Zn fun hm=>hp a ha ⟨(Zf4 hF ha).1,hm⟩⟩) this
theorem ZdZ{n:Nat}{E:List (Int×Int)}(hF:Fits n E)(hA:Acyc E):∀k,k<=n->(ordK n E k).length=k
  |0,_=>rfl
  | k + 1, hk => by
    have ih:=ZdZ hF hA k (by omega);obtain⟨m,hm⟩:=Zix hF hA (Zbd hF k) (by omega);show(match pick n E (ordK n E k)with|some m=>ordK n E k++ [m]|none=>ordK n E k).length=k+1;rw[hm];simp[ih]
theorem Ordered.acyc{n:Nat}{E:List (Int×Int)}{out:List Nat}(h:Ordered n E out)(hl:out.length=n)(hF:Fits n E):Acyc E:=by
  have key:∀a b,Way E a b->∀(j:Nat) (hj:j<out.length),out[j]=b->∃(i:Nat) (hi:i<out.length),out[i]=a/\i<j:=by
    intro a b hw
    induction hw with
    | one e =>intro j hj hb;have hm:=h.behind j hj _ (hb▸e);obtain⟨i,hi,he⟩:=ZA hm;rw[ZP]at hi;rw[Y4]at he;exact⟨i,by omega,he,by omega⟩
    | more _ e ih =>intro j hj hb;have hm:=h.behind j hj _ (hb▸e);obtain⟨i,hi,he⟩:=ZA hm;rw[ZP]at hi;rw[Y4]at he;obtain⟨i',hi',he',hlt⟩:=ih i (by omega) he;exact⟨i',hi',he',by omega⟩
  intro a ha;have hlt:=(ha.lt hF).1;obtain⟨j,hj,hb⟩:=ZA (h.all hl a hlt);obtain⟨i,hi,he,hij⟩:=key a a ha j hj hb;have:=(List.getElem_inj h.nodup).mp (he.trans hb.symm);omega
end Go.Proofs.YtfahabphncmbfaaGreatDoor
