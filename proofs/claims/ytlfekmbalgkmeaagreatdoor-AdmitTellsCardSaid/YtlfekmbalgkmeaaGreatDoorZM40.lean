import Derived.Test.YtlfekmbalgkmeaaGreatDoorZM39
import Derived.Test.YtlfekmbalgkmeaaGreatDoorZM28
import Derived.Test.YtlfekmbalgkmeaaGreatDoorZM21
import Derived.Test.YtlfekmbalgkmeaaGreatDoorZM17
import Derived.Test.YtlfekmbalgkmeaaGreatDoorZM29
import Derived.BigQuiet
set_option linter.unusedSimpArgs false
set_option linter.unnecessarySimpa false
set_option linter.unusedVariables false
set_option maxRecDepth 100000
set_option maxHeartbeats 8000000
namespace Go.Proofs.YtlfekmbalgkmeaaGreatDoor
end Go.Proofs.YtlfekmbalgkmeaaGreatDoor
namespace Go.Proofs.YtlfekmbalgkmeaaGreatDoor
open Go.RowKit
theorem ownI_fresh{w:World}{g base:Nat}(hg:w.heap[g]? =some (.cells #[] 3 (0,0)))(hb:base<=g):OwnI w base (.slice (some ⟨g,0,none⟩) 0 0) []:=⟨rfl,.inr ⟨g,0,#[],rfl,hb,hg,Nat.le_refl _,Nat.zero_le _,rfl,rfl⟩⟩
theorem ends_step{T:Task}{x j k:Nat}(h:(touL T.futures (x:Int))[j]? =some k):(stepW 0 (endsL T.futures T.parts x)).take (j+1)=(stepW 0 (endsL T.futures T.parts x)).take j++ [(futAt T.futures k).2.2 - befE (endsL T.futures T.parts x) j]/\befE (endsL T.futures T.parts x) (j+1)=(futAt T.futures k).2.2:=by
 have hj:=(List.getElem?_eq_some_iff.mp h).1
 have he:=ends_at7 (T:=T) (uN:=x) hj;rw[(List.getElem?_eq_some_iff.mp h).2]at he
 refine⟨stepW_take 0 _ j _ he,?_⟩
 unfold befE;rw[if_neg (by omega),Nat.add_sub_cancel,List.getD_eq_getElem?_getD,he]
 rfl
theorem ends_final{T:Task}(x:Nat):stepW 0 (endsL T.futures T.parts x)=(stepW 0 (endsL T.futures T.parts x)).take (touL T.futures (x:Int)).length++ [(T.parts.getD x (0,0,0)).2.2 - befE (endsL T.futures T.parts x) (touL T.futures (x:Int)).length]:=by
 have hl:=endsL_len T.futures T.parts x;have hn:=nst_eq T.futures x;have he:(endsL T.futures T.parts x)[(touL T.futures (x:Int)).length]? =some (T.parts.getD x (0,0,0)).2.2:=by
  unfold endsL;rw[List.getElem?_append_right (by rw[List.length_map];exact Nat.le_refl _),List.length_map,Nat.sub_self]
  rfl
 have h:=stepW_take 0 _ _ _ he;rw[List.take_of_length_le (by rw[stepW_len];omega)]at h
 exact h
theorem bef_bound{T:Task}(hM:MayT T){x:Nat}(hx:x<T.parts.length)(j:Nat):0<=befE (endsL T.futures T.parts x) j/\befE (endsL T.futures T.parts x) j<=1000:=by
 unfold befE
 split
 ·omega
 ·by_cases h: j - 1 < (endsL T.futures T.parts x).length
  ·rw [List.getD_eq_getElem?_getD,List.getElem?_eq_getElem h]
   have hm:=List.getElem_mem h;have h1:=(ends_rise hM.parts hM.futures hx).2 _ hm;refine⟨Int.le_of_lt h1,?_⟩
   have hw: ∀e∈endsL T.futures T.parts x,e<=1000:=by
    intro e he;unfold endsL at he;have hp:=hM.parts _ (List.getElem_mem hx);unfold partOk at hp;have hpd:(T.parts.getD x (0,0,0)).2.2=T.parts[x].2.2:=by rw[List.getD_eq_getElem?_getD,List.getElem?_eq_getElem hx];rfl
    rcases List.mem_append.mp he with he|he
    ·obtain ⟨k,hk,rfl⟩:=List.mem_map.mp he
     have:=(mem_touK.mp hk).2.2.2;omega
    ·obtain rfl: e = _:=by simpa using he
     rw[List.getD_eq_getElem?_getD]at hpd
     rw[hpd];omega
   exact hw _ hm
  ·rw [List.getD_eq_getElem?_getD,List.getElem?_eq_none (by omega)]
   decide
theorem fut_bound{T:Task}(hM:MayT T){k:Nat}(hk:k<T.futures.length):0<=(futAt T.futures k).2.2/\(futAt T.futures k).2.2<=1000:=by
 have hf:=hM.futures.each _ (futAt_mem hk);have h1:=hf.first;obtain⟨uN,huN⟩: ∃q:Nat,(futAt T.futures k).2.1=q:=⟨(futAt T.futures k).2.1.toNat,by have:=hf.user.1;omega⟩
 have hu:uN<T.parts.length:=by have:=hf.user.2;omega
 have h2:=hf.last;rw[huN,Int.toNat_natCast]at h2;have h3:=h2 _ (List.getElem?_eq_getElem hu)
 have hp:=hM.parts _ (List.getElem_mem hu);unfold partOk at hp;omega
theorem fut_parts'{T:Task}(hM:MayT T){k:Nat}(hk:k<T.futures.length): ∃mN uN:Nat,futAt T.futures k=((mN:Int),(uN:Int),(futAt T.futures k).2.2)/\mN<T.parts.length/\uN<T.parts.length/\mN≠uN:=by
 have hf:=hM.futures.each _ (futAt_mem hk);obtain⟨mN,hmN⟩: ∃q:Nat,(futAt T.futures k).1=q:=⟨(futAt T.futures k).1.toNat,by have:=hf.maker.1;omega⟩
 obtain⟨uN,huN⟩: ∃q:Nat,(futAt T.futures k).2.1=q:=⟨(futAt T.futures k).2.1.toNat,by have:=hf.user.1;omega⟩
 have h1:=hf.maker.2;have h2:=hf.user.2;have h3:=hf.apart;rw[hmN]at h1 h3;rw[huN]at h2 h3;exact⟨mN,uN,by rw[<-hmN,<-huN],by omega,by omega,by omega⟩
theorem beg_at{T:Task}(hM:MayT T){k mN uN:Nat}{A:Int}(hk:k<T.futures.length)(hf:futAt T.futures k=((mN:Int),(uN:Int),A)): ∃q,q<(touL T.futures (uN:Int)).length/\begN T.futures k=firN T.futures uN+(q+1)/\(touL T.futures (uN:Int))[q]? =some k:=by
 have hmem:k∈touL T.futures (uN:Int):=by
  have:=fut_mem hM.parts hM.futures hk
  rwa [hf]at this
 have hq:=List.idxOf_lt_length_iff.mpr hmem;exact⟨_,hq,beg_eq hf,by rw[List.getElem?_eq_getElem hq,List.getElem_idxOf hq]⟩
structure BxQ(w:World)(s:Sh)(T:Task)(w':World):Prop where
 bel:Below w.heap.size w w'
 row:w'.heap[w.heap.size]? =some (.cells #[.int .i64 T.period,.int .i64 T.deadline,.slice s.P s.np s.pc,.slice s.E s.ne s.ec,.slice s.F s.nf s.fc,.slice s.R s.nr s.rc] 57 (0,0))
section
variable {w w1 w2: World} {s: Sh} {T: Task}
theorem BxQ.next(h:BxQ w s T w1)(hb:Below w1.heap.size w1 w2):BxQ w s T w2:=⟨h.bel.trans (hb.mono h.bel.size),by rw[hb.block _ (Array.getElem?_eq_some_iff.1 h.row).1];exact h.row⟩
theorem BxQ.rx{t:TypeId}{row:Option Nat}(h:BxQ w s T w1)(hr:RXl t w.heap.size row w1 w2)(ht:57≠t):BxQ w s T w2:=⟨h.bel.trans (hr.below h.bel.size),hr.heap h.row ht⟩
theorem BxQ.start(w:World)(s:Sh)(T:Task):BxQ w s T (w.alloc (.cells #[.int .i64 T.period,.int .i64 T.deadline,.slice s.P s.np s.pc,.slice s.E s.ne s.ec,.slice s.F s.nf s.fc,.slice s.R s.nr s.rc] 57)):=⟨below_alloc _,heap_alloc_new w _⟩
theorem BxQ.c(h:BxQ w s T w1):CellsD w1 s T.period T.deadline w.heap.size:=by
 have d0:=cell_of_row w1 _ 0 _ _ _ h.row;have d1:=cell_of_row w1 _ 1 _ _ _ h.row;have d2:=cell_of_row w1 _ 2 _ _ _ h.row;have d3:=cell_of_row w1 _ 3 _ _ _ h.row;have d4:=cell_of_row w1 _ 4 _ _ _ h.row;have d5:=cell_of_row w1 _ 5 _ _ _ h.row;exact⟨d0,d1,d2,d3,d4,d5⟩
end
theorem ownI_row{w:World}{b n:Nat}{v:Value}{zs:List Int}(h:OwnI w b v zs)(hn:zs.length=n):w.ownsRow b 3 1 v n (zs.map (Value.int .i64)):=by rw[<-hn];exact h
theorem row_ownI{w:World}{b n:Nat}{v:Value}{zs:List Int}{z:Int}(h:w.ownsRow b 3 1 v (n+1) (zs.map (Value.int .i64)++ [.int .i64 z]))(hn:zs.length=n):OwnI w b v (zs++ [z]):=by
 unfold OwnI;rw[List.length_append,List.map_append,List.length_singleton,hn];exact h
section
variable {s: Sh} {T: Task}
theorem rsteps_any(w:World)(x:Nat)(hD:IsD w s T)(hM:MayT T)(hx:x<T.parts.length):
  Calls Tryz.prog 125 #[s.arg T.period T.deadline,.int .i64 (x:Int)] w (GotOwn (stepW 0 (endsL T.futures T.parts x)) w):=by
 have HS:=Lib.hid (BxQ.start w s T);have HD:=Lib.hid hD;have HM:=Lib.hid hM;have HX:=Lib.hid hx;have HPL:=Lib.hid hD.t.hp;have HFL:=Lib.hid hD.t.hf;have hnt:(touL T.futures (x:Int)).length<=400:=by have h1:=touK_len T.futures (x:Int) 99;have h2:=hD.few.nf;unfold touL;omega
 obtain⟨nt,hntE⟩: ∃nt,nt=(touL T.futures (x:Int)).length:=⟨_,rfl⟩;rw[<-hntE]at hnt;have HNT:=Lib.hid hntE;have C:=Lib.hid (fun W (h:IsD W s T)=>dtouches_any (P:=s.P) (np:=s.np) (pc:=s.pc) (E:=s.E) (ne:=s.ne) (ec:=s.ec) (F:=s.F) (nf:=s.nf) (fc:=s.fc) (R:=s.R) (nr:=s.nr) (rc:=s.rc) (p:=T.period) (q:=T.deadline) (x:Int) T.futures W h.t.hf (by have h1:=h.t.hf;have h2:=h.few.nf;omega) h.t.futures)
 have hxn:x<s.np:=by rw[<-hD.t.hp];exact hx
 have hnf4:s.nf<=400:=by have h1:=hD.few.nf;have h2:=hD.t.hf;omega
 obtain⟨P,np,pc,E,ne,ec,Fu,nf,fc,R,nr,rc⟩:=s;simp only at HS C HPL HFL hxn hnf4;obtain⟨w0,hw0⟩: ∃w0,w0=w.alloc (.cells #[.int .i64 T.period,.int .i64 T.deadline,.slice P np pc,.slice E ne ec,.slice Fu nf fc,.slice R nr rc] 57):=⟨_,rfl⟩;rw[<-hw0]at HS;obtain⟨w1,hw1⟩: ∃w1,w1=w0.alloc (.cells #[] 3):=⟨_,rfl⟩;have hb1:Below w0.heap.size w0 w1:=by rw[hw1];exact below_alloc _
 have hn1:w1.heap[w0.heap.size]? =some (.cells #[] 3 (0,0)):=by rw[hw1];exact heap_alloc_new w0 _
 have hs1:w0.heap.size<w1.heap.size:=by rw[hw1];simp
 have B1:=Lib.hid (HS.out.next hb1);have O1:Hid (OwnI w1 w.heap.size (.slice (some ⟨w0.heap.size,0,none⟩) 0 0) []):=Lib.hid (ownI_fresh hn1 HS.out.bel.size);obtain⟨g0,hg0⟩: ∃g,g=w.heap.size+1:=⟨_,rfl⟩;have hs0:w0.heap.size=g0:=by rw[hw0,hg0];simp
 rw[hs0]at O1 hs1;have HG1:=Lib.hid hs1;have HISD:=Lib.hid (fun W (h:Below w.heap.size w W)=>HD.out.below h)
 obtain⟨c0,c1,c2,c3,c4,c5⟩:=B1.out.c;simp only at c2 c3 c4 c5;clear hD hM hx hntE hb1 hn1 hs1;go_enter Tryz.func125,Tryz.ntmps125;go_wp2_with fail;rw[<-hw0,<-hw1,<-hg0];clear hw0 hw1 hg0 hs0;refine(C.out _ (HISD.out _ B1.out.bel)).mono ?_
 rintro e w2 ⟨A,c,rfl,hO,b2⟩;have B2:=Lib.hid (B1.out.next b2);have O2:=Lib.hid (own_below O1.out b2:OwnI w2 w.heap.size (.slice (some ⟨g0,0,none⟩) 0 0) []);have S2:Hid (Side w2 w.heap.size (.slice (some ⟨g0,0,none⟩) 0 0) (.slice A (nums (touL T.futures (x:Int))).length c) (nums (touL T.futures (x:Int)))):=Lib.hid ⟨own_less hO B1.out.bel.size,fun k hk e=>by
  have h1:=(row_lt hO k hk).1;have h2:k=g0:=by injection e with e;exact e.symm
  have:=HG1.out;omega⟩
 rw[nums_length,<-HNT.out]at S2⊢;clear hO b2 C HS c0 c1 c2 c3 c4 c5 B1 O1;go_wp2;go_loopw [5,6,8] (fun v dn i wr=> ∃(j c':Nat) (A':Option Addr) (dz:Int),j<=nt/\i= .int .i64 (j:Int)/\v= .slice A' j c'/\dn= .int .i64 dz/\Hid (dz=befE (endsL T.futures T.parts x) j)/\Hid (OwnI wr w.heap.size (.slice A' j c') ((stepW 0 (endsL T.futures T.parts x)).take j))/\Hid (BxQ w ⟨P,np,pc,E,ne,ec,Fu,nf,fc,R,nr,rc⟩ T wr/\Side wr w.heap.size (.slice A' j c') (.slice A nt c) (nums (touL T.futures (x:Int))))) (fun _ _ i _=>nt - (intOf i).toNat)
 case atStart=>exact⟨0,0,some ⟨g0,0,none⟩,0,Nat.zero_le _,rfl,rfl,rfl,Lib.hid rfl,O2,Lib.hid ⟨B2.out,S2.out⟩⟩
 case round=>
  obtain⟨j,c',A',dz,hj,rfl,rfl,rfl,HDZ,HOJ,HB⟩:=hrel;clear B2 O2 S2;have hdz:=bef_bound HM.out HX.out j;rw[<-HDZ.out]at hdz;obtain⟨hdz0,hdz1⟩:=hdz;obtain⟨c0,c1,c2,c3,c4,c5⟩:=HB.out.1.c;simp only at c2 c3 c4 c5;have hlj:((stepW 0 (endsL T.futures T.parts x)).take j).length=j:=by rw[List.length_take,stepW_len,endsL_len,nst_eq,<-HNT.out];omega
  have HLJ:=Lib.hid hlj
  by_cases hlt:j<nt
  ·obtain ⟨k,hk⟩: ∃ k,(touL T.futures (x: Int))[j]? = some k:=⟨_,List.getElem?_eq_getElem (by rw [<- HNT.out]; exact hlt)⟩
   have hkf:k<nf:=by have:=touL_lt hk;rw[HFL.out]at this;exact this
   obtain⟨hst,hbe⟩:=ends_step hk;rw[<-HDZ.out]at hst;obtain⟨gb,go,ez,eA,hgb,hez,hq⟩:=(OwnI.ints HB.out.2.own).at_ (k:=j) (by rw[nums_length,<-HNT.out];exact hlt)
   obtain⟨k2,rfl,hk2⟩:=nums_atD hez;obtain rfl:k=k2:=by rw[hk]at hk2;exact Option.some.inj hk2
   subst eA;obtain⟨fb,fo,f1,f2,f3,hFe,hfb,hft,d1,d2,d3⟩:=(HISD.out _ HB.out.1.bel).t.futures.at_ (k:=k) (by rw[HFL.out];exact hkf)
   simp only at hFe;subst hFe;have hfa:(futAt T.futures k).2.2=f3:=by unfold futAt;rw[List.getD_eq_getElem?_getD,hft];rfl
   have hfb3:=fut_bound HM.out (k:=k) (by rw[HFL.out];exact hkf)
   rw[hfa]at hst hbe hfb3;obtain⟨hf0,hf1⟩:=hfb3;have HST:=Lib.hid hst;have HBE:=Lib.hid hbe;clear hk hk2 hez hgb hfb hft hfa hst hbe d1 d2 hlj;go_wp2
   go_quiet (fail)
   rename_i nq
   have hbd:Below wr.heap.size wr (wr.drewN nq):=below_drewN (Below.refl _ _) _;obtain⟨wd,hwd⟩: ∃wd,wd=wr.drewN nq:=⟨_,rfl⟩;rw[<-hwd]at hbd⊢;have HBd:=Lib.hid (And.intro (HB.out.1.next hbd) (HB.out.2.below hbd));have HOd:=Lib.hid (own_below HOJ.out hbd:OwnI wd w.heap.size (.slice A' j c') ((stepW 0 (endsL T.futures T.parts x)).take j));have hws:=HBd.out.1.bel.size;clear hwd hbd
   go_wp2_with(at_builtin;refine wpList_pushX rfl _ _ 3 40 1 8 (.int .i64 0) Tryz.underlying40 int_cell_info rfl (by decide) (by decide) rfl rfl wd w.heap.size j _ _ [.int .i64 (f3 - dz)] (ownI_row HOd.out HLJ.out) rfl (by intro x hx;simp at hx;subst hx;rfl) (by omega) hws rfl rfl ?_;intro A4 c4' w4 HO4 HR4 HAT;(have HO4':=Lib.hid (row_ownI HO4 HLJ.out));(have HB4':=Lib.hid (And.intro (HBd.out.1.rx HR4 (by decide)) (HBd.out.2.grew HR4 HAT)));clear HO4 HR4 HAT)
   go_roundw
   case rel=>exact⟨j+1,c4',A4,f3,hlt,by go_num,rfl,rfl,Lib.hid HBE.out.symm,Lib.hid (by rw[HST.out];exact HO4'.out),HB4'⟩
   case measure=>simp[intOf];omega
  ·obtain rfl: nt = j:=by omega
   obtain⟨pb,po,p1,p2,p3,hPe,hpb,hpt,d1,d2,d3⟩:=(HISD.out _ HB.out.1.bel).t.parts.at_ (k:=x) (by rw[HPL.out];exact hxn)
   simp only at hPe;subst hPe;have hpd:(T.parts.getD x (0,0,0)).2.2=p3:=by rw[List.getD_eq_getElem?_getD,hpt];rfl
   have hpb3:=HM.out.parts _ (List.mem_of_getElem? hpt)
   unfold partOk at hpb3;simp only at hpb3;obtain⟨_,_,_,_,hp0,hp1⟩:=hpb3;have hfin:=ends_final (T:=T) x;rw[hpd,<-HNT.out,<-HDZ.out]at hfin;have HFIN:=Lib.hid hfin;have HEN:Hid ((stepW 0 (endsL T.futures T.parts x)).length=nt+1):=Lib.hid (by rw[stepW_len,endsL_len,nst_eq,<-HNT.out])
   have hws:=HB.out.1.bel.size;clear hpd hpt hfin d1 d2 hlj hpb
   go_wp2_with(at_builtin;refine wpList_pushX rfl _ _ 3 40 1 8 (.int .i64 0) Tryz.underlying40 int_cell_info rfl (by decide) (by decide) rfl rfl wr w.heap.size nt _ _ [.int .i64 (p3 - dz)] (ownI_row HOJ.out HLJ.out) rfl (by intro x hx;simp at hx;subst hx;rfl) (by omega) hws rfl rfl ?_;intro A4 c4' w4 HO4 HR4 HAT;(have HO4':=Lib.hid (row_ownI HO4 HLJ.out));(have HB4':=Lib.hid (HB.out.1.rx HR4 (by decide)));clear HO4 HR4 HAT)
   go_ret;refine⟨A4,c4',by rw[HEN.out];rfl,?_,HB4'.out.bel⟩
   rw[HEN.out,HFIN.out];exact HO4'.out
theorem firN_small{T:Task}(hM:MayT T){j:Nat}(hj:j<=T.parts.length):firN T.futures j<=36:=by
 have h1:=firN_mono T.futures hj;have h2:=firN_all hM.parts hM.futures;have h3:=hM.few;unfold ManyT at h3;omega
theorem rfirst_any(w:World)(n:Nat)(hD:IsD w s T)(hM:MayT T)(hn:n<=T.parts.length):
  Calls Tryz.prog 126 #[s.arg T.period T.deadline,.int .i64 (n:Int)] w fun e w'=>e= .returned (.int .i64 (firN T.futures n:Int))/\Below w.heap.size w w':=by
 have HS:=Lib.hid (Bx1T.start hD.t);have HD:=Lib.hid hD;have HM:=Lib.hid hM;have HN:=Lib.hid hn;have HISD:=Lib.hid (fun W (h:Below w.heap.size w W)=>HD.out.below h)
 have hn4:n<=400:=by have:=hD.few.np;omega
 obtain⟨P,np,pc,E,ne,ec,Fu,nf,fc,R,nr,rc⟩:=s;simp only at HS;clear hD hM hn;go_enter Tryz.func126,Tryz.ntmps126;go_wp2;go_loopw [5,6] (fun v i wr=> ∃j:Nat,j<=n/\i= .int .i64 (j:Int)/\v= .int .i64 (firN T.futures j:Int)/\Hid (Bx1T w ⟨P,np,pc,E,ne,ec,Fu,nf,fc,R,nr,rc⟩ T wr)) (fun _ i _=>n - (intOf i).toNat)
 case atStart=>exact⟨0,Nat.zero_le _,rfl,rfl,HS⟩
 case round=>
  obtain⟨j,hj,rfl,rfl,HB⟩:=hrel;clear HS
  by_cases hlt:j<n
  ·obtain ⟨c0,c1,c2,c3,c4,c5⟩:=HB.out.c
   simp only at c2 c3 c4 c5;have hf1:=firN_small HM.out (j:=j) (by have:=HN.out;omega)
   have hf2:=firN_small HM.out (j:=j+1) (by have:=HN.out;omega)
   obtain⟨f0,hf0⟩: ∃f,f=firN T.futures j:=⟨_,rfl⟩;obtain⟨k0,hk0⟩: ∃k,(stepW 0 (endsL T.futures T.parts j)).length=k:=⟨_,rfl⟩;have hfs:firN T.futures (j+1)=f0+k0:=by rw[firN,hf0,<-hk0,stepW_len,endsL_len]
   have HFS:=Lib.hid hfs;have HK0:=Lib.hid hk0;rw[<-hf0]at hf1⊢;rw[hfs]at hf2;clear hf0 hfs hk0;go_wp2_with fail;refine(rsteps_any wr j (HISD.out _ HB.out.bel) HM.out (by have:=HN.out;omega)).mono ?_
   rintro e w1 ⟨A1,c1',rfl,_,b1⟩;rw[HK0.out];have HB1:=Lib.hid (HB.out.next b1);clear b1 c0 c1 c2 c3 c4 c5 HB;go_wp2;go_roundw
   case rel=>exact⟨j+1,by omega,by go_num,by rw[HFS.out];first|rfl|go_num,HB1⟩
   case measure=>simp[intOf];omega
  ·obtain rfl: n = j:=by omega
   go_wp2;go_ret
   exact⟨rfl,HB.out.bel⟩
theorem rfinal_any(w:World)(x:Nat)(hD:IsD w s T)(hM:MayT T)(hx:x<T.parts.length):
  Calls Tryz.prog 127 #[s.arg T.period T.deadline,.int .i64 (x:Int)] w fun e w'=>e= .returned (.int .i64 (lasN T.futures x:Int))/\Below w.heap.size w w':=by
 have HS:=Lib.hid (Bx1T.start hD.t);have HD:=Lib.hid hD;have HISD:=Lib.hid (fun W (h:Below w.heap.size w W)=>HD.out.below h)
 have hx4:x<=400:=by have:=hD.few.np;omega
 have hf1:=firN_small hM (j:=x+1) hx;have hl:=lasN_eq T.futures x;obtain⟨f1,hfe⟩: ∃f,firN T.futures (x+1)=f:=⟨_,rfl⟩;have C:=Lib.hid (fun W (h:IsD W s T)=>rfirst_any W (x+1) h hM hx)
 rw[hfe]at C hf1 hl;obtain⟨l0,hle⟩: ∃l,lasN T.futures x=l:=⟨_,rfl⟩;rw[hle]at hl⊢;obtain⟨P,np,pc,E,ne,ec,Fu,nf,fc,R,nr,rc⟩:=s;simp only at HS;obtain⟨c0,c1,c2,c3,c4,c5⟩:=HS.out.c;simp only at c2 c3 c4 c5;have hl2:(f1:Int) - 1=(l0:Int):=by omega
 clear hD hM hx hfe hle;obtain⟨w0,hw0⟩: ∃w0,w0=w.alloc (.cells #[.int .i64 T.period,.int .i64 T.deadline,.slice P np pc,.slice E ne ec,.slice Fu nf fc,.slice R nr rc] 57):=⟨_,rfl⟩;rw[<-hw0]at HS c0 c1 c2 c3 c4 c5;go_enter Tryz.func127,Tryz.ntmps127;go_wp2_with fail;rw[<-hw0];clear hw0;refine(C.out _ (HISD.out _ HS.out.bel)).mono ?_
 rintro e w1 ⟨rfl,b1⟩;have HB1:=Lib.hid (HS.out.next b1);clear b1 c0 c1 c2 c3 c4 c5;go_wp2;go_ret;exact⟨by first|rfl|(rw[hl2]),HB1.out.bel⟩
end
end Go.Proofs.YtlfekmbalgkmeaaGreatDoor
