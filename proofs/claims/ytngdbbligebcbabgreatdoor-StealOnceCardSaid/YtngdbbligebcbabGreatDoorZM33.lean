import Derived.Test.YtngdbbligebcbabGreatDoorZM32
import Derived.Test.YtngdbbligebcbabGreatDoorZStealCopied
import Derived.Test.YtngdbbligebcbabGreatDoorZM18
set_option linter.unusedVariables false
set_option linter.unusedSimpArgs false
set_option maxRecDepth 100000
set_option maxHeartbeats 16000000
namespace Go.Proofs.YtngdbbligebcbabGreatDoor
open Go Go.RowKit
def PhiOg1(b gb m:Nat)(g:Gng)(L:List Int)(ad:GAd):Nat->Value->World->Prop
 |0,v,w=>v= .pointer (some ⟨gb,0,none⟩)
 |1,v,w=>v= .agg #[.slice (some ⟨ad.gO,0,none⟩) m ad.cO,ad.vL]
 |2,v,w=> ∃v0 v1,v= .agg #[v0,v1]/\(∃g1 c1,v0= .slice (some ⟨g1,0,none⟩) m c1)/\OwnI w b v0 g.O/\OwnI w b v1 L
 |3,v,w=>NewOg w 65 b v
 |4,v,w=>v= .pointer (some ⟨gb,3,none⟩)
 |5,v,w=>v= .slice (some ⟨ad.gT,0,none⟩) m ad.cT
 |6,v,w=>(∃g1 c1,v= .slice (some ⟨g1,0,none⟩) m c1)/\w.ownsRow b 65 6 v m (flatN (fun c=>cT (g.tk c)) m)
 |7,v,w=>NewOg w 3 b v
 |8,v,w=>v= .pointer (some ⟨gb,4,none⟩)
 |9,v,w=>v= .slice (some ⟨ad.gF,0,none⟩) m ad.cF
 |10,v,w=>(∃g1 c1,v= .slice (some ⟨g1,0,none⟩) m c1)/\OwnI w b v (frL m g)
 |11,v,w=> ∃v0 v1 v3 v4,v= .agg #[v0,v1,.slice none 0 0,v3,v4]/\OgSt w b m g L v0 v1 v3 v4
 |12,v,w=> ∃p,v= .pointer (some ⟨p,0,none⟩)/\b<=p/\RowV p 41 [.slice none 0 0,.slice none 0 0,.slice none 0 0,.slice none 0 0,.slice none 0 0] w
 |_,_,_=>True
theorem phiOg1_below{b gb m:Nat}{g:Gng}{L:List Int}{ad:GAd}: ∀kq v w w',PhiOg1 b gb m g L ad kq v w->Below w.heap.size w w'->PhiOg1 b gb m g L ad kq v w':=by
 intro kq v w w' h hb
 match kq,h with
 |0,h=>exact h
 |1,h=>exact h
 |2,h=>exact(by obtain⟨v0,v1,e,s,o0,o1⟩:=h;exact⟨v0,v1,e,s,OwnI.below o0 hb,OwnI.below o1 hb⟩)
 |3,h=>exact(NewOg.below h hb)
 |4,h=>exact h
 |5,h=>exact h
 |6,h=>exact⟨h.1,own_below h.2 hb⟩
 |7,h=>exact(NewOg.below h hb)
 |8,h=>exact h
 |9,h=>exact h
 |10,h=>exact⟨h.1,OwnI.below h.2 hb⟩
 |11,h=>exact(by obtain⟨v0,v1,v3,v4,e,s⟩:=h;exact⟨v0,v1,v3,v4,e,s.below hb⟩)
 |12,h=>exact(by obtain⟨p,e,hp,hr⟩:=h;exact⟨p,e,hp,hr.below hb hr.lt⟩)
 |kq+13,h=>exact trivial
def ThtOg1(b m:Nat)(g:Gng)(L:List Int)(wr:World)(t:Nat)(f:Nat->Value)(w:World):Prop:=
 13<=t/\t<=14/\ ∃v0 v1 v3 v4 p,f 3= .pointer (some ⟨p,0,none⟩)/\b<=p/\Below wr.heap.size wr w/\OgSt w b m g L v0 v1 v3 v4/\(t=13->f 16= .agg #[v0,v1,.slice none 0 0,v3,v4]/\RowV p 41 [.slice none 0 0,.slice none 0 0,.slice none 0 0,.slice none 0 0,.slice none 0 0] w)/\(t=14->RowV p 41 [v0,v1,.slice none 0 0,v3,v4] w)
def PhiOg5(b gb p m k:Nat)(Dv:Option Addr)(cD:Nat)(A:Option Addr)(n c:Nat)(g:Gng)(ad:GAd):Nat->Value->World->Prop
 |0,v,w=>v= .pointer (some ⟨p,2,none⟩)
 |1,v,w=>v= .slice Dv k cD
 |2,v,w=>v= .pointer (some ⟨gb,2,none⟩)
 |3,v,w=>v= .slice (some ⟨ad.gD,0,none⟩) m ad.cD
 |4,v,w=>v= .int .i64 (k:Int)
 |5,v,w=>v= .pointer (some ⟨ad.gD,3 * k,none⟩)
 |6,v,w=>v= .agg #[.slice A n c,.int .i64 (g.T k),.int .i64 (g.B k)]
 |7,v,w=> ∃A2 n2 c2,v= .agg #[.slice A2 n2 c2,.int .i64 (g.T k),.int .i64 (g.B k)]/\OwnI w b (.slice A2 n2 c2) (g.R k)
 |8,v,w=> ∃A2 n2 c2,OwnXs 81 (Value.slice Dv k cD).ownBlock [.slice A2 n2 c2,.int .i64 (g.T k),.int .i64 (g.B k)] v w/\OwnI w b (.slice A2 n2 c2) (g.R k)
 |_,_,_=>True
theorem phiOg5_below{b gb p m k:Nat}{Dv:Option Addr}{cD:Nat}{A:Option Addr}{n c:Nat}{g:Gng}{ad:GAd}: ∀kq v w w',PhiOg5 b gb p m k Dv cD A n c g ad kq v w->Below w.heap.size w w'->PhiOg5 b gb p m k Dv cD A n c g ad kq v w':=by
 intro kq v w w' h hb
 match kq,h with
 |0,h=>exact h
 |1,h=>exact h
 |2,h=>exact h
 |3,h=>exact h
 |4,h=>exact h
 |5,h=>exact h
 |6,h=>exact h
 |7,h=>exact(by obtain⟨A2,n2,c2,e,ho⟩:=h;exact⟨A2,n2,c2,e,ho.below hb⟩)
 |8,h=>exact(by obtain⟨A2,n2,c2,e,ho⟩:=h;exact⟨A2,n2,c2,e.rx (u:=81) (base:=0) (.inl hb),ho.below hb⟩)
 |kq+9,h=>exact trivial
def ThtOg5(w1 w4:World)(p m k:Nat)(Dv:Option Addr)(cD:Nat)(g:Gng)(L:List Int)(v0 v1 v3 v4:Value)(Rv:Nat->Value)(t:Nat)(f:Nat->Value)(w:World):Prop:=
 9<=t/\t<=12/\(t=9->Below w4.heap.size w4 w/\f 25= .slice Dv k cD/\ ∃A2 n2 c2,OwnXs 81 (Value.slice Dv k cD).ownBlock [.slice A2 n2 c2,.int .i64 (g.T k),.int .i64 (g.B k)] (f 32) w/\OwnI w w1.heap.size (.slice A2 n2 c2) (g.R k))/\
  (10<=t->t<=11-> ∃A2 n2 c2 wm,Below w4.heap.size w4 wm/\OwnI wm w1.heap.size (.slice A2 n2 c2) (g.R k)/\RXs 81 w1.heap.size (Value.slice Dv k cD).ownBlock wm w/\Grews 81 w1.heap.size 3 (k+1) (flatN (fun i=> [Rv i,.int .i64 (g.T i),.int .i64 (g.B i)]) k++ [.slice A2 n2 c2,.int .i64 (g.T k),.int .i64 (g.B k)]) (f 33) w)/\
  (t=11->f 34= .pointer (some ⟨p,2,none⟩))/\(t=12-> ∃D2 cD2 Rv2,OgLp w1 p m (k+1) g L v0 v1 v3 v4 (.slice D2 (k+1) cD2) Rv2 w)
section
variable {base m: Nat} {g: Gng} {L: List Int} {ad: GAd}
theorem fresh_tksOg{w:World}{b:Nat}{u:Value}(hu:NewOg w 65 b u)(hbw:b<=w.heap.size){gT n c:Nat}{xs:List Value}(hn:1<=n)(hl:n<=1000)(h:w.ownsRow base 65 6 (.slice (some ⟨gT,0,none⟩) n c) n xs)(h1: ∀u∈xs,u.oneCell'=true):
  ∃A1 c1 w',(Builtin.append_ #[39,39] 39 #[u,.slice (some ⟨gT,0,none⟩) n c]).run Tryz.prog w= .ok (.slice (some ⟨A1,0,none⟩) n c1) w'/\w'.ownsRow b 65 6 (.slice (some ⟨A1,0,none⟩) n c1) n xs/\Below w.heap.size w w':=by
 obtain⟨g0,rfl,hg,hbg⟩:=hu;obtain⟨i0,hi,hz0,hz1,hz2⟩:=info_partsC tk_cell_info;obtain⟨v',w',hr,ho,hb⟩:=fresh_append (P:=Tryz.prog) w 39 39 65 i0 _ 6 48 Tryz.underlying39 hi hz0 hz1 hz2 rfl (by decide) b g0 hg hbg hbw (some ⟨gT,0,none⟩) n c xs h.1 (fun e=>by cases e) (fun a ha j u hj=>by
  cases ha
  have:=rowN_cell h hj;rw[addr_add]
  simpa using this) h1 (by unfold maxLen;omega) (by omega)
 rcases ho.2 with⟨_,hn0⟩|⟨g',cap,cur,rfl,hg',hgg,rest⟩
 ·omega
 ·exact⟨g',cap,w',hr,ho,hb⟩
theorem sown_any(w:World)(hm1:1<=m)(hm:m<=8)(hll:L.length<=400)(hrl: ∀j,j<m->(g.R j).length<=1000)(h:GngR w base m g L ad):
    Calls Tryz.prog 19 #[.agg #[.slice (some ⟨ad.gO,0,none⟩) m ad.cO,ad.vL, .slice (some ⟨ad.gD,0,none⟩) m ad.cD, .slice (some ⟨ad.gT,0,none⟩) m ad.cT, .slice (some ⟨ad.gF,0,none⟩) m ad.cF]] w fun e w'=> ∃ad',e= .returned (.agg #[ad'.vO m,ad'.vL,ad'.vD m,ad'.vT m,ad'.vF m])/\GngR w' w.heap.size m g L ad'/\Below w.heap.size w w':=by
  obtain⟨w1,hw1⟩: ∃w1,w1=(w.alloc (.cells #[.slice (some ⟨ad.gO,0,none⟩) m ad.cO,ad.vL, .slice (some ⟨ad.gD,0,none⟩) m ad.cD, .slice (some ⟨ad.gT,0,none⟩) m ad.cT, .slice (some ⟨ad.gF,0,none⟩) m ad.cF] 41)).alloc (.cells #[.slice none 0 0, .slice none 0 0, .slice none 0 0, .slice none 0 0, .slice none 0 0] 41):=⟨_,rfl⟩;have hb1:Below w.heap.size w w1:=by rw[hw1];exact((Below.refl _ _).alloc (Nat.le_refl _) _).alloc (by simp) _
  have HB1:=Lib.hid hb1;have HS1:Hid (w.heap.size+2<=w1.heap.size):=Lib.hid (by rw[hw1];simp)
  have HR1:Hid (RowV w.heap.size 41 (gangC m ad) w1):=Lib.hid (by
    rw[hw1];have:=RowV.new w 41 (gangC m ad);exact(by simpa[gangC,GAd.vO,GAd.vD,GAd.vT,GAd.vF]using this:RowV w.heap.size _ _ _).alloc _)
  have HR2:Hid (RowV (w.heap.size+1) 41 [.slice none 0 0, .slice none 0 0, .slice none 0 0, .slice none 0 0, .slice none 0 0] w1):=Lib.hid (by
    rw[hw1];have:=RowV.new (w.alloc (.cells #[.slice (some ⟨ad.gO,0,none⟩) m ad.cO,ad.vL, .slice (some ⟨ad.gD,0,none⟩) m ad.cD, .slice (some ⟨ad.gT,0,none⟩) m ad.cT, .slice (some ⟨ad.gF,0,none⟩) m ad.cF] 41)) 41 [.slice none 0 0, .slice none 0 0, .slice none 0 0, .slice none 0 0, .slice none 0 0]
    simpa using this)
  have HG1:=Lib.hid (h.below hb1);have HW1:=Lib.hid hw1;have HM1:=Lib.hid hm1;have HLL:=Lib.hid hll;have HRL:=Lib.hid hrl;obtain⟨AL,cL,hvL,_⟩:=h.left.slice;have HVL:=Lib.hid hvL;clear h hw1 hb1 hm1 hll hvL hrl;go_enter Tryz.func19,Tryz.ntmps19;go_upto_region 1 with fail;rw[<-HW1.out];obtain⟨gb,hgb⟩: ∃gb,gb=w.heap.size:=⟨_,rfl⟩;rw[<-hgb]at HR1;have HGB:=Lib.hid hgb;clear hgb;refine wp_region_tail 13 [5,6,7,8,9,10,11,12,13,14,15,16,3,1000] [] (by kernel_rfl) (by kernel_rfl) (by intro d hd;simp at hd⊢;omega) (fun z=>Below w1.heap.size w1 z) (PhiOg1 w1.heap.size gb m g L ad) (fun _ _=>True) (ThtOg1 w1.heap.size m g L w1)
    (fun z z' h hb=>h.trans (hb.mono h.size)) phiOg1_below ((Below.refl _ _).drew) ?hstep ?hloose ?hmid ?htail ?hcon ?hend
  case hstep=>
    intro kq o hkm hkF ho a1 w hI hA hd K hK;obtain⟨ρ,hρ⟩: ∃ρ,a1.eval=ρ:=⟨_,rfl⟩;rw[hρ]at hA hd
    match kq,hkm,hkF,ho with
    | 0, _, _, ho =>
      have hoo:=Option.some.inj ho;subst hoo;have hp:ρ (.tmp 1)= .pointer (some ⟨gb,0,none⟩):=by rw[HGB.out];exact hA.tmp 1 (by decide)
      exact fx_val hK hρ (.pointer (some ⟨gb,0,none⟩)) (by simp[execOp,hp,go_sem]) rfl
    | 1, _, _, ho =>
      have hoo:=Option.some.inj ho;subst hoo;have f0:ρ (.tmp 5)= .pointer (some ⟨gb,0,none⟩):=hd ⟨0, .data⟩ (by simp) (by rfl) (by decide)
      have h0:w.cell? ⟨gb,0,none⟩=some (.slice (some ⟨ad.gO,0,none⟩) m ad.cO):=(HR1.out.below hI HR1.out.lt).cell rfl
      have h1:w.cell? ⟨gb,1,none⟩=some (ad.vL):=(HR1.out.below hI HR1.out.lt).cell rfl
      exact fx_val hK hρ (.agg #[.slice (some ⟨ad.gO,0,none⟩) m ad.cO,ad.vL]) (by simp[execOp,f0,h0,h1,go_sem]) rfl
    | 2, _, _, ho =>
      have hoo:=Option.some.inj ho;subst hoo;have f1:ρ (.tmp 6)= .agg #[.slice (some ⟨ad.gO,0,none⟩) m ad.cO,ad.vL]:=hd ⟨1, .data⟩ (by simp) (by rfl) (by decide)
      have hg:=HG1.out.below hI;have hl:=hg.left;have hon:=hg.on;rw[HVL.out]at f1 hl;unfold GAd.vO at hon;exact fx_call hK hρ 44 _ _ #[.agg #[.slice (some ⟨ad.gO,0,none⟩) m ad.cO, .slice AL L.length cL]] rfl (by simp only[List.map_toArray,List.map_cons,List.map_nil,hA.const,f1]) (eg_of Tryz.func44 (by kernel_rfl) rfl) ((ownC_own w (own_isC hon hl hg.ol rfl (by omega) HLL.out)).mono fun e w' hh=>by
        obtain⟨⟨A1,c1,F1,d1,he,o0,o1⟩,hb⟩:=hh;obtain⟨g1,rfl,_,_⟩:=o0.some_ HM1.out;exact⟨_,he,⟨_,_,rfl,⟨g1,c1,rfl⟩,OwnI.down o0 (by have:=hI.size;omega),OwnI.down o1 (by have:=hI.size;omega)⟩,hb⟩)
    | 3, _, _, ho =>
      have hoo:=Option.some.inj ho;subst hoo;exact fx_make hK hρ (.slice (some ⟨w.heap.size,0,none⟩) 0 0) (w.alloc (.cells #[] 65)) (by simp[execOp,go_sem]) ⟨w.heap.size,rfl,heap_alloc_new w _,hI.size⟩ (below_alloc _)
    | 4, _, _, ho =>
      have hoo:=Option.some.inj ho;subst hoo;have hp:ρ (.tmp 1)= .pointer (some ⟨gb,0,none⟩):=by rw[HGB.out];exact hA.tmp 1 (by decide)
      exact fx_val hK hρ (.pointer (some ⟨gb,3,none⟩)) (by simp[execOp,hp,go_sem]) rfl
    | 5, _, _, ho =>
      have hoo:=Option.some.inj ho;subst hoo;have f4:ρ (.tmp 9)= .pointer (some ⟨gb,3,none⟩):=hd ⟨4, .data⟩ (by simp) (by rfl) (by decide)
      have h3:w.cell? ⟨gb,3,none⟩=some (.slice (some ⟨ad.gT,0,none⟩) m ad.cT):=(HR1.out.below hI HR1.out.lt).cell rfl
      exact fx_val hK hρ (.slice (some ⟨ad.gT,0,none⟩) m ad.cT) (by simp[execOp,f4,h3,go_sem]) rfl
    | 6, _, _, ho =>
      have hoo:=Option.some.inj ho;subst hoo;have f5:ρ (.tmp 10)= .slice (some ⟨ad.gT,0,none⟩) m ad.cT:=hd ⟨5, .data⟩ (by simp) (by rfl) (by decide)
      have f3:NewOg w 65 w1.heap.size (ρ (.tmp 8)):=hd ⟨3, .data⟩ (by simp) (by rfl) (by decide)
      obtain⟨yv,hyv⟩: ∃yv,ρ (.tmp 8)=yv:=⟨_,rfl⟩;rw[hyv]at f3;obtain⟨A1,c1,w',hr,ho,hb⟩:=fresh_tksOg f3 hI.size HM1.out (by omega) (HG1.out.below hI).tks (tk_one g m)
      exact fx_make hK hρ _ w' (exec_append (.tmp 8) (.tmp 10) 39 _ _ rfl hyv f5 hr) ⟨⟨A1,c1,rfl⟩,ho⟩ hb
    | 7, _, _, ho =>
      have hoo:=Option.some.inj ho;subst hoo;exact fx_make hK hρ (.slice (some ⟨w.heap.size,0,none⟩) 0 0) (w.alloc (.cells #[] 3)) (by simp[execOp,go_sem]) ⟨w.heap.size,rfl,heap_alloc_new w _,hI.size⟩ (below_alloc _)
    | 8, _, _, ho =>
      have hoo:=Option.some.inj ho;subst hoo;have hp:ρ (.tmp 1)= .pointer (some ⟨gb,0,none⟩):=by rw[HGB.out];exact hA.tmp 1 (by decide)
      exact fx_val hK hρ (.pointer (some ⟨gb,4,none⟩)) (by simp[execOp,hp,go_sem]) rfl
    | 9, _, _, ho =>
      have hoo:=Option.some.inj ho;subst hoo;have f8:ρ (.tmp 13)= .pointer (some ⟨gb,4,none⟩):=hd ⟨8, .data⟩ (by simp) (by rfl) (by decide)
      have h4:w.cell? ⟨gb,4,none⟩=some (.slice (some ⟨ad.gF,0,none⟩) m ad.cF):=(HR1.out.below hI HR1.out.lt).cell rfl
      exact fx_val hK hρ (.slice (some ⟨ad.gF,0,none⟩) m ad.cF) (by simp[execOp,f8,h4,go_sem]) rfl
    | 10, _, _, ho =>
      have hoo:=Option.some.inj ho;subst hoo;have f9:ρ (.tmp 14)= .slice (some ⟨ad.gF,0,none⟩) m ad.cF:=hd ⟨9, .data⟩ (by simp) (by rfl) (by decide)
      have f7:NewOg w 3 w1.heap.size (ρ (.tmp 12)):=hd ⟨7, .data⟩ (by simp) (by rfl) (by decide)
      obtain⟨yv,hyv⟩: ∃yv,ρ (.tmp 12)=yv:=⟨_,rfl⟩;rw[hyv]at f7;have hfr:=(HG1.out.below hI).frm;unfold GAd.vF at hfr;obtain⟨A1,c1,w',hr,ho,hb⟩:=fresh_intsD f7 hI.size (frL_len m g) (by omega) hfr.ints (fun e=>by cases e)
      obtain⟨g1,rfl,_,_⟩:=ho.some_ HM1.out;exact fx_make hK hρ _ w' (exec_append (.tmp 12) (.tmp 14) 22 _ _ rfl hyv f9 hr) ⟨⟨g1,c1,rfl⟩,ho⟩ hb
    | 11, _, _, ho =>
      have hoo:=Option.some.inj ho;subst hoo;have f2: ∃v0 v1,ρ (.tmp 7)= .agg #[v0,v1]/\(∃g1 c1,v0= .slice (some ⟨g1,0,none⟩) m c1)/\OwnI w w1.heap.size v0 g.O/\OwnI w w1.heap.size v1 L:=hd ⟨2, .data⟩ (by simp) (by rfl) (by decide)
      have f6:(∃g1 c1,ρ (.tmp 11)= .slice (some ⟨g1,0,none⟩) m c1)/\w.ownsRow w1.heap.size 65 6 (ρ (.tmp 11)) m (flatN (fun c=>cT (g.tk c)) m):=hd ⟨6, .data⟩ (by simp) (by rfl) (by decide)
      have f10:(∃g1 c1,ρ (.tmp 15)= .slice (some ⟨g1,0,none⟩) m c1)/\OwnI w w1.heap.size (ρ (.tmp 15)) (frL m g):=hd ⟨10, .data⟩ (by simp) (by rfl) (by decide)
      obtain⟨v0,v1,e7,s0,o0,o1⟩:=f2;obtain⟨⟨g3,c3,e11⟩,o3⟩:=f6;obtain⟨⟨g4,c4,e15⟩,o4⟩:=f10;rw[e11]at o3;rw[e15]at o4;exact fx_val hK hρ (.agg #[v0,v1, .slice none 0 0, .slice (some ⟨g3,0,none⟩) m c3, .slice (some ⟨g4,0,none⟩) m c4]) (by obtain⟨g1,c1,rfl⟩:=s0;obtain⟨A9,c9,rfl,_⟩:=o1.slice;simp[execOp,e7,e11,e15,go_sem]) ⟨v0,v1,_,_,rfl,s0,o0,o1,⟨g3,c3,rfl⟩,o3,⟨g4,c4,rfl⟩,o4⟩
    | 12, _, _, ho =>
      have hoo:=Option.some.inj ho;subst hoo;exact fx_make hK hρ (.pointer (some ⟨w.heap.size,0,none⟩)) (w.alloc (.cells #[.slice none 0 0, .slice none 0 0, .slice none 0 0, .slice none 0 0, .slice none 0 0] 41)) (by simp[execOp,go_sem]) ⟨w.heap.size,rfl,hI.size,RowV.new w _ _⟩ (below_alloc _)
    |kq+13,h,_,_=>exact absurd h (by omega)
  case hloose=>
    intro kq o hkF ho ρ w hA hd;exact absurd hkF (by simp)
  case hmid=>
    intro vals w hI hF;obtain⟨v0,v1,v3,v4,e16,hs⟩:=hF 11 (by decide) (by decide)
    obtain⟨p,e3,hp,hr⟩:=hF 12 (by decide) (by decide)
    exact⟨Nat.le_refl _,by decide,v0,v1,v3,v4,p,e3,hp,hI,hs,fun _=>⟨e16,hr⟩,fun h=>absurd h (by decide)⟩
  case htail=>
    intro t o htm ho a1 w hA hT hL K hK;have htl:t<14:=(Array.getElem?_eq_some_iff.1 ho).1
    obtain⟨ρ,hρ⟩: ∃ρ,a1.eval=ρ:=⟨_,rfl⟩;rw[hρ]at hA
    try rw[hρ]at hL
    obtain rfl:t=13:=by omega
    have hoo:=Option.some.inj ho;subst hoo;obtain⟨t1,t2,v0,v1,v3,v4,p,e3,hp,hbl,hs,h13,_⟩:=hT;obtain⟨e16,hr⟩:=h13 (by first|rfl|trivial|decide)
    simp only[hρ]at e3 e16;have y0:=hr.cell (j:=0) rfl;have y1:=hr.cell (j:=1) rfl;have y2:=hr.cell (j:=2) rfl;have y3:=hr.cell (j:=3) rfl;have y4:=hr.cell (j:=4) rfl;have z0:=hr.frozen 0;have z1:=hr.frozen 1;have z2:=hr.frozen 2;have z3:=hr.frozen 3;have z4:=hr.frozen 4;have r1:=hr.set 0 v0;have r2:=r1.set 1 v1;have r3:=r2.set 2 (.slice none 0 0);have r4:=r3.set 3 v3;have r5:=r4.set 4 v4;have s5:=((((hs.far hr (k:=0) v0).far r1 (k:=1) v1).far r2 (k:=2) (.slice none 0 0)).far r3 (k:=3) v3).far r4 (k:=4) v4;have b5:=((((hbl.setCell (show w1.heap.size<=(⟨p,0,none⟩:Addr).block from hp) v0).setCell (show w1.heap.size<=(⟨p,1,none⟩:Addr).block from hp) v1).setCell (show w1.heap.size<=(⟨p,2,none⟩:Addr).block from hp) (.slice none 0 0)).setCell (show w1.heap.size<=(⟨p,3,none⟩:Addr).block from hp) v3).setCell (show w1.heap.size<=(⟨p,4,none⟩:Addr).block from hp) v4
    have s0:=hs.s0;have s3:=hs.s3;have s4:=hs.s4;have hl:=hs.left;obtain⟨ga,ca,rfl⟩:=s0;obtain⟨A9,c9,rfl,_⟩:=hl.slice;obtain⟨gc,cc,rfl⟩:=s3;obtain⟨gd,cd,rfl⟩:=s4;unfold Oper.wp;rw[show(execOp a1.eval _).run Tryz.prog w= .ok .skip (((((w.setCell ⟨p,0,none⟩ (.slice (some ⟨ga,0,none⟩) m ca)).setCell ⟨p,1,none⟩ (.slice A9 L.length c9)).setCell ⟨p,2,none⟩ (.slice none 0 0)).setCell ⟨p,3,none⟩ (.slice (some ⟨gc,0,none⟩) m cc)).setCell ⟨p,4,none⟩ (.slice (some ⟨gd,0,none⟩) m cd))from by rw[hρ];simp[execOp,e3,e16,y0,y1,y2,y3,y4,z0,z1,z2,z3,z4,go_sem],Oper.upon_skip]
    refine hK undef _ ⟨by decide,by decide,_,_,_,_,p,?_,hp,b5,s5,fun h=>absurd h (by decide),fun _=>r5⟩
    simp only[reduceCtorEq,if_false,hρ];exact e3
  case hcon=>
    intro t f g w h hT;obtain⟨t1,t2,v0,v1,v3,v4,p,e3,hp,hbl,hs,h13,h14⟩:=hT;have q3:=h 12 (by omega) (by simp)
    have q16:=h 11 (by omega) (by simp)
    simp only[List.getD_cons_zero,List.getD_cons_succ]at q3 q16;exact⟨t1,t2,v0,v1,v3,v4,p,q3▸e3,hp,hbl,hs,fun e=>⟨q16▸(h13 e).1,(h13 e).2⟩,h14⟩
  case hend=>
    intro vals w3 hT;obtain⟨t1,t2,v0,v1,v3,v4,p,e3,hp,hbl,hs,_,h14⟩:=hT;have HRP:=Lib.hid (h14 rfl);have HS:=Lib.hid hs;have HP:=Lib.hid hp;have HB3:=Lib.hid hbl;clear h14 hs hp hbl t1 t2;simp only[fillA,fillL,List.contains_cons,List.contains_nil,Nat.reduceBEq,Bool.or_false,Bool.false_or,Bool.or_true,Bool.true_or,cond_true,cond_false,Nat.zero_add,Nat.reduceAdd,e3];go_wp2_with fail;have HL0:Hid (OgLp w1 p m 0 g L v0 v1 v3 v4 (.slice none 0 0) (fun _=>undef) w3):=Lib.hid ⟨HB3.out,HRP.out,HP.out,HS.out,⟨rfl, .inl ⟨rfl,rfl⟩⟩,fun i hi=>absurd hi (Nat.not_lt_zero _)⟩
    clear HRP HS HP HB3;go_loopw [4] (fun v wr=> ∃(k:Nat) (Dv:Option Addr) (cD:Nat) (Rv:Nat->Value),k<=m/\v= .int .i64 k/\Hid (OgLp w1 p m k g L v0 v1 v3 v4 (.slice Dv k cD) Rv wr)) (fun v _=>m - (intOf v).toNat)
    case atStart=>exact⟨0,none,0,_,Nat.zero_le _,rfl,HL0⟩
    case round=>
      clear HL0;obtain⟨k,Dv,cD,Rv,hk,rfl,HLP⟩:=hrel;have c2:wr.cell? ⟨w.heap.size,2,none⟩=some (.slice (some ⟨ad.gD,0,none⟩) m ad.cD):=by
        have:=(HR1.out.below HLP.out.bel HR1.out.lt).cell (j:=2) rfl;rw[HGB.out]at this;exact this
      by_cases hlt:k<m
      · have HLT:=Lib.hid hlt;obtain⟨A,c,hv,_⟩:=(HG1.out.ring k hlt).slice;have HV:=Lib.hid hv;obtain⟨n,hn⟩: ∃n,n=(g.R k).length:=⟨_,rfl⟩;have HQ:Hid (IsQ w1 A n c (g.R k)):=Lib.hid (by
          have h:=HG1.out.ring k hlt;rw[hv]at h;rw[hn];exact own_isQ h rfl (HRL.out k hlt))
        rw[<-hn]at HV hv;clear hn hv;go_upto_region 5 with fail;obtain⟨w4,hw4⟩: ∃w4,w4=wr:=⟨_,rfl⟩;rw[<-hw4];rw[<-hw4]at HLP;clear hw4 c2;refine wp_region_tail 9 [24,25,26,27,28,29,30,31,32,33,34,1000] [] (by kernel_rfl) (by kernel_rfl) (by intro d hd;simp at hd⊢;omega) (fun z=>Below w4.heap.size w4 z) (PhiOg5 w1.heap.size gb p m k Dv cD A n c g ad) (fun _ _=>True) (ThtOg5 w1 w4 p m k Dv cD g L v0 v1 v3 v4 Rv)
          (fun z z' h hb=>h.trans (hb.mono h.size)) phiOg5_below ((Below.refl _ _).drew) ?hstep ?hloose ?hmid ?htail ?hcon ?hend
        case hstep=>
          intro kq o hkm hkF ho a1 w hI hA hd K hK;obtain⟨ρ,hρ⟩: ∃ρ,a1.eval=ρ:=⟨_,rfl⟩;rw[hρ]at hA hd
          match kq,hkm,hkF,ho with
          | 0, _, _, ho =>
            have hoo:=Option.some.inj ho;subst hoo;exact fx_val hK hρ (.pointer (some ⟨p,2,none⟩)) (by have h:=hA.tmp 3 (by decide);simp[execOp,h,go_sem]) rfl
          | 1, _, _, ho =>
            have hoo:=Option.some.inj ho;subst hoo;have f0:ρ (.tmp 24)= .pointer (some ⟨p,2,none⟩):=hd ⟨0, .data⟩ (by simp) (by rfl) (by decide)
            have h0:w.cell? ⟨p,2,none⟩=some (.slice Dv k cD):=(HLP.out.next hI).row.cell rfl
            exact fx_val hK hρ (.slice Dv k cD) (by simp[execOp,f0,h0,go_sem]) rfl
          | 2, _, _, ho =>
            have hoo:=Option.some.inj ho;subst hoo;exact fx_val hK hρ (.pointer (some ⟨gb,2,none⟩)) (by have h:=hA.tmp 1 (by decide);rw[HGB.out];simp[execOp,h,go_sem]) rfl
          | 3, _, _, ho =>
            have hoo:=Option.some.inj ho;subst hoo;have f2:ρ (.tmp 26)= .pointer (some ⟨gb,2,none⟩):=hd ⟨2, .data⟩ (by simp) (by rfl) (by decide)
            have h0:w.cell? ⟨gb,2,none⟩=some (.slice (some ⟨ad.gD,0,none⟩) m ad.cD):=(HR1.out.below (HLP.out.next hI).bel HR1.out.lt).cell rfl
            exact fx_val hK hρ (.slice (some ⟨ad.gD,0,none⟩) m ad.cD) (by simp[execOp,f2,h0,go_sem]) rfl
          | 4, _, _, ho =>
            have hoo:=Option.some.inj ho;subst hoo;exact fx_val hK hρ (.int .i64 (k:Int)) (by have h:=hA.tmp 4 (by decide);simp[execOp,h,go_sem]) rfl
          | 5, _, _, ho =>
            have hoo:=Option.some.inj ho;subst hoo;have f3:ρ (.tmp 27)= .slice (some ⟨ad.gD,0,none⟩) m ad.cD:=hd ⟨3, .data⟩ (by simp) (by rfl) (by decide)
            have f4:ρ (.tmp 28)= .int .i64 (k:Int):=hd ⟨4, .data⟩ (by simp) (by rfl) (by decide)
            have hn:=HLT.out;have e3:k * 3=3 * k:=Nat.mul_comm _ _;exact fx_val hK hρ (.pointer (some ⟨ad.gD,3 * k,none⟩)) (by simp[execOp,f3,f4,hn,e3,go_sem]) rfl
          | 6, _, _, ho =>
            have hoo:=Option.some.inj ho;subst hoo;have f5:ρ (.tmp 29)= .pointer (some ⟨ad.gD,3 * k,none⟩):=hd ⟨5, .data⟩ (by simp) (by rfl) (by decide)
            have hg:=HG1.out.below (HLP.out.next hI).bel;have h0:=hg.dq HLT.out (i:=0) rfl;have h1:=hg.dq HLT.out (i:=1) rfl;have h2:=hg.dq HLT.out (i:=2) rfl;rw[HV.out]at h0;simp only[Nat.add_zero]at h0;exact fx_val hK hρ (.agg #[.slice A n c, .int .i64 (g.T k), .int .i64 (g.B k)]) (by simp[execOp,f5,h0,h1,h2,go_sem]) rfl
          | 7, _, _, ho =>
            have hoo:=Option.some.inj ho;subst hoo;have f6:ρ (.tmp 30)= .agg #[.slice A n c, .int .i64 (g.T k), .int .i64 (g.B k)]:=hd ⟨6, .data⟩ (by simp) (by rfl) (by decide)
            have hq:=(HQ.out.below (HLP.out.next hI).bel);exact fx_call hK hρ 45 _ _ #[.agg #[.slice A n c, .int .i64 (g.T k), .int .i64 (g.B k)]] rfl (by simp only[List.map_toArray,List.map_cons,List.map_nil,hA.const,f6]) (eg_of Tryz.func45 (by kernel_rfl) rfl) ((ownD_any (g.T k) (g.B k) w hq).mono fun e w' hh=>by
              obtain⟨A2,c2,he,ho,hb⟩:=hh;exact⟨_,he,⟨A2,n,c2,rfl,ho.1.down (HLP.out.next hI).bel.size⟩,hb⟩)
          | 8, _, _, ho =>
            have hoo:=Option.some.inj ho;subst hoo;have f7: ∃A2 n2 c2,ρ (.tmp 31)= .agg #[.slice A2 n2 c2, .int .i64 (g.T k), .int .i64 (g.B k)]/\OwnI w w1.heap.size (.slice A2 n2 c2) (g.R k):=hd ⟨7, .data⟩ (by simp) (by rfl) (by decide)
            obtain⟨A2,n2,c2,e7,o7⟩:=f7;exact fx_make hK hρ (.slice (some ⟨w.heap.size,0,none⟩) 1 1) (w.alloc (.cells #[.slice A2 n2 c2, .int .i64 (g.T k), .int .i64 (g.B k)] 81)) (by simp[execOp,e7,go_sem]) ⟨A2,n2,c2,⟨w.heap.size,rfl,heap_alloc_new w _,fun e=>by have:=(row_lts (HLP.out.next hI).dqs _ e).2.1;omega⟩,o7.below (below_alloc _)⟩ (below_alloc _)
          |kq+9,h,_,_=>exact absurd h (by omega)
        case hloose=>
          intro kq o hkF ho ρ w hA hd;exact absurd hkF (by simp)
        case hmid=>
          intro vals w hI hF;obtain⟨A2,n2,c2,e8,o8⟩:=hF 8 (by decide) (by decide)
          exact⟨Nat.le_refl _,by decide,fun _=>⟨hI,hF 1 (by decide) (by decide),A2,n2,c2,e8,o8⟩,fun h=>absurd h (by decide),fun h=>absurd h (by decide),fun h=>absurd h (by decide)⟩
        case htail=>
          intro t o htm ho a1 w hA hT hL K hK;have htl:t<12:=(Array.getElem?_eq_some_iff.1 ho).1
          obtain⟨ρ,hρ⟩: ∃ρ,a1.eval=ρ:=⟨_,rfl⟩;rw[hρ]at hA
          try rw[hρ]at hL
          obtain rfl|rfl|rfl:t=9\/t=10\/t=11:=by omega
          · have hoo:=Option.some.inj ho;subst hoo;obtain⟨t1,t2,h9,h10,h11,h12⟩:=hT;simp only[hρ]at h9 h10 h11;obtain⟨hbl,g0,A2,n2,c2,hx,o2⟩:=h9 (by first|rfl|trivial|decide)
            obtain⟨yv,hyv⟩: ∃yv,ρ (.tmp 32)=yv:=⟨_,rfl⟩;rw[hyv]at hx;have hSw:=HLP.out.next hbl;have hkm:=HLT.out;obtain⟨v',w',hrun,hgr,hrx,hat⟩:=ownXs_append (tl:=38) (bytes:=40) (z:= .agg #[.slice none 0 0, .int .i64 0, .int .i64 0]) Tryz.underlying38 (by kernel_rfl) rfl (by decide) (by decide) hSw.dqs hx rfl (by simp[Value.oneCell']) (by omega) hSw.bel.size
            unfold Oper.wp;rw[show(execOp a1.eval _).run Tryz.prog w= .ok (.value v') w' from by rw[hρ];exact exec_append (.tmp 25) (.tmp 32) 38 _ _ rfl g0 hyv hrun,Oper.upon_value]
            refine hK _ _ ⟨by decide,by decide,?_⟩
            simp only[Option.some.injEq,Nat.reduceEqDiff,if_false,if_true,reduceCtorEq,hρ];exact⟨fun h=>absurd h (by decide),fun _ _=>⟨A2,n2,c2,w,hbl,o2,hrx,hgr⟩,fun h=>absurd h (by decide),fun h=>absurd h (by decide)⟩
          · have hoo:=Option.some.inj ho;subst hoo;obtain⟨t1,t2,h9,h10,h11,h12⟩:=hT;simp only[hρ]at h9 h10 h11;have hp:=hA.tmp 3 (by decide)
            unfold Oper.wp;rw[show(execOp a1.eval _).run Tryz.prog w= .ok (.value (.pointer (some ⟨p,2,none⟩))) (w)from by rw[hρ];simp[execOp,hp,go_sem],Oper.upon_value]
            refine hK _ _ ⟨by decide,by decide,?_⟩
            simp only[Option.some.injEq,Nat.reduceEqDiff,if_false,if_true,reduceCtorEq,hρ];exact⟨fun h=>absurd h (by decide),fun _ _=>h10 (by decide) (by decide),fun _=>rfl,fun h=>absurd h (by decide)⟩
          · have hoo:=Option.some.inj ho;subst hoo;obtain⟨t1,t2,h9,h10,h11,h12⟩:=hT;simp only[hρ]at h9 h10 h11;have hp:=h11 (by first|rfl|trivial|decide)
            obtain⟨A2,n2,c2,wm,hbl,o2,hrx,D2,cD2,e33,ho2⟩:=h10 (by decide) (by decide)
            have hSm:=HLP.out.next hbl;have hS:=hSm.push o2 hrx ho2;have hrw:=hrx.rowV hSm.row (by decide)
            have y0:=hrw.cell (j:=2) rfl;have z0:=hrw.frozen 2;unfold Oper.wp;rw[show(execOp a1.eval _).run Tryz.prog w= .ok .skip (w.setCell ⟨p,2,none⟩ (.slice D2 (k+1) cD2))from by rw[hρ];simp[execOp,hp,y0,z0,e33,go_sem],Oper.upon_skip]
            refine hK undef _ ⟨by decide,by decide,?_⟩
            simp only[Option.some.injEq,Nat.reduceEqDiff,if_false,if_true,reduceCtorEq,hρ];exact⟨fun h=>absurd h (by decide),fun _ h=>absurd h (by decide),fun h=>absurd h (by decide),fun _=>⟨D2,cD2,_,hS⟩⟩
        case hcon=>
          intro t f g w h hT;obtain⟨t1,t2,h9,h10,h11,h12⟩:=hT;refine⟨t1,t2,fun e=> ?_,fun e e2=> ?_,fun e=> ?_,h12⟩
          · have q25:=h 1 (by omega) (by simp)
            have q32:=h 8 (by omega) (by simp)
            simp only[List.getD_cons_zero,List.getD_cons_succ]at q25 q32;rw[<-q25,<-q32];exact h9 e
          · have q33:=h 9 (by omega) (by simp)
            simp only[List.getD_cons_zero,List.getD_cons_succ]at q33;rw[<-q33];exact h10 e e2
          · have q:=h 10 (by omega) (by simp)
            simp only[List.getD_cons_zero,List.getD_cons_succ]at q;rw[<-q];exact h11 e
        case hend=>
          intro vals5 w9 hT;obtain⟨_,_,_,_,_,h12⟩:=hT;obtain⟨D2,cD2,Rv2,hS⟩:=h12 rfl;have HS9:=Lib.hid hS;clear h12 hS;simp only[fillA,fillL,List.contains_cons,List.contains_nil,Nat.reduceBEq,Bool.or_false,Bool.false_or,Bool.or_true,Bool.true_or,cond_true,cond_false,Nat.zero_add,Nat.reduceAdd];go_wp2_with fail;go_roundw
          case rel=>exact⟨k+1,D2,cD2,Rv2,by omega,by go_num,HS9⟩
          case measure=>simp[intOf];omega
      · obtain rfl:m=k:=by omega
        have hm1:=HM1.out;have hr:=HLP.out.row;have hq:=HR2.out.below HLP.out.bel HR2.out.lt;have hE:OgEnd wr w1.heap.size m g L v0 v1 v3 v4 (.slice Dv m cD) Rv:=⟨HLP.out.st,HLP.out.dqs,HLP.out.ring⟩;have hB:Below w.heap.size w wr:=HB1.out.trans (HLP.out.bel.mono HB1.out.size);obtain⟨gD,rfl⟩: ∃g,Dv=some ⟨g,0,none⟩:=by
          rcases hE.dqs.2 with⟨e,hx⟩|⟨g,cap,cur,e,_⟩
          · injection e with _ e2 _;omega
          · injection e with e1 _ _;exact⟨g,e1⟩
        obtain⟨ga,ca,rfl⟩:=hE.st.s0;obtain⟨gc,cc,rfl⟩:=hE.st.s3;obtain⟨gd,cd,rfl⟩:=hE.st.s4;obtain⟨A9,c9,hv1,_⟩:=hE.st.left.slice;subst hv1;have q0:=hq.cell (j:=0) rfl;have q1:=hq.cell (j:=1) rfl;have q2:=hq.cell (j:=2) rfl;have q3:=hq.cell (j:=3) rfl;have q4:=hq.cell (j:=4) rfl;have f0:=hq.frozen 0;have f1:=hq.frozen 1;have f2:=hq.frozen 2;have f3:=hq.frozen 3;have f4:=hq.frozen 4;have p0:=hr.cell (j:=0) rfl;have p1:=hr.cell (j:=1) rfl;have p2:=hr.cell (j:=2) rfl;have p3:=hr.cell (j:=3) rfl;have p4:=hr.cell (j:=4) rfl;have r1:=hq.set 0 (.slice (some ⟨ga,0,none⟩) m ca);have r2:=r1.set 1 (.slice A9 L.length c9);have r3:=r2.set 2 (.slice (some ⟨gD,0,none⟩) m cD);have r4:=r3.set 3 (.slice (some ⟨gc,0,none⟩) m cc);have HR5:=Lib.hid (r4.set 4 (.slice (some ⟨gd,0,none⟩) m cd));have HE5:=Lib.hid (((((hE.far hq (k:=0) (.slice (some ⟨ga,0,none⟩) m ca)).far r1 (k:=1) (.slice A9 L.length c9)).far r2 (k:=2) (.slice (some ⟨gD,0,none⟩) m cD)).far r3 (k:=3) (.slice (some ⟨gc,0,none⟩) m cc)).far r4 (k:=4) (.slice (some ⟨gd,0,none⟩) m cd));have HB5:=Lib.hid (((((hB.setCell (show w.heap.size<=(⟨w.heap.size+1,0,none⟩:Addr).block by simp) (.slice (some ⟨ga,0,none⟩) m ca)).setCell (show w.heap.size<=(⟨w.heap.size+1,1,none⟩:Addr).block by simp) (.slice A9 L.length c9)).setCell (show w.heap.size<=(⟨w.heap.size+1,2,none⟩:Addr).block by simp) (.slice (some ⟨gD,0,none⟩) m cD)).setCell (show w.heap.size<=(⟨w.heap.size+1,3,none⟩:Addr).block by simp) (.slice (some ⟨gc,0,none⟩) m cc)).setCell (show w.heap.size<=(⟨w.heap.size+1,4,none⟩:Addr).block by simp) (.slice (some ⟨gd,0,none⟩) m cd))
        have HOL:Hid (g.O.length=m):=Lib.hid HG1.out.ol;clear hr hq hE hB r1 r2 r3 r4 HLP HR1 HR2 HG1 HRL hlt hk;go_wp2;refine bodyPost_ret (v:= .agg #[.slice (some ⟨ga,0,none⟩) m ca, .slice A9 L.length c9, .slice (some ⟨gD,0,none⟩) m cD, .slice (some ⟨gc,0,none⟩) m cc, .slice (some ⟨gd,0,none⟩) m cd]) ?_ rfl ⟨⟨ga,ca, .slice A9 L.length c9,gD,cD,gc,cc,gd,cd,Rv⟩,rfl,?_,HB5.out⟩
        · exact results_cell_row rfl _ _ (w.heap.size+1) _ _ _ _ rfl HR5.out Tryz.underlying41 rfl (by kernel_rfl)
        · exact GngR.down ⟨HOL.out,HE5.out.st.on,HE5.out.st.left,HE5.out.dqs,HE5.out.st.tks,HE5.out.st.frm,HE5.out.ring⟩ HB1.out.size
end
section
variable {P: Program} {ops: Array Oper} {Q: Exit -> Act -> World -> Prop}
theorem wp_region_stored5(p:Nat)(ds S R:List Nat)(base:Nat){id:Nat}{a0:Act}{w0:World}(hm:P.follows .mixedOrders=true)(hG:storedB ops p ds S=true)(hsz: ∀d∈ds,d<a0.tmps.size\/1000<=d)
    (I:World->Prop) (Φ:Nat->Value->World->Prop) (Θ:(Nat->Value)->World->Prop)
    (hI: ∀w w',I w->Below w.heap.size w w'->I w') (hΦ: ∀k v w w',Φ k v w->Below w.heap.size w w'->Φ k v w')
    (h0:I {w0 with drawn:=w0.drawn+1})
    (hstep: ∀(k:Nat) (o:Oper),k≠p->k∉S->ops[k]? =some o-> ∀(a:Act) (w:World),I w->AtDoor a0 ds a.eval->(∀e∈o.after,Region.binds .any e=true->Φ e.on (a.eval (.tmp (ds.getD e.on 0))) w)->
      ∀K:Act->World->Prop,(∀v w',Φ k v w'->Below w.heap.size w w'->K (a.put o.dst v) w')->o.wp P a w K Q)
    (hside: ∀(k:Nat) (o:Oper),k∈S->ops[k]? =some o-> ∀(ρ:Operand->Value) (w:World),base<=w.heap.size->I w->AtDoor a0 ds ρ->(∀e∈o.after,Region.binds .any e=true->e.on≠p-> ∃w1,Φ e.on (ρ (.tmp (ds.getD e.on 0))) w1/\(e.on∈R->w1=w))->
      ∃v w',(execOp ρ o).run P w= .ok (.value v) w'/\Φ k v w'/\Below w.heap.size w w')
    (hstore: ∀(o:Oper),ops[p]? =some o-> ∀(a:Act) (w:World),I w->AtDoor a0 ds a.eval->(∀k,k<ds.length->k≠p->k∉S->Φ k (a.eval (.tmp (ds.getD k 0))) w)->
      ∀K:Act->World->Prop,(∀w',Θ (fun t=>a.eval (.tmp t)) w'->base<=w'.heap.size->(∀k,k∈R-> ∀v,Φ k v w->Φ k v w')->K a w')->o.wp P a w K Q)
    (hΘ: ∀(f g:Nat->Value) w,(∀k,k<ds.length->k≠p->k∉S->f (ds.getD k 0)=g (ds.getD k 0))->Θ f w->Θ g w)
    (hΘb: ∀(f:Nat->Value) w w',Θ f w->Below w.heap.size w w'->Θ f w') (hbase:base<=w0.heap.size) (hΘI: ∀(f:Nat->Value) w,Θ f w->I w)
    (hend: ∀(vals:Nat->Value) (w:World),Θ vals w->(∀k,k<ds.length->k≠p-> ∃w',Φ k (vals (ds.getD k 0)) w'/\(k∈R->w'=w))->Q .normal ⟨(fillA a0 ds vals).toArray,a0.defers⟩ w):
    (Code.region id ops true).wp P Q a0 w0:=by
  have G:=stored_of hG;refine wp_region_inv (fun l a w=>l.size=ds.length/\AtDoor a0 ds a.eval/\a.tmps.size=a0.tmps.size/\a.defers=a0.defers/\
    (∀(i:Nat) (o:Oper),l.getD i false=true->ops[i]? =some o-> ∀e∈o.after,Region.binds .any e=true->l.getD e.on false=true)/\
    base<=w.heap.size/\
    ((l.getD p false = false /\ I w /\ ∀ k, k < ds.length -> k ≠ p -> l.getD k false = true -> Φ k (a.eval (.tmp (ds.getD k 0))) w) \/
     (l.getD p false=true/\Θ (fun t=>a.eval (.tmp t)) w/\ ∀k,k<ds.length->k≠p->l.getD k false=true-> ∃w',Φ k (a.eval (.tmp (ds.getD k 0))) w'/\(k∈R->w'=w)))) hm ?_ ?_ ?_
  · have hno: ∀k,¬(Array.replicate ops.size false).getD k false=true:=fun k h=>by
      by_cases h2:k<ops.size<;>simp[h2]at h
    refine⟨by rw[Array.size_replicate];exact G.size,atDoor_start a0 ds,rfl,rfl,fun k o h=>absurd h (hno k),hbase, .inl ⟨?_,h0,fun k hk hkp h=>absurd h (hno k)⟩⟩
    cases h:(Array.replicate ops.size false).getD p false with
    |false=>rfl
    |true=>exact absurd h (hno p)
  · rintro l a w i ⟨hls,hAD,hasz,hadf,hcl,hbw,hV⟩ hi;obtain⟨hun,o,ho,hpre⟩:=mem_ready.1 hi;have hilt:i<ops.size:=(Array.getElem?_eq_some_iff.1 ho).1
    have hin:i<ds.length:=by rw[<-G.size];exact hilt
    have hil:i<l.size:=by omega
    have hun2:l.getD i false=false:=by
      cases h:l.getD i false with
      |false=>rfl
      |true=>simp[hil]at h hun;rw[h]at hun;cases hun
    have hcl2: ∀(k:Nat) (o':Oper),(l.setIfInBounds i true).getD k false=true->ops[k]? =some o'-> ∀e∈o'.after,Region.binds .any e=true->(l.setIfInBounds i true).getD e.on false=true:=fun k o' hk ho' e he hb=>by
      refine(getD_set_iff hil).mpr (.inr ?_)
      rcases listed_set hk with h|h
      · subst h;rw[ho]at ho';obtain rfl:=Option.some.inj ho';exact hpre e he hb
      · exact hcl k o' h ho' e he hb
    have hls2:(l.setIfInBounds i true).size=ds.length:=by rw[Array.size_setIfInBounds];exact hls
    refine wpOp_at ho (G.guard i o ho) ?_
    by_cases hip:i=p
    · subst hip;rcases hV with⟨hnl,hIw,hF⟩|⟨hnl,_⟩
      · have hall: ∀k,k<ds.length->k≠i->k∉S->l.getD k false=true:=fun k hk hkp hkS=>waits_done hcl 12 i k (G.last k hk hkp hkS) (fun o' ho' e he hb=>by
          rw[ho]at ho';obtain rfl:=Option.some.inj ho';exact hpre e he hb)
        refine hstore o ho a w hIw hAD (fun k hk hkp hkS=>hF k hk hkp (hall k hk hkp hkS)) _ fun w' hT hbw' hkeep=> ?_
        refine⟨hls2,hAD,hasz,hadf,hcl2,hbw', .inr ⟨(getD_set_iff hil).mpr (.inl rfl),hT,fun k hk hkp hkl=> ?_⟩⟩
        have hf:=hF k hk hkp ((listed_set hkl).resolve_left hkp)
        by_cases hkS:k∈R
        · exact⟨w',hkeep k hkS _ hf,fun _=>rfl⟩
        · exact⟨w,hf,fun h=>absurd h hkS⟩
      · rw[hun2]at hnl;cases hnl
    · obtain⟨hd,hdl⟩:=G.dst i o hip ho;have hdm:=fds_mem hin;have hdz:ds.getD i 0<a.tmps.size:=by
        rcases hsz _ hdm with h|h
        · rw[hasz];exact h
        · omega
      have hpl: ∀b,l.getD p false=b->(l.setIfInBounds i true).getD p false=b:=fun b hb=>by
        cases h:(l.setIfInBounds i true).getD p false with
        | true =>
          rcases listed_set h with h2|h2
          · exact absurd h2.symm hip
          · rw[<-hb,h2]
        | false =>
          cases b with
          |false=>rfl
          | true =>
            have:=(getD_set_iff (k:=p) hil).mpr (.inr hb);rw[h]at this;cases this
      have hsz2: ∀v,(a.put (some (ds.getD i 0)) v).tmps.size=a0.tmps.size:=fun v=>by
        show(a.tmps.setIfInBounds _ _).size=_
        rw[Array.size_setIfInBounds];exact hasz
      rcases hV with⟨hnl,hIw,hF⟩|⟨hnl,hT,hF⟩
      · have hdep: ∀e∈o.after,Region.binds .any e=true->Φ e.on (a.eval (.tmp (ds.getD e.on 0))) w:=fun e he hb=>hF e.on (Nat.lt_trans (G.back i o ho e he hb) hin) (fun h=>by
          have:=hpre e he hb;rw[h,hnl]at this;cases this) (hpre e he hb)
        have hnext: ∀v w',Φ i v w'->Below w.heap.size w w'->(l.setIfInBounds i true).size=ds.length/\AtDoor a0 ds (a.put (some (ds.getD i 0)) v).eval/\(a.put (some (ds.getD i 0)) v).tmps.size=a0.tmps.size/\(a.put (some (ds.getD i 0)) v).defers=a0.defers/\
            (∀(k:Nat) (o':Oper),(l.setIfInBounds i true).getD k false=true->ops[k]? =some o'-> ∀e∈o'.after,Region.binds .any e=true->(l.setIfInBounds i true).getD e.on false=true)/\base<=w'.heap.size/\
            (((l.setIfInBounds i true).getD p false = false /\ I w' /\ ∀ k, k < ds.length -> k ≠ p -> (l.setIfInBounds i true).getD k false = true -> Φ k ((a.put (some (ds.getD i 0)) v).eval (.tmp (ds.getD k 0))) w') \/
             ((l.setIfInBounds i true).getD p false=true/\Θ (fun t=>(a.put (some (ds.getD i 0)) v).eval (.tmp t)) w'/\ ∀k,k<ds.length->k≠p->(l.setIfInBounds i true).getD k false=true-> ∃w'',Φ k ((a.put (some (ds.getD i 0)) v).eval (.tmp (ds.getD k 0))) w''/\(k∈R->w''=w'))):=fun v w' hphi hb=>by
          refine⟨hls2,hAD.put hdm v,hsz2 v,hadf,hcl2,Nat.le_trans hbw hb.size, .inl ⟨hpl _ hnl,hI w w' hIw hb,fun k hk hkp hkl=> ?_⟩⟩
          by_cases hki:k=i
          · subst hki;rw[eval_put_same _ _ _ hdz];exact hphi
          · rw[eval_put_other _ _ _ _ (fun e=>hki (fds_inj G.nodup hk hin e))]
            exact hΦ k _ _ _ (hF k hk hkp ((listed_set hkl).resolve_left hki)) hb
        by_cases hiS:i∈S
        · obtain⟨v,w',hr,hphi,hbel⟩:=hside i o hiS ho a.eval w hbw hIw hAD (fun e he hb _=>⟨w,hdep e he hb,fun _=>rfl⟩)
          unfold Oper.wp;rw[hr,Oper.upon_value,hd];exact hnext v w' hphi hbel
        · refine hstep i o hip hiS ho a w hIw hAD hdep _ fun v w' hphi hb=> ?_
          rw[hd];exact hnext v w' hphi hb
      · have hall: ∀k,k<ds.length->k≠p->k∉S->l.getD k false=true:=fun k hk hkp hkS=>by
          obtain⟨op,hop⟩: ∃op,ops[p]? =some op:=⟨_,Array.getElem?_eq_getElem (by rw[G.size];exact G.lt)⟩
          exact waits_done hcl 12 p k (G.last k hk hkp hkS) (fun o' ho' e he hb=>hcl p o' hnl ho' e he hb)
        have hiS:i∈S:=Classical.byContradiction fun h=>by
          have:=hall i hin hip h;rw[hun2]at this;cases this
        obtain⟨v,w',hr,hphi,hbel⟩:=hside i o hiS ho a.eval w hbw (hΘI _ _ hT) hAD (fun e he hb hep=>by
          have he2:=hpre e he hb;have hlt:=Nat.lt_trans (G.back i o ho e he hb) hin;exact hF e.on hlt hep he2)
        unfold Oper.wp;rw[hr,Oper.upon_value,hd];refine⟨hls2,hAD.put hdm v,hsz2 v,hadf,hcl2,Nat.le_trans hbw hbel.size, .inr ⟨hpl _ hnl,?_,fun k hk hkp hkl=> ?_⟩⟩
        · refine hΘb _ w w' (hΘ _ _ w (fun k hk hkp hkS=> ?_) hT) hbel
          exact(eval_put_other _ _ _ _ (fun e=>hkS (by rw[fds_inj G.nodup hk hin e];exact hiS))).symm
        · by_cases hki:k=i
          · subst hki;rw[eval_put_same _ _ _ hdz];exact⟨w',hphi,fun _=>rfl⟩
          · rw[eval_put_other _ _ _ _ (fun e=>hki (fds_inj G.nodup hk hin e))]
            obtain⟨w1,h1,h2⟩:=hF k hk hkp ((listed_set hkl).resolve_left hki)
            by_cases hkS:k∈R
            · obtain rfl:=h2 hkS;exact⟨w',hΦ k _ _ _ h1 hbel,fun _=>rfl⟩
            · exact⟨w1,h1,fun h=>absurd h hkS⟩
  · rintro l a w ⟨hls,hAD,hasz,hadf,hcl,hbw,hV⟩ hr;have hall:=all_listed' (by rw[hls,G.size]) G.back hr
    have hp:=hall p (by rw[G.size];exact G.lt)
    rcases hV with⟨hnl,_⟩|⟨_,hT,hF⟩
    · rw[hp]at hnl;cases hnl
    · rw[act_fill hAD hasz hadf];exact hend (fun t=>a.eval (.tmp t)) w hT fun k hk hkp=>hF k hk hkp (hall k (by rw[G.size];exact hk))
end
end Go.Proofs.YtngdbbligebcbabGreatDoor
