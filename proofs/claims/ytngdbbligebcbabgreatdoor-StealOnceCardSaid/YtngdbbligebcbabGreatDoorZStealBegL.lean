import Derived.Test.YtngdbbligebcbabGreatDoorZM33
import Derived.Test.YtngdbbligebcbabGreatDoorZM35
import Derived.Test.YtngdbbligebcbabGreatDoorZM36
import Derived.Test.YtngdbbligebcbabGreatDoorZM38
set_option linter.unusedVariables false
set_option linter.unusedSimpArgs false
set_option maxRecDepth 100000
set_option maxHeartbeats 16000000
namespace Go.Proofs.YtngdbbligebcbabGreatDoor
open Go Go.RowKit
section
variable {n m: Nat} {E: List (Int × Int)} {L: List Int} {g: Gng}
theorem GOk.calmed(h:GOk n m E L g)(h0: ∀c,c<m->(g.tk c).at_=0)(picks:List Int):GOk n m E L (calmG m g picks)/\ ∀c,c<m->((calmG m g picks).tk c).at_=0:=by
 obtain⟨hw,_,_,hI⟩:=calm_spec (picks:=picks) h h0;exact⟨hI.ok,(quiet_spec hI.ok hw).1⟩
end
theorem gng_form{w:World}{b m:Nat}{g:Gng}{L:List Int}{a:GAd}(h:GngR w b m g L a): ∃gO cO AL nL cL gD cD gT cT gF cF Rv,a=⟨gO,cO,.slice AL nL cL,gD,cD,gT,cT,gF,cF,Rv⟩:=by
 obtain⟨A,c,hv,_⟩:=h.left.slice;obtain⟨gO,cO,vL,gD,cD,gT,cT,gF,cF,Rv⟩:=a;exact⟨gO,cO,A,L.length,c,gD,cD,gT,cT,gF,cF,Rv,by rw[<-hv]⟩
section
variable {AW FE AP: Option Addr} {nW cW mE dE nP cP: Nat} {W picks: List Int} {E: List (Int × Int)} {b m: Nat} {g: Gng} {L: List Int} {gO cO: Nat} {AL: Option Addr} {nL cL gD cD gT cT gF cF: Nat} {Rv: Nat -> Value}
theorem lown(w:World)(hok:GOk W.length m E L g)(h:GngR w b m g L ⟨gO,cO,.slice AL nL cL,gD,cD,gT,cT,gF,cF,Rv⟩):
  Calls Tryz.prog 19 #[.agg #[.slice (some ⟨gO,0,none⟩) m cO,.slice AL nL cL,.slice (some ⟨gD,0,none⟩) m cD,.slice (some ⟨gT,0,none⟩) m cT,.slice (some ⟨gF,0,none⟩) m cF]] w fun e w'=> ∃gO1 cO1 AL1 nL1 cL1 gD1 cD1 gT1 cT1 gF1 cF1 Rv1,e= .returned (.agg #[.slice (some ⟨gO1,0,none⟩) m cO1,.slice AL1 nL1 cL1,.slice (some ⟨gD1,0,none⟩) m cD1,.slice (some ⟨gT1,0,none⟩) m cT1,.slice (some ⟨gF1,0,none⟩) m cF1])/\GngR w' w.heap.size m g L ⟨gO1,cO1,.slice AL1 nL1 cL1,gD1,cD1,gT1,cT1,gF1,cF1,Rv1⟩/\Below w.heap.size w w':=by
 refine(sown_any w hok.m1 (by rw[<-hok.ol];exact hok.crew.hi) (by have:=hok.crew.ln;have:=hok.n64;omega) (fun j hj=>by rw[hok.rl j hj];decide) h).mono ?_
 rintro e w' ⟨a,rfl,hr,hb⟩;obtain⟨gO1,cO1,AL1,nL1,cL1,gD1,cD1,gT1,cT1,gF1,cF1,Rv1,rfl⟩:=gng_form hr;exact⟨_,_,_,_,_,_,_,_,_,_,_,_,rfl,hr,hb⟩
theorem lcalm(w:World)(hok:GOk W.length m E L g)(h0: ∀c,c<m->(g.tk c).at_=0)(h:GngR w b m g L ⟨gO,cO,.slice AL nL cL,gD,cD,gT,cT,gF,cF,Rv⟩)(hT:DTab w)(hg:IsG w AW nW cW FE mE dE W E)(hM:May W E)(hp:picks.length=nP)(hp2:nP<=1000)(hP:Ints w w.heap.size AP picks):
  Calls Tryz.prog 18 #[.agg #[.slice AW nW cW,.slice FE mE dE],.agg #[.slice (some ⟨gO,0,none⟩) m cO,.slice AL nL cL,.slice (some ⟨gD,0,none⟩) m cD,.slice (some ⟨gT,0,none⟩) m cT,.slice (some ⟨gF,0,none⟩) m cF],.slice AP nP cP] w fun e w'=> ∃gO1 cO1 AL1 nL1 cL1 gD1 cD1 gT1 cT1 gF1 cF1 Rv1,e= .returned (.tuple #[.agg #[.slice (some ⟨gO1,0,none⟩) m cO1,.slice AL1 nL1 cL1,.slice (some ⟨gD1,0,none⟩) m cD1,.slice (some ⟨gT1,0,none⟩) m cT1,.slice (some ⟨gF1,0,none⟩) m cF1],.int .i64 (lenC m g picks:Nat),.int .i64 0])/\GngR w' w.heap.size m (calmG m g picks) L ⟨gO1,cO1,.slice AL1 nL1 cL1,gD1,cD1,gT1,cT1,gF1,cF1,Rv1⟩/\Below w.heap.size w w':=by
 refine(gcalm_any w hok h0 h hT hg hM hp hp2 hP).mono ?_
 rintro e w' ⟨a,rfl,hr,hb⟩;obtain⟨gO1,cO1,AL1,nL1,cL1,gD1,cD1,gT1,cT1,gF1,cF1,Rv1,rfl⟩:=gng_form hr.r;exact⟨_,_,_,_,_,_,_,_,_,_,_,_,rfl,hr.r,hb⟩
theorem ltick(w:World)(hok:GOk W.length m E L g)(h0: ∀c,c<m->(g.tk c).at_=0)(h:GngR w b m g L ⟨gO,cO,.slice AL nL cL,gD,cD,gT,cT,gF,cF,Rv⟩)(hT:DTab w)(hg:IsG w AW nW cW FE mE dE W E)(hM:May W E):
  Calls Tryz.prog 26 #[.agg #[.slice AW nW cW,.slice FE mE dE],.agg #[.slice (some ⟨gO,0,none⟩) m cO,.slice AL nL cL,.slice (some ⟨gD,0,none⟩) m cD,.slice (some ⟨gT,0,none⟩) m cT,.slice (some ⟨gF,0,none⟩) m cF]] w fun e w'=> ∃gO1 cO1 AL1 nL1 cL1 gD1 cD1 gT1 cT1 gF1 cF1 Rv1 v5,e= .returned (.tuple #[.agg #[.slice (some ⟨gO1,0,none⟩) m cO1,.slice AL1 nL1 cL1,.slice (some ⟨gD1,0,none⟩) m cD1,.slice (some ⟨gT1,0,none⟩) m cT1,.slice (some ⟨gF1,0,none⟩) m cF1],v5,.int .i64 0])/\GngR w' w.heap.size m (tickG W.length m E L g) (leftT g.O L) ⟨gO1,cO1,.slice AL1 nL1 cL1,gD1,cD1,gT1,cT1,gF1,cF1,Rv1⟩/\Below w.heap.size w w':=by
 refine(gtick_any w hok h0 h hT hg hM).mono ?_
 rintro e w' ⟨a,A5,c5,rfl,hr,hb⟩;obtain⟨gO1,cO1,AL1,nL1,cL1,gD1,cD1,gT1,cT1,gF1,cF1,Rv1,rfl⟩:=gng_form hr.r;exact⟨_,_,_,_,_,_,_,_,_,_,_,_,_,rfl,hr.r,hb⟩
theorem lnew{N:Option Addr}{nn nc:Nat}{need:List Int}(w:World)(hT:DTab w)(hg:IsG w AW nW cW FE mE dE W E)(hn:need.length=nn)(hl:nn<=400)(hI:Ints w w.heap.size N need)(hN:N=none->nn=0/\nc=0)(he:newE W E need m=0):
  Calls Tryz.prog 13 #[.agg #[.slice AW nW cW,.slice FE mE dE],.slice N nn nc,.int .i64 m] w fun e w'=> ∃gO1 cO1 AL1 nL1 cL1 gD1 cD1 gT1 cT1 gF1 cF1 Rv1,e= .returned (.tuple #[.agg #[.slice (some ⟨gO1,0,none⟩) m cO1,.slice AL1 nL1 cL1,.slice (some ⟨gD1,0,none⟩) m cD1,.slice (some ⟨gT1,0,none⟩) m cT1,.slice (some ⟨gF1,0,none⟩) m cF1],.int .i64 0])/\GngR w' w.heap.size m (newG W.length m E need) need ⟨gO1,cO1,.slice AL1 nL1 cL1,gD1,cD1,gT1,cT1,gF1,cF1,Rv1⟩/\Below w.heap.size w w':=by
 refine(snew_yes w hT hg hn hl hI hN he).mono ?_
 rintro e w' ⟨a,rfl,hr,hb⟩;obtain⟨gO1,cO1,AL1,nL1,cL1,gD1,cD1,gT1,cT1,gF1,cF1,Rv1,rfl⟩:=gng_form hr.r;exact⟨_,_,_,_,_,_,_,_,_,_,_,_,rfl,hr.r,hb⟩
end
section
variable {w w': World} {b m p: Nat} {g: Gng} {L: List Int} {a: GAd}
theorem GngR.farT(h:GngR w b m g L a){k:Nat}{vs:List Value}(hp:RowV p 41 vs w)(u:Value):GngR (w.setCell ⟨p,k,none⟩ u) b m g L a:=
 ⟨h.ol,own_farT h.on hp (by decide) u,own_farT h.left hp (by decide) u,own_farT h.dqs hp (by decide) u,own_farT h.tks hp (by decide) u,own_farT h.frm hp (by decide) u,fun j hj=>own_farT (h.ring j hj) hp (by decide) u⟩
def set5(w:World)(p:Nat)(y0 y1 y2 y3 y4:Value):World:=((((w.setCell ⟨p,0,none⟩ y0).setCell ⟨p,1,none⟩ y1).setCell ⟨p,2,none⟩ y2).setCell ⟨p,3,none⟩ y3).setCell ⟨p,4,none⟩ y4
theorem set5_row{x0 x1 x2 x3 x4:Value}(h:RowV p 41 [x0,x1,x2,x3,x4] w)(y0 y1 y2 y3 y4:Value):RowV p 41 [y0,y1,y2,y3,y4] (set5 w p y0 y1 y2 y3 y4):=
 ((((h.set 0 y0).set 1 y1).set 2 y2).set 3 y3).set 4 y4
theorem set5_gng{x0 x1 x2 x3 x4:Value}(hr:GngR w b m g L a)(h:RowV p 41 [x0,x1,x2,x3,x4] w)(y0 y1 y2 y3 y4:Value):GngR (set5 w p y0 y1 y2 y3 y4) b m g L a:=
 ((((hr.farT h (k:=0) y0).farT (h.set 0 y0) (k:=1) y1).farT ((h.set 0 y0).set 1 y1) (k:=2) y2).farT (((h.set 0 y0).set 1 y1).set 2 y2) (k:=3) y3).farT ((((h.set 0 y0).set 1 y1).set 2 y2).set 3 y3) (k:=4) y4
theorem set5_bel{B:Nat}{w0:World}(hb:Below B w0 w)(hp:B<=p)(y0 y1 y2 y3 y4:Value):Below B w0 (set5 w p y0 y1 y2 y3 y4):=
 ((((hb.setCell (show B<=(⟨p,0,none⟩:Addr).block from hp) y0).setCell (show B<=(⟨p,1,none⟩:Addr).block from hp) y1).setCell (show B<=(⟨p,2,none⟩:Addr).block from hp) y2).setCell (show B<=(⟨p,3,none⟩:Addr).block from hp) y3).setCell (show B<=(⟨p,4,none⟩:Addr).block from hp) y4
end
def PhiLb5(b m:Nat)(W picks:List Int)(E:List (Int×Int))(AW FE AP:Option Addr)(nW cW mE dE nP cP:Nat)(g:Gng)(L:List Int)(gO cO:Nat)(AL:Option Addr)(nL cL gD cD gT cT gF cF:Nat):Nat->Value->World->Prop
 |0,v,w=>v= .agg #[.slice AW nW cW,.slice FE mE dE]
 |1,v,w=> ∃A c F d,v= .agg #[.slice A nW c,.slice F mE d]/\IsG w A nW c F mE d W E
 |2,v,w=>v= .agg #[.slice (some ⟨gO,0,none⟩) m cO,.slice AL nL cL,.slice (some ⟨gD,0,none⟩) m cD,.slice (some ⟨gT,0,none⟩) m cT,.slice (some ⟨gF,0,none⟩) m cF]
 |3,v,w=> ∃gO1 cO1 AL1 nL1 cL1 gD1 cD1 gT1 cT1 gF1 cF1 Rv1,v= .agg #[.slice (some ⟨gO1,0,none⟩) m cO1,.slice AL1 nL1 cL1,.slice (some ⟨gD1,0,none⟩) m cD1,.slice (some ⟨gT1,0,none⟩) m cT1,.slice (some ⟨gF1,0,none⟩) m cF1]/\GngR w b m g L ⟨gO1,cO1,.slice AL1 nL1 cL1,gD1,cD1,gT1,cT1,gF1,cF1,Rv1⟩
 |4,v,w=>v= .slice AP nP cP
 |5,v,w=> ∃A c,v= .slice A nP c/\Ints w w.heap.size A picks
 |6,v,w=> ∃gO1 cO1 AL1 nL1 cL1 gD1 cD1 gT1 cT1 gF1 cF1 Rv1 u,v= .tuple #[.agg #[.slice (some ⟨gO1,0,none⟩) m cO1,.slice AL1 nL1 cL1,.slice (some ⟨gD1,0,none⟩) m cD1,.slice (some ⟨gT1,0,none⟩) m cT1,.slice (some ⟨gF1,0,none⟩) m cF1],u,.int .i64 0]/\GngR w b m (calmG m g picks) L ⟨gO1,cO1,.slice AL1 nL1 cL1,gD1,cD1,gT1,cT1,gF1,cF1,Rv1⟩
 |7,v,w=> ∃gO1 cO1 AL1 nL1 cL1 gD1 cD1 gT1 cT1 gF1 cF1 Rv1 u,v= .tuple #[.agg #[.slice (some ⟨gO1,0,none⟩) m cO1,.slice AL1 nL1 cL1,.slice (some ⟨gD1,0,none⟩) m cD1,.slice (some ⟨gT1,0,none⟩) m cT1,.slice (some ⟨gF1,0,none⟩) m cF1],u,.int .i64 0]/\GngR w b m (calmG m g picks) L ⟨gO1,cO1,.slice AL1 nL1 cL1,gD1,cD1,gT1,cT1,gF1,cF1,Rv1⟩
 |8,v,w=> ∃gO1 cO1 AL1 nL1 cL1 gD1 cD1 gT1 cT1 gF1 cF1 Rv1,v= .agg #[.slice (some ⟨gO1,0,none⟩) m cO1,.slice AL1 nL1 cL1,.slice (some ⟨gD1,0,none⟩) m cD1,.slice (some ⟨gT1,0,none⟩) m cT1,.slice (some ⟨gF1,0,none⟩) m cF1]/\GngR w b m (calmG m g picks) L ⟨gO1,cO1,.slice AL1 nL1 cL1,gD1,cD1,gT1,cT1,gF1,cF1,Rv1⟩
 |9,v,w=>True
 |10,v,w=>True
 |11,v,w=> ∃p,v= .pointer (some ⟨p,0,none⟩)/\b<=p/\RowV p 41 [.slice none 0 0,.slice none 0 0,.slice none 0 0,.slice none 0 0,.slice none 0 0] w
 |_,_,_=>True
theorem phiLb5_below{b m:Nat}{W picks:List Int}{E:List (Int×Int)}{AW FE AP:Option Addr}{nW cW mE dE nP cP:Nat}{g:Gng}{L:List Int}{gO cO:Nat}{AL:Option Addr}{nL cL gD cD gT cT gF cF:Nat}: ∀kq v w w',PhiLb5 b m W picks E AW FE AP nW cW mE dE nP cP g L gO cO AL nL cL gD cD gT cT gF cF kq v w->Below w.heap.size w w'->PhiLb5 b m W picks E AW FE AP nW cW mE dE nP cP g L gO cO AL nL cL gD cD gT cT gF cF kq v w':=by
 intro kq v w w' h hb
 match kq,h with
 |0,h=>exact h
 |1,h=>exact(by obtain⟨A,c,F,d,e,h⟩:=h;exact⟨A,c,F,d,e,h.below hb⟩)
 |2,h=>exact h
 |3,h=>exact(by obtain⟨gO1,cO1,AL1,nL1,cL1,gD1,cD1,gT1,cT1,gF1,cF1,Rv1,e,h⟩:=h;exact⟨gO1,cO1,AL1,nL1,cL1,gD1,cD1,gT1,cT1,gF1,cF1,Rv1,e,h.below hb⟩)
 |4,h=>exact h
 |5,h=>exact(by obtain⟨A,c,e,h⟩:=h;exact⟨A,c,e,(h.below hb).more hb.size⟩)
 |6,h=>exact(by obtain⟨gO1,cO1,AL1,nL1,cL1,gD1,cD1,gT1,cT1,gF1,cF1,Rv1,u,e,h⟩:=h;exact⟨gO1,cO1,AL1,nL1,cL1,gD1,cD1,gT1,cT1,gF1,cF1,Rv1,u,e,h.below hb⟩)
 |7,h=>exact(by obtain⟨gO1,cO1,AL1,nL1,cL1,gD1,cD1,gT1,cT1,gF1,cF1,Rv1,u,e,h⟩:=h;exact⟨gO1,cO1,AL1,nL1,cL1,gD1,cD1,gT1,cT1,gF1,cF1,Rv1,u,e,h.below hb⟩)
 |8,h=>exact(by obtain⟨gO1,cO1,AL1,nL1,cL1,gD1,cD1,gT1,cT1,gF1,cF1,Rv1,e,h⟩:=h;exact⟨gO1,cO1,AL1,nL1,cL1,gD1,cD1,gT1,cT1,gF1,cF1,Rv1,e,h.below hb⟩)
 |9,h=>exact h
 |10,h=>exact h
 |11,h=>exact(by obtain⟨p,e,hp,hr⟩:=h;exact⟨p,e,hp,hr.below hb hr.lt⟩)
 |kq+12,h=>exact trivial
def ThtLb5(b m:Nat)(w4:World)(W picks:List Int)(E:List (Int×Int))(g:Gng)(L:List Int)(t:Nat)(f:Nat->Value)(w:World):Prop:=
 12<=t/\t<=15/\ ∃gO1 cO1 AL1 nL1 cL1 gD1 cD1 gT1 cT1 gF1 cF1 Rv1 p,f 15= .pointer (some ⟨p,0,none⟩)/\b<=p/\w4.heap.size<=p/\Below w4.heap.size w4 w/\GngR w b m (calmG m g picks) L ⟨gO1,cO1,.slice AL1 nL1 cL1,gD1,cD1,gT1,cT1,gF1,cF1,Rv1⟩/\(t=12->f 47= .agg #[.slice (some ⟨gO1,0,none⟩) m cO1,.slice AL1 nL1 cL1,.slice (some ⟨gD1,0,none⟩) m cD1,.slice (some ⟨gT1,0,none⟩) m cT1,.slice (some ⟨gF1,0,none⟩) m cF1]/\RowV p 41 [.slice none 0 0,.slice none 0 0,.slice none 0 0,.slice none 0 0,.slice none 0 0] w)/\(13<=t->RowV p 41 [.slice (some ⟨gO1,0,none⟩) m cO1,.slice AL1 nL1 cL1,.slice (some ⟨gD1,0,none⟩) m cD1,.slice (some ⟨gT1,0,none⟩) m cT1,.slice (some ⟨gF1,0,none⟩) m cF1] w)/\(t=15->f 17= .int .i64 0)
def PhiLb6(b m:Nat)(W picks:List Int)(E:List (Int×Int))(AW FE AP:Option Addr)(nW cW mE dE nP cP:Nat)(g:Gng)(L:List Int)(gO cO:Nat)(AL:Option Addr)(nL cL gD cD gT cT gF cF:Nat):Nat->Value->World->Prop
 |0,v,w=>v= .agg #[.slice AW nW cW,.slice FE mE dE]
 |1,v,w=> ∃A c F d,v= .agg #[.slice A nW c,.slice F mE d]/\IsG w A nW c F mE d W E
 |2,v,w=>v= .agg #[.slice (some ⟨gO,0,none⟩) m cO,.slice AL nL cL,.slice (some ⟨gD,0,none⟩) m cD,.slice (some ⟨gT,0,none⟩) m cT,.slice (some ⟨gF,0,none⟩) m cF]
 |3,v,w=> ∃gO1 cO1 AL1 nL1 cL1 gD1 cD1 gT1 cT1 gF1 cF1 Rv1,v= .agg #[.slice (some ⟨gO1,0,none⟩) m cO1,.slice AL1 nL1 cL1,.slice (some ⟨gD1,0,none⟩) m cD1,.slice (some ⟨gT1,0,none⟩) m cT1,.slice (some ⟨gF1,0,none⟩) m cF1]/\GngR w b m g L ⟨gO1,cO1,.slice AL1 nL1 cL1,gD1,cD1,gT1,cT1,gF1,cF1,Rv1⟩
 |4,v,w=> ∃gO1 cO1 AL1 nL1 cL1 gD1 cD1 gT1 cT1 gF1 cF1 Rv1 u,v= .tuple #[.agg #[.slice (some ⟨gO1,0,none⟩) m cO1,.slice AL1 nL1 cL1,.slice (some ⟨gD1,0,none⟩) m cD1,.slice (some ⟨gT1,0,none⟩) m cT1,.slice (some ⟨gF1,0,none⟩) m cF1],u,.int .i64 0]/\GngR w b m (tickG W.length m E L g) (leftT g.O L) ⟨gO1,cO1,.slice AL1 nL1 cL1,gD1,cD1,gT1,cT1,gF1,cF1,Rv1⟩
 |5,v,w=> ∃gO1 cO1 AL1 nL1 cL1 gD1 cD1 gT1 cT1 gF1 cF1 Rv1 u,v= .tuple #[.agg #[.slice (some ⟨gO1,0,none⟩) m cO1,.slice AL1 nL1 cL1,.slice (some ⟨gD1,0,none⟩) m cD1,.slice (some ⟨gT1,0,none⟩) m cT1,.slice (some ⟨gF1,0,none⟩) m cF1],u,.int .i64 0]/\GngR w b m (tickG W.length m E L g) (leftT g.O L) ⟨gO1,cO1,.slice AL1 nL1 cL1,gD1,cD1,gT1,cT1,gF1,cF1,Rv1⟩
 |6,v,w=> ∃gO1 cO1 AL1 nL1 cL1 gD1 cD1 gT1 cT1 gF1 cF1 Rv1,v= .agg #[.slice (some ⟨gO1,0,none⟩) m cO1,.slice AL1 nL1 cL1,.slice (some ⟨gD1,0,none⟩) m cD1,.slice (some ⟨gT1,0,none⟩) m cT1,.slice (some ⟨gF1,0,none⟩) m cF1]/\GngR w b m (tickG W.length m E L g) (leftT g.O L) ⟨gO1,cO1,.slice AL1 nL1 cL1,gD1,cD1,gT1,cT1,gF1,cF1,Rv1⟩
 |7,v,w=>True
 |8,v,w=>True
 |9,v,w=> ∃p,v= .pointer (some ⟨p,0,none⟩)/\b<=p/\RowV p 41 [.slice none 0 0,.slice none 0 0,.slice none 0 0,.slice none 0 0,.slice none 0 0] w
 |_,_,_=>True
theorem phiLb6_below{b m:Nat}{W picks:List Int}{E:List (Int×Int)}{AW FE AP:Option Addr}{nW cW mE dE nP cP:Nat}{g:Gng}{L:List Int}{gO cO:Nat}{AL:Option Addr}{nL cL gD cD gT cT gF cF:Nat}: ∀kq v w w',PhiLb6 b m W picks E AW FE AP nW cW mE dE nP cP g L gO cO AL nL cL gD cD gT cT gF cF kq v w->Below w.heap.size w w'->PhiLb6 b m W picks E AW FE AP nW cW mE dE nP cP g L gO cO AL nL cL gD cD gT cT gF cF kq v w':=by
 intro kq v w w' h hb
 match kq,h with
 |0,h=>exact h
 |1,h=>exact(by obtain⟨A,c,F,d,e,h⟩:=h;exact⟨A,c,F,d,e,h.below hb⟩)
 |2,h=>exact h
 |3,h=>exact(by obtain⟨gO1,cO1,AL1,nL1,cL1,gD1,cD1,gT1,cT1,gF1,cF1,Rv1,e,h⟩:=h;exact⟨gO1,cO1,AL1,nL1,cL1,gD1,cD1,gT1,cT1,gF1,cF1,Rv1,e,h.below hb⟩)
 |4,h=>exact(by obtain⟨gO1,cO1,AL1,nL1,cL1,gD1,cD1,gT1,cT1,gF1,cF1,Rv1,u,e,h⟩:=h;exact⟨gO1,cO1,AL1,nL1,cL1,gD1,cD1,gT1,cT1,gF1,cF1,Rv1,u,e,h.below hb⟩)
 |5,h=>exact(by obtain⟨gO1,cO1,AL1,nL1,cL1,gD1,cD1,gT1,cT1,gF1,cF1,Rv1,u,e,h⟩:=h;exact⟨gO1,cO1,AL1,nL1,cL1,gD1,cD1,gT1,cT1,gF1,cF1,Rv1,u,e,h.below hb⟩)
 |6,h=>exact(by obtain⟨gO1,cO1,AL1,nL1,cL1,gD1,cD1,gT1,cT1,gF1,cF1,Rv1,e,h⟩:=h;exact⟨gO1,cO1,AL1,nL1,cL1,gD1,cD1,gT1,cT1,gF1,cF1,Rv1,e,h.below hb⟩)
 |7,h=>exact h
 |8,h=>exact h
 |9,h=>exact(by obtain⟨p,e,hp,hr⟩:=h;exact⟨p,e,hp,hr.below hb hr.lt⟩)
 |kq+10,h=>exact trivial
def ThtLb6(b m:Nat)(w4:World)(W picks:List Int)(E:List (Int×Int))(g:Gng)(L:List Int)(t:Nat)(f:Nat->Value)(w:World):Prop:=
 10<=t/\t<=13/\ ∃gO1 cO1 AL1 nL1 cL1 gD1 cD1 gT1 cT1 gF1 cF1 Rv1 p,f 18= .pointer (some ⟨p,0,none⟩)/\b<=p/\w4.heap.size<=p/\Below w4.heap.size w4 w/\GngR w b m (tickG W.length m E L g) (leftT g.O L) ⟨gO1,cO1,.slice AL1 nL1 cL1,gD1,cD1,gT1,cT1,gF1,cF1,Rv1⟩/\(t=10->f 56= .agg #[.slice (some ⟨gO1,0,none⟩) m cO1,.slice AL1 nL1 cL1,.slice (some ⟨gD1,0,none⟩) m cD1,.slice (some ⟨gT1,0,none⟩) m cT1,.slice (some ⟨gF1,0,none⟩) m cF1]/\RowV p 41 [.slice none 0 0,.slice none 0 0,.slice none 0 0,.slice none 0 0,.slice none 0 0] w)/\(11<=t->RowV p 41 [.slice (some ⟨gO1,0,none⟩) m cO1,.slice AL1 nL1 cL1,.slice (some ⟨gD1,0,none⟩) m cD1,.slice (some ⟨gT1,0,none⟩) m cT1,.slice (some ⟨gF1,0,none⟩) m cF1] w)/\(t=13->f 20= .int .i64 0)
structure LbS(w0:World)(q m:Nat)(W:List Int)(E:List (Int×Int))(g:Gng)(L:List Int)(a:GAd)(w:World):Prop where
 bel:Below w0.heap.size w0 w
 row:RowV q 41 (gangC m a) w
 hq:w0.heap.size<=q
 r:GngR w w0.heap.size m g L a
 ok:GOk W.length m E L g
 at0: ∀c,c<m->(g.tk c).at_=0
section
variable {AW FE AP N: Option Addr} {nW cW mE dE nP cP nn nc m: Nat} {W picks need: List Int} {E: List (Int × Int)}
theorem lbegin_any(wf:World)(ticks:Nat)(ht3:ticks<=300)(hT:DTab wf)(hg:IsG wf AW nW cW FE mE dE W E)(hM:May W E)(hn:need.length=nn)(hl:nn<=400)(hI:Ints wf wf.heap.size N need)(hN:N=none->nn=0/\nc=0)
    (hpn:picks.length=nP/\nP<=1000/\(AP=none->nP=0/\cP=0)) (hP:Ints wf wf.heap.size AP picks) (he:newE W E need m=0) (hz: ∀z∈need,1<=z/\z<=1000) (m1:1<=m) (m8:m<=8) (hnl:need.length=W.length) (n64:W.length<=64):
    Calls Tryz.prog 17 #[.agg #[.slice AW nW cW, .slice FE mE dE], .slice N nn nc, .int .i64 m, .slice AP nP cP, .int .i64 ticks] wf fun e w'=> ∃g L gO cO AL nL cL gD cD gT cT gF cF Rv,e= .returned (.tuple #[.agg #[.slice (some ⟨gO,0,none⟩) m cO, .slice AL nL cL, .slice (some ⟨gD,0,none⟩) m cD, .slice (some ⟨gT,0,none⟩) m cT, .slice (some ⟨gF,0,none⟩) m cF], .bool true])/\GngR w' wf.heap.size m g L ⟨gO,cO, .slice AL nL cL,gD,cD,gT,cT,gF,cF,Rv⟩/\GOk W.length m E L g/\(∀c,c<m->(g.tk c).at_=0)/\Below wf.heap.size wf w':=by
  obtain⟨w0,hw0⟩: ∃w0,w0=(wf.alloc (.cells #[.slice AW nW cW, .slice FE mE dE] 25)).alloc (.cells #[.slice none 0 0, .slice none 0 0, .slice none 0 0, .slice none 0 0, .slice none 0 0] 41):=⟨_,rfl⟩;have hb0:Below wf.heap.size wf w0:=by rw[hw0];exact((Below.refl _ _).alloc (Nat.le_refl _) _).alloc (by simp) _
  have HB0:=Lib.hid hb0;have HD0:Hid (RowV wf.heap.size 25 [.slice AW nW cW, .slice FE mE dE] w0):=Lib.hid (by rw[hw0];exact(RowV.new wf _ _).alloc _)
  have HX0:Hid (RowV (wf.heap.size+1) 41 [.slice none 0 0, .slice none 0 0, .slice none 0 0, .slice none 0 0, .slice none 0 0] w0):=Lib.hid (by
    rw[hw0];have:=RowV.new (wf.alloc (.cells #[.slice AW nW cW, .slice FE mE dE] 25)) 41 [.slice none 0 0, .slice none 0 0, .slice none 0 0, .slice none 0 0, .slice none 0 0]
    simpa using this)
  have HG0:=Lib.hid (hg.below hb0);have HT0:=Lib.hid (hT.via hb0);have HI0:=Lib.hid ((hI.below hb0).more hb0.size);have HP0:=Lib.hid ((hP.below hb0).more hb0.size);have HTK:=Lib.hid ht3;have HW:=Lib.hid hw0;have HM:=Lib.hid hM;have HPN:=Lib.hid hpn;have HGN:=Lib.hid (GOk.new (E:=E) hz m1 m8 hnl n64);have HNN:=Lib.hid (show need.length=nn/\nn<=400/\(N=none->nn=0/\nc=0)/\newE W E need m=0 from⟨hn,hl,hN,he⟩)
  have c0:=HD0.out.cell (j:=0) rfl;have c1:=HD0.out.cell (j:=1) rfl;clear ht3 hw0 hb0 hT hg hM hn hl hI hN hpn hP he hz m1 m8 hnl n64;go_enter Tryz.func17,Tryz.ntmps17;go_wp2_with fail;rw[<-HW.out];go_wp2_with fail;refine(own_g10 HG0.out).mono ?_
  rintro e w1 ⟨A1,c1',F1,d1,rfl,hg1,b1⟩;have HB1:=Lib.hid b1;have HG1:=Lib.hid hg1;clear b1 hg1;go_wp2_with fail;refine(ints13_any w1 N nc nn need HNN.out.1 (by have:=HNN.out.2.1;omega) ((HI0.out.below HB1.out).more HB1.out.size) HNN.out.2.2.1).mono ?_
  rintro e w2 ⟨A2,c2,rfl,ho2,_,hA2,b2⟩;have HB2:=Lib.hid b2;have HO2:=Lib.hid ho2;have HA2:=Lib.hid hA2;clear b2 ho2 hA2;go_wp2_with fail;refine(lnew w2 (HT0.out.via (HB1.out.trans (HB2.out.mono HB1.out.size))) (HG1.out.below HB2.out) HNN.out.1 HNN.out.2.1 HO2.out.ints HA2.out HNN.out.2.2.2).mono ?_
  rintro e w3 ⟨gO,cO,AL,nL,cL,gD,cD,gT,cT,gF,cF,Rv,rfl,hr3,b3⟩;have HB3:Hid (Below w0.heap.size w0 w3):=Lib.hid (HB1.out.trans ((HB2.out.trans (b3.mono HB2.out.size)).mono HB1.out.size));have HR3:=Lib.hid (hr3.down (Nat.le_trans HB1.out.size HB2.out.size));clear b3 hr3 HB1 HB2 HO2 HA2 HG1 HI0;obtain⟨q,hq⟩: ∃q,q=w3.heap.size:=⟨_,rfl⟩;obtain⟨w5,hw5⟩: ∃w5,w5=w3.alloc (.cells #[.slice (some ⟨gO,0,none⟩) m cO, .slice AL nL cL, .slice (some ⟨gD,0,none⟩) m cD, .slice (some ⟨gT,0,none⟩) m cT, .slice (some ⟨gF,0,none⟩) m cF] 41):=⟨_,rfl⟩;have HS0:Hid (LbS w0 q m W E (newG W.length m E need) need ⟨gO,cO, .slice AL nL cL,gD,cD,gT,cT,gF,cF,Rv⟩ w5):=Lib.hid (by
    rw[hw5,hq];exact⟨HB3.out.trans ((below_alloc _).mono HB3.out.size),RowV.new w3 _ _,HB3.out.size,HR3.out.below (below_alloc _),HGN.out.1,HGN.out.2⟩)
  go_wp2;clear c0 c1
  rw[<-hq,<-hw5];clear hw5 hq HR3 HB3 HNN HW HGN;go_loopw [14] (fun v wr=> ∃(k:Nat) (g:Gng) (L:List Int) (gO cO:Nat) (AL:Option Addr) (nL cL gD cD gT cT gF cF:Nat) (Rv:Nat->Value),k<=ticks/\v= .int .i64 k/\Hid (LbS w0 q m W E g L ⟨gO,cO, .slice AL nL cL,gD,cD,gT,cT,gF,cF,Rv⟩ wr)) (fun v _=>ticks - (intOf v).toNat)
  case atStart=>exact⟨0,_,_,_,_,_,_,_,_,_,_,_,_,_,_,Nat.zero_le _,rfl,HS0⟩
  case round=>
    clear HS0;obtain⟨k,g,L,gO,cO,AL,nL,cL,gD,cD,gT,cT,gF,cF,Rv,hk,rfl,HS⟩:=hrel
    by_cases hlt:k<ticks
    · have HLT:=Lib.hid hlt;go_upto_region 5 with fail;obtain⟨w4,hw4⟩: ∃w4,w4=wr:=⟨_,rfl⟩;rw[<-hw4];rw[<-hw4]at HS;clear hw4;have HDG:=Lib.hid (HD0.out.below HS.out.bel HD0.out.lt);have HGR:=Lib.hid (HG0.out.below HS.out.bel);have HPK:=Lib.hid ((HP0.out.below HS.out.bel).more HS.out.bel.size);have HT:=Lib.hid (HT0.out.via HS.out.bel);have HBX:Hid (RowV q 41 [.slice (some ⟨gO,0,none⟩) m cO, .slice AL nL cL, .slice (some ⟨gD,0,none⟩) m cD, .slice (some ⟨gT,0,none⟩) m cT, .slice (some ⟨gF,0,none⟩) m cF] w4):=Lib.hid HS.out.row;have HOK:=Lib.hid HS.out.ok;have H0:=Lib.hid HS.out.at0;have HR:=Lib.hid HS.out.r;refine wp_region_tail 12 [40,41,42,43,44,45,46,39,47,48,49,15,1000,16,17] [9,10] (by kernel_rfl) (by kernel_rfl) (by intro d hd;simp at hd⊢;omega) (fun z=>Below w4.heap.size w4 z) (PhiLb5 w4.heap.size m W picks E AW FE AP nW cW mE dE nP cP g L gO cO AL nL cL gD cD gT cT gF cF) (fun k v=>k=10->v= .int .i64 0) (ThtLb5 w4.heap.size m w4 W picks E g L)
        (fun z z' h hb=>h.trans (hb.mono h.size)) phiLb5_below ((Below.refl _ _).drew) ?hstep ?hloose ?hmid ?htail ?hcon ?hend
      case hstep=>
        intro kq o hkm hkF ho a1 w hI hA hd K hK;obtain⟨ρ,hρ⟩: ∃ρ,a1.eval=ρ:=⟨_,rfl⟩;rw[hρ]at hA hd
        match kq,hkm,hkF,ho with
        | 0, _, _, ho =>
          have hoo:=Option.some.inj ho;subst hoo;have h0:=(HDG.out.below hI HDG.out.lt).cell (j:=0) rfl;have h1:=(HDG.out.below hI HDG.out.lt).cell (j:=1) rfl;exact fx_val hK hρ (.agg #[.slice AW nW cW, .slice FE mE dE]) (by have h:=hA.tmp 5 (by decide);simp[execOp,h,h0,h1,go_sem]) rfl
        | 1, _, _, ho =>
          have hoo:=Option.some.inj ho;subst hoo;have f0:ρ (.tmp 40)= .agg #[.slice AW nW cW, .slice FE mE dE]:=hd ⟨0, .data⟩ (by simp) (by rfl) (by decide)
          exact fx_call hK hρ 10 _ _ #[.agg #[.slice AW nW cW, .slice FE mE dE]] rfl (by simp only[List.map_toArray,List.map_cons,List.map_nil,hA.const,f0]) (eg_of Tryz.func10 (by kernel_rfl) rfl) ((own_g10 (HGR.out.below hI)).mono fun e w' hh=>by
            obtain⟨A,c,F,d,he,hg,hb⟩:=hh;exact⟨_,he,⟨A,c,F,d,rfl,hg⟩,hb⟩)
        | 2, _, _, ho =>
          have hoo:=Option.some.inj ho;subst hoo;have hr:=HBX.out.below hI HBX.out.lt;have h0:=hr.cell (j:=0) rfl;have h1:=hr.cell (j:=1) rfl;have h2:=hr.cell (j:=2) rfl;have h3:=hr.cell (j:=3) rfl;have h4:=hr.cell (j:=4) rfl;exact fx_val hK hρ (.agg #[.slice (some ⟨gO,0,none⟩) m cO, .slice AL nL cL, .slice (some ⟨gD,0,none⟩) m cD, .slice (some ⟨gT,0,none⟩) m cT, .slice (some ⟨gF,0,none⟩) m cF]) (by have h:=hA.tmp 12 (by decide);simp[execOp,h,h0,h1,h2,h3,h4,go_sem]) rfl
        | 3, _, _, ho =>
          have hoo:=Option.some.inj ho;subst hoo;have f2:ρ (.tmp 42)= .agg #[.slice (some ⟨gO,0,none⟩) m cO, .slice AL nL cL, .slice (some ⟨gD,0,none⟩) m cD, .slice (some ⟨gT,0,none⟩) m cT, .slice (some ⟨gF,0,none⟩) m cF]:=hd ⟨2, .data⟩ (by simp) (by rfl) (by decide)
          exact fx_call hK hρ 19 _ _ #[.agg #[.slice (some ⟨gO,0,none⟩) m cO, .slice AL nL cL, .slice (some ⟨gD,0,none⟩) m cD, .slice (some ⟨gT,0,none⟩) m cT, .slice (some ⟨gF,0,none⟩) m cF]] rfl (by simp only[List.map_toArray,List.map_cons,List.map_nil,hA.const,f2]) (eg_of Tryz.func19 (by kernel_rfl) rfl) ((lown w HOK.out (HR.out.below hI)).mono fun e w' hh=>by
            obtain⟨gO1,cO1,AL1,nL1,cL1,gD1,cD1,gT1,cT1,gF1,cF1,Rv1,he,hg,hb⟩:=hh;exact⟨_,he,⟨_,_,_,_,_,_,_,_,_,_,_,_,rfl,hg.down (hI.size)⟩,hb⟩)
        | 4, _, _, ho =>
          have hoo:=Option.some.inj ho;subst hoo;exact fx_val hK hρ (.slice AP nP cP) (by have h:=hA.tmp 3 (by decide);simp[execOp,h,go_sem]) rfl
        | 5, _, _, ho =>
          have hoo:=Option.some.inj ho;subst hoo;have f4:ρ (.tmp 44)= .slice AP nP cP:=hd ⟨4, .data⟩ (by simp) (by rfl) (by decide)
          exact fx_call hK hρ 11 _ _ #[.slice AP nP cP] rfl (by simp only[List.map_toArray,List.map_cons,List.map_nil,hA.const,f4]) (eg_of Tryz.func11 (by kernel_rfl) rfl) ((ints13_any w AP cP nP picks HPN.out.1 HPN.out.2.1 ((HPK.out.below hI).more hI.size) HPN.out.2.2).mono fun e w' hh=>by
            obtain⟨A,c,he,ho,_,_,hb⟩:=hh;exact⟨_,he,⟨A,c,rfl,ho.ints⟩,hb⟩)
        | 6, _, _, ho =>
          have hoo:=Option.some.inj ho;subst hoo;have f1: ∃A c F d,ρ (.tmp 41)= .agg #[.slice A nW c, .slice F mE d]/\IsG w A nW c F mE d W E:=hd ⟨1, .data⟩ (by simp) (by rfl) (by decide)
          have f3: ∃gO1 cO1 AL1 nL1 cL1 gD1 cD1 gT1 cT1 gF1 cF1 Rv1,ρ (.tmp 43)= .agg #[.slice (some ⟨gO1,0,none⟩) m cO1, .slice AL1 nL1 cL1, .slice (some ⟨gD1,0,none⟩) m cD1, .slice (some ⟨gT1,0,none⟩) m cT1, .slice (some ⟨gF1,0,none⟩) m cF1]/\GngR w w4.heap.size m g L ⟨gO1,cO1, .slice AL1 nL1 cL1,gD1,cD1,gT1,cT1,gF1,cF1,Rv1⟩:=hd ⟨3, .data⟩ (by simp) (by rfl) (by decide)
          have f5: ∃A c,ρ (.tmp 45)= .slice A nP c/\Ints w w.heap.size A picks:=hd ⟨5, .data⟩ (by simp) (by rfl) (by decide)
          obtain⟨A,c,F,d,e1,hg⟩:=f1;obtain⟨gO1,cO1,AL1,nL1,cL1,gD1,cD1,gT1,cT1,gF1,cF1,Rv1,e3,hr⟩:=f3;obtain⟨A5,c5,e5,hi5⟩:=f5;exact fx_call hK hρ 18 _ _ #[.agg #[.slice A nW c, .slice F mE d], .agg #[.slice (some ⟨gO1,0,none⟩) m cO1, .slice AL1 nL1 cL1, .slice (some ⟨gD1,0,none⟩) m cD1, .slice (some ⟨gT1,0,none⟩) m cT1, .slice (some ⟨gF1,0,none⟩) m cF1], .slice A5 nP c5] rfl (by simp only[List.map_toArray,List.map_cons,List.map_nil,hA.const,e1,e3,e5]) (eg_of Tryz.func18 (by kernel_rfl) rfl) ((lcalm w HOK.out H0.out hr (HT.out.via hI) hg HM.out HPN.out.1 HPN.out.2.1 hi5).mono fun e w' hh=>by
            obtain⟨gO2,cO2,AL2,nL2,cL2,gD2,cD2,gT2,cT2,gF2,cF2,Rv2,he,hg,hb⟩:=hh;exact⟨_,he,⟨_,_,_,_,_,_,_,_,_,_,_,_,_,rfl,hg.down (hI.size)⟩,hb⟩)
        | 7, _, _, ho =>
          have hoo:=Option.some.inj ho;subst hoo;have f6: ∃gO1 cO1 AL1 nL1 cL1 gD1 cD1 gT1 cT1 gF1 cF1 Rv1 u,ρ (.tmp 46)= .tuple #[.agg #[.slice (some ⟨gO1,0,none⟩) m cO1, .slice AL1 nL1 cL1, .slice (some ⟨gD1,0,none⟩) m cD1, .slice (some ⟨gT1,0,none⟩) m cT1, .slice (some ⟨gF1,0,none⟩) m cF1],u, .int .i64 0]/\GngR w w4.heap.size m (calmG m g picks) L ⟨gO1,cO1, .slice AL1 nL1 cL1,gD1,cD1,gT1,cT1,gF1,cF1,Rv1⟩:=hd ⟨6, .data⟩ (by simp) (by rfl) (by decide)
          obtain⟨gO1,cO1,AL1,nL1,cL1,gD1,cD1,gT1,cT1,gF1,cF1,Rv1,u,e,hr⟩:=f6;exact fx_val hK hρ _ (by simp[execOp,e,go_sem]) ⟨_,_,_,_,_,_,_,_,_,_,_,_,u,rfl,hr⟩
        | 8, _, _, ho =>
          have hoo:=Option.some.inj ho;subst hoo;have f7: ∃gO1 cO1 AL1 nL1 cL1 gD1 cD1 gT1 cT1 gF1 cF1 Rv1 u,ρ (.tmp 39)= .tuple #[.agg #[.slice (some ⟨gO1,0,none⟩) m cO1, .slice AL1 nL1 cL1, .slice (some ⟨gD1,0,none⟩) m cD1, .slice (some ⟨gT1,0,none⟩) m cT1, .slice (some ⟨gF1,0,none⟩) m cF1],u, .int .i64 0]/\GngR w w4.heap.size m (calmG m g picks) L ⟨gO1,cO1, .slice AL1 nL1 cL1,gD1,cD1,gT1,cT1,gF1,cF1,Rv1⟩:=hd ⟨7, .data⟩ (by simp) (by rfl) (by decide)
          obtain⟨gO1,cO1,AL1,nL1,cL1,gD1,cD1,gT1,cT1,gF1,cF1,Rv1,u,e,hr⟩:=f7;exact fx_val hK hρ (.agg #[.slice (some ⟨gO1,0,none⟩) m cO1, .slice AL1 nL1 cL1, .slice (some ⟨gD1,0,none⟩) m cD1, .slice (some ⟨gT1,0,none⟩) m cT1, .slice (some ⟨gF1,0,none⟩) m cF1]) (by simp[execOp,e,go_sem]) ⟨_,_,_,_,_,_,_,_,_,_,_,_,rfl,hr⟩
        |9,_,hkF,_=>exact absurd (by decide) hkF
        |10,_,hkF,_=>exact absurd (by decide) hkF
        | 11, _, _, ho =>
          have hoo:=Option.some.inj ho;subst hoo;exact fx_make hK hρ (.pointer (some ⟨w.heap.size,0,none⟩)) (w.alloc (.cells #[.slice none 0 0, .slice none 0 0, .slice none 0 0, .slice none 0 0, .slice none 0 0] 41)) (by simp[execOp,go_sem]) ⟨w.heap.size,rfl,hI.size,RowV.new w _ _⟩ (below_alloc _)
        |kq+12,h,_,_=>exact absurd h (by omega)
      case hloose=>
        intro kq o hkF ho ρ w hA hd;simp only[List.mem_cons,List.not_mem_nil,or_false]at hkF;rcases hkF with rfl|rfl
        · have hoo:=Option.some.inj ho;subst hoo;have f7: ∃w,∃gO1 cO1 AL1 nL1 cL1 gD1 cD1 gT1 cT1 gF1 cF1 Rv1 u,ρ (.tmp 39)= .tuple #[.agg #[.slice (some ⟨gO1,0,none⟩) m cO1, .slice AL1 nL1 cL1, .slice (some ⟨gD1,0,none⟩) m cD1, .slice (some ⟨gT1,0,none⟩) m cT1, .slice (some ⟨gF1,0,none⟩) m cF1],u, .int .i64 0]/\GngR w w4.heap.size m (calmG m g picks) L ⟨gO1,cO1, .slice AL1 nL1 cL1,gD1,cD1,gT1,cT1,gF1,cF1,Rv1⟩:=hd ⟨7, .data⟩ (by simp) (by rfl) (by decide)
          obtain⟨w7,gO1,cO1,AL1,nL1,cL1,gD1,cD1,gT1,cT1,gF1,cF1,Rv1,u,e,_⟩:=f7;exact⟨u,by simp[execOp,e,go_sem],fun q=>absurd q (by decide)⟩
        · have hoo:=Option.some.inj ho;subst hoo;have f7: ∃w,∃gO1 cO1 AL1 nL1 cL1 gD1 cD1 gT1 cT1 gF1 cF1 Rv1 u,ρ (.tmp 39)= .tuple #[.agg #[.slice (some ⟨gO1,0,none⟩) m cO1, .slice AL1 nL1 cL1, .slice (some ⟨gD1,0,none⟩) m cD1, .slice (some ⟨gT1,0,none⟩) m cT1, .slice (some ⟨gF1,0,none⟩) m cF1],u, .int .i64 0]/\GngR w w4.heap.size m (calmG m g picks) L ⟨gO1,cO1, .slice AL1 nL1 cL1,gD1,cD1,gT1,cT1,gF1,cF1,Rv1⟩:=hd ⟨7, .data⟩ (by simp) (by rfl) (by decide)
          obtain⟨w7,gO1,cO1,AL1,nL1,cL1,gD1,cD1,gT1,cT1,gF1,cF1,Rv1,u,e,_⟩:=f7;exact⟨.int .i64 0,by simp[execOp,e,go_sem],fun _=>rfl⟩
      case hmid=>
        intro vals w hI hF;obtain⟨gO1,cO1,AL1,nL1,cL1,gD1,cD1,gT1,cT1,gF1,cF1,Rv1,e0,hr⟩:=hF 8 (by decide) (by decide)
        obtain⟨p,ep,hp,hrow⟩:=hF 11 (by decide) (by decide)
        exact⟨Nat.le_refl _,by decide,_,_,_,_,_,_,_,_,_,_,_,_,p,ep,hp,hp,hI,hr,fun _=>⟨e0,hrow⟩,fun h=>absurd h (by decide),fun h=>absurd h (by decide)⟩
      case htail=>
        intro t o htm ho a1 w hA hT hL K hK;have htl:t<15:=(Array.getElem?_eq_some_iff.1 ho).1
        obtain⟨ρ,hρ⟩: ∃ρ,a1.eval=ρ:=⟨_,rfl⟩;rw[hρ]at hA
        try rw[hρ]at hL
        obtain rfl|rfl|rfl:t=12\/t=13\/t=14:=by omega
        · have hoo:=Option.some.inj ho;subst hoo;obtain⟨t1,t2,gO1,cO1,AL1,nL1,cL1,gD1,cD1,gT1,cT1,gF1,cF1,Rv1,p,ep,hp,hp2,hbl,hr,h0,h1,h2⟩:=hT;simp only[hρ]at ep;obtain⟨e0,hrow⟩:=h0 (by first|rfl|trivial|decide)
          simp only[hρ]at e0;have y0:=hrow.cell (j:=0) rfl;have z0:=hrow.frozen 0;have y1:=hrow.cell (j:=1) rfl;have z1:=hrow.frozen 1;have y2:=hrow.cell (j:=2) rfl;have z2:=hrow.frozen 2;have y3:=hrow.cell (j:=3) rfl;have z3:=hrow.frozen 3;have y4:=hrow.cell (j:=4) rfl;have z4:=hrow.frozen 4;unfold Oper.wp;rw[show(execOp a1.eval _).run Tryz.prog w= .ok .skip (set5 w p (.slice (some ⟨gO1,0,none⟩) m cO1) (.slice AL1 nL1 cL1) (.slice (some ⟨gD1,0,none⟩) m cD1) (.slice (some ⟨gT1,0,none⟩) m cT1) (.slice (some ⟨gF1,0,none⟩) m cF1))from by rw[hρ];unfold set5;simp[execOp,ep,e0,y0,y1,y2,y3,y4,z0,z1,z2,z3,z4,go_sem],Oper.upon_skip]
          refine hK undef _ ⟨by decide,by decide,_,_,_,_,_,_,_,_,_,_,_,_,p,?_,hp,hp2,set5_bel hbl hp2 _ _ _ _ _,set5_gng hr hrow _ _ _ _ _,fun h=>absurd h (by decide),fun _=>set5_row hrow _ _ _ _ _,fun h=>absurd h (by decide)⟩
          simp only[reduceCtorEq,if_false,hρ];exact ep
        · have hoo:=Option.some.inj ho;subst hoo;obtain⟨t1,t2,gO1,cO1,AL1,nL1,cL1,gD1,cD1,gT1,cT1,gF1,cF1,Rv1,p,ep,hp,hp2,hbl,hr,h0,h1,h2⟩:=hT;simp only[hρ]at ep;unfold Oper.wp;rw[show(execOp a1.eval _).run Tryz.prog w= .ok (.value (ρ (.tmp 48))) (w)from by rw[hρ];simp[execOp,go_sem],Oper.upon_value]
          refine hK _ _ ⟨by decide,by decide,_,_,_,_,_,_,_,_,_,_,_,_,p,?_,hp,hp2,hbl,hr,fun h=>absurd h (by decide),fun _=>h1 (by decide),fun h=>absurd h (by decide)⟩
          simp only[Option.some.injEq,Nat.reduceEqDiff,if_false,hρ];exact ep
        · have hoo:=Option.some.inj ho;subst hoo;obtain⟨t1,t2,gO1,cO1,AL1,nL1,cL1,gD1,cD1,gT1,cT1,gF1,cF1,Rv1,p,ep,hp,hp2,hbl,hr,h0,h1,h2⟩:=hT;simp only[hρ]at ep;have h49:ρ (.tmp 49)= .int .i64 0:=hL ⟨10, .data⟩ (by simp) (by rfl) (by simp) rfl
          unfold Oper.wp;rw[show(execOp a1.eval _).run Tryz.prog w= .ok (.value (.int .i64 0)) (w)from by rw[hρ];simp[execOp,h49,go_sem],Oper.upon_value]
          refine hK _ _ ⟨by decide,by decide,_,_,_,_,_,_,_,_,_,_,_,_,p,?_,hp,hp2,hbl,hr,fun h=>absurd h (by decide),fun _=>h1 (by decide),fun _=> ?_⟩
          · simp only[Option.some.injEq,Nat.reduceEqDiff,if_false,hρ];exact ep
          · simp
      case hcon=>
        intro t f g w h hT;obtain⟨t1,t2,gO1,cO1,AL1,nL1,cL1,gD1,cD1,gT1,cT1,gF1,cF1,Rv1,p,ep,hp,hp2,hbl,hr,h0,h1,h2⟩:=hT;have q15:=h 11 (by omega) (by simp)
        have q47:=h 8 (by omega) (by simp)
        simp only[List.getD_cons_zero,List.getD_cons_succ]at q15 q47;refine⟨t1,t2,_,_,_,_,_,_,_,_,_,_,_,_,p,q15▸ep,hp,hp2,hbl,hr,fun e=>⟨q47▸(h0 e).1,(h0 e).2⟩,h1,fun e=> ?_⟩
        have q17:=h 14 (by omega) (by simp)
        simp only[List.getD_cons_zero,List.getD_cons_succ]at q17;exact q17▸h2 e
      case hend=>
        intro vals5 w4 hT;obtain⟨_,_,gO,cO,AL,nL,cL,gD,cD,gT,cT,gF,cF,Rv,p,ep,hp,_,hbl,hr,_,h1,h2⟩:=hT;have hrow:=h1 (by decide)
        have er:=h2 rfl;have HB9:Hid (Below w0.heap.size w0 w4):=Lib.hid (HS.out.bel.trans (hbl.mono HS.out.bel.size));have HQ9:=Lib.hid (HBX.out.below hbl HBX.out.lt);have hHq:=Lib.hid HS.out.hq;have hC:=HOK.out.calmed H0.out picks;obtain⟨g,hg6⟩: ∃x,x=calmG m g picks:=⟨_,rfl⟩;rw[<-hg6]at hr hC;have HDG:=Lib.hid (HDG.out.below hbl HDG.out.lt);have HGR:=Lib.hid (HGR.out.below hbl);have HPK:=Lib.hid ((HPK.out.below hbl).more hbl.size);have HT:=Lib.hid (HT.out.via hbl);have HBX:=Lib.hid hrow;have HOK:=Lib.hid hC.1;have H0:=Lib.hid hC.2;have HR:=Lib.hid (hr.down HS.out.bel.size);clear hC hg6 hrow hr hbl HS;simp only[fillA,fillL,List.contains_cons,List.contains_nil,Nat.reduceBEq,Bool.or_false,Bool.false_or,Bool.or_true,Bool.true_or,cond_true,cond_false,Nat.zero_add,Nat.reduceAdd,ep,er];go_upto_region 6 with fail;refine wp_region_tail 10 [51,52,53,54,55,50,56,57,58,18,1000,19,20] [7,8] (by kernel_rfl) (by kernel_rfl) (by intro d hd;simp at hd⊢;omega) (fun z=>Below w4.heap.size w4 z) (PhiLb6 w4.heap.size m W picks E AW FE AP nW cW mE dE nP cP g L gO cO AL nL cL gD cD gT cT gF cF) (fun k v=>k=8->v= .int .i64 0) (ThtLb6 w4.heap.size m w4 W picks E g L)
          (fun z z' h hb=>h.trans (hb.mono h.size)) phiLb6_below ((Below.refl _ _).drew) ?hstep ?hloose ?hmid ?htail ?hcon ?hend
        case hstep=>
          intro kq o hkm hkF ho a1 w hI hA hd K hK;obtain⟨ρ,hρ⟩: ∃ρ,a1.eval=ρ:=⟨_,rfl⟩;rw[hρ]at hA hd
          match kq,hkm,hkF,ho with
          | 0, _, _, ho =>
            have hoo:=Option.some.inj ho;subst hoo;have h0:=(HDG.out.below hI HDG.out.lt).cell (j:=0) rfl;have h1:=(HDG.out.below hI HDG.out.lt).cell (j:=1) rfl;exact fx_val hK hρ (.agg #[.slice AW nW cW, .slice FE mE dE]) (by have h:=hA.tmp 5 (by decide);simp[execOp,h,h0,h1,go_sem]) rfl
          | 1, _, _, ho =>
            have hoo:=Option.some.inj ho;subst hoo;have f0:ρ (.tmp 51)= .agg #[.slice AW nW cW, .slice FE mE dE]:=hd ⟨0, .data⟩ (by simp) (by rfl) (by decide)
            exact fx_call hK hρ 10 _ _ #[.agg #[.slice AW nW cW, .slice FE mE dE]] rfl (by simp only[List.map_toArray,List.map_cons,List.map_nil,hA.const,f0]) (eg_of Tryz.func10 (by kernel_rfl) rfl) ((own_g10 (HGR.out.below hI)).mono fun e w' hh=>by
              obtain⟨A,c,F,d,he,hg,hb⟩:=hh;exact⟨_,he,⟨A,c,F,d,rfl,hg⟩,hb⟩)
          | 2, _, _, ho =>
            have hoo:=Option.some.inj ho;subst hoo;have hr:=HBX.out.below hI HBX.out.lt;have h0:=hr.cell (j:=0) rfl;have h1:=hr.cell (j:=1) rfl;have h2:=hr.cell (j:=2) rfl;have h3:=hr.cell (j:=3) rfl;have h4:=hr.cell (j:=4) rfl;exact fx_val hK hρ (.agg #[.slice (some ⟨gO,0,none⟩) m cO, .slice AL nL cL, .slice (some ⟨gD,0,none⟩) m cD, .slice (some ⟨gT,0,none⟩) m cT, .slice (some ⟨gF,0,none⟩) m cF]) (by have h:=hA.tmp 15 (by decide);simp[execOp,h,h0,h1,h2,h3,h4,go_sem]) rfl
          | 3, _, _, ho =>
            have hoo:=Option.some.inj ho;subst hoo;have f2:ρ (.tmp 53)= .agg #[.slice (some ⟨gO,0,none⟩) m cO, .slice AL nL cL, .slice (some ⟨gD,0,none⟩) m cD, .slice (some ⟨gT,0,none⟩) m cT, .slice (some ⟨gF,0,none⟩) m cF]:=hd ⟨2, .data⟩ (by simp) (by rfl) (by decide)
            exact fx_call hK hρ 19 _ _ #[.agg #[.slice (some ⟨gO,0,none⟩) m cO, .slice AL nL cL, .slice (some ⟨gD,0,none⟩) m cD, .slice (some ⟨gT,0,none⟩) m cT, .slice (some ⟨gF,0,none⟩) m cF]] rfl (by simp only[List.map_toArray,List.map_cons,List.map_nil,hA.const,f2]) (eg_of Tryz.func19 (by kernel_rfl) rfl) ((lown w HOK.out (HR.out.below hI)).mono fun e w' hh=>by
              obtain⟨gO1,cO1,AL1,nL1,cL1,gD1,cD1,gT1,cT1,gF1,cF1,Rv1,he,hg,hb⟩:=hh;exact⟨_,he,⟨_,_,_,_,_,_,_,_,_,_,_,_,rfl,hg.down (hI.size)⟩,hb⟩)
          | 4, _, _, ho =>
            have hoo:=Option.some.inj ho;subst hoo;have f1: ∃A c F d,ρ (.tmp 52)= .agg #[.slice A nW c, .slice F mE d]/\IsG w A nW c F mE d W E:=hd ⟨1, .data⟩ (by simp) (by rfl) (by decide)
            have f3: ∃gO1 cO1 AL1 nL1 cL1 gD1 cD1 gT1 cT1 gF1 cF1 Rv1,ρ (.tmp 54)= .agg #[.slice (some ⟨gO1,0,none⟩) m cO1, .slice AL1 nL1 cL1, .slice (some ⟨gD1,0,none⟩) m cD1, .slice (some ⟨gT1,0,none⟩) m cT1, .slice (some ⟨gF1,0,none⟩) m cF1]/\GngR w w4.heap.size m g L ⟨gO1,cO1, .slice AL1 nL1 cL1,gD1,cD1,gT1,cT1,gF1,cF1,Rv1⟩:=hd ⟨3, .data⟩ (by simp) (by rfl) (by decide)
            obtain⟨A,c,F,d,e1,hg⟩:=f1;obtain⟨gO1,cO1,AL1,nL1,cL1,gD1,cD1,gT1,cT1,gF1,cF1,Rv1,e3,hr⟩:=f3;exact fx_call hK hρ 26 _ _ #[.agg #[.slice A nW c, .slice F mE d], .agg #[.slice (some ⟨gO1,0,none⟩) m cO1, .slice AL1 nL1 cL1, .slice (some ⟨gD1,0,none⟩) m cD1, .slice (some ⟨gT1,0,none⟩) m cT1, .slice (some ⟨gF1,0,none⟩) m cF1]] rfl (by simp only[List.map_toArray,List.map_cons,List.map_nil,hA.const,e1,e3]) (eg_of Tryz.func26 (by kernel_rfl) rfl) ((ltick w HOK.out H0.out hr (HT.out.via hI) hg HM.out).mono fun e w' hh=>by
              obtain⟨gO2,cO2,AL2,nL2,cL2,gD2,cD2,gT2,cT2,gF2,cF2,Rv2,v5,he,hg,hb⟩:=hh;exact⟨_,he,⟨_,_,_,_,_,_,_,_,_,_,_,_,v5,rfl,hg.down (hI.size)⟩,hb⟩)
          | 5, _, _, ho =>
            have hoo:=Option.some.inj ho;subst hoo;have f4: ∃gO1 cO1 AL1 nL1 cL1 gD1 cD1 gT1 cT1 gF1 cF1 Rv1 u,ρ (.tmp 55)= .tuple #[.agg #[.slice (some ⟨gO1,0,none⟩) m cO1, .slice AL1 nL1 cL1, .slice (some ⟨gD1,0,none⟩) m cD1, .slice (some ⟨gT1,0,none⟩) m cT1, .slice (some ⟨gF1,0,none⟩) m cF1],u, .int .i64 0]/\GngR w w4.heap.size m (tickG W.length m E L g) (leftT g.O L) ⟨gO1,cO1, .slice AL1 nL1 cL1,gD1,cD1,gT1,cT1,gF1,cF1,Rv1⟩:=hd ⟨4, .data⟩ (by simp) (by rfl) (by decide)
            obtain⟨gO1,cO1,AL1,nL1,cL1,gD1,cD1,gT1,cT1,gF1,cF1,Rv1,u,e,hr⟩:=f4;exact fx_val hK hρ _ (by simp[execOp,e,go_sem]) ⟨_,_,_,_,_,_,_,_,_,_,_,_,u,rfl,hr⟩
          | 6, _, _, ho =>
            have hoo:=Option.some.inj ho;subst hoo;have f5: ∃gO1 cO1 AL1 nL1 cL1 gD1 cD1 gT1 cT1 gF1 cF1 Rv1 u,ρ (.tmp 50)= .tuple #[.agg #[.slice (some ⟨gO1,0,none⟩) m cO1, .slice AL1 nL1 cL1, .slice (some ⟨gD1,0,none⟩) m cD1, .slice (some ⟨gT1,0,none⟩) m cT1, .slice (some ⟨gF1,0,none⟩) m cF1],u, .int .i64 0]/\GngR w w4.heap.size m (tickG W.length m E L g) (leftT g.O L) ⟨gO1,cO1, .slice AL1 nL1 cL1,gD1,cD1,gT1,cT1,gF1,cF1,Rv1⟩:=hd ⟨5, .data⟩ (by simp) (by rfl) (by decide)
            obtain⟨gO1,cO1,AL1,nL1,cL1,gD1,cD1,gT1,cT1,gF1,cF1,Rv1,u,e,hr⟩:=f5;exact fx_val hK hρ (.agg #[.slice (some ⟨gO1,0,none⟩) m cO1, .slice AL1 nL1 cL1, .slice (some ⟨gD1,0,none⟩) m cD1, .slice (some ⟨gT1,0,none⟩) m cT1, .slice (some ⟨gF1,0,none⟩) m cF1]) (by simp[execOp,e,go_sem]) ⟨_,_,_,_,_,_,_,_,_,_,_,_,rfl,hr⟩
          |7,_,hkF,_=>exact absurd (by decide) hkF
          |8,_,hkF,_=>exact absurd (by decide) hkF
          | 9, _, _, ho =>
            have hoo:=Option.some.inj ho;subst hoo;exact fx_make hK hρ (.pointer (some ⟨w.heap.size,0,none⟩)) (w.alloc (.cells #[.slice none 0 0, .slice none 0 0, .slice none 0 0, .slice none 0 0, .slice none 0 0] 41)) (by simp[execOp,go_sem]) ⟨w.heap.size,rfl,hI.size,RowV.new w _ _⟩ (below_alloc _)
          |kq+10,h,_,_=>exact absurd h (by omega)
        case hloose=>
          intro kq o hkF ho ρ w hA hd;simp only[List.mem_cons,List.not_mem_nil,or_false]at hkF;rcases hkF with rfl|rfl
          · have hoo:=Option.some.inj ho;subst hoo;have f7: ∃w,∃gO1 cO1 AL1 nL1 cL1 gD1 cD1 gT1 cT1 gF1 cF1 Rv1 u,ρ (.tmp 50)= .tuple #[.agg #[.slice (some ⟨gO1,0,none⟩) m cO1, .slice AL1 nL1 cL1, .slice (some ⟨gD1,0,none⟩) m cD1, .slice (some ⟨gT1,0,none⟩) m cT1, .slice (some ⟨gF1,0,none⟩) m cF1],u, .int .i64 0]/\GngR w w4.heap.size m (tickG W.length m E L g) (leftT g.O L) ⟨gO1,cO1, .slice AL1 nL1 cL1,gD1,cD1,gT1,cT1,gF1,cF1,Rv1⟩:=hd ⟨5, .data⟩ (by simp) (by rfl) (by decide)
            obtain⟨w7,gO1,cO1,AL1,nL1,cL1,gD1,cD1,gT1,cT1,gF1,cF1,Rv1,u,e,_⟩:=f7;exact⟨u,by simp[execOp,e,go_sem],fun q=>absurd q (by decide)⟩
          · have hoo:=Option.some.inj ho;subst hoo;have f7: ∃w,∃gO1 cO1 AL1 nL1 cL1 gD1 cD1 gT1 cT1 gF1 cF1 Rv1 u,ρ (.tmp 50)= .tuple #[.agg #[.slice (some ⟨gO1,0,none⟩) m cO1, .slice AL1 nL1 cL1, .slice (some ⟨gD1,0,none⟩) m cD1, .slice (some ⟨gT1,0,none⟩) m cT1, .slice (some ⟨gF1,0,none⟩) m cF1],u, .int .i64 0]/\GngR w w4.heap.size m (tickG W.length m E L g) (leftT g.O L) ⟨gO1,cO1, .slice AL1 nL1 cL1,gD1,cD1,gT1,cT1,gF1,cF1,Rv1⟩:=hd ⟨5, .data⟩ (by simp) (by rfl) (by decide)
            obtain⟨w7,gO1,cO1,AL1,nL1,cL1,gD1,cD1,gT1,cT1,gF1,cF1,Rv1,u,e,_⟩:=f7;exact⟨.int .i64 0,by simp[execOp,e,go_sem],fun _=>rfl⟩
        case hmid=>
          intro vals w hI hF;obtain⟨gO1,cO1,AL1,nL1,cL1,gD1,cD1,gT1,cT1,gF1,cF1,Rv1,e0,hr⟩:=hF 6 (by decide) (by decide)
          obtain⟨p,ep,hp,hrow⟩:=hF 9 (by decide) (by decide)
          exact⟨Nat.le_refl _,by decide,_,_,_,_,_,_,_,_,_,_,_,_,p,ep,hp,hp,hI,hr,fun _=>⟨e0,hrow⟩,fun h=>absurd h (by decide),fun h=>absurd h (by decide)⟩
        case htail=>
          intro t o htm ho a1 w hA hT hL K hK;have htl:t<13:=(Array.getElem?_eq_some_iff.1 ho).1
          obtain⟨ρ,hρ⟩: ∃ρ,a1.eval=ρ:=⟨_,rfl⟩;rw[hρ]at hA
          try rw[hρ]at hL
          obtain rfl|rfl|rfl:t=10\/t=11\/t=12:=by omega
          · have hoo:=Option.some.inj ho;subst hoo;obtain⟨t1,t2,gO1,cO1,AL1,nL1,cL1,gD1,cD1,gT1,cT1,gF1,cF1,Rv1,p,ep,hp,hp2,hbl,hr,h0,h1,h2⟩:=hT;simp only[hρ]at ep;obtain⟨e0,hrow⟩:=h0 (by first|rfl|trivial|decide)
            simp only[hρ]at e0;have y0:=hrow.cell (j:=0) rfl;have z0:=hrow.frozen 0;have y1:=hrow.cell (j:=1) rfl;have z1:=hrow.frozen 1;have y2:=hrow.cell (j:=2) rfl;have z2:=hrow.frozen 2;have y3:=hrow.cell (j:=3) rfl;have z3:=hrow.frozen 3;have y4:=hrow.cell (j:=4) rfl;have z4:=hrow.frozen 4;unfold Oper.wp;rw[show(execOp a1.eval _).run Tryz.prog w= .ok .skip (set5 w p (.slice (some ⟨gO1,0,none⟩) m cO1) (.slice AL1 nL1 cL1) (.slice (some ⟨gD1,0,none⟩) m cD1) (.slice (some ⟨gT1,0,none⟩) m cT1) (.slice (some ⟨gF1,0,none⟩) m cF1))from by rw[hρ];unfold set5;simp[execOp,ep,e0,y0,y1,y2,y3,y4,z0,z1,z2,z3,z4,go_sem],Oper.upon_skip]
            refine hK undef _ ⟨by decide,by decide,_,_,_,_,_,_,_,_,_,_,_,_,p,?_,hp,hp2,set5_bel hbl hp2 _ _ _ _ _,set5_gng hr hrow _ _ _ _ _,fun h=>absurd h (by decide),fun _=>set5_row hrow _ _ _ _ _,fun h=>absurd h (by decide)⟩
            simp only[reduceCtorEq,if_false,hρ];exact ep
          · have hoo:=Option.some.inj ho;subst hoo;obtain⟨t1,t2,gO1,cO1,AL1,nL1,cL1,gD1,cD1,gT1,cT1,gF1,cF1,Rv1,p,ep,hp,hp2,hbl,hr,h0,h1,h2⟩:=hT;simp only[hρ]at ep;unfold Oper.wp;rw[show(execOp a1.eval _).run Tryz.prog w= .ok (.value (ρ (.tmp 57))) (w)from by rw[hρ];simp[execOp,go_sem],Oper.upon_value]
            refine hK _ _ ⟨by decide,by decide,_,_,_,_,_,_,_,_,_,_,_,_,p,?_,hp,hp2,hbl,hr,fun h=>absurd h (by decide),fun _=>h1 (by decide),fun h=>absurd h (by decide)⟩
            simp only[Option.some.injEq,Nat.reduceEqDiff,if_false,hρ];exact ep
          · have hoo:=Option.some.inj ho;subst hoo;obtain⟨t1,t2,gO1,cO1,AL1,nL1,cL1,gD1,cD1,gT1,cT1,gF1,cF1,Rv1,p,ep,hp,hp2,hbl,hr,h0,h1,h2⟩:=hT;simp only[hρ]at ep;have h49:ρ (.tmp 58)= .int .i64 0:=hL ⟨8, .data⟩ (by simp) (by rfl) (by simp) rfl
            unfold Oper.wp;rw[show(execOp a1.eval _).run Tryz.prog w= .ok (.value (.int .i64 0)) (w)from by rw[hρ];simp[execOp,h49,go_sem],Oper.upon_value]
            refine hK _ _ ⟨by decide,by decide,_,_,_,_,_,_,_,_,_,_,_,_,p,?_,hp,hp2,hbl,hr,fun h=>absurd h (by decide),fun _=>h1 (by decide),fun _=> ?_⟩
            · simp only[Option.some.injEq,Nat.reduceEqDiff,if_false,hρ];exact ep
            · simp
        case hcon=>
          intro t f g w h hT;obtain⟨t1,t2,gO1,cO1,AL1,nL1,cL1,gD1,cD1,gT1,cT1,gF1,cF1,Rv1,p,ep,hp,hp2,hbl,hr,h0,h1,h2⟩:=hT;have q15:=h 9 (by omega) (by simp)
          have q47:=h 6 (by omega) (by simp)
          simp only[List.getD_cons_zero,List.getD_cons_succ]at q15 q47;refine⟨t1,t2,_,_,_,_,_,_,_,_,_,_,_,_,p,q15▸ep,hp,hp2,hbl,hr,fun e=>⟨q47▸(h0 e).1,(h0 e).2⟩,h1,fun e=> ?_⟩
          have q17:=h 12 (by omega) (by simp)
          simp only[List.getD_cons_zero,List.getD_cons_succ]at q17;exact q17▸h2 e
        case hend=>
          intro vals6 w9 hT;obtain⟨_,_,gO6,cO6,AL6,nL6,cL6,gD6,cD6,gT6,cT6,gF6,cF6,Rv6,p,ep,hp,_,hbl,hr,_,h1,h2⟩:=hT;have hrow:=h1 (by decide)
          have er:=h2 rfl;have hT6:=HOK.out.tick HM.out.fits H0.out;have hq9:=HQ9.out.below hbl HQ9.out.lt;have HS9:=Lib.hid (show LbS w0 q m W E (tickG W.length m E L g) (leftT g.O L) ⟨gO6,cO6, .slice AL6 nL6 cL6,gD6,cD6,gT6,cT6,gF6,cF6,Rv6⟩ (set5 w9 q (.slice (some ⟨gO6,0,none⟩) m cO6) (.slice AL6 nL6 cL6) (.slice (some ⟨gD6,0,none⟩) m cD6) (.slice (some ⟨gT6,0,none⟩) m cT6) (.slice (some ⟨gF6,0,none⟩) m cF6))from
            ⟨set5_bel (HB9.out.trans (hbl.mono HB9.out.size)) hHq.out _ _ _ _ _,set5_row hq9 _ _ _ _ _,hHq.out,set5_gng (hr.down HB9.out.size) hq9 _ _ _ _ _,hT6.1,hT6.2⟩)
          have y0:=hrow.cell (j:=0) rfl;have x0:=hq9.cell (j:=0) rfl;have z0:=hq9.frozen 0;have y1:=hrow.cell (j:=1) rfl;have x1:=hq9.cell (j:=1) rfl;have z1:=hq9.frozen 1;have y2:=hrow.cell (j:=2) rfl;have x2:=hq9.cell (j:=2) rfl;have z2:=hq9.frozen 2;have y3:=hrow.cell (j:=3) rfl;have x3:=hq9.cell (j:=3) rfl;have z3:=hq9.frozen 3;have y4:=hrow.cell (j:=4) rfl;have x4:=hq9.cell (j:=4) rfl;have z4:=hq9.frozen 4;clear hT6 hq9 hrow hr hbl;simp only[fillA,fillL,List.contains_cons,List.contains_nil,Nat.reduceBEq,Bool.or_false,Bool.false_or,Bool.or_true,Bool.true_or,cond_true,cond_false,Nat.zero_add,Nat.reduceAdd,ep,er];have hk1:=HLT.out;have hk2:=HTK.out;go_wp2_with fail;unfold set5 at HS9;go_roundw
          case rel=>exact⟨k+1,_,_,_,_,_,_,_,_,_,_,_,_,_,_,by have:=HLT.out;omega,by have h1:=HLT.out;have h2:=HTK.out;go_num,HS9⟩
          case measure=>simp[intOf];have:=HLT.out;have:=HTK.out;omega
    · obtain rfl:ticks=k:=by omega
      have hq9:=HS.out.row;have hx9:=HX0.out.below HS.out.bel HX0.out.lt;have y0:=hq9.cell (j:=0) rfl;have y1:=hq9.cell (j:=1) rfl;have y2:=hq9.cell (j:=2) rfl;have y3:=hq9.cell (j:=3) rfl;have y4:=hq9.cell (j:=4) rfl;simp only[GAd.vO,GAd.vD,GAd.vT,GAd.vF]at y0 y1 y2 y3 y4;have x0:=hx9.cell (j:=0) rfl;have x1:=hx9.cell (j:=1) rfl;have x2:=hx9.cell (j:=2) rfl;have x3:=hx9.cell (j:=3) rfl;have x4:=hx9.cell (j:=4) rfl;have z0:=hx9.frozen 0;have z1:=hx9.frozen 1;have z2:=hx9.frozen 2;have z3:=hx9.frozen 3;have z4:=hx9.frozen 4;have HRW:=Lib.hid (set5_row hx9 (.slice (some ⟨gO,0,none⟩) m cO) (.slice AL nL cL) (.slice (some ⟨gD,0,none⟩) m cD) (.slice (some ⟨gT,0,none⟩) m cT) (.slice (some ⟨gF,0,none⟩) m cF));have HRG:=Lib.hid (set5_gng HS.out.r hx9 (.slice (some ⟨gO,0,none⟩) m cO) (.slice AL nL cL) (.slice (some ⟨gD,0,none⟩) m cD) (.slice (some ⟨gT,0,none⟩) m cT) (.slice (some ⟨gF,0,none⟩) m cF));have HBL:=Lib.hid (set5_bel (p:=wf.heap.size+1) (HB0.out.trans (HS.out.bel.mono HB0.out.size)) (by omega) (.slice (some ⟨gO,0,none⟩) m cO) (.slice AL nL cL) (.slice (some ⟨gD,0,none⟩) m cD) (.slice (some ⟨gT,0,none⟩) m cT) (.slice (some ⟨gF,0,none⟩) m cF))
      clear hq9 hx9;go_wp2;unfold set5 at HRW HRG HBL;refine bodyPost_ret (v:= .tuple #[.agg #[.slice (some ⟨gO,0,none⟩) m cO, .slice AL nL cL, .slice (some ⟨gD,0,none⟩) m cD, .slice (some ⟨gT,0,none⟩) m cT, .slice (some ⟨gF,0,none⟩) m cF], .bool true]) ?_ rfl ⟨g,L,gO,cO,AL,nL,cL,gD,cD,gT,cT,gF,cF,Rv,rfl,HRG.out.down HB0.out.size,HS.out.ok,HS.out.at0,HBL.out⟩
      exact ret_g1 rfl rfl rfl HRW.out rfl
end
end Go.Proofs.YtngdbbligebcbabGreatDoor
