import Derived.Test.YtngdbbligebcbabGreatDoorZM38
import Derived.Test.YtngdbbligebcbabGreatDoorZM36
import Derived.Test.YtngdbbligebcbabGreatDoorZM33
set_option linter.unusedSimpArgs false
set_option linter.unusedVariables false
set_option maxRecDepth 100000
set_option maxHeartbeats 32000000
namespace Go.Proofs.YtngdbbligebcbabGreatDoor
open Go Go.RowKit
theorem GngR.isC{w:World}{b m:Nat}{g:Gng}{L:List Int}{gO cO:Nat}{AL:Option Addr}{nL cL gD cD gT cT gF cF:Nat}{Rv:Nat->Value}(h:GngR w b m g L ⟨gO,cO,.slice AL nL cL,gD,cD,gT,cT,gF,cF,Rv⟩)(hm:m<=400)(hl:L.length<=400):IsC w (some ⟨gO,0,none⟩) m cO AL nL cL g.O L:=by
 have hL:OwnI w b (.slice AL nL cL) L:=h.left;have hO:OwnI w b (.slice (some ⟨gO,0,none⟩) m cO) g.O:=h.on;have e:=hL.len_eq;obtain⟨A',c',e',_,hn⟩:=hL.sliceO;injection e' with e1 e2 e3;subst e1 e3;obtain⟨_,_,_,hc,_⟩:=hO.blockC;exact⟨h.ol,e,hm,by omega,hO.ints,hL.ints,fun q=>(by cases q),fun q=>by rw[<-e];exact hn q,hc⟩
section
variable {AW FE AP N AM: Option Addr} {nW cW mE dE nP cP nn nc nM cM: Nat} {W need picks more: List Int} {E: List (Int × Int)}
theorem scalm_many(w0:World)(cores tk:Int)(hT:Tab64 w0)(hg:InG w0 AW nW cW FE mE dE W E)(hs:InNL w0 N nn nc need)(hp:InNL w0 AP nP cP picks)(hq:InNL w0 AM nM cM more)(h: ¬(((nW<=70/\mE<=300)/\nn<=70/\litVs 300 need=true)/\nP<=300/\nM<=300)):Calls Tryz.prog 4 #[.agg #[.slice AW nW cW, .slice FE mE dE], .slice N nn nc, .int .i64 cores, .slice AP nP cP, .slice AM nM cM, .int .u8 tk] w0 fun e w'=>e= .returned (.bool true)/\Below w0.heap.size w0 w':=by
  have HTW:=Lib.hid (fun W (h:Below w0.heap.size w0 W)=>Tab64.via hT h)
  have B0:=Lib.hid (BxB.start (Below.refl w0.heap.size w0) AW nW cW FE mE dE)
  by_cases hd:nW<=70/\mE<=300
  · have F1:=Lib.hid (fun W=>few_yes AW FE nW cW mE dE W hd.1 hd.2)
    by_cases h70:nn<=70
    · cases hl:litVs 300 need with
      | false =>
        clear h;have F3:=Lib.hid (fun W' (hb:Below w0.heap.size w0 W')=>little13_any (nc:=nc) W' hs.hn (by omega:nn<=400) ((hs.ints.below hb).more hb.size))
        rw[hl]at F3;have h70a:decide (70<nn)=false:=decide_eq_false (by omega)
        have h70b:decide ((70:Int)<(nn:Int))=false:=decide_eq_false (by omega)
        clear hg hs hT hp hq;clear hd hl;go_enter Tryz.func4,Tryz.ntmps4;go_wp2_with fail;refine(awakeS_any _ (HTW.out _ B0.out.bel)).mono ?_
        rintro e y1 ⟨rfl,b⟩;have B1:=Lib.hid (B0.out.next b);clear b;obtain⟨q0,q1⟩:=B1.out.cells;go_wp2_with fail;refine(F1.out _).mono ?_
        rintro e y2 ⟨rfl,b⟩;have B2:=Lib.hid (B1.out.next b);clear b q0 q1;go_wp2_with fail;refine(F3.out _ B2.out.bel).mono ?_
        rintro e y2' ⟨rfl,hww⟩;replace hww:=hww.symm;subst hww;go_wp2_with fail;refine(awakeS_any _ (HTW.out _ B2.out.bel)).mono ?_
        rintro e y3 ⟨rfl,b⟩;have B3:=Lib.hid (B2.out.next b);clear b;go_wp2_with fail;go_ret;exact⟨rfl,B3.out.bel⟩
      | true =>
        by_cases q0:nP<=300
        · by_cases q1:nM<=300
          · exact absurd ⟨⟨hd,h70,hl⟩,q0,q1⟩ h
          · clear h;have F3:=Lib.hid (fun W' (hb:Below w0.heap.size w0 W')=>little13_any (nc:=nc) W' hs.hn (by omega:nn<=400) ((hs.ints.below hb).more hb.size))
            rw[hl]at F3;have h70a:decide (70<nn)=false:=decide_eq_false (by omega)
            have h70b:decide ((70:Int)<(nn:Int))=false:=decide_eq_false (by omega)
            have hw0:=hp.ln;have hw1:=hq.ln;have p0a:decide (300<nP)=false:=decide_eq_false (by omega)
            have p0b:decide ((300:Int)<(nP:Int))=false:=decide_eq_false (by omega)
            have p1a:decide (300<nM)=true:=decide_eq_true (by omega)
            have p1b:decide ((300:Int)<(nM:Int))=true:=decide_eq_true (by omega)
            clear hg hs hT hp hq;clear hd hl;go_enter Tryz.func4,Tryz.ntmps4;go_wp2_with fail;refine(awakeS_any _ (HTW.out _ B0.out.bel)).mono ?_
            rintro e y1 ⟨rfl,b⟩;have B1:=Lib.hid (B0.out.next b);clear b;obtain⟨q0,q1⟩:=B1.out.cells;go_wp2_with fail;refine(F1.out _).mono ?_
            rintro e y2 ⟨rfl,b⟩;have B2:=Lib.hid (B1.out.next b);clear b q0 q1;go_wp2_with fail;refine(F3.out _ B2.out.bel).mono ?_
            rintro e y2' ⟨rfl,hww⟩;replace hww:=hww.symm;subst hww;go_wp2_with fail;refine(awakeS_any _ (HTW.out _ B2.out.bel)).mono ?_
            rintro e y3 ⟨rfl,b⟩;have B3:=Lib.hid (B2.out.next b);clear b;go_wp2_with fail;go_ret;exact⟨rfl,B3.out.bel⟩
        · clear h;have F3:=Lib.hid (fun W' (hb:Below w0.heap.size w0 W')=>little13_any (nc:=nc) W' hs.hn (by omega:nn<=400) ((hs.ints.below hb).more hb.size))
          rw[hl]at F3;have h70a:decide (70<nn)=false:=decide_eq_false (by omega)
          have h70b:decide ((70:Int)<(nn:Int))=false:=decide_eq_false (by omega)
          have hw0:=hp.ln;have hw1:=hq.ln;have p0a:decide (300<nP)=true:=decide_eq_true (by omega)
          have p0b:decide ((300:Int)<(nP:Int))=true:=decide_eq_true (by omega)
          clear hg hs hT hp hq;clear hd hl;go_enter Tryz.func4,Tryz.ntmps4;go_wp2_with fail;refine(awakeS_any _ (HTW.out _ B0.out.bel)).mono ?_
          rintro e y1 ⟨rfl,b⟩;have B1:=Lib.hid (B0.out.next b);clear b;obtain⟨q0,q1⟩:=B1.out.cells;go_wp2_with fail;refine(F1.out _).mono ?_
          rintro e y2 ⟨rfl,b⟩;have B2:=Lib.hid (B1.out.next b);clear b q0 q1;go_wp2_with fail;refine(F3.out _ B2.out.bel).mono ?_
          rintro e y2' ⟨rfl,hww⟩;replace hww:=hww.symm;subst hww;go_wp2_with fail;refine(awakeS_any _ (HTW.out _ B2.out.bel)).mono ?_
          rintro e y3 ⟨rfl,b⟩;have B3:=Lib.hid (B2.out.next b);clear b;go_wp2_with fail;go_ret;exact⟨rfl,B3.out.bel⟩
    · clear h;have h70a:decide (70<nn)=true:=decide_eq_true (by omega)
      have h70b:decide ((70:Int)<(nn:Int))=true:=decide_eq_true (by omega)
      have hnn:=hs.ln;clear hg hs hT hp hq;clear hd;go_enter Tryz.func4,Tryz.ntmps4;go_wp2_with fail;refine(awakeS_any _ (HTW.out _ B0.out.bel)).mono ?_
      rintro e y1 ⟨rfl,b⟩;have B1:=Lib.hid (B0.out.next b);clear b;obtain⟨q0,q1⟩:=B1.out.cells;go_wp2_with fail;refine(F1.out _).mono ?_
      rintro e y2 ⟨rfl,b⟩;have B2:=Lib.hid (B1.out.next b);clear b q0 q1;go_wp2_with fail;refine(awakeS_any _ (HTW.out _ B2.out.bel)).mono ?_
      rintro e y3 ⟨rfl,b⟩;have B3:=Lib.hid (B2.out.next b);clear b;go_wp2_with fail;go_ret;exact⟨rfl,B3.out.bel⟩
  · have F1:=Lib.hid (fun W=>few_no AW FE nW cW mE dE W hg.ln hg.lm hd)
    clear h;clear hg hs hT hp hq;go_enter Tryz.func4,Tryz.ntmps4;go_wp2_with fail;refine(awakeS_any _ (HTW.out _ B0.out.bel)).mono ?_
    rintro e y1 ⟨rfl,b⟩;have B1:=Lib.hid (B0.out.next b);clear b;obtain⟨q0,q1⟩:=B1.out.cells;go_wp2_with fail;refine(F1.out _).mono ?_
    rintro e y2 ⟨rfl,b⟩;have B2:=Lib.hid (B1.out.next b);clear b q0 q1;go_wp2_with fail;refine(awakeS_any _ (HTW.out _ B2.out.bel)).mono ?_
    rintro e y3 ⟨rfl,b⟩;have B3:=Lib.hid (B2.out.next b);clear b;go_wp2_with fail;go_ret;exact⟨rfl,B3.out.bel⟩
end
def PhiLc7(b m:Nat)(W picks:List Int)(E:List (Int×Int))(AW FE AP:Option Addr)(nW cW mE dE nP cP:Nat)(g:Gng)(L:List Int)(gO cO:Nat)(AL:Option Addr)(nL cL gD cD gT cT gF cF:Nat):Nat->Value->World->Prop
 |0,v,w=>v= .agg #[.slice AW nW cW,.slice FE mE dE]
 |1,v,w=> ∃A c F d,v= .agg #[.slice A nW c,.slice F mE d]/\IsG w A nW c F mE d W E
 |2,v,w=>v= .agg #[.slice (some ⟨gO,0,none⟩) m cO,.slice AL nL cL,.slice (some ⟨gD,0,none⟩) m cD,.slice (some ⟨gT,0,none⟩) m cT,.slice (some ⟨gF,0,none⟩) m cF]
 |3,v,w=> ∃gO1 cO1 AL1 nL1 cL1 gD1 cD1 gT1 cT1 gF1 cF1 Rv1,v= .agg #[.slice (some ⟨gO1,0,none⟩) m cO1,.slice AL1 nL1 cL1,.slice (some ⟨gD1,0,none⟩) m cD1,.slice (some ⟨gT1,0,none⟩) m cT1,.slice (some ⟨gF1,0,none⟩) m cF1]/\GngR w b m g L ⟨gO1,cO1,.slice AL1 nL1 cL1,gD1,cD1,gT1,cT1,gF1,cF1,Rv1⟩
 |4,v,w=>v= .slice AP nP cP
 |5,v,w=> ∃A c,v= .slice A nP c/\Ints w w.heap.size A picks
 |6,v,w=> ∃gO1 cO1 AL1 nL1 cL1 gD1 cD1 gT1 cT1 gF1 cF1 Rv1,v= .tuple #[.agg #[.slice (some ⟨gO1,0,none⟩) m cO1,.slice AL1 nL1 cL1,.slice (some ⟨gD1,0,none⟩) m cD1,.slice (some ⟨gT1,0,none⟩) m cT1,.slice (some ⟨gF1,0,none⟩) m cF1],.int .i64 (lenC m g picks:Nat),.int .i64 0]/\GngR w b m (calmG m g picks) L ⟨gO1,cO1,.slice AL1 nL1 cL1,gD1,cD1,gT1,cT1,gF1,cF1,Rv1⟩
 |7,v,w=> ∃gO1 cO1 AL1 nL1 cL1 gD1 cD1 gT1 cT1 gF1 cF1 Rv1,v= .tuple #[.agg #[.slice (some ⟨gO1,0,none⟩) m cO1,.slice AL1 nL1 cL1,.slice (some ⟨gD1,0,none⟩) m cD1,.slice (some ⟨gT1,0,none⟩) m cT1,.slice (some ⟨gF1,0,none⟩) m cF1],.int .i64 (lenC m g picks:Nat),.int .i64 0]/\GngR w b m (calmG m g picks) L ⟨gO1,cO1,.slice AL1 nL1 cL1,gD1,cD1,gT1,cT1,gF1,cF1,Rv1⟩
 |8,v,w=> ∃gO1 cO1 AL1 nL1 cL1 gD1 cD1 gT1 cT1 gF1 cF1 Rv1,v= .agg #[.slice (some ⟨gO1,0,none⟩) m cO1,.slice AL1 nL1 cL1,.slice (some ⟨gD1,0,none⟩) m cD1,.slice (some ⟨gT1,0,none⟩) m cT1,.slice (some ⟨gF1,0,none⟩) m cF1]/\GngR w b m (calmG m g picks) L ⟨gO1,cO1,.slice AL1 nL1 cL1,gD1,cD1,gT1,cT1,gF1,cF1,Rv1⟩
 |9,v,w=>True
 |10,v,w=>True
 |11,v,w=> ∃p,v= .pointer (some ⟨p,0,none⟩)/\b<=p/\RowV p 41 [.slice none 0 0,.slice none 0 0,.slice none 0 0,.slice none 0 0,.slice none 0 0] w
 |_,_,_=>True
theorem phiLc7_below{b m:Nat}{W picks:List Int}{E:List (Int×Int)}{AW FE AP:Option Addr}{nW cW mE dE nP cP:Nat}{g:Gng}{L:List Int}{gO cO:Nat}{AL:Option Addr}{nL cL gD cD gT cT gF cF:Nat}: ∀kq v w w',PhiLc7 b m W picks E AW FE AP nW cW mE dE nP cP g L gO cO AL nL cL gD cD gT cT gF cF kq v w->Below w.heap.size w w'->PhiLc7 b m W picks E AW FE AP nW cW mE dE nP cP g L gO cO AL nL cL gD cD gT cT gF cF kq v w':=by
 intro kq v w w' h hb
 match kq,h with
 |0,h=>exact h
 |1,h=>exact(by obtain⟨A,c,F,d,e,h⟩:=h;exact⟨A,c,F,d,e,h.below hb⟩)
 |2,h=>exact h
 |3,h=>exact(by obtain⟨gO1,cO1,AL1,nL1,cL1,gD1,cD1,gT1,cT1,gF1,cF1,Rv1,e,h⟩:=h;exact⟨gO1,cO1,AL1,nL1,cL1,gD1,cD1,gT1,cT1,gF1,cF1,Rv1,e,h.below hb⟩)
 |4,h=>exact h
 |5,h=>exact(by obtain⟨A,c,e,h⟩:=h;exact⟨A,c,e,(h.below hb).more hb.size⟩)
 |6,h=>exact(by obtain⟨gO1,cO1,AL1,nL1,cL1,gD1,cD1,gT1,cT1,gF1,cF1,Rv1,e,h⟩:=h;exact⟨gO1,cO1,AL1,nL1,cL1,gD1,cD1,gT1,cT1,gF1,cF1,Rv1,e,h.below hb⟩)
 |7,h=>exact(by obtain⟨gO1,cO1,AL1,nL1,cL1,gD1,cD1,gT1,cT1,gF1,cF1,Rv1,e,h⟩:=h;exact⟨gO1,cO1,AL1,nL1,cL1,gD1,cD1,gT1,cT1,gF1,cF1,Rv1,e,h.below hb⟩)
 |8,h=>exact(by obtain⟨gO1,cO1,AL1,nL1,cL1,gD1,cD1,gT1,cT1,gF1,cF1,Rv1,e,h⟩:=h;exact⟨gO1,cO1,AL1,nL1,cL1,gD1,cD1,gT1,cT1,gF1,cF1,Rv1,e,h.below hb⟩)
 |9,h=>exact h
 |10,h=>exact h
 |11,h=>exact(by obtain⟨p,e,hp,hr⟩:=h;exact⟨p,e,hp,hr.below hb hr.lt⟩)
 |kq+12,h=>exact trivial
def ThtLc7(b m:Nat)(w4:World)(picks:List Int)(g:Gng)(L:List Int)(t:Nat)(f:Nat->Value)(w:World):Prop:=
 12<=t/\t<=15/\ ∃gO1 cO1 AL1 nL1 cL1 gD1 cD1 gT1 cT1 gF1 cF1 Rv1 p,f 17= .pointer (some ⟨p,0,none⟩)/\b<=p/\w4.heap.size<=p/\Below w4.heap.size w4 w/\GngR w b m (calmG m g picks) L ⟨gO1,cO1,.slice AL1 nL1 cL1,gD1,cD1,gT1,cT1,gF1,cF1,Rv1⟩/\(t=12->f 86= .agg #[.slice (some ⟨gO1,0,none⟩) m cO1,.slice AL1 nL1 cL1,.slice (some ⟨gD1,0,none⟩) m cD1,.slice (some ⟨gT1,0,none⟩) m cT1,.slice (some ⟨gF1,0,none⟩) m cF1]/\RowV p 41 [.slice none 0 0,.slice none 0 0,.slice none 0 0,.slice none 0 0,.slice none 0 0] w)/\(13<=t->RowV p 41 [.slice (some ⟨gO1,0,none⟩) m cO1,.slice AL1 nL1 cL1,.slice (some ⟨gD1,0,none⟩) m cD1,.slice (some ⟨gT1,0,none⟩) m cT1,.slice (some ⟨gF1,0,none⟩) m cF1] w)/\(14<=t->f 18= .int .i64 (lenC m g picks:Nat))/\(t=15->f 19= .int .i64 0)
def PhiLc8(b m:Nat)(W picks:List Int)(E:List (Int×Int))(AW FE AP:Option Addr)(nW cW mE dE nP cP:Nat)(g:Gng)(L:List Int)(gO cO:Nat)(AL:Option Addr)(nL cL gD cD gT cT gF cF:Nat):Nat->Value->World->Prop
 |0,v,w=>v= .agg #[.slice AW nW cW,.slice FE mE dE]
 |1,v,w=> ∃A c F d,v= .agg #[.slice A nW c,.slice F mE d]/\IsG w A nW c F mE d W E
 |2,v,w=>v= .agg #[.slice (some ⟨gO,0,none⟩) m cO,.slice AL nL cL,.slice (some ⟨gD,0,none⟩) m cD,.slice (some ⟨gT,0,none⟩) m cT,.slice (some ⟨gF,0,none⟩) m cF]
 |3,v,w=> ∃gO1 cO1 AL1 nL1 cL1 gD1 cD1 gT1 cT1 gF1 cF1 Rv1,v= .agg #[.slice (some ⟨gO1,0,none⟩) m cO1,.slice AL1 nL1 cL1,.slice (some ⟨gD1,0,none⟩) m cD1,.slice (some ⟨gT1,0,none⟩) m cT1,.slice (some ⟨gF1,0,none⟩) m cF1]/\GngR w b m g L ⟨gO1,cO1,.slice AL1 nL1 cL1,gD1,cD1,gT1,cT1,gF1,cF1,Rv1⟩
 |4,v,w=> ∃gO1 cO1 AL1 nL1 cL1 gD1 cD1 gT1 cT1 gF1 cF1 Rv1,v= .tuple #[.agg #[.slice (some ⟨gO1,0,none⟩) m cO1,.slice AL1 nL1 cL1,.slice (some ⟨gD1,0,none⟩) m cD1,.slice (some ⟨gT1,0,none⟩) m cT1,.slice (some ⟨gF1,0,none⟩) m cF1],.int .i64 (lenC m g []:Nat),.int .i64 0]/\GngR w b m (calmG m g []) L ⟨gO1,cO1,.slice AL1 nL1 cL1,gD1,cD1,gT1,cT1,gF1,cF1,Rv1⟩
 |5,v,w=> ∃gO1 cO1 AL1 nL1 cL1 gD1 cD1 gT1 cT1 gF1 cF1 Rv1,v= .tuple #[.agg #[.slice (some ⟨gO1,0,none⟩) m cO1,.slice AL1 nL1 cL1,.slice (some ⟨gD1,0,none⟩) m cD1,.slice (some ⟨gT1,0,none⟩) m cT1,.slice (some ⟨gF1,0,none⟩) m cF1],.int .i64 (lenC m g []:Nat),.int .i64 0]/\GngR w b m (calmG m g []) L ⟨gO1,cO1,.slice AL1 nL1 cL1,gD1,cD1,gT1,cT1,gF1,cF1,Rv1⟩
 |6,v,w=> ∃gO1 cO1 AL1 nL1 cL1 gD1 cD1 gT1 cT1 gF1 cF1 Rv1,v= .agg #[.slice (some ⟨gO1,0,none⟩) m cO1,.slice AL1 nL1 cL1,.slice (some ⟨gD1,0,none⟩) m cD1,.slice (some ⟨gT1,0,none⟩) m cT1,.slice (some ⟨gF1,0,none⟩) m cF1]/\GngR w b m (calmG m g []) L ⟨gO1,cO1,.slice AL1 nL1 cL1,gD1,cD1,gT1,cT1,gF1,cF1,Rv1⟩
 |7,v,w=>True
 |8,v,w=>True
 |9,v,w=> ∃p,v= .pointer (some ⟨p,0,none⟩)/\b<=p/\RowV p 41 [.slice none 0 0,.slice none 0 0,.slice none 0 0,.slice none 0 0,.slice none 0 0] w
 |_,_,_=>True
theorem phiLc8_below{b m:Nat}{W picks:List Int}{E:List (Int×Int)}{AW FE AP:Option Addr}{nW cW mE dE nP cP:Nat}{g:Gng}{L:List Int}{gO cO:Nat}{AL:Option Addr}{nL cL gD cD gT cT gF cF:Nat}: ∀kq v w w',PhiLc8 b m W picks E AW FE AP nW cW mE dE nP cP g L gO cO AL nL cL gD cD gT cT gF cF kq v w->Below w.heap.size w w'->PhiLc8 b m W picks E AW FE AP nW cW mE dE nP cP g L gO cO AL nL cL gD cD gT cT gF cF kq v w':=by
 intro kq v w w' h hb
 match kq,h with
 |0,h=>exact h
 |1,h=>exact(by obtain⟨A,c,F,d,e,h⟩:=h;exact⟨A,c,F,d,e,h.below hb⟩)
 |2,h=>exact h
 |3,h=>exact(by obtain⟨gO1,cO1,AL1,nL1,cL1,gD1,cD1,gT1,cT1,gF1,cF1,Rv1,e,h⟩:=h;exact⟨gO1,cO1,AL1,nL1,cL1,gD1,cD1,gT1,cT1,gF1,cF1,Rv1,e,h.below hb⟩)
 |4,h=>exact(by obtain⟨gO1,cO1,AL1,nL1,cL1,gD1,cD1,gT1,cT1,gF1,cF1,Rv1,e,h⟩:=h;exact⟨gO1,cO1,AL1,nL1,cL1,gD1,cD1,gT1,cT1,gF1,cF1,Rv1,e,h.below hb⟩)
 |5,h=>exact(by obtain⟨gO1,cO1,AL1,nL1,cL1,gD1,cD1,gT1,cT1,gF1,cF1,Rv1,e,h⟩:=h;exact⟨gO1,cO1,AL1,nL1,cL1,gD1,cD1,gT1,cT1,gF1,cF1,Rv1,e,h.below hb⟩)
 |6,h=>exact(by obtain⟨gO1,cO1,AL1,nL1,cL1,gD1,cD1,gT1,cT1,gF1,cF1,Rv1,e,h⟩:=h;exact⟨gO1,cO1,AL1,nL1,cL1,gD1,cD1,gT1,cT1,gF1,cF1,Rv1,e,h.below hb⟩)
 |7,h=>exact h
 |8,h=>exact h
 |9,h=>exact(by obtain⟨p,e,hp,hr⟩:=h;exact⟨p,e,hp,hr.below hb hr.lt⟩)
 |kq+10,h=>exact trivial
def ThtLc8(b m:Nat)(w4:World)(picks:List Int)(g:Gng)(L:List Int)(t:Nat)(f:Nat->Value)(w:World):Prop:=
 10<=t/\t<=13/\ ∃gO1 cO1 AL1 nL1 cL1 gD1 cD1 gT1 cT1 gF1 cF1 Rv1 p,f 20= .pointer (some ⟨p,0,none⟩)/\b<=p/\w4.heap.size<=p/\Below w4.heap.size w4 w/\GngR w b m (calmG m g []) L ⟨gO1,cO1,.slice AL1 nL1 cL1,gD1,cD1,gT1,cT1,gF1,cF1,Rv1⟩/\(t=10->f 95= .agg #[.slice (some ⟨gO1,0,none⟩) m cO1,.slice AL1 nL1 cL1,.slice (some ⟨gD1,0,none⟩) m cD1,.slice (some ⟨gT1,0,none⟩) m cT1,.slice (some ⟨gF1,0,none⟩) m cF1]/\RowV p 41 [.slice none 0 0,.slice none 0 0,.slice none 0 0,.slice none 0 0,.slice none 0 0] w)/\(11<=t->RowV p 41 [.slice (some ⟨gO1,0,none⟩) m cO1,.slice AL1 nL1 cL1,.slice (some ⟨gD1,0,none⟩) m cD1,.slice (some ⟨gT1,0,none⟩) m cT1,.slice (some ⟨gF1,0,none⟩) m cF1] w)/\(12<=t->f 21= .int .i64 (lenC m g []:Nat))/\(t=13->f 22= .int .i64 0)
section
variable {AW FE AP N AM: Option Addr} {nW cW mE dE nP cP nn nc nM cM: Nat} {W need picks more: List Int} {E: List (Int × Int)}
theorem scalm_bad(w0:World)(cores z tk:Int)(hG:IsG w0 AW nW cW FE mE dE W E)(hs:InNL w0 N nn nc need)(l1:nW<=70)(l2:mE<=300)(l3:nn<=70)(hl:litVs 300 need=true)(l4:nP<=300)(l5:nM<=300)(hz:newE W E need cores=z)(h0:z≠0):
  Calls Tryz.prog 4 #[.agg #[.slice AW nW cW,.slice FE mE dE],.slice N nn nc,.int .i64 cores,.slice AP nP cP,.slice AM nM cM,.int .u8 tk] w0 fun e w'=>e= .returned (.bool true)/\Below w0.heap.size w0 w':=by
 have HTW:=Lib.hid (fun W (h:Below w0.heap.size w0 W)=>Tab64.via hG.tab h)
 have HG:=Lib.hid (fun W' (h:Below w0.heap.size w0 W')=>hG.below h)
 have HI:=Lib.hid (fun W' (h:Below w0.heap.size w0 W')=>(hs.ints.below h).more h.size)
 have HL:=Lib.hid hs.hn;have HA:=Lib.hid hs.hN;have B0:=Lib.hid (BxB.start (Below.refl w0.heap.size w0) AW nW cW FE mE dE);have F1:=Lib.hid (fun W=>few_yes AW FE nW cW mE dE W l1 l2)
 have F3:=Lib.hid (fun W' (hb:Below w0.heap.size w0 W')=>little13_any (nc:=nc) W' hs.hn (by omega:nn<=400) ((hs.ints.below hb).more hb.size))
 rw[hl]at F3;have h70a:decide (70<nn)=false:=decide_eq_false (by omega)
 have h70b:decide ((70:Int)<(nn:Int))=false:=decide_eq_false (by omega)
 have h6a:decide (300<nP)=false:=decide_eq_false (by omega)
 have h6b:decide ((300:Int)<(nP:Int))=false:=decide_eq_false (by omega)
 have h7a:decide (300<nM)=false:=decide_eq_false (by omega)
 have h7b:decide ((300:Int)<(nM:Int))=false:=decide_eq_false (by omega)
 clear hG hs hl;have HZ:=Lib.hid hz;have HZ0:=Lib.hid h0;have hze:(z !=0)=true:=by simpa using h0
 clear hz h0;go_enter Tryz.func4,Tryz.ntmps4;go_wp2_with fail;refine(awakeS_any _ (HTW.out _ B0.out.bel)).mono ?_
 rintro e y1 ⟨rfl,b⟩;have B1:=Lib.hid (B0.out.next b);clear b;obtain⟨q0,q1⟩:=B1.out.cells;go_wp2_with fail;refine(F1.out _).mono ?_
 rintro e y2 ⟨rfl,b⟩;have B2:=Lib.hid (B1.out.next b);clear b q0 q1;go_wp2_with fail;refine(F3.out _ B2.out.bel).mono ?_
 rintro e y2' ⟨rfl,hww⟩;replace hww:=hww.symm;subst hww;obtain⟨q0,q1⟩:=B2.out.cells;go_wp2_with fail;refine(lbegin_no _ cores z _ (HG.out _ B2.out.bel) HL.out (by omega) (HI.out _ B2.out.bel) HA.out HZ.out HZ0.out).mono ?_
 rintro e y3 ⟨rfl,b⟩;have B3:=Lib.hid ((B2.out.next b).next (below_alloc (w:=y3) (.cells #[.slice none 0 0,.slice none 0 0,.slice none 0 0,.slice none 0 0,.slice none 0 0] 41)));clear b q0 q1;obtain⟨q0,q1⟩:=B3.out.cells;go_wp2_with fail;refine(own_g10 (HG.out _ B3.out.bel)).mono ?_
 rintro e y4 ⟨A1,c1',F1,d1,rfl,hg1,b1⟩;have HB4:=Lib.hid b1;have HG1:=Lib.hid hg1;have B4:=Lib.hid (B3.out.next b1);clear b1 hg1 q0 q1 B3;go_wp2_with fail;refine(ints13_any y4 N nc nn need HL.out (by omega) (HI.out _ B4.out.bel) HA.out).mono ?_
 rintro e y5 ⟨A2,c2,rfl,ho2,_,hA2,b2⟩;have HB5:=Lib.hid b2;have HO2:=Lib.hid ho2;have HA2:=Lib.hid hA2;have B5:=Lib.hid (B4.out.next b2);clear b2 ho2 hA2 B4;go_wp2_with fail;refine(snew_no y5 (HG1.out.below HB5.out) HL.out (by omega) HO2.out.ints HA2.out HZ.out HZ0.out).mono ?_
 rintro e y6 ⟨rfl,b3⟩;have B6:=Lib.hid ((B5.out.next b3).next (below_alloc (w:=y6) (.cells #[.slice none 0 0,.slice none 0 0,.slice none 0 0,.slice none 0 0,.slice none 0 0] 41)));clear b3 HB4 HB5 HO2 HA2 HG1 B5;unfold noGang;go_wp2;go_ret;exact⟨rfl,B6.out.bel⟩
end
section
variable {w: World} {b m: Nat} {g: Gng} {L: List Int} {gO cO: Nat} {AL: Option Addr} {nL cL gD cD gT cT gF cF: Nat} {Rv: Nat -> Value} {W: List Int} {E: List (Int × Int)} {AW FE: Option Addr} {nW cW mE dE: Nat}
theorem wants_nil(w:World)(hok:GOk W.length m E L g)(hr:GngR w b m g L ⟨gO,cO,.slice AL nL cL,gD,cD,gT,cT,gF,cF,Rv⟩)(hm:m<=8)(hT:DTab w)(hg:IsG w AW nW cW FE mE dE W E)(hM:May W E)(hw:wantsG m g= []):
  Calls Tryz.prog 20 #[.agg #[.slice AW nW cW,.slice FE mE dE],.agg #[.slice (some ⟨gO,0,none⟩) m cO,.slice AL nL cL,.slice (some ⟨gD,0,none⟩) m cD,.slice (some ⟨gT,0,none⟩) m cT,.slice (some ⟨gF,0,none⟩) m cF]] w fun e w'=>(∃A c,e= .returned (.slice A 0 c))/\Below w.heap.size w w':=by
 refine(gwants_any w hok hr hm hT hg hM rfl).mono ?_
 rintro e w' ⟨A,c,rfl,_,hb⟩;rw[hw];exact⟨⟨A,c,rfl⟩,hb⟩
theorem ready_nil(w:World)(hok:GOk W.length m E L g)(hr:GngR w b m g L ⟨gO,cO,.slice AL nL cL,gD,cD,gT,cT,gF,cF,Rv⟩)(hm:m<=8)(hg:IsG w AW nW cW FE mE dE W E)(hM:May W E)(hd:readyU W.length E g.O L= []):
  Calls Tryz.prog 21 #[.agg #[.slice AW nW cW,.slice FE mE dE],.agg #[.slice (some ⟨gO,0,none⟩) m cO,.slice AL nL cL]] w fun e w'=>(∃A c,e= .returned (.slice A 0 c))/\Below w.heap.size w w':=by
 have hl:=hok.crew.ln;have h6:=hok.n64;have hc:=hr.isC (by omega) (by omega)
 refine(rreadyC_any w hg hc hM.fits hl).mono ?_
 rintro e w' ⟨A,c,rfl,_,hb⟩;have e1:readyW E g.O L nL= []:=by unfold readyW;rw[<-hc.hm,hl,hd];rfl
 rw[e1];exact⟨⟨A,c,rfl⟩,hb⟩
theorem ready_any(w:World)(hok:GOk W.length m E L g)(hr:GngR w b m g L ⟨gO,cO,.slice AL nL cL,gD,cD,gT,cT,gF,cF,Rv⟩)(hm:m<=8)(hg:IsG w AW nW cW FE mE dE W E)(hM:May W E)(hd:readyU W.length E g.O L≠ []):
  Calls Tryz.prog 21 #[.agg #[.slice AW nW cW,.slice FE mE dE],.agg #[.slice (some ⟨gO,0,none⟩) m cO,.slice AL nL cL]] w fun e w'=>(∃A c k,k≠0/\e= .returned (.slice A k c))/\Below w.heap.size w w':=by
 have hl:=hok.crew.ln;have h6:=hok.n64;have hc:=hr.isC (by omega) (by omega)
 refine(rreadyC_any w hg hc hM.fits hl).mono ?_
 rintro e w' ⟨A,c,rfl,_,hb⟩;have e1:(readyW E g.O L nL).length≠0:=by
  unfold readyW;rw[<-hc.hm,hl];intro q;apply hd;have:=List.length_eq_zero_iff.mp q;unfold nums at this;exact List.map_eq_nil_iff.mp this
 exact⟨⟨A,c,_,e1,rfl⟩,hb⟩
theorem most_wrap{m:Nat}(h1:1<=m)(h8:m<=8):wrap64 (wrap64 (wrap64 (8 * (m:Int)) * (m:Int)) * wrap64 ((m:Int)+1))=8 * (m:Int) * (m:Int) * ((m:Int)+1)/\8 * (m:Int) * (m:Int) * ((m:Int)+1)<=4608:=by
 have hc:m=1\/m=2\/m=3\/m=4\/m=5\/m=6\/m=7\/m=8:=by omega
 rcases hc with rfl|rfl|rfl|rfl|rfl|rfl|rfl|rfl<;>decide+kernel
theorem most_sum{n7 nP:Nat}{M:Int}(h7:(n7:Int)<=M)(hM:M<=4608)(hp:nP<=300):wrap64 ((nP:Int)+M)=(nP:Int)+M/\decide ((n7:Int)<=(nP:Int)+M)=true:=
 ⟨by go_arith,decide_eq_true (by omega)⟩
theorem idle_no(w:World)(hok:GOk W.length m E L g)(hr:GngR w b m g L ⟨gO,cO,.slice AL nL cL,gD,cD,gT,cT,gF,cF,Rv⟩)(hm:m<=8)(hd:(-1:Int)∉g.O):
  Calls Tryz.prog 22 #[.slice (some ⟨gO,0,none⟩) m cO,.int .i64 (-1)] w fun e w'=>e= .returned (.bool false)/\w=w':=by
 have hl:=hok.crew.ln;have h6:=hok.n64;have hc:=hr.isC (by omega) (by omega)
 refine(has_any _ cO g.O (-1) w m hc.hn (by omega) hc.on).mono ?_
 rintro e w' ⟨rfl,h⟩;exact⟨by rw[decide_eq_false hd],h⟩
end
section
variable {AW FE AB N AP: Option Addr} {nW cW mE dE nB cB nn nc nP cP m: Nat} {W need bicks picks: List Int} {E: List (Int × Int)}
theorem scalm_good(w0:World)(tk:Int)(ht:0<=tk/\tk<=255)(hG:IsG w0 AW nW cW FE mE dE W E)(hs:InNL w0 N nn nc need)(hp:InNL w0 AB nB cB bicks)(hq:InNL w0 AP nP cP picks)(l1:nW<=70)(l2:mE<=300)(l3:nn<=70)(hl:litVs 300 need=true)(l4:nB<=300)(l5:nP<=300)(he:newE W E need m=0):
    Calls Tryz.prog 4 #[.agg #[.slice AW nW cW, .slice FE mE dE], .slice N nn nc, .int .i64 m, .slice AB nB cB, .slice AP nP cP, .int .u8 tk] w0 fun e w'=>e= .returned (.bool true)/\Below w0.heap.size w0 w':=by
  obtain⟨hM,hnl,hzz,m1,m8⟩:=newE_zero.mp he;have n64:=hM.nodes;obtain⟨k,hk,hk9⟩: ∃k:Nat,tk.tmod 20=(k:Int)/\k<=19:=⟨(tk.tmod 20).toNat,by rw[Int.tmod_eq_emod_of_nonneg ht.1];omega,by rw[Int.tmod_eq_emod_of_nonneg ht.1];omega⟩
  have HE:=Lib.hid he;have HM:=Lib.hid hM;have HFO:=Lib.hid (show need.length=W.length/\(∀z∈need,1<=z/\z<=1000)/\1<=m/\m<=8/\W.length<=64/\k<=19 from⟨hnl,hzz,by omega,by omega,n64,hk9⟩)
  have HBI:=Lib.hid (fun W' (h:Below w0.heap.size w0 W')=>(hp.ints.below h).more h.size)
  have HBN:=Lib.hid (show bicks.length=nB/\nB<=1000/\(AB=none->nB=0/\cB=0)from⟨hp.hn,by omega,hp.hN⟩)
  have HPI:=Lib.hid (fun W' (h:Below w0.heap.size w0 W')=>(hq.ints.below h).more h.size)
  have HPN:=Lib.hid (show picks.length=nP/\nP<=1000/\(AP=none->nP=0/\cP=0)from⟨hq.hn,by omega,hq.hN⟩)
  have HTW:=Lib.hid (fun W (h:Below w0.heap.size w0 W)=>Tab64.via hG.tab h)
  have HG:=Lib.hid (fun W' (h:Below w0.heap.size w0 W')=>hG.below h)
  have HI:=Lib.hid (fun W' (h:Below w0.heap.size w0 W')=>(hs.ints.below h).more h.size)
  have HL:=Lib.hid hs.hn;have HA:=Lib.hid hs.hN;have B0:=Lib.hid (BxB.start (Below.refl w0.heap.size w0) AW nW cW FE mE dE);have F1:=Lib.hid (fun W=>few_yes AW FE nW cW mE dE W l1 l2)
  have F3:=Lib.hid (fun W' (hb:Below w0.heap.size w0 W')=>little13_any (nc:=nc) W' hs.hn (by omega:nn<=400) ((hs.ints.below hb).more hb.size))
  rw[hl]at F3;have h70a:decide (70<nn)=false:=decide_eq_false (by omega)
  have h70b:decide ((70:Int)<(nn:Int))=false:=decide_eq_false (by omega)
  have h6a:decide (300<nB)=false:=decide_eq_false (by omega)
  have h6b:decide ((300:Int)<(nB:Int))=false:=decide_eq_false (by omega)
  have h7a:decide (300<nP)=false:=decide_eq_false (by omega)
  have h7b:decide ((300:Int)<(nP:Int))=false:=decide_eq_false (by omega)
  clear hG hs hp hq hl he hM hnl hzz m1 m8 n64 hk9;go_enter Tryz.func4,Tryz.ntmps4;go_wp2_with fail;refine(awakeS_any _ (HTW.out _ B0.out.bel)).mono ?_
  rintro e y1 ⟨rfl,b⟩;have B1:=Lib.hid (B0.out.next b);clear b;obtain⟨q0,q1⟩:=B1.out.cells;go_wp2_with fail;refine(F1.out _).mono ?_
  rintro e y2 ⟨rfl,b⟩;have B2:=Lib.hid (B1.out.next b);clear b q0 q1;go_wp2_with fail;refine(F3.out _ B2.out.bel).mono ?_
  rintro e y2' ⟨rfl,hww⟩;replace hww:=hww.symm;subst hww;obtain⟨q0,q1⟩:=B2.out.cells;go_wp2_with fail;refine(lbegin_any _ k (by have:=HFO.out.2.2.2.2.2;omega) (HTW.out _ B2.out.bel) (HG.out _ B2.out.bel) HM.out HL.out (by omega) (HI.out _ B2.out.bel) HA.out HBN.out (HBI.out _ B2.out.bel) HE.out HFO.out.2.1 HFO.out.2.2.1 HFO.out.2.2.2.1 HFO.out.1 HFO.out.2.2.2.2.1).mono ?_
  rintro e y3 ⟨g,L,gO,cO,AL,nL,cL,gD,cD,gT,cT,gF,cF,Rv,rfl,hr,hok,h0,b⟩;have HX:=Lib.hid (RowV.new y3 41 [.slice (some ⟨gO,0,none⟩) m cO, .slice AL nL cL, .slice (some ⟨gD,0,none⟩) m cD, .slice (some ⟨gT,0,none⟩) m cT, .slice (some ⟨gF,0,none⟩) m cF]);have HR3:=Lib.hid (hr.below (below_alloc (w:=y3) (.cells #[.slice (some ⟨gO,0,none⟩) m cO, .slice AL nL cL, .slice (some ⟨gD,0,none⟩) m cD, .slice (some ⟨gT,0,none⟩) m cT, .slice (some ⟨gF,0,none⟩) m cF] 41)));have HOK:=Lib.hid hok;have H0:=Lib.hid h0;have B3:=Lib.hid ((B2.out.next b).next (below_alloc (w:=y3) (.cells #[.slice (some ⟨gO,0,none⟩) m cO, .slice AL nL cL, .slice (some ⟨gD,0,none⟩) m cD, .slice (some ⟨gT,0,none⟩) m cT, .slice (some ⟨gF,0,none⟩) m cF] 41)));have HSZ:=Lib.hid (Nat.le_trans B2.out.bel.size b.size);clear b q0 q1 hr hok h0;obtain⟨q0,q1⟩:=B3.out.cells;go_wp2_with fail;obtain⟨q,hqq⟩: ∃q,q=y3.heap.size:=⟨_,rfl⟩;obtain⟨y3',hy3⟩: ∃y,y=y3.alloc (.cells #[.slice (some ⟨gO,0,none⟩) m cO, .slice AL nL cL, .slice (some ⟨gD,0,none⟩) m cD, .slice (some ⟨gT,0,none⟩) m cT, .slice (some ⟨gF,0,none⟩) m cF] 41):=⟨_,rfl⟩;rw[<-hqq,<-hy3];rw[<-hqq]at HSZ;rw[<-hqq,<-hy3]at HX;rw[<-hy3]at HR3 B3;clear hqq hy3 q0 q1;refine(own_g10 (HG.out _ B3.out.bel)).mono ?_
  rintro e y4 ⟨A1,c1',F1,d1,rfl,hg1,b1⟩;have HG1:=Lib.hid hg1;have B4:=Lib.hid (B3.out.next b1);have HX4:=Lib.hid (HX.out.below b1 HX.out.lt);have HR4:=Lib.hid (HR3.out.below b1);clear b1 hg1 B3 HX HR3;go_wp2_with fail;refine(ints13_any y4 N nc nn need HL.out (by omega) (HI.out _ B4.out.bel) HA.out).mono ?_
  rintro e y5 ⟨A2,c2,rfl,ho2,_,hA2,b2⟩;have HO2:=Lib.hid ho2;have HA2:=Lib.hid hA2;have B5:=Lib.hid (B4.out.next b2);have HG5:=Lib.hid (HG1.out.below b2);have HX5:=Lib.hid (HX4.out.below b2 HX4.out.lt);have HR5:=Lib.hid (HR4.out.below b2);clear b2 ho2 hA2 B4 HX4 HR4 HG1;go_wp2_with fail;refine(lnew y5 (HTW.out _ B5.out.bel) HG5.out HL.out (by omega) HO2.out.ints HA2.out HE.out).mono ?_
  rintro e y6 ⟨gO1,cO1,AL1,nL1,cL1,gD1,cD1,gT1,cT1,gF1,cF1,Rv1,rfl,_,b3⟩;have B6:=Lib.hid ((B5.out.next b3).next (below_alloc (w:=y6) (.cells #[.slice (some ⟨gO1,0,none⟩) m cO1, .slice AL1 nL1 cL1, .slice (some ⟨gD1,0,none⟩) m cD1, .slice (some ⟨gT1,0,none⟩) m cT1, .slice (some ⟨gF1,0,none⟩) m cF1] 41)));have HX6:=Lib.hid ((HX5.out.below b3 HX5.out.lt).below (below_alloc (w:=y6) (.cells #[.slice (some ⟨gO1,0,none⟩) m cO1, .slice AL1 nL1 cL1, .slice (some ⟨gD1,0,none⟩) m cD1, .slice (some ⟨gT1,0,none⟩) m cT1, .slice (some ⟨gF1,0,none⟩) m cF1] 41)) (HX5.out.below b3 HX5.out.lt).lt);have HR6:=Lib.hid ((HR5.out.below b3).below (below_alloc (w:=y6) (.cells #[.slice (some ⟨gO1,0,none⟩) m cO1, .slice AL1 nL1 cL1, .slice (some ⟨gD1,0,none⟩) m cD1, .slice (some ⟨gT1,0,none⟩) m cT1, .slice (some ⟨gF1,0,none⟩) m cF1] 41)));clear b3 B5 HX5 HR5 HG5 HO2 HA2;go_upto_region 7 with fail;obtain⟨w4,hw4⟩: ∃w,w=y6.alloc (.cells #[.slice (some ⟨gO1,0,none⟩) m cO1, .slice AL1 nL1 cL1, .slice (some ⟨gD1,0,none⟩) m cD1, .slice (some ⟨gT1,0,none⟩) m cT1, .slice (some ⟨gF1,0,none⟩) m cF1] 41):=⟨_,rfl⟩;rw[<-hw4];rw[<-hw4]at B6 HX6 HR6;clear hw4;have HDG:=Lib.hid B6.out;have HGR:=Lib.hid (HG.out _ B6.out.bel);have HPK:=Lib.hid (HPI.out _ B6.out.bel);have HT:=Lib.hid (HTW.out _ B6.out.bel);have HBX:=Lib.hid HX6.out;have HR:=Lib.hid HR6.out;clear HX6 HR6;refine wp_region_tail 12 [79,80,81,82,83,84,85,78,86,87,88,17,1000,18,19] [9,10] (by kernel_rfl) (by kernel_rfl) (by intro d hd;simp at hd⊢;omega) (fun z=>Below w4.heap.size w4 z) (PhiLc7 w4.heap.size m W picks E AW FE AP nW cW mE dE nP cP g L gO cO AL nL cL gD cD gT cT gF cF) (fun k v=>(k=9->v= .int .i64 (lenC m g picks:Nat))/\(k=10->v= .int .i64 0)) (ThtLc7 w4.heap.size m w4 picks g L)
    (fun z z' h hb=>h.trans (hb.mono h.size)) phiLc7_below ((Below.refl _ _).drew) ?hstep ?hloose ?hmid ?htail ?hcon ?hend
  case hstep=>
    intro kq o hkm hkF ho a1 w hI hA hd K hK;obtain⟨ρ,hρ⟩: ∃ρ,a1.eval=ρ:=⟨_,rfl⟩;rw[hρ]at hA hd
    match kq,hkm,hkF,ho with
    | 0, _, _, ho =>
      have hoo:=Option.some.inj ho;subst hoo;have h0:=(HDG.out.next hI).p0;have h1:=(HDG.out.next hI).p1;exact fx_val hK hρ (.agg #[.slice AW nW cW, .slice FE mE dE]) (by have h:=hA.tmp 6 (by decide);simp[execOp,h,h0,h1,go_sem]) rfl
    | 1, _, _, ho =>
      have hoo:=Option.some.inj ho;subst hoo;have f0:ρ (.tmp 79)= .agg #[.slice AW nW cW, .slice FE mE dE]:=hd ⟨0, .data⟩ (by simp) (by rfl) (by decide)
      exact fx_call hK hρ 10 _ _ #[.agg #[.slice AW nW cW, .slice FE mE dE]] rfl (by simp only[List.map_toArray,List.map_cons,List.map_nil,hA.const,f0]) (eg_of Tryz.func10 (by kernel_rfl) rfl) ((own_g10 (HGR.out.below hI)).mono fun e w' hh=>by
        obtain⟨A,c,F,d,he,hg,hb⟩:=hh;exact⟨_,he,⟨A,c,F,d,rfl,hg⟩,hb⟩)
    | 2, _, _, ho =>
      have hoo:=Option.some.inj ho;subst hoo;have hr:=HBX.out.below hI HBX.out.lt;have h0:=hr.cell (j:=0) rfl;have h1:=hr.cell (j:=1) rfl;have h2:=hr.cell (j:=2) rfl;have h3:=hr.cell (j:=3) rfl;have h4:=hr.cell (j:=4) rfl;exact fx_val hK hρ (.agg #[.slice (some ⟨gO,0,none⟩) m cO, .slice AL nL cL, .slice (some ⟨gD,0,none⟩) m cD, .slice (some ⟨gT,0,none⟩) m cT, .slice (some ⟨gF,0,none⟩) m cF]) (by have h:=hA.tmp 13 (by decide);simp[execOp,h,h0,h1,h2,h3,h4,go_sem]) rfl
    | 3, _, _, ho =>
      have hoo:=Option.some.inj ho;subst hoo;have f2:ρ (.tmp 81)= .agg #[.slice (some ⟨gO,0,none⟩) m cO, .slice AL nL cL, .slice (some ⟨gD,0,none⟩) m cD, .slice (some ⟨gT,0,none⟩) m cT, .slice (some ⟨gF,0,none⟩) m cF]:=hd ⟨2, .data⟩ (by simp) (by rfl) (by decide)
      exact fx_call hK hρ 19 _ _ #[.agg #[.slice (some ⟨gO,0,none⟩) m cO, .slice AL nL cL, .slice (some ⟨gD,0,none⟩) m cD, .slice (some ⟨gT,0,none⟩) m cT, .slice (some ⟨gF,0,none⟩) m cF]] rfl (by simp only[List.map_toArray,List.map_cons,List.map_nil,hA.const,f2]) (eg_of Tryz.func19 (by kernel_rfl) rfl) ((lown w HOK.out (HR.out.below hI)).mono fun e w' hh=>by
        obtain⟨gO1,cO1,AL1,nL1,cL1,gD1,cD1,gT1,cT1,gF1,cF1,Rv1,he,hg,hb⟩:=hh;exact⟨_,he,⟨_,_,_,_,_,_,_,_,_,_,_,_,rfl,hg.down (hI.size)⟩,hb⟩)
    | 4, _, _, ho =>
      have hoo:=Option.some.inj ho;subst hoo;exact fx_val hK hρ (.slice AP nP cP) (by have h:=hA.tmp 4 (by decide);simp[execOp,h,go_sem]) rfl
    | 5, _, _, ho =>
      have hoo:=Option.some.inj ho;subst hoo;have f4:ρ (.tmp 83)= .slice AP nP cP:=hd ⟨4, .data⟩ (by simp) (by rfl) (by decide)
      exact fx_call hK hρ 11 _ _ #[.slice AP nP cP] rfl (by simp only[List.map_toArray,List.map_cons,List.map_nil,hA.const,f4]) (eg_of Tryz.func11 (by kernel_rfl) rfl) ((ints13_any w AP cP nP picks HPN.out.1 HPN.out.2.1 ((HPK.out.below hI).more hI.size) HPN.out.2.2).mono fun e w' hh=>by
        obtain⟨A,c,he,ho,_,_,hb⟩:=hh;exact⟨_,he,⟨A,c,rfl,ho.ints⟩,hb⟩)
    | 6, _, _, ho =>
      have hoo:=Option.some.inj ho;subst hoo;have f1: ∃A c F d,ρ (.tmp 80)= .agg #[.slice A nW c, .slice F mE d]/\IsG w A nW c F mE d W E:=hd ⟨1, .data⟩ (by simp) (by rfl) (by decide)
      have f3: ∃gO1 cO1 AL1 nL1 cL1 gD1 cD1 gT1 cT1 gF1 cF1 Rv1,ρ (.tmp 82)= .agg #[.slice (some ⟨gO1,0,none⟩) m cO1, .slice AL1 nL1 cL1, .slice (some ⟨gD1,0,none⟩) m cD1, .slice (some ⟨gT1,0,none⟩) m cT1, .slice (some ⟨gF1,0,none⟩) m cF1]/\GngR w w4.heap.size m g L ⟨gO1,cO1, .slice AL1 nL1 cL1,gD1,cD1,gT1,cT1,gF1,cF1,Rv1⟩:=hd ⟨3, .data⟩ (by simp) (by rfl) (by decide)
      have f5: ∃A c,ρ (.tmp 84)= .slice A nP c/\Ints w w.heap.size A picks:=hd ⟨5, .data⟩ (by simp) (by rfl) (by decide)
      obtain⟨A,c,F,d,e1,hg⟩:=f1;obtain⟨gO1,cO1,AL1,nL1,cL1,gD1,cD1,gT1,cT1,gF1,cF1,Rv1,e3,hr⟩:=f3;obtain⟨A5,c5,e5,hi5⟩:=f5;exact fx_call hK hρ 18 _ _ #[.agg #[.slice A nW c, .slice F mE d], .agg #[.slice (some ⟨gO1,0,none⟩) m cO1, .slice AL1 nL1 cL1, .slice (some ⟨gD1,0,none⟩) m cD1, .slice (some ⟨gT1,0,none⟩) m cT1, .slice (some ⟨gF1,0,none⟩) m cF1], .slice A5 nP c5] rfl (by simp only[List.map_toArray,List.map_cons,List.map_nil,hA.const,e1,e3,e5]) (eg_of Tryz.func18 (by kernel_rfl) rfl) ((lcalm w HOK.out H0.out hr (HT.out.via hI) hg HM.out HPN.out.1 HPN.out.2.1 hi5).mono fun e w' hh=>by
        obtain⟨gO2,cO2,AL2,nL2,cL2,gD2,cD2,gT2,cT2,gF2,cF2,Rv2,he,hg,hb⟩:=hh;exact⟨_,he,⟨_,_,_,_,_,_,_,_,_,_,_,_,rfl,hg.down (hI.size)⟩,hb⟩)
    | 7, _, _, ho =>
      have hoo:=Option.some.inj ho;subst hoo;have f6: ∃gO1 cO1 AL1 nL1 cL1 gD1 cD1 gT1 cT1 gF1 cF1 Rv1,ρ (.tmp 85)= .tuple #[.agg #[.slice (some ⟨gO1,0,none⟩) m cO1, .slice AL1 nL1 cL1, .slice (some ⟨gD1,0,none⟩) m cD1, .slice (some ⟨gT1,0,none⟩) m cT1, .slice (some ⟨gF1,0,none⟩) m cF1], .int .i64 (lenC m g picks:Nat), .int .i64 0]/\GngR w w4.heap.size m (calmG m g picks) L ⟨gO1,cO1, .slice AL1 nL1 cL1,gD1,cD1,gT1,cT1,gF1,cF1,Rv1⟩:=hd ⟨6, .data⟩ (by simp) (by rfl) (by decide)
      obtain⟨gO1,cO1,AL1,nL1,cL1,gD1,cD1,gT1,cT1,gF1,cF1,Rv1,e,hr⟩:=f6;exact fx_val hK hρ _ (by simp[execOp,e,go_sem]) ⟨_,_,_,_,_,_,_,_,_,_,_,_,rfl,hr⟩
    | 8, _, _, ho =>
      have hoo:=Option.some.inj ho;subst hoo;have f7: ∃gO1 cO1 AL1 nL1 cL1 gD1 cD1 gT1 cT1 gF1 cF1 Rv1,ρ (.tmp 78)= .tuple #[.agg #[.slice (some ⟨gO1,0,none⟩) m cO1, .slice AL1 nL1 cL1, .slice (some ⟨gD1,0,none⟩) m cD1, .slice (some ⟨gT1,0,none⟩) m cT1, .slice (some ⟨gF1,0,none⟩) m cF1], .int .i64 (lenC m g picks:Nat), .int .i64 0]/\GngR w w4.heap.size m (calmG m g picks) L ⟨gO1,cO1, .slice AL1 nL1 cL1,gD1,cD1,gT1,cT1,gF1,cF1,Rv1⟩:=hd ⟨7, .data⟩ (by simp) (by rfl) (by decide)
      obtain⟨gO1,cO1,AL1,nL1,cL1,gD1,cD1,gT1,cT1,gF1,cF1,Rv1,e,hr⟩:=f7;exact fx_val hK hρ (.agg #[.slice (some ⟨gO1,0,none⟩) m cO1, .slice AL1 nL1 cL1, .slice (some ⟨gD1,0,none⟩) m cD1, .slice (some ⟨gT1,0,none⟩) m cT1, .slice (some ⟨gF1,0,none⟩) m cF1]) (by simp[execOp,e,go_sem]) ⟨_,_,_,_,_,_,_,_,_,_,_,_,rfl,hr⟩
    |9,_,hkF,_=>exact absurd (by decide) hkF
    |10,_,hkF,_=>exact absurd (by decide) hkF
    | 11, _, _, ho =>
      have hoo:=Option.some.inj ho;subst hoo;exact fx_make hK hρ (.pointer (some ⟨w.heap.size,0,none⟩)) (w.alloc (.cells #[.slice none 0 0, .slice none 0 0, .slice none 0 0, .slice none 0 0, .slice none 0 0] 41)) (by simp[execOp,go_sem]) ⟨w.heap.size,rfl,hI.size,RowV.new w _ _⟩ (below_alloc _)
    |kq+12,h,_,_=>exact absurd h (by omega)
  case hloose=>
    intro kq o hkF ho ρ w hA hd;simp only[List.mem_cons,List.not_mem_nil,or_false]at hkF;rcases hkF with rfl|rfl
    · have hoo:=Option.some.inj ho;subst hoo;have f7: ∃w,∃gO1 cO1 AL1 nL1 cL1 gD1 cD1 gT1 cT1 gF1 cF1 Rv1,ρ (.tmp 78)= .tuple #[.agg #[.slice (some ⟨gO1,0,none⟩) m cO1, .slice AL1 nL1 cL1, .slice (some ⟨gD1,0,none⟩) m cD1, .slice (some ⟨gT1,0,none⟩) m cT1, .slice (some ⟨gF1,0,none⟩) m cF1], .int .i64 (lenC m g picks:Nat), .int .i64 0]/\GngR w w4.heap.size m (calmG m g picks) L ⟨gO1,cO1, .slice AL1 nL1 cL1,gD1,cD1,gT1,cT1,gF1,cF1,Rv1⟩:=hd ⟨7, .data⟩ (by simp) (by rfl) (by decide)
      obtain⟨w7,gO1,cO1,AL1,nL1,cL1,gD1,cD1,gT1,cT1,gF1,cF1,Rv1,e,_⟩:=f7;exact⟨.int .i64 (lenC m g picks:Nat),by simp[execOp,e,go_sem],⟨fun _=>rfl,fun q=>absurd q (by decide)⟩⟩
    · have hoo:=Option.some.inj ho;subst hoo;have f7: ∃w,∃gO1 cO1 AL1 nL1 cL1 gD1 cD1 gT1 cT1 gF1 cF1 Rv1,ρ (.tmp 78)= .tuple #[.agg #[.slice (some ⟨gO1,0,none⟩) m cO1, .slice AL1 nL1 cL1, .slice (some ⟨gD1,0,none⟩) m cD1, .slice (some ⟨gT1,0,none⟩) m cT1, .slice (some ⟨gF1,0,none⟩) m cF1], .int .i64 (lenC m g picks:Nat), .int .i64 0]/\GngR w w4.heap.size m (calmG m g picks) L ⟨gO1,cO1, .slice AL1 nL1 cL1,gD1,cD1,gT1,cT1,gF1,cF1,Rv1⟩:=hd ⟨7, .data⟩ (by simp) (by rfl) (by decide)
      obtain⟨w7,gO1,cO1,AL1,nL1,cL1,gD1,cD1,gT1,cT1,gF1,cF1,Rv1,e,_⟩:=f7;exact⟨.int .i64 0,by simp[execOp,e,go_sem],⟨fun q=>absurd q (by decide),fun _=>rfl⟩⟩
  case hmid=>
    intro vals w hI hF;obtain⟨gO1,cO1,AL1,nL1,cL1,gD1,cD1,gT1,cT1,gF1,cF1,Rv1,e0,hr⟩:=hF 8 (by decide) (by decide)
    obtain⟨p,ep,hp,hrow⟩:=hF 11 (by decide) (by decide)
    exact⟨Nat.le_refl _,by decide,_,_,_,_,_,_,_,_,_,_,_,_,p,ep,hp,hp,hI,hr,fun _=>⟨e0,hrow⟩,fun h=>absurd h (by decide),fun h=>absurd h (by decide),fun h=>absurd h (by decide)⟩
  case htail=>
    intro t o htm ho a1 w hA hT hL K hK;have htl:t<15:=(Array.getElem?_eq_some_iff.1 ho).1
    obtain⟨ρ,hρ⟩: ∃ρ,a1.eval=ρ:=⟨_,rfl⟩;rw[hρ]at hA
    try rw[hρ]at hL
    obtain rfl|rfl|rfl:t=12\/t=13\/t=14:=by omega
    · have hoo:=Option.some.inj ho;subst hoo;obtain⟨t1,t2,gO1,cO1,AL1,nL1,cL1,gD1,cD1,gT1,cT1,gF1,cF1,Rv1,p,ep,hp,hp2,hbl,hr,h0,h1,h2,h3⟩:=hT;simp only[hρ]at ep;obtain⟨e0,hrow⟩:=h0 (by first|rfl|trivial|decide)
      simp only[hρ]at e0;have y0:=hrow.cell (j:=0) rfl;have z0:=hrow.frozen 0;have y1:=hrow.cell (j:=1) rfl;have z1:=hrow.frozen 1;have y2:=hrow.cell (j:=2) rfl;have z2:=hrow.frozen 2;have y3:=hrow.cell (j:=3) rfl;have z3:=hrow.frozen 3;have y4:=hrow.cell (j:=4) rfl;have z4:=hrow.frozen 4;unfold Oper.wp;rw[show(execOp a1.eval _).run Tryz.prog w= .ok .skip (set5 w p (.slice (some ⟨gO1,0,none⟩) m cO1) (.slice AL1 nL1 cL1) (.slice (some ⟨gD1,0,none⟩) m cD1) (.slice (some ⟨gT1,0,none⟩) m cT1) (.slice (some ⟨gF1,0,none⟩) m cF1))from by rw[hρ];unfold set5;simp[execOp,ep,e0,y0,y1,y2,y3,y4,z0,z1,z2,z3,z4,go_sem],Oper.upon_skip]
      refine hK undef _ ⟨by decide,by decide,_,_,_,_,_,_,_,_,_,_,_,_,p,?_,hp,hp2,set5_bel hbl hp2 _ _ _ _ _,set5_gng hr hrow _ _ _ _ _,fun h=>absurd h (by decide),fun _=>set5_row hrow _ _ _ _ _,fun h=>absurd h (by decide),fun h=>absurd h (by decide)⟩
      simp only[reduceCtorEq,if_false,hρ];exact ep
    · have hoo:=Option.some.inj ho;subst hoo;obtain⟨t1,t2,gO1,cO1,AL1,nL1,cL1,gD1,cD1,gT1,cT1,gF1,cF1,Rv1,p,ep,hp,hp2,hbl,hr,h0,h1,h2,h3⟩:=hT;simp only[hρ]at ep;have hq:ρ (.tmp 87)= .int .i64 (lenC m g picks:Nat):=(hL ⟨9, .data⟩ (by simp) (by rfl) (by simp)).1 rfl
      unfold Oper.wp;rw[show(execOp a1.eval _).run Tryz.prog w= .ok (.value (.int .i64 (lenC m g picks:Nat))) (w)from by rw[hρ];simp[execOp,hq,go_sem],Oper.upon_value]
      refine hK _ _ ⟨by decide,by decide,_,_,_,_,_,_,_,_,_,_,_,_,p,?_,hp,hp2,hbl,hr,fun h=>absurd h (by decide),fun _=>h1 (by decide),fun _=> ?_,fun h=>absurd h (by decide)⟩
      · simp only[Option.some.injEq,Nat.reduceEqDiff,if_false,hρ];exact ep
      · simp
    · have hoo:=Option.some.inj ho;subst hoo;obtain⟨t1,t2,gO1,cO1,AL1,nL1,cL1,gD1,cD1,gT1,cT1,gF1,cF1,Rv1,p,ep,hp,hp2,hbl,hr,h0,h1,h2,h3⟩:=hT;simp only[hρ]at ep;have hq:ρ (.tmp 88)= .int .i64 0:=(hL ⟨10, .data⟩ (by simp) (by rfl) (by simp)).2 rfl
      have hn:=h2 (by decide)
      simp only[hρ]at hn;unfold Oper.wp;rw[show(execOp a1.eval _).run Tryz.prog w= .ok (.value (.int .i64 0)) (w)from by rw[hρ];simp[execOp,hq,go_sem],Oper.upon_value]
      refine hK _ _ ⟨by decide,by decide,_,_,_,_,_,_,_,_,_,_,_,_,p,?_,hp,hp2,hbl,hr,fun h=>absurd h (by decide),fun _=>h1 (by decide),fun _=> ?_,fun _=> ?_⟩
      · simp only[Option.some.injEq,Nat.reduceEqDiff,if_false,hρ];exact ep
      · simp only[Option.some.injEq,Nat.reduceEqDiff,if_false,hρ];exact hn
      · simp
  case hcon=>
    intro t f g w h hT;obtain⟨t1,t2,gO1,cO1,AL1,nL1,cL1,gD1,cD1,gT1,cT1,gF1,cF1,Rv1,p,ep,hp,hp2,hbl,hr,h0,h1,h2,h3⟩:=hT;have qa:=h 11 (by omega) (by simp)
    have qb:=h 8 (by omega) (by simp)
    simp only[List.getD_cons_zero,List.getD_cons_succ]at qa qb;refine⟨t1,t2,_,_,_,_,_,_,_,_,_,_,_,_,p,qa▸ep,hp,hp2,hbl,hr,fun e=>⟨qb▸(h0 e).1,(h0 e).2⟩,h1,fun e=> ?_,fun e=> ?_⟩
    · have qc:=h 13 (by omega) (by simp)
      simp only[List.getD_cons_zero,List.getD_cons_succ]at qc;exact qc▸h2 e
    · have qc:=h 14 (by omega) (by simp)
      simp only[List.getD_cons_zero,List.getD_cons_succ]at qc;exact qc▸h3 e
  case hend=>
    intro vals7 w5 hT;obtain⟨_,_,gO7,cO7,AL7,nL7,cL7,gD7,cD7,gT7,cT7,gF7,cF7,Rv7,p7,ep,hp,_,hbl,hr,_,h1,h2,h3⟩:=hT;have hrow:=h1 (by decide)
    have en:=h2 (by decide)
    have er:=h3 rfl;have hC:=HOK.out.calmed H0.out picks;have hS:=calm_spec (picks:=picks) HOK.out H0.out;obtain⟨g7,hg7⟩: ∃x,x=calmG m g picks:=⟨_,rfl⟩;obtain⟨n7,hn7⟩: ∃x,x=lenC m g picks:=⟨_,rfl⟩;rw[<-hg7]at hr hC hS;rw[<-hn7]at hS en;have HN7:=Lib.hid (show wantsG m g7= []/\n7<=m * (m * (4 * m+4)+4 * m)from⟨hS.1,hS.2.2.1⟩)
    have HDG:=Lib.hid (B6.out.next hbl);have HGR:=Lib.hid (HGR.out.below hbl);have HPK:=Lib.hid ((HPK.out.below hbl).more hbl.size);have HT:=Lib.hid (HT.out.via hbl);have HBX:=Lib.hid (HBX.out.below hbl HBX.out.lt);have HBX7:=Lib.hid hrow;have HOK7:=Lib.hid hC.1;have HR7:=Lib.hid hr;have HR:=Lib.hid (HR.out.below hbl);clear hC hS hn7 hg7 hr hrow hbl;simp only[fillA,fillL,List.contains_cons,List.contains_nil,Nat.reduceBEq,Bool.or_false,Bool.false_or,Bool.or_true,Bool.true_or,cond_true,cond_false,Nat.zero_add,Nat.reduceAdd,ep,en,er];go_upto_region 8 with fail;refine wp_region_tail 10 [90,91,92,93,94,89,95,96,97,20,1000,21,22] [7,8] (by kernel_rfl) (by kernel_rfl) (by intro d hd;simp at hd⊢;omega) (fun z=>Below w5.heap.size w5 z) (PhiLc8 w5.heap.size m W picks E AW FE AP nW cW mE dE nP cP g L gO cO AL nL cL gD cD gT cT gF cF) (fun k v=>(k=7->v= .int .i64 (lenC m g []:Nat))/\(k=8->v= .int .i64 0)) (ThtLc8 w5.heap.size m w5 picks g L)
      (fun z z' h hb=>h.trans (hb.mono h.size)) phiLc8_below ((Below.refl _ _).drew) ?hstep ?hloose ?hmid ?htail ?hcon ?hend
    case hstep=>
      intro kq o hkm hkF ho a1 w hI hA hd K hK;obtain⟨ρ,hρ⟩: ∃ρ,a1.eval=ρ:=⟨_,rfl⟩;rw[hρ]at hA hd
      match kq,hkm,hkF,ho with
      | 0, _, _, ho =>
        have hoo:=Option.some.inj ho;subst hoo;have h0:=(HDG.out.next hI).p0;have h1:=(HDG.out.next hI).p1;exact fx_val hK hρ (.agg #[.slice AW nW cW, .slice FE mE dE]) (by have h:=hA.tmp 6 (by decide);simp[execOp,h,h0,h1,go_sem]) rfl
      | 1, _, _, ho =>
        have hoo:=Option.some.inj ho;subst hoo;have f0:ρ (.tmp 90)= .agg #[.slice AW nW cW, .slice FE mE dE]:=hd ⟨0, .data⟩ (by simp) (by rfl) (by decide)
        exact fx_call hK hρ 10 _ _ #[.agg #[.slice AW nW cW, .slice FE mE dE]] rfl (by simp only[List.map_toArray,List.map_cons,List.map_nil,hA.const,f0]) (eg_of Tryz.func10 (by kernel_rfl) rfl) ((own_g10 (HGR.out.below hI)).mono fun e w' hh=>by
          obtain⟨A,c,F,d,he,hg,hb⟩:=hh;exact⟨_,he,⟨A,c,F,d,rfl,hg⟩,hb⟩)
      | 2, _, _, ho =>
        have hoo:=Option.some.inj ho;subst hoo;have hr:=HBX.out.below hI HBX.out.lt;have h0:=hr.cell (j:=0) rfl;have h1:=hr.cell (j:=1) rfl;have h2:=hr.cell (j:=2) rfl;have h3:=hr.cell (j:=3) rfl;have h4:=hr.cell (j:=4) rfl;exact fx_val hK hρ (.agg #[.slice (some ⟨gO,0,none⟩) m cO, .slice AL nL cL, .slice (some ⟨gD,0,none⟩) m cD, .slice (some ⟨gT,0,none⟩) m cT, .slice (some ⟨gF,0,none⟩) m cF]) (by have h:=hA.tmp 13 (by decide);simp[execOp,h,h0,h1,h2,h3,h4,go_sem]) rfl
      | 3, _, _, ho =>
        have hoo:=Option.some.inj ho;subst hoo;have f2:ρ (.tmp 92)= .agg #[.slice (some ⟨gO,0,none⟩) m cO, .slice AL nL cL, .slice (some ⟨gD,0,none⟩) m cD, .slice (some ⟨gT,0,none⟩) m cT, .slice (some ⟨gF,0,none⟩) m cF]:=hd ⟨2, .data⟩ (by simp) (by rfl) (by decide)
        exact fx_call hK hρ 19 _ _ #[.agg #[.slice (some ⟨gO,0,none⟩) m cO, .slice AL nL cL, .slice (some ⟨gD,0,none⟩) m cD, .slice (some ⟨gT,0,none⟩) m cT, .slice (some ⟨gF,0,none⟩) m cF]] rfl (by simp only[List.map_toArray,List.map_cons,List.map_nil,hA.const,f2]) (eg_of Tryz.func19 (by kernel_rfl) rfl) ((lown w HOK.out (HR.out.below hI)).mono fun e w' hh=>by
          obtain⟨gO1,cO1,AL1,nL1,cL1,gD1,cD1,gT1,cT1,gF1,cF1,Rv1,he,hg,hb⟩:=hh;exact⟨_,he,⟨_,_,_,_,_,_,_,_,_,_,_,_,rfl,hg.down (hI.size)⟩,hb⟩)
      | 4, _, _, ho =>
        have hoo:=Option.some.inj ho;subst hoo;have f1: ∃A c F d,ρ (.tmp 91)= .agg #[.slice A nW c, .slice F mE d]/\IsG w A nW c F mE d W E:=hd ⟨1, .data⟩ (by simp) (by rfl) (by decide)
        have f3: ∃gO1 cO1 AL1 nL1 cL1 gD1 cD1 gT1 cT1 gF1 cF1 Rv1,ρ (.tmp 93)= .agg #[.slice (some ⟨gO1,0,none⟩) m cO1, .slice AL1 nL1 cL1, .slice (some ⟨gD1,0,none⟩) m cD1, .slice (some ⟨gT1,0,none⟩) m cT1, .slice (some ⟨gF1,0,none⟩) m cF1]/\GngR w w5.heap.size m g L ⟨gO1,cO1, .slice AL1 nL1 cL1,gD1,cD1,gT1,cT1,gF1,cF1,Rv1⟩:=hd ⟨3, .data⟩ (by simp) (by rfl) (by decide)
        obtain⟨A,c,F,d,e1,hg⟩:=f1;obtain⟨gO1,cO1,AL1,nL1,cL1,gD1,cD1,gT1,cT1,gF1,cF1,Rv1,e3,hr⟩:=f3;exact fx_call hK hρ 18 _ _ #[.agg #[.slice A nW c, .slice F mE d], .agg #[.slice (some ⟨gO1,0,none⟩) m cO1, .slice AL1 nL1 cL1, .slice (some ⟨gD1,0,none⟩) m cD1, .slice (some ⟨gT1,0,none⟩) m cT1, .slice (some ⟨gF1,0,none⟩) m cF1], .slice none 0 0] rfl (by simp only[List.map_toArray,List.map_cons,List.map_nil,hA.const,e1,e3]) (eg_of Tryz.func18 (by kernel_rfl) rfl) ((lcalm w HOK.out H0.out hr (HT.out.via hI) hg HM.out rfl (by decide) (Ints.nil_ _ _ _)).mono fun e w' hh=>by
          obtain⟨gO2,cO2,AL2,nL2,cL2,gD2,cD2,gT2,cT2,gF2,cF2,Rv2,he,hg,hb⟩:=hh;exact⟨_,he,⟨_,_,_,_,_,_,_,_,_,_,_,_,rfl,hg.down (hI.size)⟩,hb⟩)
      | 5, _, _, ho =>
        have hoo:=Option.some.inj ho;subst hoo;have f4: ∃gO1 cO1 AL1 nL1 cL1 gD1 cD1 gT1 cT1 gF1 cF1 Rv1,ρ (.tmp 94)= .tuple #[.agg #[.slice (some ⟨gO1,0,none⟩) m cO1, .slice AL1 nL1 cL1, .slice (some ⟨gD1,0,none⟩) m cD1, .slice (some ⟨gT1,0,none⟩) m cT1, .slice (some ⟨gF1,0,none⟩) m cF1], .int .i64 (lenC m g []:Nat), .int .i64 0]/\GngR w w5.heap.size m (calmG m g []) L ⟨gO1,cO1, .slice AL1 nL1 cL1,gD1,cD1,gT1,cT1,gF1,cF1,Rv1⟩:=hd ⟨4, .data⟩ (by simp) (by rfl) (by decide)
        obtain⟨gO1,cO1,AL1,nL1,cL1,gD1,cD1,gT1,cT1,gF1,cF1,Rv1,e,hr⟩:=f4;exact fx_val hK hρ _ (by simp[execOp,e,go_sem]) ⟨_,_,_,_,_,_,_,_,_,_,_,_,rfl,hr⟩
      | 6, _, _, ho =>
        have hoo:=Option.some.inj ho;subst hoo;have f5: ∃gO1 cO1 AL1 nL1 cL1 gD1 cD1 gT1 cT1 gF1 cF1 Rv1,ρ (.tmp 89)= .tuple #[.agg #[.slice (some ⟨gO1,0,none⟩) m cO1, .slice AL1 nL1 cL1, .slice (some ⟨gD1,0,none⟩) m cD1, .slice (some ⟨gT1,0,none⟩) m cT1, .slice (some ⟨gF1,0,none⟩) m cF1], .int .i64 (lenC m g []:Nat), .int .i64 0]/\GngR w w5.heap.size m (calmG m g []) L ⟨gO1,cO1, .slice AL1 nL1 cL1,gD1,cD1,gT1,cT1,gF1,cF1,Rv1⟩:=hd ⟨5, .data⟩ (by simp) (by rfl) (by decide)
        obtain⟨gO1,cO1,AL1,nL1,cL1,gD1,cD1,gT1,cT1,gF1,cF1,Rv1,e,hr⟩:=f5;exact fx_val hK hρ (.agg #[.slice (some ⟨gO1,0,none⟩) m cO1, .slice AL1 nL1 cL1, .slice (some ⟨gD1,0,none⟩) m cD1, .slice (some ⟨gT1,0,none⟩) m cT1, .slice (some ⟨gF1,0,none⟩) m cF1]) (by simp[execOp,e,go_sem]) ⟨_,_,_,_,_,_,_,_,_,_,_,_,rfl,hr⟩
      |7,_,hkF,_=>exact absurd (by decide) hkF
      |8,_,hkF,_=>exact absurd (by decide) hkF
      | 9, _, _, ho =>
        have hoo:=Option.some.inj ho;subst hoo;exact fx_make hK hρ (.pointer (some ⟨w.heap.size,0,none⟩)) (w.alloc (.cells #[.slice none 0 0, .slice none 0 0, .slice none 0 0, .slice none 0 0, .slice none 0 0] 41)) (by simp[execOp,go_sem]) ⟨w.heap.size,rfl,hI.size,RowV.new w _ _⟩ (below_alloc _)
      |kq+10,h,_,_=>exact absurd h (by omega)
    case hloose=>
      intro kq o hkF ho ρ w hA hd;simp only[List.mem_cons,List.not_mem_nil,or_false]at hkF;rcases hkF with rfl|rfl
      · have hoo:=Option.some.inj ho;subst hoo;have f7: ∃w,∃gO1 cO1 AL1 nL1 cL1 gD1 cD1 gT1 cT1 gF1 cF1 Rv1,ρ (.tmp 89)= .tuple #[.agg #[.slice (some ⟨gO1,0,none⟩) m cO1, .slice AL1 nL1 cL1, .slice (some ⟨gD1,0,none⟩) m cD1, .slice (some ⟨gT1,0,none⟩) m cT1, .slice (some ⟨gF1,0,none⟩) m cF1], .int .i64 (lenC m g []:Nat), .int .i64 0]/\GngR w w5.heap.size m (calmG m g []) L ⟨gO1,cO1, .slice AL1 nL1 cL1,gD1,cD1,gT1,cT1,gF1,cF1,Rv1⟩:=hd ⟨5, .data⟩ (by simp) (by rfl) (by decide)
        obtain⟨w7,gO1,cO1,AL1,nL1,cL1,gD1,cD1,gT1,cT1,gF1,cF1,Rv1,e,_⟩:=f7;exact⟨.int .i64 (lenC m g []:Nat),by simp[execOp,e,go_sem],⟨fun _=>rfl,fun q=>absurd q (by decide)⟩⟩
      · have hoo:=Option.some.inj ho;subst hoo;have f7: ∃w,∃gO1 cO1 AL1 nL1 cL1 gD1 cD1 gT1 cT1 gF1 cF1 Rv1,ρ (.tmp 89)= .tuple #[.agg #[.slice (some ⟨gO1,0,none⟩) m cO1, .slice AL1 nL1 cL1, .slice (some ⟨gD1,0,none⟩) m cD1, .slice (some ⟨gT1,0,none⟩) m cT1, .slice (some ⟨gF1,0,none⟩) m cF1], .int .i64 (lenC m g []:Nat), .int .i64 0]/\GngR w w5.heap.size m (calmG m g []) L ⟨gO1,cO1, .slice AL1 nL1 cL1,gD1,cD1,gT1,cT1,gF1,cF1,Rv1⟩:=hd ⟨5, .data⟩ (by simp) (by rfl) (by decide)
        obtain⟨w7,gO1,cO1,AL1,nL1,cL1,gD1,cD1,gT1,cT1,gF1,cF1,Rv1,e,_⟩:=f7;exact⟨.int .i64 0,by simp[execOp,e,go_sem],⟨fun q=>absurd q (by decide),fun _=>rfl⟩⟩
    case hmid=>
      intro vals w hI hF;obtain⟨gO1,cO1,AL1,nL1,cL1,gD1,cD1,gT1,cT1,gF1,cF1,Rv1,e0,hr⟩:=hF 6 (by decide) (by decide)
      obtain⟨p,ep,hp,hrow⟩:=hF 9 (by decide) (by decide)
      exact⟨Nat.le_refl _,by decide,_,_,_,_,_,_,_,_,_,_,_,_,p,ep,hp,hp,hI,hr,fun _=>⟨e0,hrow⟩,fun h=>absurd h (by decide),fun h=>absurd h (by decide),fun h=>absurd h (by decide)⟩
    case htail=>
      intro t o htm ho a1 w hA hT hL K hK;have htl:t<13:=(Array.getElem?_eq_some_iff.1 ho).1
      obtain⟨ρ,hρ⟩: ∃ρ,a1.eval=ρ:=⟨_,rfl⟩;rw[hρ]at hA
      try rw[hρ]at hL
      obtain rfl|rfl|rfl:t=10\/t=11\/t=12:=by omega
      · have hoo:=Option.some.inj ho;subst hoo;obtain⟨t1,t2,gO1,cO1,AL1,nL1,cL1,gD1,cD1,gT1,cT1,gF1,cF1,Rv1,p,ep,hp,hp2,hbl,hr,h0,h1,h2,h3⟩:=hT;simp only[hρ]at ep;obtain⟨e0,hrow⟩:=h0 (by first|rfl|trivial|decide)
        simp only[hρ]at e0;have y0:=hrow.cell (j:=0) rfl;have z0:=hrow.frozen 0;have y1:=hrow.cell (j:=1) rfl;have z1:=hrow.frozen 1;have y2:=hrow.cell (j:=2) rfl;have z2:=hrow.frozen 2;have y3:=hrow.cell (j:=3) rfl;have z3:=hrow.frozen 3;have y4:=hrow.cell (j:=4) rfl;have z4:=hrow.frozen 4;unfold Oper.wp;rw[show(execOp a1.eval _).run Tryz.prog w= .ok .skip (set5 w p (.slice (some ⟨gO1,0,none⟩) m cO1) (.slice AL1 nL1 cL1) (.slice (some ⟨gD1,0,none⟩) m cD1) (.slice (some ⟨gT1,0,none⟩) m cT1) (.slice (some ⟨gF1,0,none⟩) m cF1))from by rw[hρ];unfold set5;simp[execOp,ep,e0,y0,y1,y2,y3,y4,z0,z1,z2,z3,z4,go_sem],Oper.upon_skip]
        refine hK undef _ ⟨by decide,by decide,_,_,_,_,_,_,_,_,_,_,_,_,p,?_,hp,hp2,set5_bel hbl hp2 _ _ _ _ _,set5_gng hr hrow _ _ _ _ _,fun h=>absurd h (by decide),fun _=>set5_row hrow _ _ _ _ _,fun h=>absurd h (by decide),fun h=>absurd h (by decide)⟩
        simp only[reduceCtorEq,if_false,hρ];exact ep
      · have hoo:=Option.some.inj ho;subst hoo;obtain⟨t1,t2,gO1,cO1,AL1,nL1,cL1,gD1,cD1,gT1,cT1,gF1,cF1,Rv1,p,ep,hp,hp2,hbl,hr,h0,h1,h2,h3⟩:=hT;simp only[hρ]at ep;have hq:ρ (.tmp 96)= .int .i64 (lenC m g []:Nat):=(hL ⟨7, .data⟩ (by simp) (by rfl) (by simp)).1 rfl
        unfold Oper.wp;rw[show(execOp a1.eval _).run Tryz.prog w= .ok (.value (.int .i64 (lenC m g []:Nat))) (w)from by rw[hρ];simp[execOp,hq,go_sem],Oper.upon_value]
        refine hK _ _ ⟨by decide,by decide,_,_,_,_,_,_,_,_,_,_,_,_,p,?_,hp,hp2,hbl,hr,fun h=>absurd h (by decide),fun _=>h1 (by decide),fun _=> ?_,fun h=>absurd h (by decide)⟩
        · simp only[Option.some.injEq,Nat.reduceEqDiff,if_false,hρ];exact ep
        · simp
      · have hoo:=Option.some.inj ho;subst hoo;obtain⟨t1,t2,gO1,cO1,AL1,nL1,cL1,gD1,cD1,gT1,cT1,gF1,cF1,Rv1,p,ep,hp,hp2,hbl,hr,h0,h1,h2,h3⟩:=hT;simp only[hρ]at ep;have hq:ρ (.tmp 97)= .int .i64 0:=(hL ⟨8, .data⟩ (by simp) (by rfl) (by simp)).2 rfl
        have hn:=h2 (by decide)
        simp only[hρ]at hn;unfold Oper.wp;rw[show(execOp a1.eval _).run Tryz.prog w= .ok (.value (.int .i64 0)) (w)from by rw[hρ];simp[execOp,hq,go_sem],Oper.upon_value]
        refine hK _ _ ⟨by decide,by decide,_,_,_,_,_,_,_,_,_,_,_,_,p,?_,hp,hp2,hbl,hr,fun h=>absurd h (by decide),fun _=>h1 (by decide),fun _=> ?_,fun _=> ?_⟩
        · simp only[Option.some.injEq,Nat.reduceEqDiff,if_false,hρ];exact ep
        · simp only[Option.some.injEq,Nat.reduceEqDiff,if_false,hρ];exact hn
        · simp
    case hcon=>
      intro t f g w h hT;obtain⟨t1,t2,gO1,cO1,AL1,nL1,cL1,gD1,cD1,gT1,cT1,gF1,cF1,Rv1,p,ep,hp,hp2,hbl,hr,h0,h1,h2,h3⟩:=hT;have qa:=h 9 (by omega) (by simp)
      have qb:=h 6 (by omega) (by simp)
      simp only[List.getD_cons_zero,List.getD_cons_succ]at qa qb;refine⟨t1,t2,_,_,_,_,_,_,_,_,_,_,_,_,p,qa▸ep,hp,hp2,hbl,hr,fun e=>⟨qb▸(h0 e).1,(h0 e).2⟩,h1,fun e=> ?_,fun e=> ?_⟩
      · have qc:=h 11 (by omega) (by simp)
        simp only[List.getD_cons_zero,List.getD_cons_succ]at qc;exact qc▸h2 e
      · have qc:=h 12 (by omega) (by simp)
        simp only[List.getD_cons_zero,List.getD_cons_succ]at qc;exact qc▸h3 e
    case hend=>
      intro vals8 w9 hT;obtain⟨_,_,gO8,cO8,AL8,nL8,cL8,gD8,cD8,gT8,cT8,gF8,cF8,Rv8,p8,ep,hp,_,hbl,hr,_,h1,h2,h3⟩:=hT;have hrow:=h1 (by decide)
      have en:=h2 (by decide)
      have er:=h3 rfl;have hC:=HOK.out.calmed H0.out ([]:List Int);have hS:=calm_spec (picks:=([]:List Int)) HOK.out H0.out;obtain⟨g8,hg8⟩: ∃x,x=calmG m g ([]:List Int):=⟨_,rfl⟩;obtain⟨n8,hn8⟩: ∃x,x=lenC m g ([]:List Int):=⟨_,rfl⟩;rw[<-hg8]at hr hC hS;rw[<-hn8]at hS en;have HN8:=Lib.hid (show wantsG m g8= []/\n8<=m * (m * (4 * m+4)+4 * m)from⟨hS.1,hS.2.2.1⟩)
      have HDG:=Lib.hid (HDG.out.next hbl);have HGR:=Lib.hid (HGR.out.below hbl);have HT:=Lib.hid (HT.out.via hbl);have HBX7:=Lib.hid (HBX7.out.below hbl HBX7.out.lt);have HBX8:=Lib.hid hrow;have HOK8:=Lib.hid hC.1;have HR7:=Lib.hid (HR7.out.below hbl);have HR8:=Lib.hid hr;have hq7:=quiet_spec HOK7.out HN7.out.1;have hq8:=quiet_spec HOK8.out HN8.out.1;have hbb:((n7:Int)<=8 * (m:Int) * (m:Int) * ((m:Int)+1))/\((n8:Int)<=8 * (m:Int) * (m:Int) * ((m:Int)+1)):=by
        have h1:=calm_most HFO.out.2.2.1;have h2:=Nat.le_trans HN7.out.2 h1;have h3:=Nat.le_trans HN8.out.2 h1;exact⟨by exact_mod_cast h2,by exact_mod_cast h3⟩
      have hMM:=most_wrap HFO.out.2.2.1 HFO.out.2.2.2.1;obtain⟨M,hMe⟩: ∃M,M=8 * (m:Int) * (m:Int) * ((m:Int)+1):=⟨_,rfl⟩;rw[<-hMe]at hbb hMM;obtain⟨hwM,hM4⟩:=hMM;have hd8:decide ((n8:Int)<=M)=true:=decide_eq_true hbb.2;obtain⟨hwS,hd7⟩:=most_sum hbb.1 hM4 l5;clear hMe hbb;clear hC hS hn8 hg8 hr hrow hbl HR HBX HOK H0 HPK;simp only[fillA,fillL,List.contains_cons,List.contains_nil,Nat.reduceBEq,Bool.or_false,Bool.false_or,Bool.or_true,Bool.true_or,cond_true,cond_false,Nat.zero_add,Nat.reduceAdd,ep,en,er];have BZ:=Lib.hid (Below.refl w9.heap.size w9);have p0:=(HDG.out.next BZ.out).p0;have p1:=(HDG.out.next BZ.out).p1;have r:=HBX7.out.below BZ.out HBX7.out.lt;have a0:=r.cell (j:=0) rfl;have a1:=r.cell (j:=1) rfl;have a2:=r.cell (j:=2) rfl;have a3:=r.cell (j:=3) rfl;have a4:=r.cell (j:=4) rfl;clear r;have r:=HBX8.out.below BZ.out HBX8.out.lt;have b0:=r.cell (j:=0) rfl;have b1:=r.cell (j:=1) rfl;have b2:=r.cell (j:=2) rfl;have b3:=r.cell (j:=3) rfl;have b4:=r.cell (j:=4) rfl;clear r;go_wp2_with fail;refine(wants_nil _ HOK7.out (HR7.out.below BZ.out) HFO.out.2.2.2.1 (HT.out.via BZ.out) (HGR.out.below BZ.out) HM.out HN7.out.1).mono ?_
      rintro e z1 ⟨⟨A,c,rfl⟩,hb⟩;have BY:=Lib.hid (BZ.out.trans (hb.mono BZ.out.size));clear hb;clear p0 p1 a0 a1 a2 a3 a4 b0 b1 b2 b3 b4;have p0:=(HDG.out.next BY.out).p0;have p1:=(HDG.out.next BY.out).p1;have r:=HBX7.out.below BY.out HBX7.out.lt;have a0:=r.cell (j:=0) rfl;have a1:=r.cell (j:=1) rfl;have a2:=r.cell (j:=2) rfl;have a3:=r.cell (j:=3) rfl;have a4:=r.cell (j:=4) rfl;clear r;have r:=HBX8.out.below BY.out HBX8.out.lt;have b0:=r.cell (j:=0) rfl;have b1:=r.cell (j:=1) rfl;have b2:=r.cell (j:=2) rfl;have b3:=r.cell (j:=3) rfl;have b4:=r.cell (j:=4) rfl;clear r;go_wp2_with fail;refine(wants_nil _ HOK8.out (HR8.out.below BY.out) HFO.out.2.2.2.1 (HT.out.via BY.out) (HGR.out.below BY.out) HM.out HN8.out.1).mono ?_
      rintro e z2 ⟨⟨A,c,rfl⟩,hb⟩;have BA:=Lib.hid (BY.out.trans (hb.mono BY.out.size));clear hb;clear p0 p1 a0 a1 a2 a3 a4 b0 b1 b2 b3 b4;have p0:=(HDG.out.next BA.out).p0;have p1:=(HDG.out.next BA.out).p1;have r:=HBX7.out.below BA.out HBX7.out.lt;have a0:=r.cell (j:=0) rfl;have a1:=r.cell (j:=1) rfl;have a2:=r.cell (j:=2) rfl;have a3:=r.cell (j:=3) rfl;have a4:=r.cell (j:=4) rfl;clear r;have r:=HBX8.out.below BA.out HBX8.out.lt;have b0:=r.cell (j:=0) rfl;have b1:=r.cell (j:=1) rfl;have b2:=r.cell (j:=2) rfl;have b3:=r.cell (j:=3) rfl;have b4:=r.cell (j:=4) rfl;clear r
      by_cases hr7:readyU W.length E g7.O L= []
      · by_cases hr8:readyU W.length E g8.O L= []
        · go_wp2_with fail;refine(ready_nil _ HOK7.out (HR7.out.below BA.out) HFO.out.2.2.2.1 (HGR.out.below BA.out) HM.out hr7).mono ?_
          rintro e z7 ⟨⟨A,c,rfl⟩,hb⟩;have BB:=Lib.hid (BA.out.trans (hb.mono BA.out.size));clear hb;clear p0 p1 a0 a1 a2 a3 a4 b0 b1 b2 b3 b4;have p0:=(HDG.out.next BB.out).p0;have p1:=(HDG.out.next BB.out).p1;have r:=HBX7.out.below BB.out HBX7.out.lt;have a0:=r.cell (j:=0) rfl;have a1:=r.cell (j:=1) rfl;have a2:=r.cell (j:=2) rfl;have a3:=r.cell (j:=3) rfl;have a4:=r.cell (j:=4) rfl;clear r;have r:=HBX8.out.below BB.out HBX8.out.lt;have b0:=r.cell (j:=0) rfl;have b1:=r.cell (j:=1) rfl;have b2:=r.cell (j:=2) rfl;have b3:=r.cell (j:=3) rfl;have b4:=r.cell (j:=4) rfl;clear r;go_wp2_with fail;refine(ready_nil _ HOK8.out (HR8.out.below BB.out) HFO.out.2.2.2.1 (HGR.out.below BB.out) HM.out hr8).mono ?_
          rintro e z8 ⟨⟨A,c,rfl⟩,hb⟩;have BC:=Lib.hid (BB.out.trans (hb.mono BB.out.size));clear hb;clear p0 p1 a0 a1 a2 a3 a4 b0 b1 b2 b3 b4;have p0:=(HDG.out.next BC.out).p0;have p1:=(HDG.out.next BC.out).p1;have r:=HBX7.out.below BC.out HBX7.out.lt;have a0:=r.cell (j:=0) rfl;have a1:=r.cell (j:=1) rfl;have a2:=r.cell (j:=2) rfl;have a3:=r.cell (j:=3) rfl;have a4:=r.cell (j:=4) rfl;clear r;have r:=HBX8.out.below BC.out HBX8.out.lt;have b0:=r.cell (j:=0) rfl;have b1:=r.cell (j:=1) rfl;have b2:=r.cell (j:=2) rfl;have b3:=r.cell (j:=3) rfl;have b4:=r.cell (j:=4) rfl;clear r;go_wp2_with fail;refine(gcheck_any _ HOK7.out (HR7.out.below BC.out) HFO.out.2.2.2.1 (HT.out.via BC.out) (HGR.out.below BC.out) HM.out rfl).mono ?_
          rintro e z9 ⟨rfl,hb⟩;have BD:=Lib.hid (BC.out.trans (hb.mono BC.out.size));clear hb;go_wp2_with fail;go_ret;exact⟨rfl,HDG.out.bel.trans (BD.out.mono HDG.out.bel.size)⟩
        · have hn8:=hq8.2.resolve_left hr8;go_wp2_with fail;refine(ready_nil _ HOK7.out (HR7.out.below BA.out) HFO.out.2.2.2.1 (HGR.out.below BA.out) HM.out hr7).mono ?_
          rintro e z7 ⟨⟨A,c,rfl⟩,hb⟩;have BB:=Lib.hid (BA.out.trans (hb.mono BA.out.size));clear hb;clear p0 p1 a0 a1 a2 a3 a4 b0 b1 b2 b3 b4;have p0:=(HDG.out.next BB.out).p0;have p1:=(HDG.out.next BB.out).p1;have r:=HBX7.out.below BB.out HBX7.out.lt;have a0:=r.cell (j:=0) rfl;have a1:=r.cell (j:=1) rfl;have a2:=r.cell (j:=2) rfl;have a3:=r.cell (j:=3) rfl;have a4:=r.cell (j:=4) rfl;clear r;have r:=HBX8.out.below BB.out HBX8.out.lt;have b0:=r.cell (j:=0) rfl;have b1:=r.cell (j:=1) rfl;have b2:=r.cell (j:=2) rfl;have b3:=r.cell (j:=3) rfl;have b4:=r.cell (j:=4) rfl;clear r;go_wp2_with fail;refine(ready_any _ HOK8.out (HR8.out.below BB.out) HFO.out.2.2.2.1 (HGR.out.below BB.out) HM.out hr8).mono ?_
          rintro e z8 ⟨⟨A,c,k8,hk8,rfl⟩,hb⟩;have hk8a:decide (k8=0)=false:=decide_eq_false hk8;have hk8b:((k8:Int)==0)=false:=by simpa using hk8
          have BC:=Lib.hid (BB.out.trans (hb.mono BB.out.size));clear hb;clear p0 p1 a0 a1 a2 a3 a4 b0 b1 b2 b3 b4;have p0:=(HDG.out.next BC.out).p0;have p1:=(HDG.out.next BC.out).p1;have r:=HBX7.out.below BC.out HBX7.out.lt;have a0:=r.cell (j:=0) rfl;have a1:=r.cell (j:=1) rfl;have a2:=r.cell (j:=2) rfl;have a3:=r.cell (j:=3) rfl;have a4:=r.cell (j:=4) rfl;clear r;have r:=HBX8.out.below BC.out HBX8.out.lt;have b0:=r.cell (j:=0) rfl;have b1:=r.cell (j:=1) rfl;have b2:=r.cell (j:=2) rfl;have b3:=r.cell (j:=3) rfl;have b4:=r.cell (j:=4) rfl;clear r;go_wp2_with fail;refine(idle_no _ HOK8.out (HR8.out.below BC.out) HFO.out.2.2.2.1 hn8).mono ?_
          rintro e z8' ⟨rfl,hww⟩;replace hww:=hww.symm;subst hww;go_wp2_with fail;refine(gcheck_any _ HOK7.out (HR7.out.below BC.out) HFO.out.2.2.2.1 (HT.out.via BC.out) (HGR.out.below BC.out) HM.out rfl).mono ?_
          rintro e z9 ⟨rfl,hb⟩;have BD:=Lib.hid (BC.out.trans (hb.mono BC.out.size));clear hb;go_wp2_with fail;go_ret;exact⟨rfl,HDG.out.bel.trans (BD.out.mono HDG.out.bel.size)⟩
      · have hn7:=hq7.2.resolve_left hr7
        by_cases hr8:readyU W.length E g8.O L= []
        · go_wp2_with fail;refine(ready_any _ HOK7.out (HR7.out.below BA.out) HFO.out.2.2.2.1 (HGR.out.below BA.out) HM.out hr7).mono ?_
          rintro e z7 ⟨⟨A,c,k7,hk7,rfl⟩,hb⟩;have hk7a:decide (k7=0)=false:=decide_eq_false hk7;have hk7b:((k7:Int)==0)=false:=by simpa using hk7
          have BB:=Lib.hid (BA.out.trans (hb.mono BA.out.size));clear hb;clear p0 p1 a0 a1 a2 a3 a4 b0 b1 b2 b3 b4;have p0:=(HDG.out.next BB.out).p0;have p1:=(HDG.out.next BB.out).p1;have r:=HBX7.out.below BB.out HBX7.out.lt;have a0:=r.cell (j:=0) rfl;have a1:=r.cell (j:=1) rfl;have a2:=r.cell (j:=2) rfl;have a3:=r.cell (j:=3) rfl;have a4:=r.cell (j:=4) rfl;clear r;have r:=HBX8.out.below BB.out HBX8.out.lt;have b0:=r.cell (j:=0) rfl;have b1:=r.cell (j:=1) rfl;have b2:=r.cell (j:=2) rfl;have b3:=r.cell (j:=3) rfl;have b4:=r.cell (j:=4) rfl;clear r;go_wp2_with fail;refine(idle_no _ HOK7.out (HR7.out.below BB.out) HFO.out.2.2.2.1 hn7).mono ?_
          rintro e z7' ⟨rfl,hww⟩;replace hww:=hww.symm;subst hww;go_wp2_with fail;refine(ready_nil _ HOK8.out (HR8.out.below BB.out) HFO.out.2.2.2.1 (HGR.out.below BB.out) HM.out hr8).mono ?_
          rintro e z8 ⟨⟨A,c,rfl⟩,hb⟩;have BC:=Lib.hid (BB.out.trans (hb.mono BB.out.size));clear hb;clear p0 p1 a0 a1 a2 a3 a4 b0 b1 b2 b3 b4;have p0:=(HDG.out.next BC.out).p0;have p1:=(HDG.out.next BC.out).p1;have r:=HBX7.out.below BC.out HBX7.out.lt;have a0:=r.cell (j:=0) rfl;have a1:=r.cell (j:=1) rfl;have a2:=r.cell (j:=2) rfl;have a3:=r.cell (j:=3) rfl;have a4:=r.cell (j:=4) rfl;clear r;have r:=HBX8.out.below BC.out HBX8.out.lt;have b0:=r.cell (j:=0) rfl;have b1:=r.cell (j:=1) rfl;have b2:=r.cell (j:=2) rfl;have b3:=r.cell (j:=3) rfl;have b4:=r.cell (j:=4) rfl;clear r;go_wp2_with fail;refine(gcheck_any _ HOK7.out (HR7.out.below BC.out) HFO.out.2.2.2.1 (HT.out.via BC.out) (HGR.out.below BC.out) HM.out rfl).mono ?_
          rintro e z9 ⟨rfl,hb⟩;have BD:=Lib.hid (BC.out.trans (hb.mono BC.out.size));clear hb;go_wp2_with fail;go_ret;exact⟨rfl,HDG.out.bel.trans (BD.out.mono HDG.out.bel.size)⟩
        · have hn8:=hq8.2.resolve_left hr8;go_wp2_with fail;refine(ready_any _ HOK7.out (HR7.out.below BA.out) HFO.out.2.2.2.1 (HGR.out.below BA.out) HM.out hr7).mono ?_
          rintro e z7 ⟨⟨A,c,k7,hk7,rfl⟩,hb⟩;have hk7a:decide (k7=0)=false:=decide_eq_false hk7;have hk7b:((k7:Int)==0)=false:=by simpa using hk7
          have BB:=Lib.hid (BA.out.trans (hb.mono BA.out.size));clear hb;clear p0 p1 a0 a1 a2 a3 a4 b0 b1 b2 b3 b4;have p0:=(HDG.out.next BB.out).p0;have p1:=(HDG.out.next BB.out).p1;have r:=HBX7.out.below BB.out HBX7.out.lt;have a0:=r.cell (j:=0) rfl;have a1:=r.cell (j:=1) rfl;have a2:=r.cell (j:=2) rfl;have a3:=r.cell (j:=3) rfl;have a4:=r.cell (j:=4) rfl;clear r;have r:=HBX8.out.below BB.out HBX8.out.lt;have b0:=r.cell (j:=0) rfl;have b1:=r.cell (j:=1) rfl;have b2:=r.cell (j:=2) rfl;have b3:=r.cell (j:=3) rfl;have b4:=r.cell (j:=4) rfl;clear r;go_wp2_with fail;refine(idle_no _ HOK7.out (HR7.out.below BB.out) HFO.out.2.2.2.1 hn7).mono ?_
          rintro e z7' ⟨rfl,hww⟩;replace hww:=hww.symm;subst hww;go_wp2_with fail;refine(ready_any _ HOK8.out (HR8.out.below BB.out) HFO.out.2.2.2.1 (HGR.out.below BB.out) HM.out hr8).mono ?_
          rintro e z8 ⟨⟨A,c,k8,hk8,rfl⟩,hb⟩;have hk8a:decide (k8=0)=false:=decide_eq_false hk8;have hk8b:((k8:Int)==0)=false:=by simpa using hk8
          have BC:=Lib.hid (BB.out.trans (hb.mono BB.out.size));clear hb;clear p0 p1 a0 a1 a2 a3 a4 b0 b1 b2 b3 b4;have p0:=(HDG.out.next BC.out).p0;have p1:=(HDG.out.next BC.out).p1;have r:=HBX7.out.below BC.out HBX7.out.lt;have a0:=r.cell (j:=0) rfl;have a1:=r.cell (j:=1) rfl;have a2:=r.cell (j:=2) rfl;have a3:=r.cell (j:=3) rfl;have a4:=r.cell (j:=4) rfl;clear r;have r:=HBX8.out.below BC.out HBX8.out.lt;have b0:=r.cell (j:=0) rfl;have b1:=r.cell (j:=1) rfl;have b2:=r.cell (j:=2) rfl;have b3:=r.cell (j:=3) rfl;have b4:=r.cell (j:=4) rfl;clear r;go_wp2_with fail;refine(idle_no _ HOK8.out (HR8.out.below BC.out) HFO.out.2.2.2.1 hn8).mono ?_
          rintro e z8' ⟨rfl,hww⟩;replace hww:=hww.symm;subst hww;go_wp2_with fail;refine(gcheck_any _ HOK7.out (HR7.out.below BC.out) HFO.out.2.2.2.1 (HT.out.via BC.out) (HGR.out.below BC.out) HM.out rfl).mono ?_
          rintro e z9 ⟨rfl,hb⟩;have BD:=Lib.hid (BC.out.trans (hb.mono BC.out.size));clear hb;go_wp2_with fail;go_ret;exact⟨rfl,HDG.out.bel.trans (BD.out.mono HDG.out.bel.size)⟩
end
section
variable {AW FE AP N AM: Option Addr} {nW cW mE dE nP cP nn nc nM cM: Nat} {W need picks more: List Int} {E: List (Int × Int)}
theorem walk_StealCalm(w0:World)(hT:Tab64 w0)(hg:InG w0 AW nW cW FE mE dE W E)(hs:InNL w0 N nn nc need)(cores:Int)(hc: -9223372036854775808<=cores/\cores<=9223372036854775807)(hp:InNL w0 AP nP cP picks)(hq:InNL w0 AM nM cM more)(tk:Int)(ht:(Lit.int .u8 tk).wf=true):
  Calls Tryz.prog 4 #[.agg #[.slice AW nW cW,.slice FE mE dE],.slice N nn nc,.int .i64 cores,.slice AP nP cP,.slice AM nM cM,.int .u8 tk] w0 fun e w'=>e= .returned (.bool true)/\Below w0.heap.size w0 w':=by
 by_cases h:(((nW<=70/\mE<=300)/\nn<=70/\litVs 300 need=true)/\nP<=300/\nM<=300)
 ·have hG:=hg.isG hT h.1.1.1 h.1.1.2
  by_cases hk:newE W E need cores=0
  ·obtain ⟨m,rfl⟩: ∃ k: Nat,cores = k:=⟨cores.toNat,by have:=(newE_zero.mp hk).2.2.2.1; omega⟩
   have htb:0<=tk/\tk<=255:=by
    have e1:IntKind.u8.min=0:=by decide
    have e2:IntKind.u8.max=255:=by decide
    simp[Lit.wf,e1,e2]at ht;omega
   exact scalm_good w0 tk htb hG hs hp hq h.1.1.1 h.1.1.2 h.1.2.1 h.1.2.2 h.2.1 h.2.2 hk
  ·exact scalm_bad w0 cores _ tk hG hs h.1.1.1 h.1.1.2 h.1.2.1 h.1.2.2 h.2.1 h.2.2 rfl hk
 ·exact scalm_many w0 cores tk hT hg hs hp hq h
end
end Go.Proofs.YtngdbbligebcbabGreatDoor
