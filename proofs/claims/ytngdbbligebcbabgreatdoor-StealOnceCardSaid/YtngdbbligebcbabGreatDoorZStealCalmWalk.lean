import Derived.Test.YtngdbbligebcbabGreatDoorZM39
import Derived.Test.YtngdbbligebcbabGreatDoorZM37
import Derived.Test.YtngdbbligebcbabGreatDoorZM34
set_option linter.unusedVariables false
set_option linter.unusedSimpArgs false
namespace Go.Proofs.YtngdbbligebcbabGreatDoor
open Go Go.RowKit
theorem GngR.isC{w:World}{b m:Nat}{g:Gng}{L:List Int}{gO cO:Nat}{AL:Option Addr}{nL cL gD cD gT cT gF cF:Nat}{Rv:Nat->Value}(h:GngR w b m g L ⟨gO,cO,.slice AL nL cL,gD,cD,gT,cT,gF,cF,Rv⟩)(hm:m<=400)(hl:L.length<=400):IsC w (some ⟨gO,0,none⟩) m cO AL nL cL g.O L:=by
 have hL:OwnI w b (.slice AL nL cL) L:=h.left;have hO:OwnI w b (.slice (some ⟨gO,0,none⟩) m cO) g.O:=h.on;have e:=hL.len_eq;obtain⟨A',c',e',_,hn⟩:=hL.sliceO;injection e' with e1 e2 e3;subst e1 e3;obtain⟨_,_,_,hc,_⟩:=hO.blockC;exact⟨h.ol,e,hm,by omega,hO.ints,hL.ints,fun q=>(by cases q),fun q=>by rw[<-e];exact hn q,hc⟩
section
variable {AW FE AP N AM: Option Addr} {nW cW mE dE nP cP nn nc nM cM: Nat} {W need picks more: List Int} {E: List (Int × Int)}
end
section
variable {AW FE AP N AM: Option Addr} {nW cW mE dE nP cP nn nc nM cM: Nat} {W need picks more: List Int} {E: List (Int × Int)}
end
section
variable {w: World} {b m: Nat} {g: Gng} {L: List Int} {gO cO: Nat} {AL: Option Addr} {nL cL gD cD gT cT gF cF: Nat} {Rv: Nat -> Value} {W: List Int} {E: List (Int × Int)} {AW FE: Option Addr} {nW cW mE dE: Nat}
end
section
variable {AW FE AB N AP: Option Addr} {nW cW mE dE nB cB nn nc nP cP m: Nat} {W need bicks picks: List Int} {E: List (Int × Int)}
end
section
variable {AW FE AP N AM: Option Addr} {nW cW mE dE nP cP nn nc nM cM: Nat} {W need picks more: List Int} {E: List (Int × Int)}
end
end Go.Proofs.YtngdbbligebcbabGreatDoor
