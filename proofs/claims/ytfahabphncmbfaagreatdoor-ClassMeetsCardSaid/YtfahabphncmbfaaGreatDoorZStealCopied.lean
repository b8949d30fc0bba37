import Derived.Test.YtfahabphncmbfaaGreatDoorZQ38
set_option linter.all false
namespace Go.Proofs.YtfahabphncmbfaaGreatDoor
open Go Go.RowKit
theorem OwnI.some_{w:World}{b:Nat}{A:Option Addr}{n c:Nat}{zs:List Int}(h:OwnI w b (.slice A n c) zs)(hn:1<=n):∃g,A=some ⟨g,0,none⟩/\b<=g/\g<w.heap.size:=by
 rcases h.2 with⟨e,q⟩|⟨g',cap,cur,e,hg,hgg,_⟩
 ·injection e with e1 e2 e3
  omega
 ·injection e with e1 e2 e3
  exact⟨g',e1,hg,(Array.getElem?_eq_some_iff.1 hgg).1⟩
theorem OwnI.blk{w:World}{b:Nat}{v:Value}{zs:List Int}(h:OwnI w b v zs){g:Nat}(hg:v.ownBlock=some g):b<=g/\g<w.heap.size:=by
 rcases h.2 with⟨rfl,q⟩|⟨g',cap,cur,rfl,hg',hgg,_⟩
 ·cases hg
 ·injection hg with hg
  subst hg;exact⟨hg',(Array.getElem?_eq_some_iff.1 hgg).1⟩
section
variable {base m: Nat}{g: Gng}{L: List Int}{ad: GAd}{vW vE: Value}
end
end Go.Proofs.YtfahabphncmbfaaGreatDoor
