import Derived.Test.YtlfekmbalgkmeaaGreatDoorZM38
import Derived.Test.YtlfekmbalgkmeaaGreatDoorZM30
import Derived.Test.YtlfekmbalgkmeaaGreatDoorZM29
import Derived.Test.YtlfekmbalgkmeaaGreatDoorZM27
set_option linter.unusedSimpArgs false
set_option linter.unnecessarySimpa false
set_option linter.unusedVariables false
namespace Go.Proofs.YtlfekmbalgkmeaaGreatDoor
open Go Go.RowKit
theorem OwnC.lol{w:World}{B j k:Nat}{F:Option Addr}{L:List Value}{C:List (List Int)}(h:OwnC w B (.slice F j k) L)(hL:L.length=j)(hE:EachC w B L C)(hC:C.length=j):Lol w w.heap.size F C/\(F=none->j=0/\k=0):=by
 refine⟨fun hp=> ?_,fun e=> ?_⟩
 ·obtain ⟨g,cap,hv,hc,hlt⟩:=World.ownsRow.form h (by omega)
  injection hv with a1 a2 a3;subst a1;refine⟨g,0,rfl,hlt,fun x r hx=> ?_⟩
  have hxl:x<L.length:=by have:=(List.getElem?_eq_some_iff.1 hx).1;omega
  have hl:L[x]? =some L[x]:=List.getElem?_eq_getElem hxl
  obtain⟨F1,d1,e,hO⟩:=hE x _ r hl hx;obtain⟨A1,c1,e2,hI,hz⟩:=Ints.cap hO;refine⟨A1,c1,?_,hI,hz⟩
  have:=World.ownsRow.cells h (g:=g) rfl x _ hl;rw[e2]at this;rw[addr_add]at this;exact this
 ·subst e
  rcases h.2 with⟨e,h0⟩|⟨g',cap,cur,e,_⟩
  ·injection e with _ e2 e3
   exact⟨by omega,e3⟩
  ·injection e with e1 _ _;cases e1
theorem idx_eqC{ρ:Operand->Value}{o:Oper}{x y:Operand}{lb lo n c k:Nat}{w:World}(ho:o.op= .indexAddr 40 x y)(hx:ρ x= .slice (some ⟨lb,lo,none⟩) n c)(hy:ρ y= .int .i64 (k:Int))(hk:k<n):
  (execOp ρ o).run Tryz.prog w= .ok (.value (.pointer (some ⟨lb,lo+k,none⟩))) w:=by
 have hk2:(k:Int)<(n:Int):=by omega
 simp[execOp,ho,hx,hy,hk2,go_sem]
theorem max_pick(x y:Int):(if x<y then y else x)=max x y:=by split<;>omega
end Go.Proofs.YtlfekmbalgkmeaaGreatDoor
namespace Go.Proofs.YtlfekmbalgkmeaaGreatDoor
theorem touL_rises7{fs:List (Int×Int×Int)}{x:Int}(hn:(fs.map fun f=>f.2).Nodup):(touL fs x).Pairwise fun i j=>(futAt fs i).2.2<(futAt fs j).2.2:=by
 unfold touL;exact touK_rises7 hn 99
theorem nst_eq(fs:List (Int×Int×Int))(x:Nat):nst fs x=(touL fs (x:Int)).length+1:=by unfold nst;rfl
theorem beg_eq{fs:List (Int×Int×Int)}{a mN uN:Nat}{A:Int}(hf:futAt fs a=((mN:Int),(uN:Int),A)):begN fs a=firN fs uN+((touL fs (uN:Int)).idxOf a+1):=by
 unfold begN;rw[hf];show firN fs ((uN:Int)).toNat+(touL fs (uN:Int)).idxOf a+1=_
 rw[Int.toNat_natCast,Nat.add_assoc]
theorem ends_at7{T:Task}{uN j:Nat}(hj:j<(touL T.futures (uN:Int)).length):(endsL T.futures T.parts uN)[j]? =some (futAt T.futures ((touL T.futures (uN:Int))[j])).2.2:=by
 unfold endsL;rw[List.getElem?_append_left (by rw[List.length_map];omega),List.getElem?_map,List.getElem?_eq_getElem hj]
 rfl
end Go.Proofs.YtlfekmbalgkmeaaGreatDoor
