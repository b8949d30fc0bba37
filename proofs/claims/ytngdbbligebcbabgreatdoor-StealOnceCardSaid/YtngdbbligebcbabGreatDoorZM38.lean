import Derived.Test.YtngdbbligebcbabGreatDoorZM11
import Derived.Test.YtngdbbligebcbabGreatDoorZM10
import Derived.Test.YtngdbbligebcbabGreatDoorZM36
import Derived.Test.YtngdbbligebcbabGreatDoorZStealAwake
import Derived.Test.YtngdbbligebcbabGreatDoorZM5
set_option linter.unusedVariables false
set_option linter.unusedSimpArgs false
set_option maxRecDepth 100000
set_option maxHeartbeats 4000000
namespace Go.Proofs.YtngdbbligebcbabGreatDoor
open Go.RowKit
section
variable {E: List (Int × Int)} {need: List Int} {cores: Nat} {t: List (List Int)}
theorem ranT_const{x:Int}{a:Nat}: ∀b,a<=b->(∀j,a<=j->j<b->x∉rowT t j)->ranT t x b=ranT t x a
  |0,h,_=>by rw[show a=0 by omega]
  | b + 1, h, hno => by
    rcases Nat.lt_or_ge b a with h1|h1
    · rw[show a=b+1 by omega]
    · rw[ranT_step,List.count_eq_zero.mpr (hno b h1 (by omega)),Nat.add_zero]
      exact ranT_const b h1 fun j h2 h3=>hno j h2 (by omega)
theorem Track.end_{ran lt lc:Nat->Int}(h:Track cores t t.length ran lt lc)(G:Good E need cores t)(hp: ∀z∈need,1<=z){n:Nat}(hx:n<need.length):endV need t (n:Int)=if doneB need ran (n:Int)=true then lt n+1 else -1:=by
 have h0:(0:Int)<=(n:Int):=by omega
 have hx':(n:Int)<need.length:=by omega
 have hov:=h.over (by rw[List.take_length];exact G) hp h0 hx'
 have hpos:=needT_pos hp h0 hx';rw[hov]
 by_cases hd:needT need (n:Int)<=ranT t (n:Int) t.length
 ·rw [if_pos (decide_eq_true hd)]
  obtain⟨k,c,e1,e2,hk,hc,hnum,hlast⟩:=h.last n (by omega)
  have hc1:ranT t (n:Int) t.length=ranT t (n:Int) (k+1):=ranT_const _ (by omega) fun j h1 h2=>hlast j (by omega) h2
  have hmem:(n:Int)∈rowT t k:=by rw[<-hnum];exact num_mem (by rw[G.len hk];exact hc)
  have hcnt:=List.count_pos_iff.mpr hmem;have hst:=ranT_step t (n:Int) k;have hle:=G.ran_le hp h0 hx' (k+1);rw[e1];rw[endV_some (k:=k+1) (by omega) (by omega) (fun j hj=>by
   have:=ranT_mono t (n:Int) (show j<=k by omega)
   omega)]
  omega
 ·rw [if_neg (by simpa using hd)]
  exact endV_none (by omega)
end
section
variable {A: Option Addr} {n c: Nat} {F: Option Addr} {m d: Nat} {W: List Int} {E: List (Int × Int)} {N: Option Addr} {nn nc: Nat} {need: List Int} {T: Option Addr} {tn tc: Nat} {t: List (List Int)}
end
section
variable {A: Option Addr} {n c: Nat} {F: Option Addr} {m d: Nat} {W: List Int} {E: List (Int × Int)} {N: Option Addr} {nn nc: Nat} {need: List Int} {T: Option Addr} {tn tc: Nat} {t: List (List Int)}
end
end Go.Proofs.YtngdbbligebcbabGreatDoor
namespace Go.Proofs.YtngdbbligebcbabGreatDoor
open Go Go.RowKit
def litVs:Int->List Int->Bool
 |_,[]=>true
 |left,z::r=>if z<0 then true else if left<z then false else litVs (left - z) r
theorem little13_any{N:Option Addr}{nn nc:Nat}{need:List Int}(w:World)(hn:need.length=nn)(hl:nn<=400)(hI:Ints w w.heap.size N need):
  Calls Tryz.prog 8 #[.slice N nn nc] w fun e w'=>e= .returned (.bool (litVs 300 need))/\w'=w:=by
 have HI:=Lib.hid hI;have HN:=Lib.hid hn;obtain⟨r,hr⟩: ∃r,r=litVs 300 need:=⟨_,rfl⟩;rw[<-hr];have HR:=Lib.hid hr;clear hI hn hr;go_enter Tryz.func8,Tryz.ntmps8;go_wp2;go_loop [3,4] (fun v i=> ∃(j:Nat) (left:Int),j<=nn/\i= .int .i64 j/\v= .int .i64 left/\0<=left/\left<=300/\Hid (r=litVs left (need.drop j))) (fun _ i=>nn - (intOf i).toNat)
 case atStart=>exact⟨0,300,Nat.zero_le _,rfl,rfl,by decide,by decide,Lib.hid (by rw[HR.out];rfl)⟩
 case round=>
  obtain⟨j,left,hj,rfl,rfl,hl0,hl3,HO⟩:=hrel
  by_cases hlt:j<nn
  ·obtain ⟨bk,off,z,rfl,hbk,hz,d1⟩:=HI.out.at_ (k:=j) (by rw [HN.out]; exact hlt)
   have HZ:Hid (need.drop j=z::need.drop (j+1)):=Lib.hid (by
    rw[List.drop_eq_getElem_cons (by rw[HN.out];exact hlt)]
    congr 1
    rw[List.getElem?_eq_getElem (by rw[HN.out];exact hlt)]at hz
    exact Option.some.inj hz)
   have HS:Hid (r=if z<0 then true else if left<z then false else litVs (left - z) (need.drop (j+1))):=Lib.hid (by rw[HO.out,HZ.out];rfl)
   clear hz hbk HO HZ
   by_cases h0:z<0
   ·obtain rfl: r = true:=by rw [HS.out,if_pos h0]
    have h0a:decide (z<0)=true:=decide_eq_true h0;go_wp2;go_ret;exact⟨rfl,rfl⟩
   have h0a:decide (z<0)=false:=decide_eq_false h0
   by_cases h1:left<z
   ·obtain rfl: r = false:=by rw [HS.out,if_neg h0,if_pos h1]
    have h1a:decide (left<z)=true:=decide_eq_true h1;go_wp2;go_ret;exact⟨rfl,rfl⟩
   have h1a:decide (left<z)=false:=decide_eq_false h1;have HS2:Hid (r=litVs (left - z) (need.drop (j+1))):=Lib.hid (by rw[HS.out,if_neg h0,if_neg h1])
   have hz0:0<=z:=by omega
   have hzl:z<=left:=by omega
   clear h0 h1 HS;go_wp2;go_round
   case rel=>exact⟨j+1,left - z,by omega,by go_num,by go_num,by omega,by omega,HS2⟩
   case measure=>simp[intOf];omega
  ·obtain rfl: nn = j:=by omega
   obtain rfl:r=true:=by rw[HO.out,List.drop_of_length_le (by rw[HN.out];exact Nat.le_refl _)];rfl
   go_wp2;go_ret
   exact⟨rfl,rfl⟩
theorem OwnI.sliceO{w:World}{base:Nat}{v:Value}{zs:List Int}(h:OwnI w base v zs): ∃A c,v= .slice A zs.length c/\Ints w w.heap.size A zs/\(A=none->zs.length=0/\c=0):=by
 obtain⟨A,c,rfl,hI⟩:=h.slice;refine⟨A,c,rfl,hI,fun e=> ?_⟩
 subst e;rcases h.2 with⟨e,h0⟩|⟨g,cap,cur,e,_⟩
 ·injection e with _ e2 e3
  exact⟨e2,e3⟩
 ·injection e with e1 _ _
  cases e1
section
variable {A: Option Addr} {n c: Nat} {F: Option Addr} {m d: Nat} {T: Option Addr} {tn tc: Nat} {r: List (List Int)} {w0 x y: World}
end
structure InNL(w:World)(N:Option Addr)(nn nc:Nat)(need:List Int):Prop where
 hn:need.length=nn
 ln:nn<=9223372036854775807
 ints:Ints w w.heap.size N need
 hN:N=none->nn=0/\nc=0
theorem ints13_any(w:World)(A:Option Addr)(c n:Nat)(zs:List Int)(hn:zs.length=n)(hl:n<=1000)(hI:Ints w w.heap.size A zs)(hA:A=none->n=0/\c=0):
  Calls Tryz.prog 11 #[.slice A n c] w fun e w'=> ∃A' c',e= .returned (.slice A' n c')/\OwnI w' w.heap.size (.slice A' n c') zs/\n<=c'/\(A'=none->n=0/\c'=0)/\Below w.heap.size w w':=by
 subst hn;obtain⟨v',w1,hr,hO,hB⟩:=new_ints8 w 22 A c zs hl hI hA;obtain⟨A',c',rfl,hI',hN⟩:=hO.sliceO;have HO:=Lib.hid hO;have HB:=Lib.hid hB;have HN:=Lib.hid hN;have HC:=Lib.hid hO.capLe;obtain⟨n,hn⟩: ∃n,n=zs.length:=⟨_,rfl⟩;rw[<-hn]at hr hl HO HN HC⊢;clear hI hA hO hB hn hI' hN;go_enter Tryz.func11,Tryz.ntmps11
 go_wp2_with(at_builtin;refine wpList_append_plain rfl _ _ 22 _ _ rfl rfl rfl hr ?_)
 go_ret;exact⟨A',c',rfl,HO.out,HC.out,HN.out,HB.out⟩
end Go.Proofs.YtngdbbligebcbabGreatDoor
