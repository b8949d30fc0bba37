import Derived.Test.YtfahabphncmbfaaGreatDoorZQ44
set_option linter.all false
namespace Go.Proofs.YtfahabphncmbfaaGreatDoor
open Go Go.RowKit
section
variable {wf w w': World}{gd dA: Nat}{rows: List (Nat × Nat × Gng × List Int × GAd)}
end
section
variable {E: List (Int × Int)}{need: List Int}{cores: Nat}{t: List (List Int)}
theorem Zhi{x:Int}{a:Nat}:∀b,a<=b->(∀j,a<=j->j<b->x∉rowT t j)->ranT t x b=ranT t x a
  |0,h,_=>by rw[show a=0 by omega]
  | b + 1, h, hno => by
    rcases Nat.lt_or_ge b a with h1|h1
    · rw[show a=b+1 by omega]
    · rw[Za0,List.count_eq_zero.mpr (hno b h1 (by omega)),Nat.add_zero];exact Zhi b h1 fun j h2 h3=>hno j h2 (by omega)
theorem Track.end_{ran lt lc:Nat->Int}(h:Track cores t t.length ran lt lc)(G:Good E need cores t)(hp:∀z∈need,1<=z){n:Nat}(hx:n<need.length):endV need t (n:Int)=if ZgJ need ran (n:Int)=true then lt n+1 else -1:=by
 have h0:(0:Int)<=(n:Int):=by omega
 have hx':(n:Int)<need.length:=by omega
 have hov:=h.over (by rw[List.take_length];exact G) hp h0 hx';have hpos:=Zds hp h0 hx';rw[hov];by_cases hd:ZaJ need (n:Int)<=ranT t (n:Int) t.length
 ·rw [Zc (Ze hd)]
  obtain⟨k,c,e1,e2,hk,hc,hnum,hlast⟩:=h.last n (by omega);have hc1:ranT t (n:Int) t.length=ranT t (n:Int) (k+1):=Zhi _ (by omega) fun j h1 h2=>hlast j (by omega) h2;have hmem:(n:Int)∈rowT t k:=by rw[<-hnum];exact ZeU (by rw[G.len hk];exact hc)
  have hcnt:=List.count_pos_iff.mpr hmem;have hst:=Za0 t (n:Int) k;have hle:=G.ran_le hp h0 hx' (k+1);rw[e1];rw[Zge (k:=k+1) (by omega) (by omega) (fun j hj=>by have:=Zbu t (n:Int) (show j<=k by omega);omega)]
  omega
 ·rw [Zb (by simpa using hd)]
  exact ZiS (by omega)
end
section
variable {A: Option Addr}{n c: Nat}{F: Option Addr}{m d: Nat}{W: List Int}{E: List (Int × Int)}{N: Option Addr}{nn nc: Nat}{need: List Int}{T: Option Addr}{tn tc: Nat}{t: List (List Int)}
end
section
variable {A: Option Addr}{n c: Nat}{F: Option Addr}{m d: Nat}{W: List Int}{E: List (Int × Int)}{N: Option Addr}{nn nc: Nat}{need: List Int}{T: Option Addr}{tn tc: Nat}{t: List (List Int)}
end
theorem OwnI.sliceO{w:World}{base:Nat}{v:Value}{zs:List Int}(h:OwnI w base v zs):∃A c,v=.slice A zs.length c/\Ints w w.heap.size A zs/\(A=none->zs.length=0/\c=0):=by
 obtain⟨A,c,rfl,hI⟩:=h.slice;refine⟨A,c,rfl,hI,fun e=> ?_⟩;subst e;rcases h.2 with⟨e,h0⟩|⟨g,cap,cur,e,_⟩
 ·injection e with _ e2 e3
  exact⟨e2,e3⟩
 ·injection e with e1 _ _
  cases e1
section
variable {A: Option Addr}{n c: Nat}{F: Option Addr}{m d: Nat}{T: Option Addr}{tn tc: Nat}{r: List (List Int)}{w0 x y: World}
end
theorem ZnZ{W:List Int}{E:List (Int×Int)}{need picks:List Int}{m:Nat}(h:newE W E need m=0):RunOk W.length E need m (ZdV W.length m E need picks):=by obtain⟨hm,h1,h2,h3,h4⟩:=newE_zero.mp h;exact Zqo hm.fits hm.acyc h2 (by omega) (by omega) h1 hm.nodes picks
end Go.Proofs.YtfahabphncmbfaaGreatDoor
