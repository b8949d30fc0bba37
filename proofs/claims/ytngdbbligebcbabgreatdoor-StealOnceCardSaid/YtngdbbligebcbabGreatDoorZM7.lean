import Derived.Test.YtngdbbligebcbabGreatDoorZM6
import Derived.Test.YtngdbbligebcbabGreatDoorZM1
import Derived.BigRegion
import Derived.StillTailTactics
import Derived.Test.YtngdbbligebcbabGreatDoorZM5
set_option linter.unusedVariables false
namespace Go.Proofs.YtngdbbligebcbabGreatDoor
open Go.RowKit
def EdgesOk(n:Nat)(E:List (Int×Int)):Prop:=Fits n E/\(∀e∈E,e.1≠e.2)/\E.Nodup
theorem edgesOk_snoc{n:Nat}{E:List (Int×Int)}{j:Nat}{e:Int×Int}(h:E[j]? =some e):EdgesOk n (E.take (j+1))↔EdgesOk n (E.take j)/\(0<=e.1/\e.1<n)/\(0<=e.2/\e.2<n)/\e.1≠e.2/\e∉E.take j:=by
 rw[take_snoc' h];unfold EdgesOk Fits;rw[List.nodup_append];constructor
 ·rintro ⟨k1,k2,k3⟩
  have q:=k1 e (by simp)
  refine⟨⟨fun x hx=>k1 x (by simp[hx]),fun x hx=>k2 x (by simp[hx]),k3.1⟩,⟨q.1,q.2.1⟩,q.2.2,k2 e (by simp),fun hm=>k3.2.2 e hm e (by simp) rfl⟩
 ·rintro ⟨⟨k1,k2,k3⟩,q1,q2,q3,q4⟩
  refine⟨fun x hx=> ?_,fun x hx=> ?_,k3,by simp,fun a ha b hb=> ?_⟩
  ·rcases List.mem_append.mp hx with hx | hx
   ·exact k1 x hx
   ·obtain rfl: x = e:=by simpa using hx
    exact⟨q1.1,q1.2,q2.1,q2.2⟩
  ·rcases List.mem_append.mp hx with hx | hx
   ·exact k2 x hx
   ·obtain rfl: x = e:=by simpa using hx
    exact q3
  ·obtain rfl: b = e:=by simpa using hb
   exact fun h=>q4 (h▸ha)
theorem edgesOk_take{n:Nat}{E:List (Int×Int)}(h:EdgesOk n E)(j:Nat):EdgesOk n (E.take j):=
 ⟨fun e he=>h.1 e (List.mem_of_mem_take he),fun e he=>h.2.1 e (List.mem_of_mem_take he),h.2.2.sublist (List.take_sublist j E)⟩
def WorkOk(W:List Int):Prop:=∀ z∈W,0<=z/\z<=1000
open Classical in
noncomputable def plainE (W:List Int) (E:List (Int×Int)):Int:=
 if 64<W.length\/256<E.length then 40 else if¬WorkOk W then 41 else if¬EdgesOk W.length E then 42 else 0
theorem plainE_zero{W:List Int}{E:List (Int×Int)}:plainE W E=0↔(W.length<=64/\E.length<=256)/\WorkOk W/\EdgesOk W.length E:=by
 unfold plainE
 split
 ·constructor
  ·intro h;cases h
  ·rintro⟨h,_⟩;omega
 ·split
  ·constructor
   ·intro h;cases h
   ·rintro⟨_,h,_⟩;contradiction
  ·split
   ·constructor
    ·intro h;cases h
    ·rintro⟨_,_,h⟩;contradiction
   ·rename_i h1 h2 h3
    exact⟨fun _=>⟨by omega,Classical.not_not.mp h2,Classical.not_not.mp h3⟩,fun _=>rfl⟩
theorem plainE_many{W:List Int}{E:List (Int×Int)}(h:64<W.length\/256<E.length):plainE W E=40:=by unfold plainE;rw[if_pos h]
theorem plainE_work{W:List Int}{E:List (Int×Int)}(h: ¬(64<W.length\/256<E.length))(h2: ¬WorkOk W):plainE W E=41:=by unfold plainE;rw[if_neg h,if_pos h2]
theorem plainE_edge{W:List Int}{E:List (Int×Int)}(h: ¬(64<W.length\/256<E.length))(h2:WorkOk W)(h3: ¬EdgesOk W.length E):plainE W E=42:=by unfold plainE;rw[if_neg h,if_neg (fun k=>k h2),if_pos h3]
theorem workOk_snoc{W:List Int}{j:Nat}{z:Int}(h:W[j]? =some z):WorkOk (W.take (j+1))↔WorkOk (W.take j)/\0<=z/\z<=1000:=by
 rw[take_snoc' h];unfold WorkOk;constructor
 ·intro k
  exact⟨fun x hx=>k x (by simp[hx]),k z (by simp)⟩
 ·rintro ⟨k1,k2⟩ x hx
  rcases List.mem_append.mp hx with hx|hx
  ·exact k1 x hx
  ·obtain rfl: x = z:=by simpa using hx
   exact k2
open Classical in
noncomputable def chkE (W:List Int) (E:List (Int×Int)):Int:=if plainE W E≠0 then plainE W E else if Acyc E then 0 else 43
structure May(W:List Int)(E:List (Int×Int)):Prop where
 nodes:W.length<=64
 edges:E.length<=256
 work:WorkOk W
 fits:Fits W.length E
 apart: ∀e∈E,e.1≠e.2
 once:E.Nodup
 acyc:Acyc E
theorem chkE_zero{W:List Int}{E:List (Int×Int)}:chkE W E=0↔May W E:=by
 unfold chkE
 split
 ·rename_i h
  exact⟨fun k=>absurd k h,fun k=>absurd (plainE_zero.mpr ⟨⟨k.nodes,k.edges⟩,k.work,k.fits,k.apart,k.once⟩) h⟩
 ·rename_i h
  have h1:=plainE_zero.mp (Classical.not_not.mp h)
  split
  ·rename_i hA
   exact⟨fun _=>⟨h1.1.1,h1.1.2,h1.2.1,h1.2.2.1,h1.2.2.2.1,h1.2.2.2.2,hA⟩,fun _=>rfl⟩
  ·rename_i hA
   exact⟨fun k=>(by cases k),fun k=>absurd k.acyc hA⟩
theorem chkE_plain{W:List Int}{E:List (Int×Int)}(h:plainE W E≠0):chkE W E=plainE W E:=by unfold chkE;rw[if_pos h]
theorem chkE_round{W:List Int}{E:List (Int×Int)}(h:plainE W E=0)(hA: ¬Acyc E):chkE W E=43:=by unfold chkE;rw[if_neg (fun k=>k h),if_neg hA]
theorem chkE_ok{W:List Int}{E:List (Int×Int)}(h:plainE W E=0)(hA:Acyc E):chkE W E=0:=by unfold chkE;rw[if_neg (fun k=>k h),if_pos hA]
theorem pick_at{n:Nat}{E:List (Int×Int)}{out:List Nat}{i:Nat}(hi:i<n)(h:ready n E out i=true)(hb: ∀m,m<i->ready n E out m=false):pick n E out=some i:=by
 unfold pick;rw[List.find?_range_eq_some]
 exact⟨h,List.mem_range.mpr hi,fun j hj=>by rw[hb j hj];rfl⟩
theorem pick_nil{n:Nat}{E:List (Int×Int)}{out:List Nat}(hb: ∀m,m<n->ready n E out m=false):pick n E out=none:=by
 unfold pick;rw[List.find?_eq_none]
 intro m hm;rw[hb m (List.mem_range.mp hm)];exact Bool.false_ne_true
theorem ordK_some{n:Nat}{E:List (Int×Int)}{k m:Nat}(h:pick n E (ordK n E k)=some m):ordK n E (k+1)=ordK n E k++ [m]:=by
 show(match pick n E (ordK n E k)with|some m=>ordK n E k++ [m]|none=>ordK n E k)=_
 rw[h]
theorem OwnI.block{w:World}{base:Nat}{A:Option Addr}{n c:Nat}{zs:List Int}(h:OwnI w base (.slice A n c) zs)(h0:0<zs.length): ∃g,A=some ⟨g,0,none⟩/\base<=g/\g<w.heap.size:=by
 rcases h.2 with⟨_,hn⟩|⟨g,cap,cur,hv,hg,hgg,_⟩
 ·omega
 ·injection hv with h1 h2 h3
  exact⟨g,h1,hg,(Array.getElem?_eq_some_iff.1 hgg).1⟩
theorem OwnI.len{w:World}{base:Nat}{A:Option Addr}{n c:Nat}{zs:List Int}(h:OwnI w base (.slice A n c) zs):n=zs.length:=by
 rcases h.2 with⟨hv,hn⟩|⟨g,cap,cur,hv,_⟩
 ·injection hv with h1 h2 h3
  omega
 ·injection hv with h1 h2 h3
theorem OwnI.stored{w:World}{base g c n:Nat}{zs:List Int}(h:OwnI w base (.slice (some ⟨g,0,none⟩) n c) zs)(j:Nat)(z:Int):OwnI (w.setCell ⟨g,j,none⟩ (.int .i64 z)) base (.slice (some ⟨g,0,none⟩) n c) (zs.set j z):=by
 obtain rfl:=h.len;have:=World.ownsRow.stored h j (.int .i64 z);unfold OwnI;rw[List.length_set,List.map_set];exact this.1
structure IsG(w:World)(A:Option Addr)(n c:Nat)(F:Option Addr)(m d:Nat)(W:List Int)(E:List (Int×Int)):Prop where
 hn:W.length=n
 hm:E.length=m
 ln:n<=400
 lm:m<=400
 ints:Ints w w.heap.size A W
 pairs:Pairs w w.heap.size F E
 hA:A=none->n=0/\c=0
 hF:F=none->m=0/\d=0
 tab:Tab64 w
theorem IsG.below{w w':World}{A:Option Addr}{n c:Nat}{F:Option Addr}{m d:Nat}{W:List Int}{E:List (Int×Int)}(h:IsG w A n c F m d W E)(hb:Below w.heap.size w w'):IsG w' A n c F m d W E:=
 ⟨h.hn,h.hm,h.ln,h.lm,(h.ints.below hb).more hb.size,(h.pairs.below hb).more hb.size,h.hA,h.hF,h.tab.via hb⟩
theorem OwnI.none_nil{w:World}{b:Nat}{n c:Nat}{zs:List Int}(h:OwnI w b (.slice none n c) zs):n=0/\c=0:=by
 rcases h.2 with⟨hv,hn⟩|⟨g,cap,cur,hv,_⟩
 ·injection hv with _ h1 h2
  exact⟨h1,h2⟩
 ·injection hv with h1
  cases h1
theorem OwnE.none_nil{w:World}{b:Nat}{n c:Nat}{es:List (Int×Int)}(h:OwnE w b (.slice none n c) es):n=0/\c=0:=by
 rcases h.2 with⟨hv,hn⟩|⟨g,cap,cur,hv,_⟩
 ·injection hv with _ h1 h2
  exact⟨h1,h2⟩
 ·injection hv with h1
  cases h1
theorem own_isG{w:World}{b:Nat}{u v:Value}{W:List Int}{E:List (Int×Int)}(ht:Tab64 w)(hu:OwnI w b u W)(hv:OwnE w b v E)(hW:W.length<=400)(hE:E.length<=400):
  ∃A c F d,u= .slice A W.length c/\v= .slice F E.length d/\IsG w A W.length c F E.length d W E:=by
 obtain⟨A,c,rfl,h1⟩:=hu.slice;obtain⟨F,d,rfl,h2⟩:=hv.slice;refine⟨A,c,F,d,rfl,rfl,⟨rfl,rfl,hW,hE,h1,h2,?_,?_,ht⟩⟩
 ·rintro rfl;exact hu.none_nil
 ·rintro rfl;exact hv.none_nil
open Classical in
noncomputable def totalV (W:List Int) (E:List (Int×Int)):Int:=if May W E then W.sum else 0
open Classical in
noncomputable def predsV (W:List Int) (E:List (Int×Int)) (x:Int):List Int:=if May W E then predsL W.length E x else []
open Classical in
noncomputable def succsV (W:List Int) (E:List (Int×Int)) (x:Int):List Int:=if May W E then succsL W.length E x else []
end Go.Proofs.YtngdbbligebcbabGreatDoor
