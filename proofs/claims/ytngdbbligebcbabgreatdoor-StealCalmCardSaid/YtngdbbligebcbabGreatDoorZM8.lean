import Derived.Test.YtngdbbligebcbabGreatDoorChecked
import Derived.WalkKit
import Derived.WalkSmall
import Derived.Below
import Derived.Laws.Rows
import Derived.Laws.OwnMore
import Derived.Laws.MakeOwn
import Derived.Test.YtngdbbligebcbabGreatDoorZM7
import Derived.Test.YtngdbbligebcbabGreatDoorZM1
import Derived.BigRegion
import Derived.StillTailTactics
set_option linter.unusedVariables false
namespace Go.Proofs.YtngdbbligebcbabGreatDoor
open Go.RowKit
def RowV(g:Nat)(t:TypeId)(vs:List Value)(w:World):Prop:=w.heap[g]? =some (.cells vs.toArray t (0,0))
theorem RowV.lt{g:Nat}{t:TypeId}{vs:List Value}{w:World}(h:RowV g t vs w):g<w.heap.size:=(Array.getElem?_eq_some_iff.1 h).1
theorem RowV.new(w:World)(t:TypeId)(vs:List Value):RowV w.heap.size t vs (w.alloc (.cells vs.toArray t)):=heap_alloc_new w _
theorem RowV.cell{g:Nat}{t:TypeId}{vs:List Value}{w:World}(h:RowV g t vs w){j:Nat}{v:Value}(hj:vs[j]? =some v):w.cell? ⟨g,j,none⟩=some v:=by
 rw[cell_of_row _ _ _ _ _ _ h]
 simpa using hj
theorem RowV.frozen{g:Nat}{t:TypeId}{vs:List Value}{w:World}(h:RowV g t vs w)(j:Nat):w.frozen? ⟨g,j,none⟩=false:=frozen_of_row _ _ _ _ _ h
theorem RowV.set{g:Nat}{t:TypeId}{vs:List Value}{w:World}(h:RowV g t vs w)(j:Nat)(v:Value):RowV g t (vs.set j v) (w.setCell ⟨g,j,none⟩ v):=by
 have:=heap_setCell_same w g j _ t v h;unfold RowV;rw[this];simp
theorem RowV.below{g:Nat}{t:TypeId}{vs:List Value}{w w':World}{B:Nat}(h:RowV g t vs w)(hb:Below B w w')(hB:g<B):RowV g t vs w':=by
 unfold RowV;rw[hb.block g hB];exact h
theorem RowV.alloc{g:Nat}{t:TypeId}{vs:List Value}{w:World}(h:RowV g t vs w)(o:Obj):RowV g t vs (w.alloc o):=by
 unfold RowV;rw[Below.heap_alloc w o g h.lt];exact h
def EdgesOk(n:Nat)(E:List (Int×Int)):Prop:=Fits n E/\(∀e∈E,e.1≠e.2)/\E.Nodup
theorem edgesOk_snoc{n:Nat}{E:List (Int×Int)}{j:Nat}{e:Int×Int}(h:E[j]? =some e):EdgesOk n (E.take (j+1))↔EdgesOk n (E.take j)/\(0<=e.1/\e.1<n)/\(0<=e.2/\e.2<n)/\e.1≠e.2/\e∉E.take j:=by
 rw[take_snoc' h];unfold EdgesOk Fits;rw[List.nodup_append];constructor
 ·rintro ⟨k1,k2,k3⟩
  have q:=k1 e (by simp)
  refine⟨⟨fun x hx=>k1 x (by simp[hx]),fun x hx=>k2 x (by simp[hx]),k3.1⟩,⟨q.1,q.2.1⟩,q.2.2,k2 e (by simp),fun hm=>k3.2.2 e hm e (by simp) rfl⟩
 ·rintro ⟨⟨k1,k2,k3⟩,q1,q2,q3,q4⟩
  refine⟨fun x hx=> ?_,fun x hx=> ?_,k3,by simp,fun a ha b hb=> ?_⟩
  ·rcases List.mem_append.mp hx with hx | hx
   ·exact k1 x hx
   ·obtain rfl: x = e:=by simpa using hx
    exact⟨q1.1,q1.2,q2.1,q2.2⟩
  ·rcases List.mem_append.mp hx with hx | hx
   ·exact k2 x hx
   ·obtain rfl: x = e:=by simpa using hx
    exact q3
  ·obtain rfl: b = e:=by simpa using hb
   exact fun h=>q4 (h▸ha)
theorem edgesOk_take{n:Nat}{E:List (Int×Int)}(h:EdgesOk n E)(j:Nat):EdgesOk n (E.take j):=
 ⟨fun e he=>h.1 e (List.mem_of_mem_take he),fun e he=>h.2.1 e (List.mem_of_mem_take he),h.2.2.sublist (List.take_sublist j E)⟩
def WorkOk(W:List Int):Prop:=∀ z∈W,0<=z/\z<=1000
open Classical in
noncomputable def plainE (W:List Int) (E:List (Int×Int)):Int:=
 if 64<W.length\/256<E.length then 40 else if¬WorkOk W then 41 else if¬EdgesOk W.length E then 42 else 0
theorem plainE_zero{W:List Int}{E:List (Int×Int)}:plainE W E=0↔(W.length<=64/\E.length<=256)/\WorkOk W/\EdgesOk W.length E:=by
 unfold plainE
 split
 ·constructor
  ·intro h;cases h
  ·rintro⟨h,_⟩;omega
 ·split
  ·constructor
   ·intro h;cases h
   ·rintro⟨_,h,_⟩;contradiction
  ·split
   ·constructor
    ·intro h;cases h
    ·rintro⟨_,_,h⟩;contradiction
   ·rename_i h1 h2 h3
    exact⟨fun _=>⟨by omega,Classical.not_not.mp h2,Classical.not_not.mp h3⟩,fun _=>rfl⟩
theorem plainE_many{W:List Int}{E:List (Int×Int)}(h:64<W.length\/256<E.length):plainE W E=40:=by unfold plainE;rw[if_pos h]
theorem plainE_work{W:List Int}{E:List (Int×Int)}(h: ¬(64<W.length\/256<E.length))(h2: ¬WorkOk W):plainE W E=41:=by unfold plainE;rw[if_neg h,if_pos h2]
theorem plainE_edge{W:List Int}{E:List (Int×Int)}(h: ¬(64<W.length\/256<E.length))(h2:WorkOk W)(h3: ¬EdgesOk W.length E):plainE W E=42:=by unfold plainE;rw[if_neg h,if_neg (fun k=>k h2),if_pos h3]
theorem workOk_snoc{W:List Int}{j:Nat}{z:Int}(h:W[j]? =some z):WorkOk (W.take (j+1))↔WorkOk (W.take j)/\0<=z/\z<=1000:=by
 rw[take_snoc' h];unfold WorkOk;constructor
 ·intro k
  exact⟨fun x hx=>k x (by simp[hx]),k z (by simp)⟩
 ·rintro ⟨k1,k2⟩ x hx
  rcases List.mem_append.mp hx with hx|hx
  ·exact k1 x hx
  ·obtain rfl: x = z:=by simpa using hx
   exact k2
open Classical in
noncomputable def chkE (W:List Int) (E:List (Int×Int)):Int:=if plainE W E≠0 then plainE W E else if Acyc E then 0 else 43
structure May(W:List Int)(E:List (Int×Int)):Prop where
 nodes:W.length<=64
 edges:E.length<=256
 work:WorkOk W
 fits:Fits W.length E
 apart: ∀e∈E,e.1≠e.2
 once:E.Nodup
 acyc:Acyc E
theorem chkE_zero{W:List Int}{E:List (Int×Int)}:chkE W E=0↔May W E:=by
 unfold chkE
 split
 ·rename_i h
  exact⟨fun k=>absurd k h,fun k=>absurd (plainE_zero.mpr ⟨⟨k.nodes,k.edges⟩,k.work,k.fits,k.apart,k.once⟩) h⟩
 ·rename_i h
  have h1:=plainE_zero.mp (Classical.not_not.mp h)
  split
  ·rename_i hA
   exact⟨fun _=>⟨h1.1.1,h1.1.2,h1.2.1,h1.2.2.1,h1.2.2.2.1,h1.2.2.2.2,hA⟩,fun _=>rfl⟩
  ·rename_i hA
   exact⟨fun k=>(by cases k),fun k=>absurd k.acyc hA⟩
theorem chkE_plain{W:List Int}{E:List (Int×Int)}(h:plainE W E≠0):chkE W E=plainE W E:=by unfold chkE;rw[if_pos h]
theorem chkE_round{W:List Int}{E:List (Int×Int)}(h:plainE W E=0)(hA: ¬Acyc E):chkE W E=43:=by unfold chkE;rw[if_neg (fun k=>k h),if_neg hA]
theorem chkE_ok{W:List Int}{E:List (Int×Int)}(h:plainE W E=0)(hA:Acyc E):chkE W E=0:=by unfold chkE;rw[if_neg (fun k=>k h),if_pos hA]
theorem pick_at{n:Nat}{E:List (Int×Int)}{out:List Nat}{i:Nat}(hi:i<n)(h:ready n E out i=true)(hb: ∀m,m<i->ready n E out m=false):pick n E out=some i:=by
 unfold pick;rw[List.find?_range_eq_some]
 exact⟨h,List.mem_range.mpr hi,fun j hj=>by rw[hb j hj];rfl⟩
theorem pick_nil{n:Nat}{E:List (Int×Int)}{out:List Nat}(hb: ∀m,m<n->ready n E out m=false):pick n E out=none:=by
 unfold pick;rw[List.find?_eq_none]
 intro m hm;rw[hb m (List.mem_range.mp hm)];exact Bool.false_ne_true
theorem ordK_some{n:Nat}{E:List (Int×Int)}{k m:Nat}(h:pick n E (ordK n E k)=some m):ordK n E (k+1)=ordK n E k++ [m]:=by
 show(match pick n E (ordK n E k)with|some m=>ordK n E k++ [m]|none=>ordK n E k)=_
 rw[h]
theorem OwnI.block{w:World}{base:Nat}{A:Option Addr}{n c:Nat}{zs:List Int}(h:OwnI w base (.slice A n c) zs)(h0:0<zs.length): ∃g,A=some ⟨g,0,none⟩/\base<=g/\g<w.heap.size:=by
 rcases h.2 with⟨_,hn⟩|⟨g,cap,cur,hv,hg,hgg,_⟩
 ·omega
 ·injection hv with h1 h2 h3
  exact⟨g,h1,hg,(Array.getElem?_eq_some_iff.1 hgg).1⟩
theorem OwnI.len{w:World}{base:Nat}{A:Option Addr}{n c:Nat}{zs:List Int}(h:OwnI w base (.slice A n c) zs):n=zs.length:=by
 rcases h.2 with⟨hv,hn⟩|⟨g,cap,cur,hv,_⟩
 ·injection hv with h1 h2 h3
  omega
 ·injection hv with h1 h2 h3
theorem OwnI.stored{w:World}{base g c n:Nat}{zs:List Int}(h:OwnI w base (.slice (some ⟨g,0,none⟩) n c) zs)(j:Nat)(z:Int):OwnI (w.setCell ⟨g,j,none⟩ (.int .i64 z)) base (.slice (some ⟨g,0,none⟩) n c) (zs.set j z):=by
 obtain rfl:=h.len;have:=World.ownsRow.stored h j (.int .i64 z);unfold OwnI;rw[List.length_set,List.map_set];exact this.1
end Go.Proofs.YtngdbbligebcbabGreatDoor
