import Derived.Test.YtngdbbligebcbabGreatDoorZM15
import Derived.Test.YtngdbbligebcbabGreatDoorZM20
import Derived.Deep.CutRange
import Derived.Deep.MidRow
import Derived.Deep.LoopGhost
import Derived.Test.YtngdbbligebcbabGreatDoorZM14
import Derived.Test.YtngdbbligebcbabGreatDoorZM8
set_option linter.unusedVariables false
set_option linter.unusedSimpArgs false
set_option maxHeartbeats 4000000
namespace Go.Proofs.YtngdbbligebcbabGreatDoor
open Go Go.RowKit
structure Kp(bs:List Nat)(w w':World):Prop where
 os:w'.os=w.os
 tape:w'.tape=w.tape
 output:w'.output=w.output
 size:w.heap.size<=w'.heap.size
 block: ∀k,k<w.heap.size->k∉bs->w'.heap[k]? =w.heap[k]?
section
variable {w w' w'': World} {bs: List Nat}
theorem Kp.of_below(h:Below w.heap.size w w')(bs:List Nat):Kp bs w w':=⟨h.os,h.tape,h.output,h.size,fun k hk _=>h.block k hk⟩
theorem Kp.below(h:Kp bs w w'){base:Nat}(hb: ∀b∈bs,base<=b)(hs:base<=w.heap.size):Below base w w':=
 ⟨h.os,h.tape,h.output,h.size,fun k hk=>h.block k (by omega) fun q=>by have:=hb k q;omega⟩
theorem Kp.trans(h:Kp bs w w')(h2:Kp bs w' w''):Kp bs w w'':=
 ⟨h2.os.trans h.os,h2.tape.trans h.tape,h2.output.trans h.output,Nat.le_trans h.size h2.size,fun k hk hn=>(h2.block k (by have:=h.size;omega) hn).trans (h.block k hk hn)⟩
theorem Kp.more{cs:List Nat}(h:Kp bs w w')(hm: ∀b∈bs,b∈cs):Kp cs w w':=⟨h.os,h.tape,h.output,h.size,fun k hk hn=>h.block k hk fun q=>hn (hm k q)⟩
theorem Kp.set(h:Kp bs w w'){b k:Nat}(v:Value)(hb:b∈bs):Kp bs w (w'.setCell ⟨b,k,none⟩ v):=by
 refine⟨?_,?_,?_,?_,fun j hj hn=> ?_⟩
 ·exact((Below.refl 0 w').setCell (p:=⟨b,k,none⟩) (Nat.zero_le b) v).os.trans h.os
 ·exact((Below.refl 0 w').setCell (p:=⟨b,k,none⟩) (Nat.zero_le b) v).tape.trans h.tape
 ·exact((Below.refl 0 w').setCell (p:=⟨b,k,none⟩) (Nat.zero_le b) v).output.trans h.output
 ·exact Nat.le_trans h.size ((Below.refl 0 w').setCell (p:=⟨b,k,none⟩) (Nat.zero_le b) v).size
 ·rw [heap_setCell_other _ _ _ _ (fun q => hn (by rw [q]; exact hb))]
  exact h.block j hj hn
theorem Kp.row(h:Kp bs w w'){g:Nat}{t:TypeId}{vs:List Value}(hr:RowV g t vs w)(hn:g∉bs):RowV g t vs w':=by
 unfold RowV at hr⊢;rw[h.block g (Array.getElem?_eq_some_iff.1 hr).1 hn];exact hr
theorem Kp.own(h:Kp bs w w'){base n s:Nat}{e:TypeId}{v:Value}{xs:List Value}(ho:w.ownsRow base e s v n xs)(hn: ∀b,v.ownBlock=some b->b∉bs):w'.ownsRow base e s v n xs:=by
 refine⟨ho.1,?_⟩
 rcases ho.2 with h0|⟨g,cap,cur,rfl,hg,hgg,rest⟩
 ·exact .inl h0
 ·refine .inr ⟨g,cap,cur,rfl,hg,?_,rest⟩
  rw[h.block g (Array.getElem?_eq_some_iff.1 hgg).1 (hn g rfl)];exact hgg
end
structure IsWk(w:World)(base gw m:Nat)(g:Gng)(L:List Int)(a:GAd)(vW vE:Value):Prop where
 row:RowV gw 73 (gangC m a++ [vW,vE]) w
 hw:base<=gw
 gng:IsGng w base m g L a
section
variable {w w': World} {base gw m: Nat} {g: Gng} {L: List Int} {a: GAd} {vW vE: Value}
theorem IsWk.below(h:IsWk w base gw m g L a vW vE)(hb:Below w.heap.size w w'):IsWk w' base gw m g L a vW vE:=⟨h.row.below hb h.row.lt,h.hw,h.gng.below hb⟩
theorem results_cell1{fn:Func}{p:Tmp}{ty:TypeId}(h:fn.results= #[.cell p ty])(tmps:Array Value)(P:Program)(w:World):
  (results fn tmps).run P w=((asAddr (tmps.getD p undef)).run P w).andThen fun q w₁=>(loadVar ty q).run P w₁:=by
 simp only[results,h];simp[Sem.run_bind,Result.andThen]
theorem ret_tk1{fn:Func}{p:Tmp}(h:fn.results= #[.cell p 65]){tmps:Array Value}{w:World}{q:Nat}{cs:List Value}(hp:tmps.getD p undef= .pointer (some ⟨q,0,none⟩))(h1:RowV q 65 cs w)(l1:cs.length=6):
  (results fn tmps).run Tryz.prog w= .ok (.agg cs.toArray) w:=by
 rw[results_cell1 h,hp];simp[asAddr,load_tk h1 l1,Result.andThen]
theorem st_info:(Tryz.prog.info? 109).map (·.size)=some 1:=by kernel_rfl
theorem fresh_any(x:Int)(w:World):Calls Tryz.prog 119 #[.int .i64 x] w fun e w'=>e= .returned (vT (newTk (decide (x≠0))))/\Below w.heap.size w w':=by
 by_cases h:x=0
 ·have e1: (x != 0) = false:=by simp [h]
  have e2:decide (x≠0)=false:=by simp[h]
  rw[e2];go_enter Tryz.func119,Tryz.ntmps119;go_wp2_with fail;exact bodyPost_ret (ret_tk1 rfl rfl (RowV.new w 65 (cT (newTk false))) rfl) rfl ⟨rfl,below_alloc _⟩
 ·have e1: (x != 0) = true:=by simp [h]
  have e2:decide (x≠0)=true:=by simp[h]
  rw[e2];go_enter Tryz.func119,Tryz.ntmps119;go_wp2_with fail;exact bodyPost_ret (ret_tk1 rfl rfl (RowV.new w 65 (cT (newTk true))) rfl) rfl ⟨rfl,below_alloc _⟩
theorem ret_st1{fn:Func}{p:Tmp}(h:fn.results= #[.cell p 109]){tmps:Array Value}{w:World}{q:Nat}{cs:List Value}(hp:tmps.getD p undef= .pointer (some ⟨q,0,none⟩))(h1:RowV q 109 cs w)(l1:cs.length=1):
  (results fn tmps).run Tryz.prog w= .ok (.agg cs.toArray) w:=by
 rw[results_cell1 h,hp];have:(loadVar 109 ⟨q,0,none⟩).run Tryz.prog w= .ok (.agg cs.toArray) w:=by
  unfold RowV at h1;exact run_loadVar_mid w q 0 109 cs _ (fun j v hj=>by rw[Nat.zero_add];exact RowV.cell h1 hj) Tryz.underlying109 rfl (by rw[l1];exact st_info)
 simp[asAddr,this,Result.andThen]
theorem storeOf_row{c:Nat}(hc:c<m)(h:RowV gw 73 (gangC m a++ [vW,vE]) w):
  Calls Tryz.prog 70 #[.pointer (some ⟨gw,0,none⟩),.int .i64 c] w fun e w'=>e= .returned (.agg #[.pointer (some ⟨a.gD,3 * c,none⟩)])/\Below w.heap.size w w':=by
 have H:=Lib.hid h;have q2:w.cell? ⟨gw,2,none⟩=some (.slice (some ⟨a.gD,0,none⟩) m a.cD):=h.cell rfl
 have e3:c * 3=3 * c:=Nat.mul_comm _ _;have hlt:=h.lt;clear h;go_enter Tryz.func70,Tryz.ntmps70;go_wp2_with fail;exact bodyPost_ret (ret_st1 rfl rfl (RowV.new w 109 [.pointer (some ⟨a.gD,3 * c,none⟩)]) rfl) rfl ⟨rfl,below_alloc _⟩
theorem storeOf_any{c:Nat}(hc:c<m)(h:IsWk w base gw m g L a vW vE):
  Calls Tryz.prog 70 #[.pointer (some ⟨gw,0,none⟩),.int .i64 c] w fun e w'=>e= .returned (.agg #[.pointer (some ⟨a.gD,3 * c,none⟩)])/\Below w.heap.size w w':=storeOf_row hc h.row
end
theorem idx_none(g:Nat)(lb:Array Value)(w:World):Calls Tryz.prog 63 #[.slice none 0 0,.func (.func g) #[] lb] w fun e w'=>e= .returned (.int .i64 (-1))/\w'=w:=by
 go_enter Tryz.func63,Tryz.ntmps63;go_wp2;go_loopw [8] (fun v wr=>v= .int .i64 0/\wr=w) (fun v _=>0)
 case atStart=>exact⟨rfl,rfl⟩
 case round=>
  obtain⟨rfl,rfl⟩:=hrel;go_wp2;go_ret;exact⟨rfl,rfl⟩
theorem del_none(g:Nat)(lb:Array Value)(w:World):Calls Tryz.prog 68 #[.slice none 0 0,.func (.func g) #[] lb] w fun e w'=>e= .returned (.slice none 0 0)/\w'=w:=by
 have C:=Lib.hid (idx_none g lb w);go_enter Tryz.func68,Tryz.ntmps68
 go_wp2_with(go_at_call 63;refine C.out.mono ?_;rintro e w' ⟨rfl,rfl⟩)
 go_ret;exact⟨rfl,rfl⟩
theorem zero_int(w:World):(zeroValue 3).run Tryz.prog w= .ok (.int .i64 0) w:=by
 obtain⟨i0,hi,hz0,hz1,hz2⟩:=int_info1;simp[zeroValue,typeInfo,hi,hz0]
section
variable {w: World} {B: Nat} {A: Option Addr} {n c: Nat} {zs: List Int}
theorem del_own(h:OwnI w B (.slice A n c) zs)(hl:zs.length=n)(hn:n<=1000)(g:Nat)(eg: ∀args w,(callFunc g args).run Tryz.prog w= .ok (.enter g args) w)(p:Int->Bool){q:Nat}{A2:Option Addr}{c2:Nat}{ys:List Int}
  (hc:w.cell? ⟨q,0,none⟩=some (.slice A2 ys.length c2)) (hq:q<w.heap.size) (hqb:(Value.slice A n c).ownBlock≠some q) (hy:Ints w w.heap.size A2 ys) (hyb: ∀b off,A2=some ⟨b,off,none⟩->(Value.slice A n c).ownBlock≠some b)
  (hp: ∀W x,W.cell? ⟨q,0,none⟩=some (.slice A2 ys.length c2)->Ints W w.heap.size A2 ys->Calls Tryz.prog g #[.int .i64 x,.pointer (some ⟨q,0,none⟩)] W fun e w'=>e= .returned (.bool (p x))/\w'=W):
  Calls Tryz.prog 68 #[.slice A n c,.func (.func g) #[] #[.pointer (some ⟨q,0,none⟩)]] w fun e w'=>
   e= .returned (.slice A (zs.filter fun x=> !p x).length c)/\OwnI w' B (.slice A (zs.filter fun x=> !p x).length c) (zs.filter fun x=> !p x)/\ ∀bs:List Nat,(∀b,(Value.slice A n c).ownBlock=some b->b∈bs)->Kp bs w w':=by
 subst hl;rcases h.2 with⟨e,hx⟩|⟨b,cap,cur,e,hb,hbb,hnc,hcm,hcs,ht⟩
 ·injection e with e1 e2 e3
  subst e1 e3;obtain rfl:zs= []:=List.eq_nil_of_length_eq_zero e2;refine(del_none g _ w).mono ?_
  rintro e w' ⟨rfl,rfl⟩;exact⟨rfl,⟨rfl,.inl ⟨rfl,rfl⟩⟩,fun bs _=>Kp.of_below (Below.refl _ _) _⟩
 ·injection e with e1 e2 e3
  subst e1 e3;have hbl:b<w.heap.size:=(Array.getElem?_eq_some_iff.1 hbb).1
  have hqb':q≠b:=fun e=>hqb (by rw[e];rfl)
  have hcur:cur.size=c:=by omega
  have hcell: ∀j (hj:j<zs.length),w.cell? ⟨b,j,none⟩=some (.int .i64 zs[j]):=fun j hj=>by
   rw[cell_of_row _ _ _ _ _ _ hbb];have h1:(cur.toList.take (zs.length * 1))[j]? =(zs.map (Value.int .i64))[j]?:=by rw[ht]
   rw[List.getElem?_take,if_pos (by omega),Array.getElem?_toList,List.getElem?_map,List.getElem?_eq_getElem hj]at h1
   exact h1
  have hH:Sort.Holds (Value.int .i64) w b 0 zs.toArray:=fun j hj=>by
   have hj':j<zs.length:=by simpa using hj
   refine⟨?_,frozen_of_row w b _ _ _ hbb⟩
   rw[Nat.zero_add,hcell j hj'];simp[hj']
  have hat: ∀(W:World) (x:Int),(∀k,k≠b->k<w.heap.size-> ∀i,W.cell? ⟨k,i,none⟩=w.cell? ⟨k,i,none⟩)->Calls Tryz.prog g #[.int .i64 x,.pointer (some ⟨q,0,none⟩)] W fun e w'=>e= .returned (.bool (p x))/\w'=W:=fun W x hW=>
   hp W x ((hW q hqb' hq 0).trans hc) (fun hn=>by
    obtain⟨b2,off,e,hb2,hc2⟩:=hy hn;have hne:b2≠b:=fun e2=>hyb b2 off e (by rw[e2];rfl)
    exact⟨b2,off,e,hb2,fun k hk=>(hW b2 hne hb2 _).trans (hc2 k hk)⟩)
  have C:=Tryz.slices_DeleteFunc (Value.int .i64) (fun _=>rfl) p g #[.pointer (some ⟨q,0,none⟩)] eg 0 zero_int b 0 c zs.toArray w
   (fun W x hW=>(hat W x fun k _ hk i=>hW.cell hk).mono fun e w' h=>⟨h.1,0,h.2⟩)
   (fun m os dk x _ => (hat _ x fun k hk hk2 i => by
    unfold sortWorld;rw[Sort.cell?_grow _ _ _ (by rw[Sort.size_putRow];exact hk2),Sort.cell?_putRow_other _ _ b 0 _ _ (.inl hk)]
    rfl).mono fun e w' h=>⟨h.1,0,h.2⟩) hH (by have:=hcm;simp;unfold maxLen at this;omega) (by simpa using hnc)
  have hsz:zs.toArray.size=zs.length:=by simp
  rw[hsz]at C;refine C.mono ?_
  rintro e w' ⟨rfl,k,rfl⟩;obtain⟨fs,hfs⟩: ∃fs,fs=zs.filter fun x=> !p x:=⟨_,rfl⟩
  have hfl:fs.length<=zs.length:=by rw[hfs];exact List.length_filter_le _ _
  have hfs2:(zs.toArray.toList.filter fun x=> !p x)=fs:=by rw[hfs]
  rw[hfs2];have hgA:(Sort.ahead w k).heap[b]? =some (.cells cur 3 (0,0)):=hbb
  refine⟨rfl,?_,fun bs hbs=>⟨rfl,rfl,rfl,by rw[Sort.size_putRow];exact Nat.le_refl _,fun j hj hjb=> ?_⟩⟩
  ·refine ⟨by rw [List.length_map,Nat.mul_one],.inr ⟨b,c,Sort.putCells (Value.int .i64) 0 (fs ++ List.replicate (zs.length - fs.length) 0).toArray cur,rfl,hb,heap_putRow hgA _,by omega,hcm,by simp [Sort.putCells]; omega,?_⟩⟩
   have h1:=take_putCells (cur:=cur) (zs:=fs++List.replicate (zs.length - fs.length) 0) (by rw[List.length_append,List.length_replicate];omega)
   have h2:=congrArg (List.take fs.length) h1;rw[List.take_take,List.length_append,List.length_replicate,show min fs.length (fs.length+(zs.length - fs.length))=fs.length by omega,List.map_append,List.take_left' (by rw[List.length_map])]at h2
   rw[Nat.mul_one];exact h2
  ·have hjb2: j ≠ b:=fun e => hjb (hbs j (by rw [e]; rfl))
   rw[heap_putRow_other (Sort.ahead w k) hjb2];rfl
end
section
variable {A: Option Addr} {n c: Nat} {R: List Int}
end
theorem RowV.far{g k j:Nat}{t:TypeId}{vs:List Value}{w:World}{v:Value}(h:RowV g t vs w)(hk:g≠k):RowV g t vs (w.setCell ⟨k,j,none⟩ v):=by
 unfold RowV at h⊢;rw[heap_setCell_other _ _ _ _ hk];exact h
section
variable {A: Option Addr} {n c: Nat} {R: List Int}
end
end Go.Proofs.YtngdbbligebcbabGreatDoor
