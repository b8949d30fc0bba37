import Derived.Test.YtngdbbligebcbabGreatDoorZM10
import Derived.Test.YtngdbbligebcbabGreatDoorZM13
import Derived.Lib.SliceRun
import Derived.Test.YtngdbbligebcbabGreatDoorZM1
import Derived.Test.YtngdbbligebcbabGreatDoorZM6
import Derived.Test.YtngdbbligebcbabGreatDoorZM5
import Derived.Laws.ResultCell
import Derived.Test.YtngdbbligebcbabGreatDoorZM4
import Derived.Laws.Rows
import Derived.Deep.AppendLies
set_option linter.unusedVariables false
set_option maxRecDepth 100000
set_option maxHeartbeats 4000000
namespace Go.Proofs.YtngdbbligebcbabGreatDoor
open Go Go.RowKit
theorem set_rowO(s:Nat)(w:World)(hs:s<18446744073709551616)(hT:Tab64 w):
  Calls Tryz.prog 105 #[.int .u64 s] w (GotOwn (nums (bitsL s)) w):=by
 have HS:=Lib.hid hs;have HT:=Lib.hid hT;have HLEN:=Lib.hid (bitsL_length s);clear hs hT;go_enter Tryz.func105,Tryz.ntmps105;go_wp2;go_loopw [0,3] (fun sv v wr=> ∃(t k:Nat) (A:Option Addr) (c:Nat) (l:List Nat),sv= .int .u64 t/\t<18446744073709551616/\k<=64/\v= .slice A k c/\Hid (l.length=k)/\Hid (l++bitsL t=bitsL s)/\Hid (OwnI wr w.heap.size (.slice A k c) (nums l))/\Hid (Below w.heap.size w wr)) (fun sv _ _=>(intOf sv).toNat)
 case atStart=>exact⟨s,0,none,0,[],rfl,HS.out,by omega,rfl,Lib.hid rfl,Lib.hid rfl,Lib.hid (ownI_nil _ _),Lib.hid (Below.refl _ _)⟩
 case round=>
  obtain⟨t,k,A,c,l,rfl,ht,hk,rfl,HL,HE,HO,HB⟩:=hrel
  by_cases h0:t=0
  ·subst h0
   have he:l=bitsL s:=by have:=HE.out;rwa [bitsL_zero,List.append_nil]at this
   have HE2:=Lib.hid he;clear he;go_wp2;go_ret;obtain⟨A2,c2,h1,h2⟩:=HO.out.slice;exact⟨A2,c2,by rw[<-HE2.out,<-h1];rfl,by rw[<-HE2.out,<-h1];exact HO.out,HB.out⟩
  ·have HST:=Lib.hid (bitsL_step h0 ht)
   have hne:((t:Int) !=0)=true:=by simpa using h0
   have C:=Lib.hid (tz64_any t wr ht h0 (HT.out.via HB.out));have hsub:IntKind.u64.wrap ((t:Int) - 1)=((t - 1:Nat):Int):=by rw[IntKind.wrap_u64];omega
   have hand:=bits_and_u64_nat t (t - 1) ht (by omega)
   have hlt:=and_pred_lt h0;obtain⟨z,hz⟩: ∃z,z=t &&& (t - 1):=⟨_,rfl⟩;obtain⟨y,hy⟩: ∃y,y=Lib.ctz 64 t:=⟨_,rfl⟩;rw[<-hz]at hand hlt HST;rw[<-hy]at C HST;have hk2:k<64:=by
    have h1:=HE.out;rw[HST.out]at h1;have h2:=congrArg List.length h1;rw[List.length_append,HL.out]at h2;simp only[List.length_cons]at h2;have:=HLEN.out;omega
   have hsz:=HB.out.size;clear hz hy h0
   go_wp2_with(first
    |(go_at_call 130;refine C.out.mono ?_;rintro e w' ⟨rfl,rfl⟩)
    |(at_builtin;refine wpList_push rfl _ _ rfl wr w.heap.size _ (nums l) (y:Int) k (by rw[nums_length];exact HL.out) (by omega) HO.out hsz rfl rfl ?_;intro A4 c4 w4 HO4 HB4;(have HO4':=Lib.hid HO4);(have HB4':=Lib.hid HB4);clear HO4 HB4))
   go_roundw
   case rel=>exact⟨z,k+1,A4,c4,l++ [y],rfl,by omega,by omega,rfl,Lib.hid (by rw[List.length_append,HL.out];rfl),Lib.hid (by rw[List.append_assoc];exact(by rw[<-HST.out];exact HE.out:l++(y::bitsL z)=bitsL s)),Lib.hid (by rw[nums_snoc];exact HO4'.out),Lib.hid (HB.out.trans HB4'.out)⟩
   case measure=>simp[intOf];omega
section
variable {A: Option Addr} {n c: Nat} {F: Option Addr} {m d: Nat} {W: List Int} {E: List (Int × Int)}
theorem succs_own(w:World)(x:Int)(hM:May W E)(hx:0<=x/\x<n)(h:IsG w A n c F m d W E):Calls Tryz.prog 69 #[.agg #[.slice A n c,.slice F m d],.int .i64 x] w (GotOwn (succsV W E x) w):=by
 have H:=Lib.hid h;have ln:=h.ln;have CN:=Lib.hid (fun W'=>is_node x n W' (by omega))
 ·have C:=Lib.hid (fun w' (h: IsG w' A n c F m d W E) => read_ok w' h hM)
  have HO:=Lib.hid (show succsV W E x=succsL n E x by unfold succsV;rw[if_pos hM,h.hn])
  have hF:Fits n E:=by rw[<-h.hn];exact hM.fits
  have hn64:n<=64:=by rw[<-h.hn];exact hM.nodes
  obtain⟨l,hl⟩: ∃l,l=succsV W E x:=⟨_,rfl⟩;rw[<-hl]at HO⊢
  ·rw [decide_eq_true hx] at CN
   obtain⟨y,rfl⟩:=Int.eq_ofNat_of_zero_le hx.1;have hy:y<n:=by omega
   have HSB:=Lib.hid (fun T h=>succsL_bits (T:=T) (y:=y) hn64 hF h)
   have CH:=Lib.hid (fun s hs W'=>set_has s y W' hs (by omega))
   have CW:=Lib.hid (fun s j hs hj W'=>set_with s j W' hs hj)
   have CR:=Lib.hid (fun s W' hs hT=>set_rowO s W' hs hT)
   clear h hM hl hF hx;go_enter Tryz.func69,Tryz.ntmps69;go_wp2_with fail;refine(C.out _ (H.out.below (below_alloc _))).mono ?_
   rintro e w1 ⟨g,A',c',rfl,hR⟩;have HB:=Lib.hid ((below_alloc _).trans (hR.bel.mono (by simp)))
   obtain⟨ps,hV,hPS⟩:=hR.row;have HV:=Lib.hid (hV.alloc (.cells #[.slice (some ⟨g,0,none⟩) n n,.slice A' n c'] 129));have HPS:=Lib.hid hPS;have HB2:=Lib.hid (HB.out.alloc HB.out.size (.cells #[.slice (some ⟨g,0,none⟩) n n,.slice A' n c'] 129));have HT:=Lib.hid (H.out.tab.via HB2.out);clear hR hV hPS
   go_wp2_with(go_at_call 102;refine(CN.out _).mono ?_;rintro e w' ⟨rfl,rfl⟩)
   obtain⟨w2,hw2⟩: ∃w2,w2=w1.alloc (.cells #[.slice (some ⟨g,0,none⟩) n n,.slice A' n c'] 129):=⟨_,rfl⟩;rw[<-hw2]at HV HB2 HT⊢;clear hw2;go_loop [7,28] (fun tv i=> ∃(j T:Nat),j<=n/\i= .int .i64 j/\tv= .int .u64 T/\T<18446744073709551616/\Hid (∀a,T.testBit a=(decide (a<j)&&decide (ed E y a)))) (fun _ i=>n - (intOf i).toNat)
   case atStart=>exact⟨0,0,Nat.zero_le _,rfl,rfl,by decide,Lib.hid (fun a=>by rw[Nat.zero_testBit];simp)⟩
   case round=>
    obtain⟨j,T,hj,rfl,rfl,hT64,HTB⟩:=hrel
    by_cases hlt:j<n
    ·have hc:=HV.out.cell (natsV_at (ps:=ps) (j:=j) (by rw [HPS.out.len]; exact hlt))
     have C1:=Lib.hid (fun W'=>CH.out (ps.getD j 0) (HPS.out.lt j hlt) W')
     have HBIT:=Lib.hid (HPS.out.bit j hlt y);have C2:=Lib.hid (fun W'=>CW.out T j hT64 (by omega) W')
     have hgl:=HV.out.lt;obtain⟨p,hp⟩: ∃p,p=ps.getD j 0:=⟨_,rfl⟩;rw[<-hp]at hc C1 HBIT;have hor:T ||| 2^j<18446744073709551616:=Nat.or_lt_two_pow (n:=64) hT64 (Nat.pow_lt_pow_right (by decide) (by omega))
     clear hp
     by_cases he:ed E y j
     ·rw [HBIT.out,decide_eq_true he] at C1
      have HST:=Lib.hid (succ_step HTB.out he);clear he
      go_wp2_with(first
       |(go_at_call 103;refine(C1.out _).mono ?_;rintro e w' ⟨rfl,rfl⟩)
       |(go_at_call 104;refine(C2.out _).mono ?_;rintro e w' ⟨rfl,rfl⟩))
      go_round
      case rel=>exact⟨j+1,T ||| 2^j,by omega,by go_num,rfl,hor,HST⟩
      case measure=>simp[intOf];omega
     ·rw [HBIT.out,decide_eq_false he] at C1
      have HST:=Lib.hid (succ_skip HTB.out he);clear he
      go_wp2_with(go_at_call 103;refine(C1.out _).mono ?_;rintro e w' ⟨rfl,rfl⟩)
      go_round
      case rel=>exact⟨j+1,T,by omega,by go_num,rfl,hT64,HST⟩
      case measure=>simp[intOf];omega
    ·obtain rfl: j = n:=by omega
     have HE:=Lib.hid (HSB.out T HTB.out);have C3:=Lib.hid (CR.out T w2 hT64 HT.out)
     go_wp2_with(go_at_call 105;refine C3.out.mono ?_;rintro e w3 ⟨A2,c2,rfl,hI,b⟩;have HI:=Lib.hid hI;have HB3:=Lib.hid b;clear hI b)
     go_ret;rw[HO.out,HE.out]
     exact⟨A2,c2,rfl,HI.out.down HB2.out.size,HB2.out.trans (HB3.out.mono HB2.out.size)⟩
end
structure IsQ(w:World)(A:Option Addr)(n c:Nat)(R:List Int):Prop where
 hn:R.length=n
 ln:n<=1000
 ints:Ints w w.heap.size A R
 hA:A=none->n=0/\c=0
theorem IsQ.below{w w':World}{A:Option Addr}{n c:Nat}{R:List Int}(h:IsQ w A n c R)(hb:Below w.heap.size w w'):IsQ w' A n c R:=⟨h.hn,h.ln,(h.ints.below hb).more hb.size,h.hA⟩
structure Rws(w0:World)(L:List (TypeId×List Value))(w:World):Prop where
 bel:Below w0.heap.size w0 w
 row: ∀(i:Nat) (t:TypeId) (vs:List Value),L[i]? =some (t,vs)->RowV (w0.heap.size+i) t vs w
def allocs(w:World):List (TypeId×List Value)->World
 | []=>w
 |(t,vs)::L=>allocs (w.alloc (.cells vs.toArray t)) L
theorem allocs_snoc(t:TypeId)(vs:List Value): ∀(L:List (TypeId×List Value)) (w:World),allocs w (L++ [(t,vs)])=(allocs w L).alloc (.cells vs.toArray t)
 | [],w=>rfl
 |(t',vs')::L,w=>allocs_snoc t vs L _
theorem allocs_size: ∀(L:List (TypeId×List Value)) (w:World),(allocs w L).heap.size=w.heap.size+L.length
  | [],w=>rfl
  | (t, vs) :: L, w => by
    show(allocs (w.alloc _) L).heap.size=_
    rw[allocs_size L];simp;omega
theorem Rws.next{w0 w w':World}{L:List (TypeId×List Value)}(h:Rws w0 L w)(hb:Below w.heap.size w w'):Rws w0 L w':=by
 refine⟨h.bel.trans (hb.mono h.bel.size),fun i t vs hi=> ?_⟩
 have:=h.row i t vs hi;exact this.below hb this.lt
theorem Rws.start(w:World)(L:List (TypeId×List Value)):Rws w L (allocs w L):=by
  obtain⟨k,hk⟩: ∃k,k=L.length:=⟨_,rfl⟩
  induction k generalizing L with
  | zero =>
    obtain rfl:L= []:=List.eq_nil_of_length_eq_zero hk.symm;exact⟨Below.refl _ _,fun i t vs hi=>by simp at hi⟩
  | succ k ih =>
    obtain⟨L',x,rfl⟩: ∃L' x,L=L'++ [x]:=⟨L.dropLast,L.getLast (by intro h;subst h;simp at hk),(List.dropLast_concat_getLast _).symm⟩
    obtain⟨t,vs⟩:=x;have h:=ih L' (by simp at hk;omega)
    rw[allocs_snoc];have h2:=h.next (below_alloc (.cells vs.toArray t));refine⟨h2.bel,fun i t' vs' hi=> ?_⟩
    rcases Nat.lt_or_ge i L'.length with hl|hl
    · rw[List.getElem?_append_left hl]at hi
      exact h2.row i t' vs' hi
    · rw[List.getElem?_append_right hl]at hi
      have h0:i - L'.length=0:=by
        rcases Nat.eq_zero_or_pos (i - L'.length)with e|e
        · exact e
        · rw[List.getElem?_eq_none (by simp;omega)]at hi;cases hi
      rw[h0]at hi;injection hi with hi;injection hi with e1 e2;subst e1 e2;have e3:w.heap.size+i=(allocs w L').heap.size:=by rw[allocs_size];omega
      rw[e3];exact RowV.new _ _ _
theorem Rws.cell{w0 w:World}{L:List (TypeId×List Value)}(h:Rws w0 L w)(i j:Nat){t:TypeId}{vs:List Value}{v:Value}(hi:L[i]? =some (t,vs))(hj:vs[j]? =some v):w.cell? ⟨w0.heap.size+i,j,none⟩=some v:=(h.row i t vs hi).cell hj
theorem Rws.frozen{w0 w:World}{L:List (TypeId×List Value)}(h:Rws w0 L w)(i j:Nat){t:TypeId}{vs:List Value}(hi:L[i]? =some (t,vs)):w.frozen? ⟨w0.heap.size+i,j,none⟩=false:=(h.row i t vs hi).frozen j
theorem Rws.set{w0 w:World}{L:List (TypeId×List Value)}(h:Rws w0 L w)(i j:Nat){t:TypeId}{vs:List Value}(hi:L[i]? =some (t,vs))(v:Value):Rws w0 (L.set i (t,vs.set j v)) (w.setCell ⟨w0.heap.size+i,j,none⟩ v):=by
 refine⟨h.bel.setCell (by show w0.heap.size<=w0.heap.size+i;omega) v,fun k t' vs' hk=> ?_⟩
 by_cases e:i=k
 ·subst e
  have hl:i<L.length:=(List.getElem?_eq_some_iff.mp hi).1
  rw[List.getElem?_set_self hl]at hk
  injection hk with hk;injection hk with e1 e2;subst e1 e2;exact(h.row i t vs hi).set j v
 ·rw [List.getElem?_set_ne e] at hk
  have:=h.row k t' vs' hk;unfold RowV at this⊢;rw[heap_setCell_other _ _ _ _ (by show w0.heap.size+k≠w0.heap.size+i;omega)]
  exact this
theorem Rws.setQ{w0 w:World}{L:List (TypeId×List Value)}(h:Rws w0 L w)(i:Nat){t:TypeId}{a b c:Value}(hi:L[i]? =some (t,[a,b,c]))(x y z:Value):
  Rws w0 (L.set i (t,[x,y,z])) (((w.setCell ⟨w0.heap.size+i,0,none⟩ x).setCell ⟨w0.heap.size+i,1,none⟩ y).setCell ⟨w0.heap.size+i,2,none⟩ z):=by
 have hl:i<L.length:=(List.getElem?_eq_some_iff.mp hi).1
 have h1:=h.set i 0 hi x;have h2:=h1.set i 1 (List.getElem?_set_self hl) y
 rw[List.set_set]at h2;have h3:=h2.set i 2 (List.getElem?_set_self hl) z
 rw[List.set_set]at h3;exact h3
theorem Rws.setT{w0 w:World}{L:List (TypeId×List Value)}(h:Rws w0 L w)(i:Nat){t:TypeId}{a b c d e f:Value}(hi:L[i]? =some (t,[a,b,c,d,e,f]))(u v x y z r:Value):
  Rws w0 (L.set i (t,[u,v,x,y,z,r])) ((((((w.setCell ⟨w0.heap.size+i,0,none⟩ u).setCell ⟨w0.heap.size+i,1,none⟩ v).setCell ⟨w0.heap.size+i,2,none⟩ x).setCell ⟨w0.heap.size+i,3,none⟩ y).setCell ⟨w0.heap.size+i,4,none⟩ z).setCell ⟨w0.heap.size+i,5,none⟩ r):=by
 have hl:i<L.length:=(List.getElem?_eq_some_iff.mp hi).1
 have h1:=h.set i 0 hi u;have h2:=h1.set i 1 (List.getElem?_set_self hl) v
 rw[List.set_set]at h2;have h3:=h2.set i 2 (List.getElem?_set_self hl) x
 rw[List.set_set]at h3;have h4:=h3.set i 3 (List.getElem?_set_self hl) y
 rw[List.set_set]at h4;have h5:=h4.set i 4 (List.getElem?_set_self hl) z
 rw[List.set_set]at h5;have h6:=h5.set i 5 (List.getElem?_set_self hl) r
 rw[List.set_set]at h6;exact h6
theorem Rws.alloc{w0 w:World}{L:List (TypeId×List Value)}(h:Rws w0 L w)(o:Obj):Rws w0 L (w.alloc o):=h.next (below_alloc o)
theorem Rws.drew{w0 w:World}{L:List (TypeId×List Value)}(h:Rws w0 L w)(N:Nat):Rws w0 L (w.drewN N):=h.next (below_drewN (Below.refl _ _) N)
theorem results_cells3{fn:Func}{p q u:Tmp}{ty tz:TypeId}(h:fn.results= #[.cell p ty,.cell q tz,.tmp u])(tmps:Array Value)(P:Program)(w:World):
  (results fn tmps).run P w =
   ((asAddr (tmps.getD p undef)).run P w).andThen fun a w₁=>((loadVar ty a).run P w₁).andThen fun v w₂=>((asAddr (tmps.getD q undef)).run P w₂).andThen fun b w₃=>((loadVar tz b).run P w₃).andThen fun x w₄=> .ok (.tuple #[v,x,tmps.getD u undef]) w₄:=by
 simp only[results,h];simp[Sem.run_bind,Result.andThen]
theorem dq_info:(Tryz.prog.info? 81).map (·.size)=some 3:=by kernel_rfl
theorem tk_info:(Tryz.prog.info? 65).map (·.size)=some 6:=by kernel_rfl
theorem load_dq{w:World}{g:Nat}{cs:List Value}(h:RowV g 81 cs w)(hl:cs.length=3):(loadVar 81 ⟨g,0,none⟩).run Tryz.prog w= .ok (.agg cs.toArray) w:=
 run_loadVar_row _ g _ _ _ _ _ h Tryz.underlying81 rfl (by rw[dq_info];simp[hl])
theorem load_tk{w:World}{g:Nat}{cs:List Value}(h:RowV g 65 cs w)(hl:cs.length=6):(loadVar 65 ⟨g,0,none⟩).run Tryz.prog w= .ok (.agg cs.toArray) w:=
 run_loadVar_row _ g _ _ _ _ _ h Tryz.underlying65 rfl (by rw[tk_info];simp[hl])
theorem ret_qte{fn:Func}{p q u:Tmp}(h:fn.results= #[.cell p 81,.cell q 65,.tmp u]){tmps:Array Value}{w:World}{g k:Nat}{cs ds:List Value}{e:Value}(hp:tmps.getD p undef= .pointer (some ⟨g,0,none⟩))(hq:tmps.getD q undef= .pointer (some ⟨k,0,none⟩))(hu:tmps.getD u undef=e)
  (h1:RowV g 81 cs w) (l1:cs.length=3) (h2:RowV k 65 ds w) (l2:ds.length=6):(results fn tmps).run Tryz.prog w= .ok (.tuple #[.agg cs.toArray,.agg ds.toArray,e]) w:=by
 rw[results_cells3 h,hp,hq,hu];simp[asAddr,load_dq h1 l1,load_tk h2 l2,Result.andThen]
theorem ret_qe{fn:Func}{p u:Tmp}(h:fn.results= #[.cell p 81,.tmp u]){tmps:Array Value}{w:World}{g:Nat}{cs:List Value}{e:Value}(hp:tmps.getD p undef= .pointer (some ⟨g,0,none⟩))(hu:tmps.getD u undef=e)
  (h1:RowV g 81 cs w) (l1:cs.length=3):(results fn tmps).run Tryz.prog w= .ok (.tuple #[.agg cs.toArray,e]) w:=by
 rw[results_cell_tmp h,hp,hu];simp[asAddr,load_dq h1 l1,Result.andThen]
theorem RowV.drewN{g:Nat}{t:TypeId}{vs:List Value}{w:World}(h:RowV g t vs w)(N:Nat):RowV g t vs (w.drewN N):=h
def vT(t:Tkr):Value:=.agg #[.bool t.steal,.int .i64 t.at_,.int .i64 t.top,.int .i64 t.bot,.int .i64 t.got,.int .i64 t.end_]
def cT(t:Tkr):List Value:=[.bool t.steal,.int .i64 t.at_,.int .i64 t.top,.int .i64 t.bot,.int .i64 t.got,.int .i64 t.end_]
theorem OwnI.blockC{w:World}{base gg nn cc:Nat}{zs:List Int}(h:OwnI w base (.slice (some ⟨gg,0,none⟩) nn cc) zs): ∃cur,w.heap[gg]? =some (.cells cur 3 (0,0))/\base<=gg/\nn<=cc/\cur.size=cc * 1:=by
 rcases h.2 with⟨e,_⟩|⟨g',cap,cur,e,hg,hgg,hnc,hcm,hcs,_⟩
 ·cases e
 ·injection e with e1 e2 e3
  injection e1 with e1;injection e1 with e1;subst e1 e3;rw[<-e2]at hnc;exact⟨cur,hgg,hg,hnc,hcs⟩
theorem OwnI.frozenC{w:World}{base g n c:Nat}{zs:List Int}(h:OwnI w base (.slice (some ⟨g,0,none⟩) n c) zs)(j:Nat):w.frozen? ⟨g,j,none⟩=false:=by
 obtain⟨cur,h1,_⟩:=h.blockC;exact frozen_of_row w g j _ _ h1
theorem OwnI.len_eq{w:World}{base nn cc:Nat}{A:Option Addr}{zs:List Int}(h:OwnI w base (.slice A nn cc) zs):zs.length=nn:=by
 rcases h.2 with⟨e,hn⟩|⟨g',cap,cur,e,_⟩
 ·injection e with _ e2 _
  omega
 ·injection e with _ e2 _
  omega
theorem ownI_setC{w:World}{base g n c j:Nat}{zs:List Int}(h:OwnI w base (.slice (some ⟨g,0,none⟩) n c) zs)(hj:j<zs.length)(z:Int):OwnI (w.setCell ⟨g,j,none⟩ (.int .i64 z)) base (.slice (some ⟨g,0,none⟩) n c) (zs.set j z):=by
 unfold OwnI at h⊢;rw[List.length_set,List.map_set];refine⟨by rw[List.length_set];exact h.1,?_⟩
 rcases h.2 with⟨e,_⟩|⟨g',cap,cur,e,hg,hgg,hnc,hcm,hcs,htake⟩
 ·cases e
 ·injection e with e1 e2 e3
  injection e1 with e1;injection e1 with e1;subst e1 e2 e3;refine .inr ⟨g,_,cur.setIfInBounds j (.int .i64 z),rfl,hg,heap_setCell_same w g j _ _ _ hgg,hnc,hcm,by rw[Array.size_setIfInBounds];exact hcs,?_⟩
  rw[Array.toList_setIfInBounds,<-htake,List.take_set]
theorem own_farC{w w':World}{base g:Nat}{v:Value}{zs:List Int}(h:OwnI w base v zs)(hne:v.ownBlock≠some g)(hk: ∀k,k≠g->w'.heap[k]? =w.heap[k]?):OwnI w' base v zs:=by
 refine⟨h.1,?_⟩
 rcases h.2 with hn|⟨g',cap,cur,rfl,hg,hgg,rest⟩
 ·exact .inl hn
 ·refine .inr ⟨g',cap,cur,rfl,hg,?_,rest⟩
  rw[hk g' (fun e=>hne (by rw[e];rfl))]
  exact hgg
theorem OwnI.cellC{w:World}{base g n c:Nat}{zs:List Int}(h:OwnI w base (.slice (some ⟨g,0,none⟩) n c) zs){j:Nat}(hj:j<zs.length): ∃z,w.cell? ⟨g,j,none⟩=some (.int .i64 z):=by
 obtain⟨b,off,z,e,_,_,hc⟩:=h.ints.at_ hj;injection e with e;injection e with e1 e2;subst e1 e2;exact⟨z,by simpa using hc⟩
theorem OwnI.someC{w:World}{base n c:Nat}{A:Option Addr}{zs:List Int}(h:OwnI w base (.slice A n c) zs)(hn:0<zs.length): ∃g,A=some ⟨g,0,none⟩/\base<=g/\g<w.heap.size:=by
 rcases h.2 with⟨e,h0⟩|⟨g',cap,cur,e,hg,hgg,_⟩
 ·omega
 ·injection e with e1 _ _
  exact⟨g',e1,hg,(Array.getElem?_eq_some_iff.1 hgg).1⟩
end Go.Proofs.YtngdbbligebcbabGreatDoor
namespace Go.Proofs.YtngdbbligebcbabGreatDoor
open Go.RowKit
theorem info_partsS{P:Program}{t:TypeId}{z:Value}{s b:Nat}(h:(P.info? t).map (fun i=>(i.zero,i.size,i.bytes))=some (some z,s,b)): ∃i,P.info? t=some i/\i.zero=some z/\i.size=s/\i.bytes=b:=by
  cases hi:P.info? t with
  |none=>rw[hi]at h;cases h
  | some i =>
    rw[hi]at h;simp at h;exact⟨i,rfl,h.1,h.2.1,h.2.2⟩
def RXs(t:TypeId)(base:Nat)(row:Option Nat)(w w':World):Prop:=
 Below w.heap.size w w'\/(w.grownBy w' row/\ ∀b,row=some b->base<=b/\ ∃cs fr,w.heap[b]? =some (.cells cs t fr))
theorem RXs.size{t:TypeId}{base:Nat}{row:Option Nat}{w w':World}(h:RXs t base row w w'):w.heap.size<=w'.heap.size:=by
 rcases h with h|⟨h,_⟩
 ·exact h.size
 ·exact h.size
theorem RXs.heap{u:TypeId}{base:Nat}{row:Option Nat}{w w':World}(h:RXs u base row w w'){k:Nat}{cs:Array Value}{t:TypeId}{fr:Nat×Nat}(hk:w.heap[k]? =some (.cells cs t fr))(ht:t≠u):w'.heap[k]? =some (.cells cs t fr):=by
 have hlt:k<w.heap.size:=(Array.getElem?_eq_some_iff.1 hk).1
 rcases h with h|⟨h,h2⟩
 ·rw[h.block k hlt];exact hk
 ·rw [h.block k hlt (fun e => by
   obtain⟨_,cs',fr',h3⟩:=h2 k e.symm;rw[hk]at h3;injection h3 with h3;injection h3 with _ h4 _;exact ht h4)]
  exact hk
theorem RXs.own{u:TypeId}{base base':Nat}{row:Option Nat}{w w':World}(h:RXs u base row w w'){t:TypeId}{s n:Nat}{v:Value}{xs:List Value}(ho:w.ownsRow base' t s v n xs)(ht:t≠u):w'.ownsRow base' t s v n xs:=by
 refine⟨ho.1,?_⟩
 rcases ho.2 with hn|⟨g,cap,cur,rfl,hg,hgg,rest⟩
 ·exact .inl hn
 ·exact .inr ⟨g,cap,cur,rfl,hg,h.heap hgg ht,rest⟩
theorem RXs.below{t:TypeId}{base:Nat}{row:Option Nat}{w w':World}(h:RXs t base row w w')(hb:base<=w.heap.size):Below base w w':=by
 rcases h with h|⟨h,h2⟩
 ·exact h.mono hb
 ·refine ⟨h.os,h.tape,h.output,h.size,fun k hk => h.block k (by omega) (fun e => ?_)⟩
  have:=(h2 k e.symm).1;omega
def OwnXs(t:TypeId)(row:Option Nat)(news:List Value)(v:Value)(w:World):Prop:=
 ∃h,v= .slice (some ⟨h,0,none⟩) 1 1/\w.heap[h]? =some (.cells news.toArray t (0,0))/\row≠some h
theorem OwnXs.rx{t u:TypeId}{base:Nat}{row:Option Nat}{news:List Value}{v:Value}{w w':World}(h:OwnXs t row news v w)(hr:RXs u base row w w'):OwnXs t row news v w':=by
 obtain⟨k,e,hk,hne⟩:=h;have hlt:k<w.heap.size:=(Array.getElem?_eq_some_iff.1 hk).1
 refine⟨k,e,?_,hne⟩
 rcases hr with hr|⟨hr,_⟩
 ·rw[hr.block k hlt];exact hk
 ·rw[hr.block k hlt (fun e=>hne e.symm)];exact hk
theorem row_lts{w:World}{base:Nat}{t:TypeId}{s n:Nat}{v:Value}{xs:List Value}(h:w.ownsRow base t s v n xs): ∀b,v.ownBlock=some b->base<=b/\b<w.heap.size/\ ∃cs fr,w.heap[b]? =some (.cells cs t fr):=by
 intro b hb;rcases h.2 with⟨rfl,_⟩|⟨g,cap,cur,rfl,hg,hgg,_⟩
 ·simp[Value.ownBlock]at hb
 ·obtain rfl: g = b:=by simpa [Value.ownBlock] using hb
  exact⟨hg,(Array.getElem?_eq_some_iff.1 hgg).1,_,_,hgg⟩
def Grews(t:TypeId)(base s n:Nat)(xs:List Value)(v:Value)(w:World):Prop:=∃ F d,v= .slice F n d/\w.ownsRow base t s (.slice F n d) n xs
theorem Grews.below{t:TypeId}{base s n:Nat}{xs:List Value}{v:Value}{w w':World}(h:Grews t base s n xs v w)(hb:Below w.heap.size w w'):Grews t base s n xs v w':=by
 obtain⟨F,d,e,ho⟩:=h;exact⟨F,d,e,own_below ho hb⟩
theorem ownXs_append{w:World}{base:Nat}{t tl:TypeId}{s bytes n:Nat}{z u v:Value}{xs news:List Value}(hu:Tryz.prog.underlying tl=some (.slice t))(hinf:(Tryz.prog.info? t).map (fun i=>(i.zero,i.size,i.bytes))=some (some z,s,bytes))(hzs:z.cells.size=s)(hs0:0<s)(hby:bytes<=48)
  (hO:w.ownsRow base t s u n xs) (hE:OwnXs t u.ownBlock news v w) (hs:news.length=s) (h1: ∀x∈news,x.oneCell'=true) (hl:n<=1000) (hb:base<=w.heap.size):
  ∃v' w',(Builtin.append_ #[tl,tl] tl #[u,v]).run Tryz.prog w= .ok v' w'/\Grews t base s (n+1) (xs++news) v' w'/\RXs t base u.ownBlock w w'/\ ∀k,v'.ownBlock=some k->u.ownBlock=some k\/w.heap.size<=k:=by
 obtain⟨h,rfl,hh,hne⟩:=hE;obtain⟨i0,hi0,hz0,hz1,hz2⟩:=info_partsS hinf;have hlt:=row_lts hO;obtain⟨g,cap,w',hr,how,hg,hat,hgl⟩:=run_append_lies (P:=Tryz.prog) w tl tl base t i0 z s bytes hu hi0 hz0 hz1 hz2 hzs hs0 u n xs hO
  ⟨h,0,none⟩ 1 1 news (by rw[hs,Nat.one_mul]) (fun j x hx=>World.news_of_block hh j x (by simpa using hx)) h1 (by omega) (by unfold maxLen;omega) (by have:(n+1) * bytes<=1001 * 48:=Nat.mul_le_mul (by omega) hby;omega) hb _ rfl
 exact⟨_,w',hr,⟨_,_,rfl,how⟩,.inr ⟨hg,fun b hb'=>⟨(hlt b hb').1,(hlt b hb').2.2⟩⟩,fun k hk=>by
  obtain rfl:g=k:=by simpa[Value.ownBlock]using hk
  rcases hat with h|h
  ·exact .inl h
  ·exact .inr (by omega)⟩
theorem wpList_append_runs{P:Program}{ops:Array Oper}{rest:List Oper}{o:Oper}{a:Act}{Q:Exit->Act->World->Prop}{w w':World}{v:Value}(hgd:o.guard=none)(s x:Operand)(t:TypeId)(vs vx:Value)
  (ho:o.op= .call {callee:=.builtin .append,args:=#[s,x],argTypes:=#[t,t]}) (hs:a.eval s=vs) (hx:a.eval x=vx) (hr:(Builtin.append_ #[t,t] o.type #[vs,vx]).run P w= .ok v w')
  (h:wpList P ops Q rest (a.put o.dst v) w'):wpList P ops Q (o::rest) a w:=by
 refine wpList_plain hgd fun K hK=> ?_
 unfold Oper.wp execOp;simp only[ho,resolve,invoke,builtin,Sem.run_bind,Sem.run_pure,Result.andThen_ok,List.map_toArray,List.map_cons,List.map_nil,hs,hx,hr];exact hK _ _ h
theorem wpList_pushXs{ops:Array Oper}{rest:List Oper}{o:Oper}{a:Act}{Q:Exit->Act->World->Prop}(hgd:o.guard=none)(s x:Operand)(t tl:TypeId)(size bytes:Nat)(z:Value)(hu:Tryz.prog.underlying tl=some (.slice t))
  (hinf:(Tryz.prog.info? t).map (fun i=>(i.zero,i.size,i.bytes))=some (some z,size,bytes)) (hzs:z.cells.size=size) (hs0:0<size) (hby:bytes<=48) (hty:o.type=tl)
  (ho:o.op= .call {callee:=.builtin .append,args:=#[s,x],argTypes:=#[tl,tl]}) (w1:World) (base n:Nat) (u:Value) (xs news:List Value) (hO:w1.ownsRow base t size u n xs) (hn:news.length=size) (h1: ∀x∈news,x.oneCell'=true) (hl:n<=1000) (hb:base<=w1.heap.size)
  (hs:a.eval s=u) (hx:a.eval x= .slice (some ⟨w1.heap.size,0,none⟩) 1 1)
  (h: ∀F d w',w'.ownsRow base t size (.slice F (n+1) d) (n+1) (xs++news)->RXs t base u.ownBlock w1 w'->(∀k,(Value.slice F (n+1) d).ownBlock=some k->u.ownBlock=some k\/w1.heap.size<=k)->wpList Tryz.prog ops Q rest (a.put o.dst (.slice F (n+1) d)) w'):
  wpList Tryz.prog ops Q (o::rest) a (w1.alloc (.cells news.toArray t)):=by
 have hE:OwnXs t u.ownBlock news (.slice (some ⟨w1.heap.size,0,none⟩) 1 1) (w1.alloc (.cells news.toArray t)):=⟨w1.heap.size,rfl,heap_alloc_new w1 _,fun e=>by have:=(row_lts hO _ e).2.1;omega⟩
 obtain⟨v',w',hr,⟨F,d,rfl,ho'⟩,hR,hat⟩:=ownXs_append (tl:=tl) hu hinf hzs hs0 hby (own_below hO (below_alloc _)) hE hn h1 hl (by simp;omega)
 have hR':RXs t base u.ownBlock w1 w':=by
  rcases hR with hR|⟨hg,h2⟩
  ·exact .inl ((below_alloc _).trans (hR.mono (by simp)))
  ·refine .inr ⟨⟨hg.os,hg.tape,hg.output,Nat.le_trans (by simp) hg.size,fun k hk hne => ?_⟩,fun b hb' => ⟨(h2 b hb').1,(row_lts hO b hb').2.2⟩⟩
   rw[hg.block k (by simp;omega) hne]
   exact(below_alloc _).block k hk
 exact wpList_append_runs hgd s x tl u _ ho hs hx (by rw[hty];exact hr) (h F d w' ho' hR' (fun k hk=>(hat k hk).imp id (fun h=>by simp at h;omega)))
end Go.Proofs.YtngdbbligebcbabGreatDoor
