import Derived.Test.YtlfekmbalgkmeaaGreatDoorZM25
import Derived.BigRegion
import Derived.StillTailTactics
import Derived.Deep.RegionWith
import Derived.WalkMore
set_option linter.unusedSimpArgs false
set_option linter.unnecessarySimpa false
set_option linter.unusedVariables false
set_option maxRecDepth 100000
set_option maxHeartbeats 8000000
namespace Go.Proofs.YtlfekmbalgkmeaaGreatDoor
open Go.RowKit
theorem OwnI.block{w:World}{base:Nat}{A:Option Addr}{n c:Nat}{zs:List Int}(h:OwnI w base (.slice A n c) zs)(h0:0<zs.length): ∃g,A=some ⟨g,0,none⟩/\base<=g/\g<w.heap.size:=by
 rcases h.2 with⟨_,hn⟩|⟨g,cap,cur,hv,hg,hgg,_⟩
 ·omega
 ·injection hv with h1 h2 h3
  exact⟨g,h1,hg,(Array.getElem?_eq_some_iff.1 hgg).1⟩
theorem OwnI.len{w:World}{base:Nat}{A:Option Addr}{n c:Nat}{zs:List Int}(h:OwnI w base (.slice A n c) zs):n=zs.length:=by
 rcases h.2 with⟨hv,hn⟩|⟨g,cap,cur,hv,_⟩
 ·injection hv with h1 h2 h3
  omega
 ·injection hv with h1 h2 h3
theorem OwnI.cellAt{w:World}{base g c n:Nat}{zs:List Int}(h:OwnI w base (.slice (some ⟨g,0,none⟩) n c) zs){j:Nat}(hj:j<zs.length):w.cell? ⟨g,j,none⟩=some (.int .i64 (zs.getD j 0)):=by
 obtain rfl:=h.len;rw[World.ownsRow.cellAt h j (by omega),List.getElem?_map,List.getElem?_eq_getElem hj,List.getD_eq_getElem?_getD,List.getElem?_eq_getElem hj]
 rfl
theorem OwnI.frozenAt{w:World}{base g c n:Nat}{zs:List Int}(h:OwnI w base (.slice (some ⟨g,0,none⟩) n c) zs)(j:Nat):w.frozen? ⟨g,j,none⟩=false:=by
 obtain rfl:=h.len;exact World.ownsRow.frozenAt h j
theorem OwnI.stored{w:World}{base g c n:Nat}{zs:List Int}(h:OwnI w base (.slice (some ⟨g,0,none⟩) n c) zs)(j:Nat)(z:Int):OwnI (w.setCell ⟨g,j,none⟩ (.int .i64 z)) base (.slice (some ⟨g,0,none⟩) n c) (zs.set j z):=by
 obtain rfl:=h.len;have:=World.ownsRow.stored h j (.int .i64 z);unfold OwnI;rw[List.length_set,List.map_set];exact this.1
theorem wpList_own{ops:Array Oper}{rest:List Oper}{o:Oper}{a:Act}{Q:Exit->Act->World->Prop}(hgd:o.guard=none)(s x:Operand)
  (ho:o.op= .call {callee:=.builtin .append,args:=#[s,x],argTypes:=#[40,40]})
  (w1:World) (B:Nat) (A:Option Addr) (cap len:Nat) (zs:List Int) (hlen:zs.length=len) (hl:len<=1000) (hI:Ints w1 B A zs) (hB:B<=w1.heap.size) (hA:A=none->cap=0)
  (hs:a.eval s= .slice (some ⟨w1.heap.size,0,none⟩) 0 0) (hx:a.eval x= .slice A len cap)
  (h: ∀A' c' w',OwnI w' w1.heap.size (.slice A' len c') zs->Below w1.heap.size w1 w'->wpList Tryz.prog ops Q rest (a.put o.dst (.slice A' len c')) w'):wpList Tryz.prog ops Q (o::rest) a (w1.alloc (.cells #[] 3)):=by
 obtain⟨i0,hi0,hz0,hz1,hz2⟩:=info_parts int_cell_info;have hown:OwnI (w1.alloc (.cells #[] 3)) w1.heap.size (.slice (some ⟨w1.heap.size,0,none⟩) 0 0) []:=OwnI.new w1 w1.heap.size (Nat.le_refl _);subst hlen;rcases A with _|ad
 ·have e0: zs = []:=hI.none_nil
  have e1:cap=0:=hA rfl;subst e0 e1;exact wpList_append_own_none hgd s x 40 ho w1.heap.size 3 i0 1 Tryz.underlying40 hi0 _ 0 [] hs hown hx (h _ _ _ hown (below_alloc _))
 ·refine wpList_append_own _ hgd s x 40 ho w1.heap.size 3 i0 (.int .i64 0) 1 8 Tryz.underlying40 hi0 hz0 hz1 hz2 rfl (by omega) _ 0 [] hs hown ad zs.length cap (zs.map (Value.int .i64)) hx (by simp) (hI.alloc hB _).cells (oneCell_ints zs)
   (by unfold maxLen;omega) (by omega) (by simp) ?_
  intro v' w' hown' hg _;rw[Nat.zero_add,List.nil_append]at hown';have hO':OwnI w' w1.heap.size v' zs:=hown';obtain⟨A',c',rfl,_⟩:=hO'.slice;exact h A' c' w' hO' ((below_alloc _).grown hg (by simp) (by simp[Value.ownBlock]))
theorem roundL_snoc{W:List Int}{E:List (Int×Int)}{i:Nat}{e:Int×Int}(far:List Int)(h:E[i]? =some e):roundL W (E.take (i+1)) far=relaxL W (roundL W (E.take i) far) e:=by
 rw[take_snoc' h];unfold roundL;rw[List.foldl_append];rfl
theorem sum_le(W:List Int)(h:WorkOk W):W.sum<=1000 * W.length:=by
  induction W with
  |nil=>simp
  | cons z W ih =>
    have h1:=ih (fun x hx=>h x (by simp[hx]))
    have h2:=h z (by simp)
    simp only[List.sum_cons,List.length_cons];omega
theorem wsum_pos{W:List Int}(h:WorkOk W)(p:List Nat):0<=wsum W p:=by
  induction p with
  |nil=>exact Int.le_refl _
  | cons x q ih =>
    unfold wsum at ih⊢;simp only[List.map_cons,List.sum_cons];have h0:0<=W.getD x 0:=by
      rw[List.getD_eq_getElem?_getD]
      cases hx:W[x]? with
      |none=>exact Int.le_refl _
      |some z=>exact(h z (List.mem_of_getElem? hx)).1
    omega
theorem far_in{W:List Int}{E:List (Int×Int)}(hF:Fits W.length E)(hA:Acyc E)(hW:WorkOk W)(j k:Nat)(b:Nat)(hb:b<W.length):
  0<=(roundL W (E.take k) (farK W E j)).getD b 0/\(roundL W (E.take k) (farK W E j)).getD b 0<=1000 * W.length:=by
 have h:=roundL_sound hF (E.take k) (farK W E j) (fun e he=>List.mem_of_mem_take he) (farK_sound hF j)
 obtain⟨r,h1,h2,h3⟩:=h.2 b hb;have h4:=wsum_le (fun z hz=>(hW z hz).1) (h1.nodup hA) h2
 have h5:=wsum_pos hW (b::r);have h6:=sum_le W hW;omega
theorem roundL_length(W:List Int)(E:List (Int×Int))(far:List Int):(roundL W E far).length=far.length:=((roundL_le W E far).1).symm
theorem most_snoc{l:List Int}{j:Nat}{z:Int}(h:l[j]? =some z):most (l.take (j+1))=max (most (l.take j)) z:=by
 rw[take_snoc' h];unfold most;rw[List.foldl_append];rfl
theorem rlong_any(A F:Option Addr)(n c m d:Nat)(W:List Int)(E:List (Int×Int))(w:World)(hn:W.length=n)(hl:n<=900)(hm:E.length=m)(hk:m<=1000)(hW:WorkOk W)(hF:Fits n E)(hA:Acyc E)(hI:Ints w w.heap.size A W)(hP:Pairs w w.heap.size F E)(hc:A=none->c=0):
  Calls Tryz.prog 67 #[.agg #[.slice A n c,.slice F m d]] w fun e w'=>e= .returned (.int .i64 (most (farK W E n)))/\Below w.heap.size w w':=by
 have HP:=Lib.hid hP;have HM:=Lib.hid hm;have HI:=Lib.hid hI;have HN:=Lib.hid hn;have HF:=Lib.hid hF;have HIN:=Lib.hid (fun j k b hb=>far_in (by rw[hn];exact hF) hA hW j k b hb)
 have HFL:=Lib.hid (fun j=>farK_length W E j)
 have HC:=Lib.hid hc;obtain⟨w0,hw0⟩: ∃w0,w0=w.alloc (.cells #[.slice A n c,.slice F m d] 88):=⟨_,rfl⟩;have HW0:=Lib.hid hw0;have HI0:Hid (Ints w0 (w.heap.size+1) A W):=Lib.hid (by rw[hw0];exact(hI.alloc (Nat.le_refl _) _).more (by simp))
 obtain⟨i0,hi0,hz0,hz1,hz2⟩:=info_parts int_cell_info;obtain⟨r,hr⟩: ∃r,r=most (farK W E n):=⟨_,rfl⟩;rw[<-hr];have HR:=Lib.hid hr;clear hP hm hI hn hF hc hr hw0;go_enter Tryz.func67,Tryz.ntmps67
 go_wp2_with(at_builtin;refine wpList_own rfl _ _ rfl (w.alloc (.cells #[.slice A n c,.slice F m d] 88)) (w.heap.size+1) A c n W HN.out (by omega) (by rw[<-HW0.out];exact HI0.out) (by simp) HC.out (by simp[Act.eval]) rfl ?_;intro A1 c1 w1 HO1 HB1;(have HO1':=Lib.hid HO1);(have HB1':=Lib.hid HB1);clear HO1 HB1)
 have HO1:Hid (OwnI w1 (w.heap.size+1) (.slice A1 n c1) (farK W E 0)):=Lib.hid (by have h:=HO1'.out;rwa [show(w.alloc (.cells #[.slice A n c,.slice F m d] 88)).heap.size=w.heap.size+1 by simp]at h)
 have HB1:Hid (Below (w.heap.size+1) w0 w1):=Lib.hid (by have h:=HB1'.out;rw[show(w.alloc (.cells #[.slice A n c,.slice F m d] 88)).heap.size=w.heap.size+1 by simp]at h;rw[HW0.out];exact h)
 clear HO1' HB1';go_loopw [4] (fun i wr=> ∃j:Nat,j<=n/\i= .int .i64 j/\Hid (OwnI wr (w.heap.size+1) (.slice A1 n c1) (farK W E j))/\Hid (Below (w.heap.size+1) w0 wr)) (fun i _=>n - (intOf i).toNat)
 case atStart=>exact⟨0,Nat.zero_le _,rfl,HO1,HB1⟩
 case round=>
  obtain⟨j,hj,rfl,HO,HB⟩:=hrel;have hbox0:wr.cell? ⟨w.heap.size,0,none⟩=some (.slice A n c):=(HB.out.cell (Nat.lt_succ_self _)).trans (by rw[HW0.out,World.cell?_alloc_at _ _ _ _ rfl];rfl)
  have hbox1:wr.cell? ⟨w.heap.size,1,none⟩=some (.slice F m d):=(HB.out.cell (Nat.lt_succ_self _)).trans (by rw[HW0.out,World.cell?_alloc_at _ _ _ _ rfl];rfl)
  by_cases hlt:j<n
  ·obtain ⟨g,rfl,hgb,_⟩:=HO.out.block (by rw [HFL.out,HN.out]; omega)
   go_wp2;go_loopw [5] (fun i wi=> ∃k:Nat,k<=m/\i= .int .i64 k/\Hid (OwnI wi (w.heap.size+1) (.slice (some ⟨g,0,none⟩) n c1) (roundL W (E.take k) (farK W E j)))/\Hid (Below (w.heap.size+1) w0 wi)) (fun i _=>m - (intOf i).toNat)
   case atStart=>exact⟨0,Nat.zero_le _,rfl,HO,HB⟩
   case round=>
    obtain⟨k,hk2,rfl,HO2,HB2⟩:=hrel;have hboxa:wr.cell? ⟨w.heap.size,0,none⟩=some (.slice A n c):=(HB2.out.cell (Nat.lt_succ_self _)).trans (by rw[HW0.out,World.cell?_alloc_at _ _ _ _ rfl];rfl)
    have hboxb:wr.cell? ⟨w.heap.size,1,none⟩=some (.slice F m d):=(HB2.out.cell (Nat.lt_succ_self _)).trans (by rw[HW0.out,World.cell?_alloc_at _ _ _ _ rfl];rfl)
    by_cases hlt2:k<m
    ·obtain ⟨bk,o,e,rfl,hbg,hek,hc1,hc2⟩:=HP.out.at_ (k:=k) (by rw [HM.out]; exact hlt2)
     obtain⟨x,y,rfl,hx,hy⟩:=fits_nat HF.out hek;simp only at hc1 hc2;have hd1:wr.cell? ⟨bk,o+k * 2,none⟩=some (.int .i64 x):=(HB2.out.cell (by show bk<_;omega)).trans (by rw[HW0.out,World.cell?_alloc_lt _ _ _ hbg];exact hc1)
     have hd2:wr.cell? ⟨bk,o+k * 2+1,none⟩=some (.int .i64 y):=(HB2.out.cell (by show bk<_;omega)).trans (by rw[HW0.out,World.cell?_alloc_lt _ _ _ hbg];exact hc2)
     obtain⟨bw,ow,z,rfl,hbw,hzy,hcz⟩:=HI.out.at_ (k:=y) (by rw[HN.out];exact hy)
     have hdz:wr.cell? ⟨bw,ow+y,none⟩=some (.int .i64 z):=(HB2.out.cell (by show bw<_;omega)).trans (by rw[HW0.out,World.cell?_alloc_lt _ _ _ hbw];exact hcz)
     obtain⟨far,hfar⟩: ∃far,far=roundL W (E.take k) (farK W E j):=⟨_,rfl⟩;have hfl:far.length=n:=by rw[hfar,roundL_length,HFL.out,HN.out]
     have HN2:=Lib.hid (roundL_snoc (W:=W) (farK W E j) hek);have hbx:=HIN.out j k x (by rw[HN.out];exact hx)
     have hby:=HIN.out j k y (by rw[HN.out];exact hy)
     have hz1:=hW z (List.mem_of_getElem? hzy)
     have hWy:W.getD y 0=z:=by rw[List.getD_eq_getElem?_getD,hzy];rfl
     rw[<-hfar]at HN2 HO2 hbx hby;rw[HN.out]at hbx hby;have ho1:=HO2.out.cellAt (j:=x) (by rw[hfl];exact hx)
     have ho2:=HO2.out.cellAt (j:=y) (by rw[hfl];exact hy)
     have hof:=HO2.out.frozenAt y;have hgl:g<wr.heap.size:=(HO2.out.lt g rfl).2;obtain⟨fx,hfx⟩: ∃fx,fx=far.getD x 0:=⟨_,rfl⟩;obtain⟨fy,hfy⟩: ∃fy,fy=far.getD y 0:=⟨_,rfl⟩;rw[<-hfx]at hbx ho1;rw[<-hfy]at hby ho2;have HX:=Lib.hid hfx;have HY:=Lib.hid hfy;have HZ:=Lib.hid hWy;have hsz2:w.heap.size<wr.heap.size:=by omega
     have hbw2:bw<wr.heap.size:=by omega
     have hbk2:bk<wr.heap.size:=by omega
     clear hc1 hc2 hek hfar hfl hfx hfy hWy hcz hzy hW
     by_cases hlt3:fy<fx+z
     ·have HST:=Lib.hid (show roundL W (E.take (k + 1)) (farK W E j) = far.set y (fx + z) by
       rw[HN2.out];unfold relaxL;simp only[Int.toNat_natCast];rw[<-HX.out,<-HY.out,HZ.out,if_pos hlt3])
      go_wp2
      go_quiet (fail)
      go_wp2
      go_region
      go_wp2;go_roundw
      case rel=>exact⟨k+1,by omega,by go_num,Lib.hid (by rw[HST.out];exact((HO2.out.alloc _).below (below_drewN (Below.refl _ _) _)).stored y _),Lib.hid ((below_drewN (HB2.out.alloc (by omega) _) _).setCell (by show _<=g;omega) _)⟩
      case measure=>simp[intOf];omega
     ·have HST:=Lib.hid (show roundL W (E.take (k + 1)) (farK W E j) = far by
       rw[HN2.out];unfold relaxL;simp only[Int.toNat_natCast];rw[<-HX.out,<-HY.out,HZ.out,if_neg hlt3])
      have hdf:decide (fy<fx+z)=false:=decide_eq_false hlt3;go_wp2
      go_quiet (fail)
      go_wp2;go_roundw
      case rel=>exact⟨k+1,by omega,by go_num,Lib.hid (by rw[HST.out];exact(HO2.out.alloc _).below (below_drewN (Below.refl _ _) _)),Lib.hid (below_drewN (HB2.out.alloc (by omega) _) _)⟩
      case measure=>simp[intOf];omega
    ·obtain rfl: k = m:=by omega
     have HT:Hid (farK W E (j+1)=roundL W (E.take k) (farK W E j)):=Lib.hid (by rw[List.take_of_length_le (by rw[HM.out];omega)];rfl)
     go_wp2;go_roundw
     case rel=>exact⟨j+1,by omega,by go_num,Lib.hid (by rw[HT.out];exact HO2.out),HB2⟩
     case measure=>simp[intOf];omega
  ·obtain rfl: j = n:=by omega
   obtain⟨far,hfar⟩: ∃far,far=farK W E j:=⟨_,rfl⟩;have HFAR:=Lib.hid hfar;have hfl:far.length=j:=by rw[hfar,HFL.out,HN.out]
   rw[<-hfar]at HO HR;have HFI:Hid (∀b,b<far.length->0<=far.getD b 0/\far.getD b 0<=1000 * (j:Int)):=Lib.hid (fun b hb=>by
    have h:=HIN.out j 0 b (by rw[HN.out,<-hfl];exact hb)
    rw[HN.out]at h;rw[hfar];exact h)
   have HFL2:=Lib.hid hfl;have HI2:=Lib.hid (show Ints wr wr.heap.size A1 far by
    obtain⟨A2,c2,he,hI⟩:=HO.out.slice;injection he with h1 h2 h3;subst h1;exact hI)
   clear hfar hfl;go_wp2;go_loop [7,8] (fun s i=> ∃(q:Nat) (v:Int),q<=j/\i= .int .i64 q/\0<=v/\v<=1000 * (j:Int)/\Hid (v=most (far.take q))/\s= .int .i64 v) (fun _ i=>j - (intOf i).toNat)
   case atStart=>exact⟨0,0,Nat.zero_le _,rfl,by omega,by omega,Lib.hid rfl,rfl⟩
   case round=>
    obtain⟨q,v,hq,rfl,hv0,hv1,hve,rfl⟩:=hrel
    by_cases hlt2:q<j
    ·obtain ⟨bk,o,z,rfl,hbg,hzq,hc1⟩:=HI2.out.at_ (k:=q) (by rw [HFL2.out]; exact hlt2)
     have hz:=HFI.out q (by rw[HFL2.out];exact hlt2)
     rw[List.getD_eq_getElem?_getD,hzq]at hz
     simp only[Option.getD_some]at hz;have HMS:=Lib.hid (most_snoc hzq);clear hzq
     by_cases hvz:v<z
     ·have HMX:=Lib.hid (show z = most (far.take (q + 1)) by rw [HMS.out,<- hve.out,Int.max_eq_right (by omega)])
      go_wp2;go_round
      case rel=>exact⟨q+1,z,by omega,by go_num,by omega,by omega,HMX,by first|rfl|rw[Int.max_eq_right (by omega)]⟩
      case measure=>simp[intOf];omega
     ·have HMX:=Lib.hid (show v = most (far.take (q + 1)) by rw [HMS.out,<- hve.out,Int.max_eq_left (by omega)])
      go_wp2;go_round
      case rel=>exact⟨q+1,v,by omega,by go_num,by omega,by omega,HMX,by first|rfl|rw[Int.max_eq_left (by omega)]⟩
      case measure=>simp[intOf];omega
    ·obtain rfl: q = j:=by omega
     have hl2:far.take q=far:=List.take_of_length_le (by rw[HFL2.out];omega)
     rw[hl2]at hve;go_wp2;go_ret;exact⟨by rw[HR.out,<-hve.out];rfl,(below_alloc _).trans (by rw[<-HW0.out];exact HB.out.mono (by omega))⟩
theorem right_any(A:Option Addr)(c n:Nat)(W:List Int)(w:World)(hn:W.length=n)(hl:n<=1000)(hI:Ints w w.heap.size A W)(r:Bool)(hr:r=true↔WorkOk W):
  Calls Tryz.prog 114 #[.slice A n c] w fun e w'=>e= .returned (.bool r)/\w=w':=by
 have HI:=Lib.hid hI;have HN:=Lib.hid hn;have HR:=Lib.hid hr;clear hI hn hr;go_enter Tryz.func114,Tryz.ntmps114;go_wp2;go_loop [7] (fun i=> ∃j:Nat,j<=n/\i= .int .i64 j/\Hid (WorkOk (W.take j))) (fun i=>n - (intOf i).toNat)
 case atStart=>exact⟨0,Nat.zero_le _,rfl,Lib.hid (fun z hz=>by simp at hz)⟩
 case round=>
  obtain⟨j,hj,rfl,HO⟩:=hrel
  by_cases hlt:j<n
  ·obtain ⟨bk,o,z,rfl,hbg,hzj,hc1⟩:=HI.out.at_ (k:=j) (by rw [HN.out]; exact hlt)
   have HS:=Lib.hid (workOk_snoc hzj);have HBAD:=Lib.hid (fun h: ¬(0<=z/\z<=1000)=>(by
    cases hb:r with
    |true=>exact absurd ((HR.out.mp hb) z (List.mem_of_getElem? hzj)) h
    |false=>rfl:r=false))
   clear hzj
   by_cases h0:z<0
   ·have HX:=Lib.hid (HBAD.out (by omega))
    go_wp2;go_ret
    exact⟨by rw[HX.out];rfl,rfl⟩
   ·by_cases h1: 1000 < z
    ·have HX:=Lib.hid (HBAD.out (by omega))
     go_wp2;go_ret
     exact⟨by rw[HX.out];rfl,rfl⟩
    ·have HX: Hid (WorkOk (W.take (j + 1))):=Lib.hid (HS.out.mpr ⟨HO.out,by omega,by omega⟩)
     have g0:decide (z<0)=false:=decide_eq_false h0;have g1:decide (1000<z)=false:=decide_eq_false h1;go_wp2;go_round
     case rel=>exact⟨j+1,by omega,by go_num,HX⟩
     case measure=>simp[intOf];omega
  ·obtain rfl: j = n:=by omega
   have HX:Hid (r=true):=Lib.hid (HR.out.mpr (by have h:=HO.out;rwa [List.take_of_length_le (by rw[HN.out];omega)]at h))
   go_wp2;go_ret
   exact⟨by rw[HX.out];rfl,rfl⟩
structure PredsOf(n:Nat)(E:List (Int×Int))(ps:List Nat):Prop where
 len:ps.length=n
 lt: ∀y,y<n->ps.getD y 0<18446744073709551616
 bit: ∀y,y<n-> ∀a,(ps.getD y 0).testBit a=decide (ed E a y)
theorem PredsOf.nil(n:Nat):PredsOf n [] (List.replicate n 0):=by
 have h: ∀y,(List.replicate n 0).getD y 0=0:=fun y=>by
  rw[List.getD_eq_getElem?_getD,List.getElem?_replicate]
  split<;>rfl
 refine⟨by simp,fun y hy=>by rw[h];decide,fun y hy a=> ?_⟩
 rw[h,Nat.zero_testBit];exact(decide_eq_false (by unfold ed;simp)).symm
theorem PredsOf.snoc{n:Nat}{E:List (Int×Int)}{ps:List Nat}(h:PredsOf n E ps){x y:Nat}(hx:x<64)(hy:y<n):PredsOf n (E++ [((x:Int),(y:Int))]) (ps.set y (ps.getD y 0 ||| 2^x)):=by
 refine⟨by rw[List.length_set];exact h.len,fun b hb=> ?_,fun b hb a=> ?_⟩
 ·rw [getD_set]
  split
  ·exact Nat.or_lt_two_pow (n:=64) (h.lt y hy) (Nat.pow_lt_pow_right (by decide) hx)
  ·exact h.lt b hb
 ·rw [getD_set,Bool.eq_iff_iff,decide_eq_true_iff,ed_snoc]
  split
  ·rename_i hi
   rw[or_bit_testBit,Bool.or_eq_true,h.bit y hy,decide_eq_true_iff,decide_eq_true_iff];constructor
   ·rintro (k | k)
    ·exact .inl (by rw[<-hi.1];exact k)
    ·exact .inr ⟨k.symm,hi.1.symm⟩
   ·rintro (k | k)
    ·exact .inl (by rw[hi.1];exact k)
    ·exact .inr k.1.symm
  ·rename_i hi
   rw[h.bit b hb,decide_eq_true_iff];constructor
   ·exact .inl
   ·rintro (k | k)
    ·exact k
    ·exact absurd ⟨k.2.symm,by rw[h.len];exact hy⟩ hi
def natsV(ps:List Nat):List Value:=ps.map fun p=>Value.int .u64 (p:Nat)
theorem natsV_at{ps:List Nat}{j:Nat}(h:j<ps.length):(natsV ps)[j]? =some (.int .u64 (ps.getD j 0:Nat)):=by
 unfold natsV;rw[List.getElem?_map,List.getElem?_eq_getElem h,List.getD_eq_getElem?_getD,List.getElem?_eq_getElem h]
 rfl
theorem natsV_set(ps:List Nat)(j p:Nat):natsV (ps.set j p)=(natsV ps).set j (.int .u64 (p:Nat)):=by unfold natsV;rw[List.map_set]
theorem nat_cell_info:(Tryz.prog.info? 126).map (fun i=>(i.zero,i.size,i.bytes))=some (some (.int .u64 0),1,8):=by kernel_rfl
theorem make_nodes(n:Nat)(hn:n<=1000)(W:World):(Instr.makeSlice 120 (.int .i64 n) (.int .i64 n)).run Tryz.prog W= .ok (.slice (some ⟨W.heap.size,0,none⟩) n n) (W.alloc (.cells (natsV (List.replicate n 0)).toArray 126)):=by
 obtain⟨i0,hi,hz0,hz1,hz2⟩:=info_parts nat_cell_info;have h:=run_make (P:=Tryz.prog) W 120 126 i0 (.int .u64 0) Tryz.underlying120 hi hz0 .i64 .i64 n n (by omega) (by omega) (by rw[hz2];omega) (by omega)
 rw[hz1]at h;have e:madeCells (Value.int .u64 0).cells (((n:Int)).toNat * 1)=(natsV (List.replicate n 0)).toArray:=by
  apply Array.toList_inj.mp
  rw[show(Value.int .u64 0).cells= #[Value.int .u64 0]from rfl,toList_madeCells_one]
  simp[natsV]
 rw[e]at h;exact h
abbrev RowN (g:Nat) (ps:List Nat) (w:World):Prop:=RowV g 126 (natsV ps) w
theorem link_any(F:Option Addr)(n m d:Nat)(E:List (Int×Int))(w:World)(hl:n<=64)(hm:E.length=m)(hk:m<=1000)(hP:Pairs w w.heap.size F E):
  Calls Tryz.prog 115 #[.int .i64 n,.slice F m d] w fun e w'=>Below w.heap.size w w'/\
   ((EdgesOk n E/\ ∃g ps,e= .returned (.tuple #[.slice (some ⟨g,0,none⟩) n n,.bool true])/\w.heap.size<=g/\RowN g ps w'/\PredsOf n E ps)\/(¬EdgesOk n E/\e= .returned (.tuple #[.slice none 0 0,.bool false]))):=by
 have HP:=Lib.hid hP;have HM:=Lib.hid hm;have hmk:=fun W=>make_nodes n (by omega) W
 have CN:=Lib.hid (fun x W'=>(is_node x n W' (by omega)).mono fun _ _ h=>And.intro h.1 h.2.symm)
 have CH:=Lib.hid (fun s x hs hx W'=>(set_has s x W' hs hx).mono fun _ _ h=>And.intro h.1 h.2.symm)
 have CW:=Lib.hid (fun s x W'=>set_with s x W')
 clear hP hm;go_enter Tryz.func115,Tryz.ntmps115;go_wp2;have H0:Hid (RowN w.heap.size (List.replicate n 0) (w.alloc (.cells (natsV (List.replicate n 0)).toArray 126))):=Lib.hid (RowV.new w _ _);go_loopw [13] (fun i wr=> ∃(k:Nat) (ps:List Nat),k<=m/\i= .int .i64 k/\Hid (EdgesOk n (E.take k))/\Hid (PredsOf n (E.take k) ps)/\Hid (RowN w.heap.size ps wr)/\Hid (Below w.heap.size w wr)) (fun i _=>m - (intOf i).toNat)
 case atStart=>exact⟨0,_,Nat.zero_le _,rfl,Lib.hid ⟨fun e he=>by simp at he,fun e he=>by simp at he,by simp⟩,Lib.hid (by rw[List.take_zero];exact PredsOf.nil n),H0,Lib.hid (below_alloc _)⟩
 case round=>
  obtain⟨k,ps,hkm,rfl,HE,HPS,HV,HB⟩:=hrel;clear H0
  by_cases hlt:k<m
  ·obtain ⟨bk,o,⟨x,y⟩,rfl,hbg,hek,hc1,hc2⟩:=HP.out.at_ (k:=k) (by rw [HM.out]; exact hlt)
   simp only at hc1 hc2;have hd1:wr.cell? ⟨bk,o+k * 2,none⟩=some (.int .i64 x):=(HB.out.cell hbg).trans hc1
   have hd2:wr.cell? ⟨bk,o+k * 2+1,none⟩=some (.int .i64 y):=(HB.out.cell hbg).trans hc2
   have HS:=Lib.hid (edgesOk_snoc (n:=n) hek);have HSN:=Lib.hid (take_snoc' hek);have HBAD:=Lib.hid (fun(h: ¬EdgesOk n (E.take (k+1))) (q:EdgesOk n E)=>h (edgesOk_take q _))
   have hsz:=HB.out.size;have hgl:w.heap.size<wr.heap.size:=HV.out.lt;clear hc1 hc2 hek
   by_cases p1:0<=x/\x<n
   ·obtain ⟨a,rfl⟩:=Int.eq_ofNat_of_zero_le p1.1
    have C1:=Lib.hid (fun W'=>CN.out (a:Int) W')
    rw[decide_eq_true p1]at C1
    by_cases p2:0<=y/\y<n
    ·obtain ⟨b,rfl⟩:=Int.eq_ofNat_of_zero_le p2.1
     have C2:=Lib.hid (fun W'=>CN.out (b:Int) W')
     rw[decide_eq_true p2]at C2;have ha:a<n:=by omega
     have hb:b<n:=by omega
     by_cases p3:a=b
     ·have HX:=Lib.hid (HBAD.out (fun q => ((HS.out.mp q).2.2.2.1) (by rw [p3])))
      subst p3;clear p1 p2;go_wp2
      go_quiet (first
       |(go_at_call_of 151 (Value.int .i64 (a:Int));refine Calls.quiet_of_same (C1.out _)))
      go_wp2;go_ret2
      exact⟨below_drewN (HB.out.alloc (by omega) _) _,.inr ⟨HX.out,rfl⟩⟩
     ·have h3: ((a: Int) == (b: Int)) = false:=beq_eq_false_iff_ne.mpr (fun h => p3 (Int.ofNat_inj.mp h))
      have HP3:=Lib.hid (show((a:Int),(b:Int)).1≠((a:Int),(b:Int)).2 from fun h=>p3 (Int.ofNat_inj.mp h))
      have HP1:=Lib.hid p1;have HP2:=Lib.hid p2;have hcell:=HV.out.cell (natsV_at (ps:=ps) (j:=b) (by rw[HPS.out.len];exact hb))
      have C3:=Lib.hid (fun W'=>CH.out (ps.getD b 0) a (HPS.out.lt b hb) (by omega) W')
      have HBIT:=Lib.hid (HPS.out.bit b hb a);have HPN:=Lib.hid (HPS.out.snoc (show a<64 by omega) hb)
      have C4:=Lib.hid (fun W'=>CW.out (ps.getD b 0) a W' (HPS.out.lt b hb) (by omega))
      obtain⟨p,hp⟩: ∃p,p=ps.getD b 0:=⟨_,rfl⟩;rw[<-hp]at C3 HBIT hcell C4 HPN;obtain⟨p',hp'⟩: ∃p',p'=p ||| 2^a:=⟨_,rfl⟩
      simp only[<-hp']at C4 HPN;have hfr:=HV.out.frozen b;clear p1 p2 p3 hp hp'
      by_cases p4:ed (E.take k) a b
      ·have HX:=Lib.hid (HBAD.out (fun q => (HS.out.mp q).2.2.2.2 p4))
       rw[HBIT.out,decide_eq_true p4]at C3;clear p4;go_wp2
       go_quiet (first
        |(go_at_call_of 151 (Value.int .i64 (a:Int));refine Calls.quiet_of_same (C1.out _))
        |(go_at_call_of 151 (Value.int .i64 (b:Int));refine Calls.quiet_of_same (C2.out _))
        |(go_at_call_of 152 (Value.int .u64 (p:Int));refine Calls.quiet_of_same (C3.out _)))
       go_wp2;go_ret2
       exact⟨below_drewN (HB.out.alloc (by omega) _) _,.inr ⟨HX.out,rfl⟩⟩
      ·have HOK:=Lib.hid (HS.out.mpr ⟨HE.out,HP1.out,HP2.out,HP3.out,p4⟩)
       rw[HBIT.out,decide_eq_false p4]at C3;clear p4;go_wp2
       go_quiet (first
        |(go_at_call_of 151 (Value.int .i64 (a:Int));refine Calls.quiet_of_same (C1.out _))
        |(go_at_call_of 151 (Value.int .i64 (b:Int));refine Calls.quiet_of_same (C2.out _))
        |(go_at_call_of 152 (Value.int .u64 (p:Int));refine Calls.quiet_of_same (C3.out _)))
       go_wp2_with fail
       go_region_with (go_at_call 153;refine(C4.out _).mono ?_;rintro e w' ⟨rfl,rfl⟩)
       all_goals go_wp2
       all_goals go_roundw
       all_goals first
        |exact⟨k+1,_,by omega,by go_num,HOK,Lib.hid (by rw[HSN.out];exact HPN.out),Lib.hid (by rw[RowN,natsV_set];exact((HV.out.alloc _).below (below_drewN (Below.refl (w.heap.size+1) _) _) (Nat.lt_succ_self _)).set b _),Lib.hid ((below_drewN (HB.out.alloc (by omega) _) _).setCell (Nat.le_refl _) _)⟩
        |(simp[intOf];omega)
    ·have C2:=Lib.hid (fun W' => CN.out y W')
     rw[decide_eq_false p2]at C2;have HX:=Lib.hid (HBAD.out (fun q=>p2 (HS.out.mp q).2.2.1))
     clear p1 p2;go_wp2
     go_quiet (first
      |(go_at_call_of 151 (Value.int .i64 (a:Int));refine Calls.quiet_of_same (C1.out _))
      |(go_at_call_of 151 (Value.int .i64 y);refine Calls.quiet_of_same (C2.out _)))
     go_wp2;go_ret2
     exact⟨below_drewN (HB.out.alloc (by omega) _) _,.inr ⟨HX.out,rfl⟩⟩
   ·have C1:=Lib.hid (fun W' => CN.out x W')
    rw[decide_eq_false p1]at C1;have HX:=Lib.hid (HBAD.out (fun q=>p1 (HS.out.mp q).2.1))
    clear p1;go_wp2
    go_quiet (first
     |(go_at_call_of 151 (Value.int .i64 x);refine Calls.quiet_of_same (C1.out _)))
    go_wp2;go_ret2
    exact⟨below_drewN (HB.out.alloc (by omega) _) _,.inr ⟨HX.out,rfl⟩⟩
  ·obtain rfl: k = m:=by omega
   have HX:Hid (EdgesOk n E/\PredsOf n E ps):=Lib.hid (by
    have h:=HE.out;have h2:=HPS.out;rw[List.take_of_length_le (by rw[HM.out];omega)]at h h2
    exact⟨h,h2⟩)
   go_wp2;go_ret2
   exact⟨HB.out,.inl ⟨HX.out.1,w.heap.size,ps,rfl,Nat.le_refl _,HV.out,HX.out.2⟩⟩
theorem sub_zero_iff{P T:Nat}(hP:P<18446744073709551616)(hT:T<18446744073709551616):P &&& (18446744073709551615 - T)=0↔ ∀a,P.testBit a=true->T.testBit a=true:=by
 have hc: ∀a,(18446744073709551615 - T).testBit a=(decide (a<64)&& !T.testBit a):=fun a=>by
  have h:=Nat.testBit_two_pow_sub_succ (n:=64) (x:=T) hT a;rw[<-h];congr 1;omega
 have hb: ∀a,P.testBit a=true->a<64:=fun a ha=>by
  rcases Nat.lt_or_ge a 64 with h|h
  ·exact h
  ·rw [Nat.testBit_lt_two_pow (Nat.lt_of_lt_of_le hP (Nat.pow_le_pow_right (by decide) h: 2 ^ 64 <= 2 ^ a))] at ha
   cases ha
 constructor
 ·intro h a ha
  have h1:(P &&& (18446744073709551615 - T)).testBit a=false:=by rw[h,Nat.zero_testBit]
  rw[Nat.testBit_and,hc,ha,decide_eq_true (hb a ha)]at h1
  simpa using h1
 ·intro h
  apply Nat.eq_of_testBit_eq
  intro a;rw[Nat.testBit_and,hc,Nat.zero_testBit];cases hp:P.testBit a with
  |false=>rfl
  |true=>rw[h a hp];simp
structure MaskOf(T:Nat)(out:List Nat):Prop where
 lt:T<18446744073709551616
 bit: ∀a,T.testBit a=decide (a∈out)
theorem MaskOf.nil:MaskOf 0 []:=⟨by decide,fun a=>by rw[Nat.zero_testBit];simp⟩
theorem MaskOf.snoc{T:Nat}{out:List Nat}(h:MaskOf T out){m:Nat}(hm:m<64):MaskOf (T ||| 2^m) (out++ [m]):=by
 refine⟨Nat.or_lt_two_pow (n:=64) h.lt (Nat.pow_lt_pow_right (by decide) hm),fun a=> ?_⟩
 rw[or_bit_testBit,h.bit,Bool.eq_iff_iff,Bool.or_eq_true,decide_eq_true_iff,decide_eq_true_iff,decide_eq_true_iff,List.mem_append,List.mem_singleton];exact or_congr_right ⟨Eq.symm,Eq.symm⟩
theorem ready_mask{n:Nat}{E:List (Int×Int)}{ps:List Nat}(hF:Fits n E)(h:PredsOf n E ps){T:Nat}{out:List Nat}(hM:MaskOf T out){m:Nat}(hm:m<n):
  ready n E out m=true↔T.testBit m=false/\ps.getD m 0 &&& (18446744073709551615 - T)=0:=by
 rw[ready_iff hF,sub_zero_iff (h.lt m hm) hM.lt,hM.bit,decide_eq_false_iff_not];refine and_congr_right fun _=>⟨fun k a ha=> ?_,fun k a ha=> ?_⟩
 ·rw [h.bit m hm,decide_eq_true_iff] at ha
  rw[hM.bit,decide_eq_true_iff];exact k a ha
 ·have:=k a (by rw [h.bit m hm,decide_eq_true_iff]; exact ha)
  rwa [hM.bit,decide_eq_true_iff]at this
def vlen:Value->Nat
 | .slice _ n _=>n
 |_=>0
theorem arrange_any(g n:Nat)(E:List (Int×Int))(ps:List Nat)(w:World)(hl:n<=64)(hF:Fits n E)(hPS:PredsOf n E ps)(hV:RowN g ps w):
    Calls Tryz.prog 116 #[.slice (some ⟨g,0,none⟩) n n] w fun e w'=>Below w.heap.size w w'/\
      ((Acyc E/\ ∃A c,e= .returned (.tuple #[.slice A n c, .bool true])/\OwnI w' w.heap.size (.slice A n c) (nums (ord n E)))\/(¬Acyc E/\e= .returned (.tuple #[.slice none 0 0, .bool false]))):=by
  have HF:=Lib.hid hF;have HPS:=Lib.hid hPS;have HV:=Lib.hid hV;have CH:=Lib.hid (fun s x hs hx W'=>set_has s x W' hs hx)
  have CW:=Lib.hid (fun s x hs hx W'=>set_with s x W' hs hx)
  have HGL:=Lib.hid hV.lt;clear hF hPS hV;go_enter Tryz.func116,Tryz.ntmps116;go_wp2
  go_step3
  go_wp2
  go_step3
  go_wp2;go_loopw [4,5] (fun v tv wr=> ∃(j T:Nat) (A:Option Addr) (c:Nat),j<=n/\v= .slice A j c/\tv= .int .u64 T/\Hid ((ordK n E j).length=j)/\Hid (MaskOf T (ordK n E j))/\Hid (OwnI wr w.heap.size (.slice A j c) (nums (ordK n E j)))/\Hid (Below w.heap.size w wr)) (fun v _ _=>n - vlen v)
  case atStart=>exact⟨0,0,none,0,Nat.zero_le _,rfl,rfl,Lib.hid rfl,Lib.hid MaskOf.nil,Lib.hid (ownI_nil _ _),Lib.hid (Below.refl _ _)⟩
  case round=>
    obtain⟨j,T,A,c,hj,rfl,rfl,HL,HM,HO,HB⟩:=hrel
    by_cases hlt:j<n
    · obtain⟨out,hout⟩: ∃out,out=ordK n E j:=⟨_,rfl⟩;have HOUT:=Lib.hid hout;rw[<-hout]at HO HM HL;clear hout;have hT64:=HM.out.lt;go_wp2;go_loopw [4,5,15] (fun v tv i wi=> ∃p:Nat,p<=n/\i= .int .i64 p/\v= .slice A j c/\tv= .int .u64 T/\Hid (∀q,q<p->ready n E out q=false)/\wi=wr) (fun _ _ i _=>n - (intOf i).toNat)
      case atStart=>exact⟨0,Nat.zero_le _,rfl,rfl,rfl,Lib.hid (fun q hq=>by omega),rfl⟩
      case round=>
        obtain⟨p,hp,rfl,rfl,rfl,HNR,rfl⟩:=hrel;have hsz:=HB.out.size
        by_cases hlt2:p<n
        · have hc1:=(HV.out.below HB.out HGL.out).cell (natsV_at (ps:=ps) (j:=p) (by rw[HPS.out.len];exact hlt2))
          have C1:=Lib.hid (CH.out T p hT64 (by omega) wr)
          have C2:=Lib.hid (CW.out T p hT64 (by omega) wr)
          have hps:=HPS.out.lt p hlt2;have HR:=Lib.hid (ready_mask HF.out HPS.out HM.out hlt2);obtain⟨q,hq⟩: ∃q,q=ps.getD p 0:=⟨_,rfl⟩;rw[<-hq]at hc1 hps HR;have hz:=u64_andNot_nat q T hps hT64;obtain⟨z,hz2⟩: ∃z,z=q &&& (18446744073709551615 - T):=⟨_,rfl⟩;rw[<-hz2]at hz HR;have hgw:g<wr.heap.size:=by have:=HGL.out;omega
          clear hq hz2;cases hb:T.testBit p with
          | true =>
            rw[hb]at C1;have HRF:=Lib.hid (show ready n E out p=false by
              rw[<-Bool.not_eq_true,HR.out,hb];exact fun h=>Bool.noConfusion h.1)
            clear hb
            go_wp2_with(go_at_call 152;refine C1.out.mono ?_;rintro e w' ⟨rfl,rfl⟩)
            go_roundw
            case rel=>exact⟨p+1,by omega,by go_num,rfl,rfl,Lib.hid (fun q hq=>by
              rcases Nat.lt_or_ge q p with h|h
              · exact HNR.out q h
              · obtain rfl:q=p:=by omega
                exact HRF.out),(by first|trivial|rfl)⟩
            case measure=>simp[intOf];omega
          | false =>
            rw[hb]at C1
            by_cases hz0:z=0
            · have HRT:=Lib.hid (HR.out.mpr ⟨hb,hz0⟩);have HPK:=Lib.hid (pick_at hlt2 HRT.out HNR.out);have HOK:=Lib.hid (ordK_some (n:=n) (E:=E) (k:=j) (by rw[<-HOUT.out];exact HPK.out))
              have hze:((z:Int)==0)=true:=by simpa using hz0
              clear hb hz0
              go_wp2_with(first
                |(go_at_call 152;refine C1.out.mono ?_;rintro e w' ⟨rfl,rfl⟩)
                |(go_at_call 153;refine(CW.out T p hT64 (by omega) _).mono ?_;rintro e w' ⟨rfl,rfl⟩)
                |(at_builtin;refine wpList_push rfl _ _ rfl wr w.heap.size _ (nums out) (p:Int) j (by rw[nums_length];exact HL.out) (by omega) HO.out hsz rfl rfl ?_;intro A4 c4 w4 HO4 HB4;(have HO4':=Lib.hid HO4);(have HB4':=Lib.hid HB4);clear HO4 HB4))
              go_roundw
              case rel=>exact⟨j+1,T ||| 2^p,A4,c4,by omega,rfl,rfl,Lib.hid (by rw[HOK.out,<-HOUT.out,List.length_append,HL.out];rfl),Lib.hid (by rw[HOK.out,<-HOUT.out];exact HM.out.snoc (by omega)),Lib.hid (by rw[HOK.out,<-HOUT.out,nums_snoc];exact HO4'.out),Lib.hid (HB.out.trans HB4'.out)⟩
              case measure=>simp[vlen];omega
            · have HRF:=Lib.hid (show ready n E out p=false by
                rw[<-Bool.not_eq_true,HR.out];exact fun h=>hz0 h.2)
              have hze:((z:Int)==0)=false:=by simpa using hz0
              clear hb hz0
              go_wp2_with(go_at_call 152;refine C1.out.mono ?_;rintro e w' ⟨rfl,rfl⟩)
              go_roundw
              case rel=>exact⟨p+1,by omega,by go_num,rfl,rfl,Lib.hid (fun q hq=>by
                rcases Nat.lt_or_ge q p with h|h
                · exact HNR.out q h
                · obtain rfl:q=p:=by omega
                  exact HRF.out),(by first|trivial|rfl)⟩
              case measure=>simp[intOf];omega
        · obtain rfl:p=n:=by omega
          have HNA:Hid (¬Acyc E):=Lib.hid (fun hA=>by
            obtain⟨m,hm⟩:=pick_some HF.out hA (ordK_ordered HF.out j) (by rw[<-HOUT.out,HL.out];exact hlt)
            rw[<-HOUT.out,pick_nil HNR.out]at hm;cases hm)
          go_wp2
          try rw[Exit.noGoto_ret]
          go_ret2
          exact⟨HB.out, .inr ⟨HNA.out,rfl⟩⟩
    · obtain rfl:j=n:=by omega
      have HA:Hid (Acyc E):=Lib.hid ((ordK_ordered HF.out j).acyc HL.out HF.out);go_wp2
      try rw[Exit.noGoto_ret]
      go_ret2
      exact⟨HB.out, .inl ⟨HA.out,A,c,rfl,HO.out⟩⟩
end Go.Proofs.YtlfekmbalgkmeaaGreatDoor
