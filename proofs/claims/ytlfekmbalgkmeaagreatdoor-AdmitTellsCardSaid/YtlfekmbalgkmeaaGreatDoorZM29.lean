import Derived.Test.YtlfekmbalgkmeaaGreatDoorZM28
import Derived.Test.YtlfekmbalgkmeaaGreatDoorZM15
import Derived.Test.YtlfekmbalgkmeaaGreatDoorZM19
import Derived.Test.YtlfekmbalgkmeaaGreatDoorZM20
import Derived.Test.YtlfekmbalgkmeaaGreatDoorZM16
import Derived.Test.YtlfekmbalgkmeaaGreatDoorZM27
set_option linter.unusedSimpArgs false
set_option linter.unnecessarySimpa false
set_option linter.unusedVariables false
set_option maxHeartbeats 4000000
namespace Go.Proofs.YtlfekmbalgkmeaaGreatDoor
open Go.RowKit
structure IsL(w:World)(A:Option Addr)(n c:Nat)(F:Option Addr)(m d:Nat)(R:Option Addr)(k e:Nat)(W:List Int)(E P:List (Int×Int)):Prop where
 g:IsG w A n c F m d W E
 hk:P.length=k
 lk:k<=400
 pcs:Pairs w w.heap.size R P
theorem IsL.below{w w':World}{A:Option Addr}{n c:Nat}{F:Option Addr}{m d:Nat}{R:Option Addr}{k e:Nat}{W:List Int}{E P:List (Int×Int)}(h:IsL w A n c F m d R k e W E P)(hb:Below w.heap.size w w'):IsL w' A n c F m d R k e W E P:=
 ⟨h.g.below hb,h.hk,h.lk,(h.pcs.below hb).more hb.size⟩
theorem OwnP.pairs{w:World}{base:Nat}{v:Value}{ps:List (Int×Int)}(h:OwnP w base v ps): ∃A c,v= .slice A ps.length c/\Pairs w w.heap.size A ps:=by
 rcases h.2 with⟨rfl,hn⟩|⟨g,cap,cur,rfl,hg,hgg,rest⟩
 ·have: ps = []:=List.eq_nil_of_length_eq_zero hn
  subst this;exact⟨none,0,rfl,fun h0=>absurd h0 (by simp)⟩
 ·refine ⟨some ⟨g,0,none⟩,cap,rfl,fun _ => ⟨g,0,rfl,(Array.getElem?_eq_some_iff.1 hgg).1,fun k e he => ?_⟩⟩
  obtain⟨h1,h2⟩:=flatE_at he;have h':w.ownsRow base 153 2 (.slice (some ⟨g,0,none⟩) ps.length cap) ps.length (flatE ps):=h;have c1:=h'.cells (g:=g) rfl _ _ h1;have c2:=h'.cells (g:=g) rfl _ _ h2;rw[addr_add]at c1 c2;rw[show 0+(k * 2+1)=0+k * 2+1 by omega]at c2
  exact⟨c1,c2⟩
theorem own_isL{w:World}{b:Nat}{u v x:Value}{W:List Int}{E P:List (Int×Int)}(ht:Tab64 w)(hu:OwnI w b u W)(hv:OwnE w b v E)(hx:OwnP w b x P)(hW:W.length<=400)(hE:E.length<=400)(hP:P.length<=400):
  ∃A c F d R e,u= .slice A W.length c/\v= .slice F E.length d/\x= .slice R P.length e/\IsL w A W.length c F E.length d R P.length e W E P:=by
 obtain⟨A,c,F,d,rfl,rfl,hg⟩:=own_isG ht hu hv hW hE;obtain⟨R,e,rfl,hp⟩:=hx.pairs;exact⟨A,c,F,d,R,e,rfl,rfl,rfl,hg,rfl,hP,hp⟩
section
variable {A: Option Addr} {n c: Nat} {F: Option Addr} {m d: Nat} {R: Option Addr} {k e: Nat} {W: List Int} {E P: List (Int × Int)}
end
section
variable {A: Option Addr} {n c: Nat} {F: Option Addr} {m d: Nat} {R: Option Addr} {k e: Nat} {W: List Int} {E P: List (Int × Int)} {A': Option Addr} {n' c': Nat} {F': Option Addr} {m' d': Nat} {R': Option Addr} {k' e': Nat} {W': List Int} {E' P': List (Int × Int)}
end
theorem Trips.two7(w:World)(t:TypeId)(a b c d e f:Int):Trips (w.alloc (.cells #[.int .i64 a, .int .i64 b, .int .i64 c, .int .i64 d, .int .i64 e, .int .i64 f] t)) (w.heap.size+1) (some ⟨w.heap.size,0,none⟩) [(a,b,c),(d,e,f)]:=fun _=>by
  refine⟨_,_,rfl,by simp,fun k x he=> ?_⟩
  rw[World.cell?_alloc_at _ _ _ _ rfl,World.cell?_alloc_at _ _ _ _ rfl,World.cell?_alloc_at _ _ _ _ rfl]
  match k,he with
  | 0, he =>
    obtain rfl:(a,b,c)=x:=by simpa using he
    exact⟨rfl,rfl,rfl⟩
  | 1, he =>
    obtain rfl:(d,e,f)=x:=by simpa using he
    exact⟨rfl,rfl,rfl⟩
theorem Trips.one7(w:World)(t:TypeId)(a b c:Int):Trips (w.alloc (.cells #[.int .i64 a, .int .i64 b, .int .i64 c] t)) (w.heap.size+1) (some ⟨w.heap.size,0,none⟩) [(a,b,c)]:=fun _=>by
  refine⟨_,_,rfl,by simp,fun k x he=> ?_⟩
  rw[World.cell?_alloc_at _ _ _ _ rfl,World.cell?_alloc_at _ _ _ _ rfl,World.cell?_alloc_at _ _ _ _ rfl]
  match k,he with
  | 0, he =>
    obtain rfl:(a,b,c)=x:=by simpa using he
    exact⟨rfl,rfl,rfl⟩
section
variable {w w1 w2: World} {A: Option Addr} {c: Nat} {F: Option Addr} {d: Nat} {R: Option Addr} {e: Nat} {g: Nat}
end
theorem GotLow.boxes{T:Task}{w w':World}{e:Ending}(h:GotLow T w e w')(hT:Tab64 w)(hX:lowX T=0->(lowWv T).length<=400/\(lowEv T).length<=400/\(lowPv T).length<=400):
  ∃A c F d R k,e= .returned (.tuple #[.agg #[.slice A (lowWv T).length c,.slice F (lowEv T).length d,.slice R (lowPv T).length k],.int .i64 (lowX T)])/\IsL w' A (lowWv T).length c F (lowEv T).length d R (lowPv T).length k (lowWv T) (lowEv T) (lowPv T)/\Below w.heap.size w w':=by
 obtain⟨vW,vE,vP,rfl,h1,h2,h3,b⟩:=h;have hl:(lowWv T).length<=400/\(lowEv T).length<=400/\(lowPv T).length<=400:=by
  by_cases h0:lowX T=0
  ·exact hX h0
  ·have hN: ¬ LowOk T:=fun h => h0 (lowX_zero.mpr h)
   unfold lowWv lowEv lowPv;rw[if_neg hN,if_neg hN,if_neg hN];decide
 obtain⟨A,c,F,d,R,k,rfl,rfl,rfl,hL⟩:=own_isL (hT.via b) h1 h2 h3 hl.1 hl.2.1 hl.2.2;exact⟨A,c,F,d,R,k,rfl,hL,b⟩
theorem lows_few{T:Task}(h:lowX T=0):(lowWv T).length<=400/\(lowEv T).length<=400/\(lowPv T).length<=400:=by
 have hOK:=lowX_zero.mp h;have:=low_few hOK.1;unfold lowWv lowEv lowPv;rw[if_pos hOK,if_pos hOK,if_pos hOK];omega
theorem lower_got(s:Sh)(T:Task)(w:World)(hD:IsD w s T):Calls Tryz.prog 57 #[s.arg T.period T.deadline] w fun e w'=>
  ∃A c F d R k,e= .returned (.tuple #[.agg #[.slice A (lowWv T).length c,.slice F (lowEv T).length d,.slice R (lowPv T).length k],.int .i64 (lowX T)])/\IsL w' A (lowWv T).length c F (lowEv T).length d R (lowPv T).length k (lowWv T) (lowEv T) (lowPv T)/\Below w.heap.size w w':=
 (lower_any s T w hD).mono fun _ _ h=>h.boxes hD.tab lows_few
section
variable {A: Option Addr} {n c: Nat} {F: Option Addr} {m d: Nat} {R: Option Addr} {k e: Nat} {W: List Int} {E P: List (Int × Int)} {A': Option Addr} {n' c': Nat} {F': Option Addr} {m' d': Nat} {R': Option Addr} {k' e': Nat} {W': List Int} {E' P': List (Int × Int)}
end
structure InD(w:World)(s:Sh)(T:Task):Prop where
 t:IsT w w.heap.size s T
 lE:s.ne<=s.ec
 lF:s.nf<=s.fc
theorem InD.isD{w:World}{s:Sh}{T:Task}(h:InD w s T)(hT:DTab w)(hF:FewD T):IsD w s T:=⟨h.t,hF.few,hT,h.lE,h.lF⟩
theorem rcheck_dd{s:Sh}{T:Task}{w:World}(h:IsD w s T):
  Calls Tryz.prog 95 #[s.arg T.period T.deadline] w fun e w'=>e= .returned (.int .i64 (chkT T))/\Below w.heap.size w w':=tcheck_any s T w h.few h.t
def CellsD(w:World)(s:Sh)(p q:Int)(g:Nat):Prop:=
 w.cell? ⟨g,0,none⟩=some (.int .i64 p)/\w.cell? ⟨g,1,none⟩=some (.int .i64 q)/\w.cell? ⟨g,2,none⟩=some (.slice s.P s.np s.pc)/\w.cell? ⟨g,3,none⟩=some (.slice s.E s.ne s.ec)/\w.cell? ⟨g,4,none⟩=some (.slice s.F s.nf s.fc)/\w.cell? ⟨g,5,none⟩=some (.slice s.R s.nr s.rc)
theorem ld_desc{ρ:Operand->Value}{o:Oper}{t:Operand}{w:World}{g:Nat}{s:Sh}{p q:Int}(ho:o.op= .load 57 t)(ht:ρ t= .pointer (some ⟨g,0,none⟩))(hc:CellsD w s p q g):(execOp ρ o).run Tryz.prog w= .ok (.value (s.arg p q)) w:=by
 obtain⟨c0,c1,c2,c3,c4,c5⟩:=hc;simp[execOp,ho,ht,c0,c1,c2,c3,c4,c5,go_sem]
theorem CellsD.next{w w':World}{s:Sh}{p q:Int}{g:Nat}(h:CellsD w s p q g)(hb:Below w.heap.size w w'):CellsD w' s p q g:=by
 have hlt:g<w.heap.size:=World.block_lt_of_cell? _ _ h.1
 exact⟨(hb.cell hlt).trans h.1,(hb.cell hlt).trans h.2.1,(hb.cell hlt).trans h.2.2.1,(hb.cell hlt).trans h.2.2.2.1,(hb.cell hlt).trans h.2.2.2.2.1,(hb.cell hlt).trans h.2.2.2.2.2⟩
structure Bx1D(w:World)(s:Sh)(T:Task)(w':World):Prop where
 bel:Below w.heap.size w w'
 c:CellsD w' s T.period T.deadline w.heap.size
 d:IsD w' s T
theorem Bx1D.next{w w1 w2:World}{s:Sh}{T:Task}(h:Bx1D w s T w1)(hb:Below w1.heap.size w1 w2):Bx1D w s T w2:=⟨h.bel.trans (hb.mono h.bel.size),h.c.next hb,h.d.below hb⟩
structure Bx1T(w:World)(s:Sh)(T:Task)(w':World):Prop where
 bel:Below w.heap.size w w'
 c:CellsD w' s T.period T.deadline w.heap.size
 t:IsT w' w'.heap.size s T
theorem Bx1T.next{w w1 w2:World}{s:Sh}{T:Task}(h:Bx1T w s T w1)(hb:Below w1.heap.size w1 w2):Bx1T w s T w2:=⟨h.bel.trans (hb.mono h.bel.size),h.c.next hb,(h.t.below hb).more hb.size⟩
theorem Bx1T.start{w:World}{s:Sh}{T:Task}(h:IsT w w.heap.size s T):Bx1T w s T (w.alloc (.cells #[.int .i64 T.period,.int .i64 T.deadline,.slice s.P s.np s.pc,.slice s.E s.ne s.ec,.slice s.F s.nf s.fc,.slice s.R s.nr s.rc] 57)):=by
 refine⟨below_alloc _,⟨?_,?_,?_,?_,?_,?_⟩,(h.below (below_alloc _)).more (by simp)⟩<;>(rw[World.cell?_alloc_at _ _ _ _ rfl];rfl)
theorem Bx1T.few{w w':World}{s:Sh}{T:Task}(h:Bx1T w s T w')(i:InD w s T)(hT:DTab w)(hF:FewD T):Bx1D w s T w':=⟨h.bel,h.c,(i.isD hT hF).below h.bel⟩
section
variable {w w1 w2: World} {s: Sh} {T: Task} {g: Nat} {A: Option Addr} {n c: Nat} {F: Option Addr} {m d: Nat} {R: Option Addr} {k e: Nat} {W: List Int} {E P: List (Int × Int)}
end
theorem low_yes{T:Task}(h:LowOk T):lowWv T=lowW T/\lowEv T=lowE T/\lowPv T=lowP T:=by
 unfold lowWv lowEv lowPv;rw[if_pos h,if_pos h,if_pos h];exact⟨rfl,rfl,rfl⟩
theorem total_add(z s:Int)(b:Nat)(w:World)(h0:0<=s+z)(h1:s+z<=1000000)(hV:RowV b 3 [.int .i64 s] w):
  Calls Tryz.prog 90 #[.int .i64 z,.pointer (some ⟨b,0,none⟩)] w fun e w'=>e= .returned (.tuple #[])/\w'=w.setCell ⟨b,0,none⟩ (.int .i64 (s+z)):=by
 have hc:=hV.cell (j:=0) rfl;have hf:=hV.frozen 0;have hb:=hV.lt;clear hV;go_enter Tryz.func90,Tryz.ntmps90;go_wp2;go_end0;exact⟨rfl,rfl⟩
section
variable {A: Option Addr} {n c: Nat} {F: Option Addr} {m d: Nat} {W: List Int} {E: List (Int × Int)}
theorem total_done(w:World)(h:IsG w A n c F m d W E):
  Calls Tryz.prog 58 #[.agg #[.slice A n c,.slice F m d]] w fun e w'=>e= .returned (.int .i64 (totalV W E))/\Below w.heap.size w w':=by
 have H:=Lib.hid h;have C:=Lib.hid (fun w' (h:IsG w' A n c F m d W E)=>check_done w' h)
 by_cases hM:May W E
 ·have hn64: n <= 64:=by rw [<- h.hn]; exact hM.nodes
  have HW:=Lib.hid hM.work;rw[chkE_zero.mpr hM]at C;have HT:=Lib.hid (show totalV W E=W.sum by unfold totalV;rw[if_pos hM])
  obtain⟨r,hr⟩: ∃r,r=totalV W E:=⟨_,rfl⟩;rw[<-hr]at HT⊢;obtain⟨w0,hw0⟩: ∃w0,w0=w.alloc (.cells #[.slice A n c,.slice F m d] 88):=⟨_,rfl⟩;have HW0:=Lib.hid hw0;have HN:=Lib.hid h.hn;clear h hM hr hw0;go_enter Tryz.func58,Tryz.ntmps58;go_wp2_with fail;refine(C.out _ (H.out.below (below_alloc _))).mono ?_
  rintro e w1 ⟨rfl,b⟩;have HB:=Lib.hid (show Below w0.heap.size w0 w1 by rw[HW0.out];exact b)
  have HG:=Lib.hid ((H.out.below (below_alloc _)).below b);have hs1:w.heap.size<w1.heap.size:=by have:=b.size;simp at this;exact this
  have hbox0:w1.cell? ⟨w.heap.size,0,none⟩=some (.slice A n c):=(b.cell (by simp)).trans (by rw[World.cell?_alloc_at _ _ _ _ rfl];rfl)
  clear b;go_wp2;have H0:Hid (RowV w1.heap.size 3 [.int .i64 0] (w1.alloc (.cells #[.int .i64 0] 3))):=Lib.hid (RowV.new w1 3 [.int .i64 0]);go_loopw [14] (fun i wr=> ∃(j:Nat) (q:Int),j<=n/\i= .int .i64 j/\0<=q/\q<=1000 * j/\Hid (q=(W.take j).sum)/\Hid (RowV w1.heap.size 3 [.int .i64 q] wr)/\Hid (Below w1.heap.size w1 wr)) (fun i _=>n - (intOf i).toNat)
  case atStart=>exact⟨0,0,Nat.zero_le _,rfl,by omega,by omega,Lib.hid (by simp),H0,Lib.hid (below_alloc _)⟩
  case round=>
   obtain⟨j,q,hj,rfl,hq0,hq1,hqe,HV,HB1⟩:=hrel;clear H0;have hbl:=HV.out.lt
   by_cases hlt:j<n
   ·obtain ⟨bk,o,z,rfl,hbg,hzj,hc1⟩:=HG.out.ints.at_ (k:=j) (by rw [HN.out]; exact hlt)
    have hd1:wr.cell? ⟨bk,o+j,none⟩=some (.int .i64 z):=(HB1.out.cell hbg).trans hc1
    obtain⟨z0,z1⟩:=HW.out z (List.mem_of_getElem? hzj)
    have HQ:=Lib.hid (show q+z=(W.take (j+1)).sum by rw[take_snoc' hzj,List.sum_append,hqe.out];simp)
    have C2:=Lib.hid (total_add z q w1.heap.size wr (by omega) (by omega) HV.out)
    clear hzj hc1
    go_wp2_with(go_at_call 90;refine C2.out.mono ?_;rintro e w3 ⟨rfl,rfl⟩)
    go_roundw
    case rel=>exact⟨j+1,q+z,by omega,by go_num,by omega,by omega,HQ,Lib.hid (HV.out.set 0 (.int .i64 (q+z))),Lib.hid (HB1.out.setCell (Nat.le_refl _) _)⟩
    case measure=>simp[intOf];omega
   ·obtain rfl: j = n:=by omega
    have hl2:W.take j=W:=List.take_of_length_le (by rw[HN.out];omega)
    rw[hl2]at hqe;have hc:=HV.out.cell (j:=0) rfl;go_wp2;go_ret;exact⟨by rw[HT.out,<-hqe.out];rfl,(below_alloc _).trans (by rw[<-HW0.out];exact(HB.out.trans (HB1.out.mono HB.out.size)).mono (by rw[HW0.out];simp))⟩
 ·have HO: totalV W E = 0:=by unfold totalV; rw [if_neg hM]
  rw[HO];have hc:(chkE W E !=0)=true:=by
   rw[bne_iff_ne];exact fun q=>hM (chkE_zero.mp q)
  obtain⟨r,hr⟩: ∃r,r=chkE W E:=⟨_,rfl⟩;rw[<-hr]at C hc;clear h hM hr HO;go_enter Tryz.func58,Tryz.ntmps58;go_wp2_with fail;refine(C.out _ (H.out.below (below_alloc _))).mono ?_
  rintro e w1 ⟨rfl,b⟩;have HB:=Lib.hid ((below_alloc _).trans (b.mono (by simp)))
  clear b;go_wp2;go_ret;exact⟨rfl,HB.out⟩
end
end Go.Proofs.YtlfekmbalgkmeaaGreatDoor
