import Derived.Test.YtlfekmbalgkmeaaGreatDoorZM24
import Derived.Test.YtlfekmbalgkmeaaGreatDoorZM13
import Derived.Test.YtlfekmbalgkmeaaGreatDoorZM1
import Derived.Test.YtlfekmbalgkmeaaGreatDoorZM2
import Derived.Laws.BitsAllLaws
set_option linter.unusedSimpArgs false
set_option linter.unnecessarySimpa false
set_option linter.unusedVariables false
set_option maxRecDepth 100000
set_option maxHeartbeats 4000000
namespace Go.Proofs.YtlfekmbalgkmeaaGreatDoor
open Go.RowKit
def WorkOk(W:List Int):Prop:=∀ z∈W,0<=z/\z<=1000
open Classical in
noncomputable def plainE (W:List Int) (E:List (Int×Int)):Int:=
 if 64<W.length\/256<E.length then 40 else if¬WorkOk W then 41 else if¬EdgesOk W.length E then 42 else 0
theorem plainE_zero{W:List Int}{E:List (Int×Int)}:plainE W E=0↔(W.length<=64/\E.length<=256)/\WorkOk W/\EdgesOk W.length E:=by
 unfold plainE
 split
 ·constructor
  ·intro h;cases h
  ·rintro⟨h,_⟩;omega
 ·split
  ·constructor
   ·intro h;cases h
   ·rintro⟨_,h,_⟩;contradiction
  ·split
   ·constructor
    ·intro h;cases h
    ·rintro⟨_,_,h⟩;contradiction
   ·rename_i h1 h2 h3
    exact⟨fun _=>⟨by omega,Classical.not_not.mp h2,Classical.not_not.mp h3⟩,fun _=>rfl⟩
theorem plainE_many{W:List Int}{E:List (Int×Int)}(h:64<W.length\/256<E.length):plainE W E=40:=by unfold plainE;rw[if_pos h]
theorem plainE_work{W:List Int}{E:List (Int×Int)}(h: ¬(64<W.length\/256<E.length))(h2: ¬WorkOk W):plainE W E=41:=by unfold plainE;rw[if_neg h,if_pos h2]
theorem plainE_edge{W:List Int}{E:List (Int×Int)}(h: ¬(64<W.length\/256<E.length))(h2:WorkOk W)(h3: ¬EdgesOk W.length E):plainE W E=42:=by unfold plainE;rw[if_neg h,if_neg (fun k=>k h2),if_pos h3]
theorem workOk_snoc{W:List Int}{j:Nat}{z:Int}(h:W[j]? =some z):WorkOk (W.take (j+1))↔WorkOk (W.take j)/\0<=z/\z<=1000:=by
 rw[take_snoc' h];unfold WorkOk;constructor
 ·intro k
  exact⟨fun x hx=>k x (by simp[hx]),k z (by simp)⟩
 ·rintro ⟨k1,k2⟩ x hx
  rcases List.mem_append.mp hx with hx|hx
  ·exact k1 x hx
  ·obtain rfl: x = z:=by simpa using hx
   exact k2
structure StE(base:Nat)(w0:World)(g:Nat)(x y:Int)(w:World):Prop where
 bel:Below base w0 w
 base:base<=w0.heap.size
 c0:w.cell? ⟨g,0,none⟩=some (.int .i64 x)
 c1:w.cell? ⟨g,1,none⟩=some (.int .i64 y)
theorem StE.cells{base:Nat}{w0:World}{g:Nat}{x y:Int}{w:World}(h:StE base w0 g x y w):w.cell? ⟨g,0,none⟩=some (.int .i64 x)/\w.cell? ⟨g,1,none⟩=some (.int .i64 y):=⟨h.c0,h.c1⟩
theorem StE.lt{base:Nat}{w0:World}{g:Nat}{x y:Int}{w:World}(h:StE base w0 g x y w):g<w.heap.size:=by
 rcases Nat.lt_or_ge g w.heap.size with hlt|hge
 ·exact hlt
 ·have:=h.c0
  unfold World.cell? at this
  simp[Array.getElem?_eq_none hge]at this
theorem StE.below{base:Nat}{w0:World}{g:Nat}{x y:Int}{w w':World}(h:StE base w0 g x y w)(hb:Below w.heap.size w w')(hg:g<w.heap.size):StE base w0 g x y w':=
 ⟨h.bel.trans (hb.mono (Nat.le_trans h.base h.bel.size)),h.base,(hb.cell hg).trans h.c0,(hb.cell hg).trans h.c1⟩
theorem StE.box{w1:World}{g:Nat}{x y:Int}{w0 w:World}{A F:Option Addr}{n c m d:Nat}(h:StE (w1.heap.size+1) w0 g x y w)(h0:w0=w1.alloc (.cells #[.slice A n c,.slice F m d] 88)):
  w.cell? ⟨w1.heap.size,0,none⟩=some (.slice A n c)/\w.cell? ⟨w1.heap.size,1,none⟩=some (.slice F m d):=
 ⟨(h.bel.cell (Nat.lt_succ_self _)).trans (by rw[h0,World.cell?_alloc_at _ _ _ _ rfl];rfl),(h.bel.cell (Nat.lt_succ_self _)).trans (by rw[h0,World.cell?_alloc_at _ _ _ _ rfl];rfl)⟩
theorem plain_any(A F:Option Addr)(n c m d:Nat)(W:List Int)(E:List (Int×Int))(w:World)(hn:W.length=n)(hl:n<=1000)(hm:E.length=m)(hk:m<=1000)(hI:Ints w w.heap.size A W)(hP:Pairs w w.heap.size F E):
  Calls Tryz.prog 129 #[.agg #[.slice A n c,.slice F m d]] w fun e w'=>e= .returned (.int .i64 (plainE W E))/\Below w.heap.size w w':=by
 have HI:=Lib.hid hI;have HN:=Lib.hid hn;have HP:=Lib.hid hP;have HM:=Lib.hid hm;obtain⟨r,hr⟩: ∃r,r=plainE W E:=⟨_,rfl⟩;rw[<-hr];have HR:=Lib.hid hr;clear hI hn hP hm hr
 by_cases hmany:64<n\/256<m
 ·have HX:=Lib.hid (plainE_many (W:=W) (E:=E) (by rw [HN.out,HM.out]; exact hmany))
  rcases(show 64<n\/(n<=64/\256<m) by omega)with h|⟨h,h2⟩
  ·clear hmany
   go_enter Tryz.func129,Tryz.ntmps129;go_wp2;go_ret;exact⟨by rw[HR.out,HX.out];rfl,below_alloc _⟩
  ·clear hmany
   go_enter Tryz.func129,Tryz.ntmps129;go_wp2;go_ret;exact⟨by rw[HR.out,HX.out];rfl,below_alloc _⟩
 ·have HMANY: Hid (¬ (64 < W.length \/ 256 < E.length)):=Lib.hid (by rw [HN.out,HM.out]; exact hmany)
  have hn64:n<=64:=by omega
  have hm256:m<=256:=by omega
  have C:=Lib.hid (fun x W'=>node_any A F n c m d x W')
  clear hmany;go_enter Tryz.func129,Tryz.ntmps129;go_wp2;go_loop [3] (fun i=> ∃j:Nat,j<=n/\i= .int .i64 j/\Hid (WorkOk (W.take j))) (fun i=>n - (intOf i).toNat)
  case atStart=>exact⟨0,Nat.zero_le _,rfl,Lib.hid (fun z hz=>by simp at hz)⟩
  case round=>
   obtain⟨j,hj,rfl,HO⟩:=hrel
   by_cases hlt:j<n
   ·obtain ⟨bk,o,z,rfl,hbg,hzj,hc1⟩:=HI.out.at_ (k:=j) (by rw [HN.out]; exact hlt)
    have HS:=Lib.hid (workOk_snoc hzj);have HBAD:=Lib.hid (fun h: ¬(0<=z/\z<=1000)=>plainE_work (W:=W) (E:=E) HMANY.out (fun k=>h (k z (List.mem_of_getElem? hzj))))
    clear hzj
    by_cases h0:z<0
    ·have HX:=Lib.hid (HBAD.out (by omega))
     go_wp2;go_ret
     exact⟨by rw[HR.out,HX.out];rfl,below_alloc _⟩
    ·by_cases h1: 1000 < z
     ·have HX:=Lib.hid (HBAD.out (by omega))
      go_wp2;go_ret
      exact⟨by rw[HR.out,HX.out];rfl,below_alloc _⟩
     ·have HX: Hid (WorkOk (W.take (j + 1))):=Lib.hid (HS.out.mpr ⟨HO.out,by omega,by omega⟩)
      have g0:decide (z<0)=false:=decide_eq_false h0;have g1:decide (1000<z)=false:=decide_eq_false h1;go_wp2;go_round
      case rel=>exact⟨j+1,by omega,by go_num,HX⟩
      case measure=>simp[intOf];omega
   ·obtain rfl: j = n:=by omega
    have HWO:Hid (WorkOk W):=Lib.hid (by have h:=HO.out;rwa [List.take_of_length_le (by rw[HN.out];omega)]at h)
    obtain⟨w0,hw0⟩: ∃w0,w0=w.alloc (.cells #[.slice A j c,.slice F m d] 88):=⟨_,rfl⟩;have HW0:=Lib.hid hw0;clear hw0;go_wp2;go_loopw [4] (fun i wr=> ∃k:Nat,k<=m/\i= .int .i64 k/\Hid (EdgesOk j (E.take k))/\Hid (Below (w.heap.size+1) w0 wr)) (fun i _=>m - (intOf i).toNat)
    case atStart=>exact⟨0,Nat.zero_le _,rfl,Lib.hid ⟨fun e he=>by simp at he,fun e he=>by simp at he,by simp⟩,Lib.hid (by rw[HW0.out];exact Below.refl _ _)⟩
    case round=>
     obtain⟨k,hk2,rfl,HE,HB⟩:=hrel;have hbox0:wr.cell? ⟨w.heap.size,0,none⟩=some (.slice A j c):=(HB.out.cell (Nat.lt_succ_self _)).trans (by rw[HW0.out,World.cell?_alloc_at _ _ _ _ rfl];rfl)
     have hbox1:wr.cell? ⟨w.heap.size,1,none⟩=some (.slice F m d):=(HB.out.cell (Nat.lt_succ_self _)).trans (by rw[HW0.out,World.cell?_alloc_at _ _ _ _ rfl];rfl)
     by_cases hlt2:k<m
     ·obtain ⟨bk,o,⟨x,y⟩,rfl,hbg,hek,hc1,hc2⟩:=HP.out.at_ (k:=k) (by rw [HM.out]; exact hlt2)
      simp only at hc1 hc2;have hd1:wr.cell? ⟨bk,o+k * 2,none⟩=some (.int .i64 x):=(HB.out.cell (by show bk<_;omega)).trans (by rw[HW0.out,World.cell?_alloc_lt _ _ _ hbg];exact hc1)
      have hd2:wr.cell? ⟨bk,o+k * 2+1,none⟩=some (.int .i64 y):=(HB.out.cell (by show bk<_;omega)).trans (by rw[HW0.out,World.cell?_alloc_lt _ _ _ hbg];exact hc2)
      have hsz:w.heap.size+1<=wr.heap.size:=by have:=HB.out.size;rw[HW0.out]at this;simpa using this
      have HS:=Lib.hid (edgesOk_snoc (n:=j) hek);have HBAD:=Lib.hid (fun h: ¬EdgesOk j (E.take (k+1))=>plainE_edge (W:=W) (E:=E) HMANY.out HWO.out (by rw[HN.out];exact fun q=>h (edgesOk_take q _)))
      clear hc1 hc2 hek;have ST1:Hid (StE (w.heap.size+1) w0 wr.heap.size x y (wr.alloc (.cells #[.int .i64 x,.int .i64 y] 131))):=Lib.hid ⟨HB.out.alloc (by omega) _,by rw[HW0.out];simp,by rw[World.cell?_alloc_at _ _ _ _ rfl];rfl,by rw[World.cell?_alloc_at _ _ _ _ rfl];rfl⟩
      have hsz2:w.heap.size<wr.heap.size:=by omega
      by_cases p1:0<=x/\x<j
      ·have C1:=Lib.hid (fun W' => C.out x W')
       rw[decide_eq_true p1]at C1
       by_cases p2:0<=y/\y<j
       ·have C2:=Lib.hid (fun W' => C.out y W')
        rw[decide_eq_true p2]at C2
        by_cases p3:x=y
        ·have HX:=Lib.hid (HBAD.out (fun q => ((HS.out.mp q).2.2.2.1) p3))
         subst p3;clear p1 p2;go_wp2_with fail;refine(C1.out _).mono ?_
         rintro e w2 ⟨rfl,b2⟩;have ST2:=Lib.hid (ST1.out.below b2 (by rw[World.size_alloc];omega))
         clear b2;obtain⟨hx0,hx1⟩:=ST2.out.cells;obtain⟨hy0,hy1⟩:=ST2.out.box HW0.out;go_wp2_with fail;refine(C2.out _).mono ?_
         rintro e w3 ⟨rfl,b3⟩;have ST3:=Lib.hid (ST2.out.below b3 ST2.out.lt);clear b3 hx0 hx1 hy0 hy1;obtain⟨hx0,hx1⟩:=ST3.out.cells;obtain⟨hy0,hy1⟩:=ST3.out.box HW0.out;go_wp2;go_ret;exact⟨by rw[HR.out,HX.out];rfl,(below_alloc _).trans (by rw[<-HW0.out];exact ST3.out.bel.mono (by omega))⟩
        ·have h3: (x == y) = false:=by simpa using p3
         have HP3:=Lib.hid p3;have HP1:=Lib.hid p1;have HP2:=Lib.hid p2;clear p1 p2 p3;go_wp2_with fail;refine(C1.out _).mono ?_
         rintro e w2 ⟨rfl,b2⟩;have ST2:=Lib.hid (ST1.out.below b2 (by rw[World.size_alloc];omega))
         clear b2;obtain⟨hx0,hx1⟩:=ST2.out.cells;obtain⟨hy0,hy1⟩:=ST2.out.box HW0.out;go_wp2_with fail;refine(C2.out _).mono ?_
         rintro e w3 ⟨rfl,b3⟩;have ST3:=Lib.hid (ST2.out.below b3 ST2.out.lt);clear b3 hx0 hx1 hy0 hy1;obtain⟨hx0,hx1⟩:=ST3.out.cells;obtain⟨hy0,hy1⟩:=ST3.out.box HW0.out;go_wp2;go_loopw [6] (fun i wq=> ∃q N:Nat,q<=k/\i= .int .i64 q/\Hid ((x,y)∉E.take q)/\wq=w3.drewN N) (fun i _=>k - (intOf i).toNat)
         case atStart=>exact⟨0,0,Nat.zero_le _,rfl,Lib.hid (by simp),rfl⟩
         case round=>
          obtain⟨q,N,hq,rfl,HNO,rfl⟩:=hrel
          by_cases hlt3:q<k
          ·obtain ⟨bk2,o2,⟨u,v⟩,hfe,hbg2,heq,hq1,hq2⟩:=HP.out.at_ (k:=q) (by rw [HM.out]; omega)
           obtain⟨rfl,rfl⟩:bk2=bk/\o2=o:=by injection hfe with h;injection h with h1 h2 _;exact⟨h1.symm,h2.symm⟩
           clear hfe;simp only at hq1 hq2;have hr1:w3.cell? ⟨bk2,o2+q * 2,none⟩=some (.int .i64 u):=(ST3.out.bel.cell (by show bk2<_;omega)).trans (by rw[HW0.out,World.cell?_alloc_lt _ _ _ hbg2];exact hq1)
           have hr2:w3.cell? ⟨bk2,o2+q * 2+1,none⟩=some (.int .i64 v):=(ST3.out.bel.cell (by show bk2<_;omega)).trans (by rw[HW0.out,World.cell?_alloc_lt _ _ _ hbg2];exact hq2)
           have HEQ:=Lib.hid heq;have HMS:=Lib.hid (mem_take_snoc (x:=(x,y)) heq);have hrun:=fun W=>edge_eql_run u v x y W
           have hkm:q<m:=by omega
           clear hq1 hq2 heq
           by_cases huv:(u,v)=(x,y)
           ·injection huv with h1 h2
            subst h1 h2;have hb:(u==u&&v==v)=true:=by simp
            simp only[hb]at hrun;have HX:=Lib.hid (HBAD.out (fun z=>(HS.out.mp z).2.2.2.2 (by
             have:=List.mem_of_getElem? (l:=E.take k) (i:=q) (a:=(u,v)) (by rw[List.getElem?_take,if_pos hlt3];exact HEQ.out)
             exact this)))
            go_wp2
            go_quiet (fail)
            go_wp2;go_ret
            exact⟨by rw[HR.out,HX.out];rfl,(below_alloc _).trans (by rw[<-HW0.out];exact(below_drewN (below_drewN ST3.out.bel _) _).mono (by omega))⟩
           ·have hb: (u == x && v == y) = false:=by
             rw[Bool.and_eq_false_iff]
             by_cases h1:u=x
             ·exact .inr (by simpa using fun h2=>huv (by rw[h1,h2]))
             ·exact .inl (by simpa using h1)
            simp only[hb]at hrun;have HUV:=Lib.hid huv;clear huv;go_wp2
            go_quiet (fail)
            go_wp2;go_roundw
            case rel=>exact⟨q+1,_,by omega,by go_num,Lib.hid (by rw[HMS.out];rintro(h|h);exact HNO.out h;exact HUV.out h.symm),rfl⟩
            case measure=>simp[intOf];omega
          ·obtain rfl: q = k:=by omega
           have HOK:=Lib.hid (HS.out.mpr ⟨HE.out,HP1.out,HP2.out,HP3.out,HNO.out⟩);go_wp2;go_roundw
           case rel=>exact⟨q+1,by omega,by go_num,HOK,Lib.hid (below_drewN ST3.out.bel N)⟩
           case measure=>simp[intOf];omega
       ·have C2:=Lib.hid (fun W' => C.out y W')
        rw[decide_eq_false p2]at C2;have HX:=Lib.hid (HBAD.out (fun q=>p2 (HS.out.mp q).2.2.1))
        clear p1 p2;go_wp2_with fail;refine(C1.out _).mono ?_
        rintro e w2 ⟨rfl,b2⟩;have ST2:=Lib.hid (ST1.out.below b2 (by rw[World.size_alloc];omega))
        clear b2;obtain⟨hx0,hx1⟩:=ST2.out.cells;obtain⟨hy0,hy1⟩:=ST2.out.box HW0.out;go_wp2_with fail;refine(C2.out _).mono ?_
        rintro e w3 ⟨rfl,b3⟩;have ST3:=Lib.hid (ST2.out.below b3 ST2.out.lt);clear b3;go_wp2;go_ret;exact⟨by rw[HR.out,HX.out];rfl,(below_alloc _).trans (by rw[<-HW0.out];exact ST3.out.bel.mono (by omega))⟩
      ·have C1:=Lib.hid (fun W' => C.out x W')
       rw[decide_eq_false p1]at C1;have HX:=Lib.hid (HBAD.out (fun q=>p1 (HS.out.mp q).2.1))
       clear p1;go_wp2_with fail;refine(C1.out _).mono ?_
       rintro e w2 ⟨rfl,b2⟩;have ST2:=Lib.hid (ST1.out.below b2 (by rw[World.size_alloc];omega))
       clear b2;go_wp2;go_ret;exact⟨by rw[HR.out,HX.out];rfl,(below_alloc _).trans (by rw[<-HW0.out];exact ST2.out.bel.mono (by omega))⟩
     ·obtain rfl: k = m:=by omega
      have HX:Hid (plainE W E=0):=Lib.hid (plainE_zero.mpr ⟨by have:=HMANY.out;omega,HWO.out,by
       have h:=HE.out;rw[List.take_of_length_le (by rw[HM.out];omega)]at h
       rw[HN.out];exact h⟩)
      go_wp2;go_ret
      exact⟨by rw[HR.out,HX.out];rfl,(below_alloc _).trans (by rw[<-HW0.out];exact HB.out.mono (by omega))⟩
open Classical in
noncomputable def chkE (W:List Int) (E:List (Int×Int)):Int:=if plainE W E≠0 then plainE W E else if Acyc E then 0 else 43
structure May(W:List Int)(E:List (Int×Int)):Prop where
 nodes:W.length<=64
 edges:E.length<=256
 work:WorkOk W
 fits:Fits W.length E
 apart: ∀e∈E,e.1≠e.2
 once:E.Nodup
 acyc:Acyc E
theorem chkE_zero{W:List Int}{E:List (Int×Int)}:chkE W E=0↔May W E:=by
 unfold chkE
 split
 ·rename_i h
  exact⟨fun k=>absurd k h,fun k=>absurd (plainE_zero.mpr ⟨⟨k.nodes,k.edges⟩,k.work,k.fits,k.apart,k.once⟩) h⟩
 ·rename_i h
  have h1:=plainE_zero.mp (Classical.not_not.mp h)
  split
  ·rename_i hA
   exact⟨fun _=>⟨h1.1.1,h1.1.2,h1.2.1,h1.2.2.1,h1.2.2.2.1,h1.2.2.2.2,hA⟩,fun _=>rfl⟩
  ·rename_i hA
   exact⟨fun k=>(by cases k),fun k=>absurd k.acyc hA⟩
theorem chkE_plain{W:List Int}{E:List (Int×Int)}(h:plainE W E≠0):chkE W E=plainE W E:=by unfold chkE;rw[if_pos h]
theorem chkE_round{W:List Int}{E:List (Int×Int)}(h:plainE W E=0)(hA: ¬Acyc E):chkE W E=43:=by unfold chkE;rw[if_neg (fun k=>k h),if_neg hA]
theorem chkE_ok{W:List Int}{E:List (Int×Int)}(h:plainE W E=0)(hA:Acyc E):chkE W E=0:=by unfold chkE;rw[if_neg (fun k=>k h),if_pos hA]
theorem rcheck_any(A F:Option Addr)(n c m d:Nat)(W:List Int)(E:List (Int×Int))(w:World)(hn:W.length=n)(hl:n<=1000)(hm:E.length=m)(hk:m<=1000)(hI:Ints w w.heap.size A W)(hP:Pairs w w.heap.size F E):
    Calls Tryz.prog 97 #[.agg #[.slice A n c, .slice F m d]] w fun e w'=>e= .returned (.int .i64 (chkE W E))/\Below w.heap.size w w':=by
  have HP:=Lib.hid hP;have C:=Lib.hid (fun W' hI hP=>plain_any A F n c m d W E W' hn hl hm hk hI hP)
  have HNI:=Lib.hid hn;have HMI:=Lib.hid hm;have HI:=Lib.hid hI;obtain⟨w0,hw0⟩: ∃w0,w0=w.alloc (.cells #[.slice A n c, .slice F m d] 88):=⟨_,rfl⟩;have HW0:=Lib.hid hw0;have C0:Hid (Calls Tryz.prog 129 #[.agg #[.slice A n c, .slice F m d]] (w.alloc (.cells #[.slice A n c, .slice F m d] 88)) fun e w'=>e= .returned (.int .i64 (plainE W E))/\Below (w.heap.size+1) w0 w'):=
    Lib.hid ((C.out _ ((hI.alloc (Nat.le_refl _) _).more (by simp)) ((hP.alloc (Nat.le_refl _) _).more (by simp))).mono (fun e w' h=>⟨h.1,by rw[hw0];exact h.2.mono (by simp)⟩))
  clear hn hm hI hP hw0
  by_cases hz:plainE W E=0
  · obtain⟨_,_,hF,_⟩:=plainE_zero.mp hz;rw[HNI.out]at hF;have D:=Lib.hid (fun a ha W' hP=>reach_any A F n c m d E a W' hl HMI.out hk ha hF hP)
    have HRE:=Lib.hid (fun a=>reach_iff (a:=a) (b:=a) hF)
    have HLEN:=Lib.hid (fun a=>reachK_length n E a n)
    have HROUND:=Lib.hid (chkE_round hz);have HOK:=Lib.hid (chkE_ok hz);have HFIT:=Lib.hid hF;rw[hz]at C0;obtain⟨r,hr⟩: ∃r,r=chkE W E:=⟨_,rfl⟩;rw[<-hr];have HR:=Lib.hid hr;clear hz hF hr;go_enter Tryz.func97,Tryz.ntmps97;go_wp2_with fail;refine C0.out.mono ?_
    rintro e w1 ⟨rfl,b1⟩;have HB1:=Lib.hid b1;clear b1;have hbx0:w1.cell? ⟨w.heap.size,0,none⟩=some (.slice A n c):=(HB1.out.cell (Nat.lt_succ_self _)).trans (by rw[HW0.out,World.cell?_alloc_at _ _ _ _ rfl];rfl)
    go_wp2;go_loopw [4] (fun i wr=> ∃j:Nat,j<=n/\i= .int .i64 j/\Hid (∀a,a<j-> ¬Way E a a)/\Hid (Below (w.heap.size+1) w0 wr)) (fun i _=>n - (intOf i).toNat)
    case atStart=>exact⟨0,Nat.zero_le _,rfl,Lib.hid (fun a h=>by omega),HB1⟩
    case round=>
      obtain⟨j,hj,rfl,HA,HB⟩:=hrel;have hbox0:wr.cell? ⟨w.heap.size,0,none⟩=some (.slice A n c):=(HB.out.cell (Nat.lt_succ_self _)).trans (by rw[HW0.out,World.cell?_alloc_at _ _ _ _ rfl];rfl)
      have hbox1:wr.cell? ⟨w.heap.size,1,none⟩=some (.slice F m d):=(HB.out.cell (Nat.lt_succ_self _)).trans (by rw[HW0.out,World.cell?_alloc_at _ _ _ _ rfl];rfl)
      have hsz:w.heap.size+1<=wr.heap.size:=by have:=HB.out.size;rw[HW0.out]at this;simpa using this
      by_cases hlt:j<n
      · have D1:=Lib.hid (D.out j (by omega) wr ((by rw[HW0.out]at HB;exact(((HP.out.alloc (Nat.le_refl _) _).below (HB.out.mono (by omega))).more (by omega)))))
        go_wp2_with fail;refine D1.out.mono ?_
        rintro e w2 ⟨g,c2,rfl,hg,hV,b2⟩;have HB2:=Lib.hid (HB.out.trans (b2.mono hsz));have hlen:(reach n E j).length=n:=HLEN.out j;have hcell:=hV.cell (bools_at (l:=reach n E j) (j:=j) (by omega))
        rw[hlen];have HIFF:=Lib.hid (HRE.out j);cases hb:(reach n E j).getD j false with
        | true =>
          rw[hb]at hcell;have HWAY:=Lib.hid (HIFF.out.mp hb);have HX:=Lib.hid (HROUND.out (fun q=>q j HWAY.out))
          clear hb hV b2 hlen;go_wp2;go_ret;exact⟨by rw[HR.out,HX.out];rfl,(below_alloc _).trans (by rw[<-HW0.out];exact HB2.out.mono (by omega))⟩
        | false =>
          rw[hb]at hcell;have HNW:Hid (¬Way E j j):=Lib.hid (fun q=>by have h:=HIFF.out.mpr q;rw[hb]at h;cases h)
          clear hb hV b2 hlen;go_wp2;go_roundw
          case rel=>exact⟨j+1,by omega,by go_num,Lib.hid (fun a ha=>by
            rcases Nat.lt_or_ge a j with h|h
            · exact HA.out a h
            · obtain rfl:a=j:=by omega
              exact HNW.out),HB2⟩
          case measure=>simp[intOf];omega
      · obtain rfl:j=n:=by omega
        have HX:=Lib.hid (HOK.out (fun a ha=>HA.out a (ha.lt HFIT.out).1 ha))
        go_wp2;go_ret
        exact⟨by rw[HR.out,HX.out];rfl,(below_alloc _).trans (by rw[<-HW0.out];exact HB.out.mono (by omega))⟩
  · have HX:=Lib.hid (chkE_plain hz);have hz2:(plainE W E !=0)=true:=by simpa using hz
    obtain⟨p,hp⟩: ∃p,p=plainE W E:=⟨_,rfl⟩;rw[HX.out];rw[<-hp]at C0 hz2⊢;clear hz hp HX;go_enter Tryz.func97,Tryz.ntmps97;go_wp2_with fail;refine C0.out.mono ?_
    rintro e w1 ⟨rfl,b1⟩;have HB1:=Lib.hid b1;clear b1;go_wp2;go_ret;exact⟨rfl,(below_alloc _).trans (by rw[<-HW0.out];exact HB1.out.mono (by omega))⟩
theorem pick_at{n:Nat}{E:List (Int×Int)}{out:List Nat}{i:Nat}(hi:i<n)(h:ready n E out i=true)(hb: ∀m,m<i->ready n E out m=false):pick n E out=some i:=by
 unfold pick;rw[List.find?_range_eq_some]
 exact⟨h,List.mem_range.mpr hi,fun j hj=>by rw[hb j hj];rfl⟩
theorem pick_nil{n:Nat}{E:List (Int×Int)}{out:List Nat}(hb: ∀m,m<n->ready n E out m=false):pick n E out=none:=by
 unfold pick;rw[List.find?_eq_none]
 intro m hm;rw[hb m (List.mem_range.mp hm)];exact Bool.false_ne_true
theorem ordK_some{n:Nat}{E:List (Int×Int)}{k m:Nat}(h:pick n E (ordK n E k)=some m):ordK n E (k+1)=ordK n E k++ [m]:=by
 show(match pick n E (ordK n E k)with|some m=>ordK n E k++ [m]|none=>ordK n E k)=_
 rw[h]
def bitsL(s:Nat):List Nat:=(List.range 64).filter s.testBit
theorem mem_bitsL{s j:Nat}:j∈bitsL s↔j<64/\s.testBit j=true:=by
 unfold bitsL;rw[List.mem_filter,List.mem_range]
theorem bitsL_zero:bitsL 0= []:=by decide
theorem bitsL_length(s:Nat):(bitsL s).length<=64:=by
 unfold bitsL;have:=List.length_filter_le s.testBit (List.range 64)
 rwa [List.length_range]at this
theorem filt_first(p q:Nat->Bool)(k:Nat)(hk:p k=true)(hlt: ∀j,j<k->p j=false)(hq: ∀j,q j=(p j&&decide (j≠k))): ∀n,k<n->(List.range n).filter p=k::(List.range n).filter q
  |0,h=>by omega
  | n + 1, h => by
    rw[List.range_succ,List.filter_append,List.filter_append];rcases Nat.lt_or_ge k n with h1|h1
    · rw[filt_first p q k hk hlt hq n h1];have e:q n=p n:=by rw[hq,decide_eq_true (by omega:n≠k),Bool.and_true]
      simp[List.filter,e]
    · obtain rfl:n=k:=by omega
      have e1:(List.range n).filter p= []:=List.filter_eq_nil_iff.mpr fun j hj=>by rw[hlt j (List.mem_range.mp hj)];exact Bool.false_ne_true
      have e2:(List.range n).filter q= []:=List.filter_eq_nil_iff.mpr fun j hj=>by rw[hq,hlt j (List.mem_range.mp hj)];exact Bool.false_ne_true
      have e3:q n=false:=by rw[hq];simp
      rw[e1,e2];simp[List.filter,hk,e3]
theorem low_bit(k m j:Nat):(2^k * (2 * m+1)).testBit j=(decide (k<=j)&&(decide (j=k)||m.testBit (j - k - 1))):=by
 rw[Nat.mul_comm,Nat.testBit_mul_two_pow]
 by_cases h:k<=j
 ·by_cases he: j = k
  ·subst he
   simp[Nat.testBit_zero]
  ·obtain ⟨i,rfl⟩: ∃ i,j = k + (i + 1):=⟨j - k - 1,by omega⟩
   have e1:k+(i+1) - k=i+1:=by omega
   have e2:(2 * m+1)/2=m:=by omega
   rw[e1,Nat.testBit_succ,e2];simp
 ·simp[h]
theorem low_less(k m j:Nat):(2^k * (2 * m+1) - 1).testBit j=(decide (j<k)||(decide (k<j)&&m.testBit (j - k - 1))):=by
 have hp:0<2^k:=Nat.two_pow_pos k;have e:2^k * (2 * m+1) - 1=2^k * (2 * m)+(2^k - 1):=by rw[Nat.mul_add];omega
 rw[e,Nat.testBit_two_pow_mul_add _ (by omega)]
 by_cases h:j<k
 ·rw [if_pos h,Nat.testBit_two_pow_sub_one]
  simp[h]
 ·rw [if_neg h]
  by_cases he:j=k
  ·subst he
   simp[Nat.testBit_zero]
  ·obtain ⟨i,rfl⟩: ∃ i,j = k + (i + 1):=⟨j - k - 1,by omega⟩
   have e1:k+(i+1) - k=i+1:=by omega
   have e2:(2 * m)/2=m:=by omega
   rw[e1,Nat.testBit_succ,e2];have h3:k<k+(i+1):=by omega
   simp[h,h3]
theorem bitsL_step{s:Nat}(h0:s≠0)(hs:s<18446744073709551616):bitsL s=Lib.ctz 64 s::bitsL (s &&& (s - 1)):=by
 obtain⟨m,hm,hk⟩:=Lib.ctzFrom_spec 64 s (by omega) hs
 have hc:Lib.ctz 64 s=Lib.ctzFrom 64 s:=by unfold Lib.ctz;rw[if_neg h0]
 rw[hc];obtain⟨k,hk2⟩: ∃k,k=Lib.ctzFrom 64 s:=⟨_,rfl⟩;rw[<-hk2]at hm hk⊢;clear hk2 hc;unfold bitsL;refine filt_first _ _ k ?_ ?_ ?_ 64 hk
 ·rw[hm,low_bit];simp
 ·intro j hj
  rw[hm,low_bit];simp[show¬k<=j by omega]
 ·intro j
  rw[Nat.testBit_and,hm,low_bit,low_less]
  by_cases h1:j<k
  ·simp[h1,show¬k<=j by omega]
  ·by_cases h2: j = k
   ·subst h2
    simp
   ·have h3: k < j:=by omega
    have h4:k<=j:=by omega
    simp[h1,h2,h3,h4]
theorem and_pred_lt{s:Nat}(h0:s≠0):s &&& (s - 1)<s:=Nat.lt_of_le_of_lt Nat.and_le_right (by omega)
theorem or_bit_testBit(s n j:Nat):(s ||| 2^n).testBit j=(s.testBit j||decide (n=j)):=by
 rw[Nat.testBit_or,Nat.testBit_two_pow]
theorem set_has_core(s n p q r:Nat)(b:Bool)(w:World)(hn:n<64)(hp:(2:Int)^n=(p:Int))(hq:(s:Int)/(p:Int)=(q:Int))(ha:bits .and .u64 (q:Int) 1=(r:Int))(hb:((r:Int)==1)=b):
  Calls Tryz.prog 152 #[.int .u64 s,.int .i64 n] w fun e w'=>e= .returned (.bool b)/\w=w':=by
 go_enter Tryz.func152,Tryz.ntmps152;go_wp2;go_ret;exact⟨rfl,rfl⟩
theorem set_has(s n:Nat)(w:World)(hs:s<18446744073709551616)(hn:n<64):
  Calls Tryz.prog 152 #[.int .u64 s,.int .i64 n] w fun e w'=>e= .returned (.bool (s.testBit n))/\w=w':=by
 have h1:s/2^n<=s:=Nat.div_le_self _ _;refine set_has_core s n (2^n) (s/2^n) (s/2^n%2) (s.testBit n) w hn (by push_cast;rfl) (by push_cast;rfl) ?_ ?_
 ·have h2:=bits_and_u64_nat (s / 2 ^ n) 1 (by omega) (by decide)
  rw[Nat.and_one_is_mod]at h2;exact h2
 ·rw [Nat.testBit_eq_decide_div_mod_eq]
  rcases Nat.mod_two_eq_zero_or_one (s/2^n)with h|h<;>rw[h]<;>rfl
theorem set_with_core(s n p r:Nat)(w:World)(hn:n<64)(hp:(2:Int)^n=(p:Int))(hw:IntKind.u64.wrap (p:Int)=(p:Int))(ha:bits .or .u64 (s:Int) (p:Int)=(r:Int)):
  Calls Tryz.prog 153 #[.int .u64 s,.int .i64 n] w fun e w'=>e= .returned (.int .u64 r)/\w=w':=by
 go_enter Tryz.func153,Tryz.ntmps153;go_wp2;go_ret;exact⟨rfl,rfl⟩
theorem set_with(s n:Nat)(w:World)(hs:s<18446744073709551616)(hn:n<64):
  Calls Tryz.prog 153 #[.int .u64 s,.int .i64 n] w fun e w'=>e= .returned (.int .u64 (s ||| 2^n:Nat))/\w=w':=by
 have h1:2^n<18446744073709551616:=Nat.pow_lt_pow_right (by decide) hn
 refine set_with_core s n (2^n) (s ||| 2^n) w hn (by push_cast;rfl) ?_ (bits_or_u64_nat s (2^n) hs h1)
 obtain⟨p,hp⟩: ∃p,p=2^n:=⟨_,rfl⟩;rw[<-hp]at h1⊢;rw[IntKind.wrap_u64];omega
theorem is_node(x:Int)(n:Nat)(w:World)(hn:n<=1000):
  Calls Tryz.prog 151 #[.int .i64 x,.int .i64 n] w fun e w'=>e= .returned (.bool (decide (0<=x/\x<n)))/\w=w':=by
 by_cases h0:0<=x
 ·by_cases h1: x < n
  ·rw [decide_eq_true (⟨h0,h1⟩: 0 <= x /\ x < n)]
   go_enter Tryz.func151,Tryz.ntmps151;go_wp2;go_ret;exact⟨rfl,rfl⟩
  ·rw [decide_eq_false (fun h => h1 h.2: ¬ (0 <= x /\ x < n))]
   go_enter Tryz.func151,Tryz.ntmps151;go_wp2;go_ret;exact⟨rfl,rfl⟩
 ·rw [decide_eq_false (fun h => h0 h.1: ¬ (0 <= x /\ x < n))]
  go_enter Tryz.func151,Tryz.ntmps151;go_wp2;go_ret;exact⟨rfl,rfl⟩
theorem ownI_nil(w:World)(base:Nat):OwnI w base (.slice none 0 0) []:=⟨rfl,.inl ⟨rfl,rfl⟩⟩
theorem set_row(s:Nat)(w:World)(hs:s<18446744073709551616)(hT:Tab64 w):
  Calls Tryz.prog 93 #[.int .u64 s] w (GotInts (nums (bitsL s)) w):=by
 have HS:=Lib.hid hs;have HT:=Lib.hid hT;have HLEN:=Lib.hid (bitsL_length s);clear hs hT;go_enter Tryz.func93,Tryz.ntmps93;go_wp2;go_loopw [0,3] (fun sv v wr=> ∃(t k:Nat) (A:Option Addr) (c:Nat) (l:List Nat),sv= .int .u64 t/\t<18446744073709551616/\k<=64/\v= .slice A k c/\Hid (l.length=k)/\Hid (l++bitsL t=bitsL s)/\Hid (OwnI wr w.heap.size (.slice A k c) (nums l))/\Hid (Below w.heap.size w wr)) (fun sv _ _=>(intOf sv).toNat)
 case atStart=>exact⟨s,0,none,0,[],rfl,HS.out,by omega,rfl,Lib.hid rfl,Lib.hid rfl,Lib.hid (ownI_nil _ _),Lib.hid (Below.refl _ _)⟩
 case round=>
  obtain⟨t,k,A,c,l,rfl,ht,hk,rfl,HL,HE,HO,HB⟩:=hrel
  by_cases h0:t=0
  ·subst h0
   have he:l=bitsL s:=by have:=HE.out;rwa [bitsL_zero,List.append_nil]at this
   have HE2:=Lib.hid he;clear he;go_wp2;go_ret;obtain⟨A2,c2,h1,h2⟩:=HO.out.slice;exact⟨A2,c2,by rw[<-HE2.out,<-h1];rfl,by rw[<-HE2.out];exact h2,HB.out⟩
  ·have HST:=Lib.hid (bitsL_step h0 ht)
   have hne:((t:Int) !=0)=true:=by simpa using h0
   have C:=Lib.hid (tz64_any t wr ht h0 (HT.out.via HB.out));have hsub:IntKind.u64.wrap ((t:Int) - 1)=((t - 1:Nat):Int):=by rw[IntKind.wrap_u64];omega
   have hand:=bits_and_u64_nat t (t - 1) ht (by omega)
   have hlt:=and_pred_lt h0;obtain⟨z,hz⟩: ∃z,z=t &&& (t - 1):=⟨_,rfl⟩;obtain⟨y,hy⟩: ∃y,y=Lib.ctz 64 t:=⟨_,rfl⟩;rw[<-hz]at hand hlt HST;rw[<-hy]at C HST;have hk2:k<64:=by
    have h1:=HE.out;rw[HST.out]at h1;have h2:=congrArg List.length h1;rw[List.length_append,HL.out]at h2;simp only[List.length_cons]at h2;have:=HLEN.out;omega
   have hsz:=HB.out.size;clear hz hy h0
   go_wp2_with(first
    |(go_at_call 117;refine C.out.mono ?_;rintro e w' ⟨rfl,rfl⟩)
    |(at_builtin;refine wpList_push rfl _ _ rfl wr w.heap.size _ (nums l) (y:Int) k (by rw[nums_length];exact HL.out) (by omega) HO.out hsz rfl rfl ?_;intro A4 c4 w4 HO4 HB4;(have HO4':=Lib.hid HO4);(have HB4':=Lib.hid HB4);clear HO4 HB4))
   go_roundw
   case rel=>exact⟨z,k+1,A4,c4,l++ [y],rfl,by omega,by omega,rfl,Lib.hid (by rw[List.length_append,HL.out];rfl),Lib.hid (by rw[List.append_assoc];exact(by rw[<-HST.out];exact HE.out:l++(y::bitsL z)=bitsL s)),Lib.hid (by rw[nums_snoc];exact HO4'.out),Lib.hid (HB.out.trans HB4'.out)⟩
   case measure=>simp[intOf];omega
end Go.Proofs.YtlfekmbalgkmeaaGreatDoor
