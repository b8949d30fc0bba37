import Derived.Test.YtlfekmbalgkmeaaGreatDoorChecked
import Derived.Test.YtlfekmbalgkmeaaGreatDoorZM1
import Derived.Test.YtlfekmbalgkmeaaGreatDoorZM2
import Derived.KernelRfl
import Derived.WalkKit
import Derived.Laws.Bits64b
import Derived.Lib.TrailingZeros
import Derived.Lib.Hide
import Derived.WalkSmall
import Derived.Handy
set_option linter.unusedSimpArgs false
set_option linter.unnecessarySimpa false
set_option linter.unusedVariables false
set_option maxHeartbeats 8000000
namespace Go.Proofs.YtlfekmbalgkmeaaGreatDoor
open Go.RowKit
theorem look_ok(g:Nat)(n m:Int)(w:World)(h:chk n=0)(hc:w.cell? ⟨g,0,none⟩=some (.int .i64 m))(hf:w.frozen? ⟨g,0,none⟩=false):
  Calls Tryz.prog 223 #[.int .i64 n,.pointer (some ⟨g,0,none⟩)] w fun e w'=>e= .returned (.bool false)/\w.setCell ⟨g,0,none⟩ (.int .i64 0)=w':=by
 have H:=Lib.hid h;clear h;go_enter Tryz.func223,Tryz.ntmps223
 go_wp2_with(go_at_call 132;refine(check_any _ _).mono ?_;rw[H.out];rintro e w' ⟨rfl,rfl⟩)
 go_ret;exact⟨rfl,rfl⟩
theorem look_bad(g:Nat)(n m c:Int)(w:World)(h:chk n=c)(h0:c≠0)(hc:w.cell? ⟨g,0,none⟩=some (.int .i64 m))(hf:w.frozen? ⟨g,0,none⟩=false):
  Calls Tryz.prog 223 #[.int .i64 n,.pointer (some ⟨g,0,none⟩)] w fun e w'=>e= .returned (.bool true)/\w.setCell ⟨g,0,none⟩ (.int .i64 c)=w':=by
 have H:=Lib.hid h;clear h;have hb:(c !=0)=true:=by simpa using h0
 clear h0;go_enter Tryz.func223,Tryz.ntmps223
 go_wp2_with(go_at_call 132;refine(check_any _ _).mono ?_;rw[H.out];rintro e w' ⟨rfl,rfl⟩)
 go_ret;exact⟨rfl,rfl⟩
def IdxPost(zs:List Int)(g:Nat)(w:World)(e:Ending)(w':World):Prop:=
 ∃r:Int,e= .returned (.int .i64 r)/\(ff zs=0/\r= -1\/ff zs≠0/\0<=r)/\w'.heap[g]? =some (.cells #[.int .i64 (ff zs)] 29 (0,0))/\Below g w w'
theorem nindex_any(g:Nat)(A:Option Addr)(cap:Nat)(zs:List Int)(w:World)(hl:zs.length<=1099511627775)(hI:Ints w g A zs)
  (hg:w.heap[g]? =some (.cells #[.int .i64 0] 29 (0,0))):
  Calls Tryz.prog 81 #[.slice A zs.length cap,.func (.func 223) #[] #[.pointer (some ⟨g,0,none⟩)]] w (IdxPost zs g w):=by
 obtain⟨len,hlen⟩: ∃len,len=zs.length:=⟨_,rfl⟩;rw[<-hlen]at hl⊢;have HL:=Lib.hid hlen;clear hlen;have HG:=Lib.hid hg;clear hg;have HI:=Lib.hid hI;clear hI;go_enter Tryz.func81,Tryz.ntmps81;go_wp2;go_loopw [8] (fun i wr=> ∃k:Nat,k<=len/\i= .int .i64 k/\Hid (ff (zs.take k)=0)/\Hid (wr.heap[g]? =some (.cells #[.int .i64 0] 29 (0,0)))/\Below g w wr) (fun i _=>len - (intOf i).toNat)
 case atStart=>exact⟨0,Nat.zero_le _,rfl,Lib.hid rfl,HG,Below.refl _ _⟩
 case round=>
  obtain⟨k,hk,rfl,hff,hgr,hbel⟩:=hrel
  by_cases hlt:k<len
  ·obtain ⟨b,off,z,rfl,hbg,hz,hcell⟩:=HI.out.at_ (by rw [<- HL.out]; exact hlt)
   have hcell':wr.cell? ⟨b,off+k,none⟩=some (.int .i64 z):=(hbel.cell hbg).trans hcell
   have HZ:=Lib.hid hz;clear hz hcell;have hcg:wr.cell? ⟨g,0,none⟩=some (.int .i64 0):=cell_of_one hgr.out
   have hfg:wr.frozen? ⟨g,0,none⟩=false:=free_of_one hgr.out
   by_cases hc:chk z=0
   ·have HC:=Lib.hid hc
    clear hc
    go_wp2_with(go_at_call 223;refine(look_ok g z 0 _ HC.out hcg hfg).mono ?_;rintro e w' ⟨rfl,rfl⟩)
    go_roundw
    case rel=>exact⟨k+1,by omega,by go_num,Lib.hid (by rw[ff_step HZ.out hff.out,HC.out]),Lib.hid (one_setCell hgr.out),hbel.setCell (Nat.le_refl _) _⟩
    case measure=>simp[intOf];omega
   ·have HC:=Lib.hid hc
    clear hc
    go_wp2_with(go_at_call 223;refine(look_bad g z 0 _ _ rfl HC.out hcg hfg).mono ?_;rintro e w' ⟨rfl,rfl⟩)
    go_ret;have e1:=ff_early HZ.out hff.out HC.out
    exact⟨k,rfl,.inr ⟨by rw[e1];exact HC.out,by omega⟩,by rw[e1];exact one_setCell hgr.out,hbel.setCell (Nat.le_refl _) _⟩
  ·have hkl: k = len:=by omega
   subst hkl;go_wp2;go_ret;have e1:ff zs=0:=by
    have:=hff.out
    rwa [HL.out,List.take_length]at this
   exact⟨-1,rfl,.inl ⟨e1,rfl⟩,by rw[e1];exact hgr.out,hbel⟩
theorem contains_no(g:Nat)(A:Option Addr)(cap:Nat)(zs:List Int)(w:World)(hl:zs.length<=1099511627775)(hI:Ints w g A zs)
  (hg:w.heap[g]? =some (.cells #[.int .i64 0] 29 (0,0))) (h:ff zs=0):
  Calls Tryz.prog 148 #[.slice A zs.length cap,.func (.func 223) #[] #[.pointer (some ⟨g,0,none⟩)]] w fun e w'=>e= .returned (.bool false)/\w'.heap[g]? =some (.cells #[.int .i64 0] 29 (0,0))/\Below g w w':=by
 have C:=fun W:World=>fun h1 h2=>nindex_any g A cap zs W hl h1 h2
 have C1:=Lib.hid (C w hI hg);have H:=Lib.hid h;clear C hI hg h;go_enter Tryz.func148,Tryz.ntmps148;go_wp2_with fail;refine C1.out.mono ?_
 rintro e w' ⟨r,rfl,hr,hh,hb⟩;rcases hr with⟨_,rfl⟩|⟨hn,_⟩
 ·rw [H.out] at hh
  have HH:=Lib.hid hh;clear hh;go_wp2;go_ret;exact⟨rfl,HH.out,hb⟩
 ·exact absurd H.out hn
theorem contains_yes(g:Nat)(A:Option Addr)(cap:Nat)(zs:List Int)(w:World)(hl:zs.length<=1099511627775)(hI:Ints w g A zs)
  (hg:w.heap[g]? =some (.cells #[.int .i64 0] 29 (0,0))) (h:ff zs≠0):
  Calls Tryz.prog 148 #[.slice A zs.length cap,.func (.func 223) #[] #[.pointer (some ⟨g,0,none⟩)]] w fun e w'=>e= .returned (.bool true)/\w'.heap[g]? =some (.cells #[.int .i64 (ff zs)] 29 (0,0))/\Below g w w':=by
 have C:=fun W:World=>fun h1 h2=>nindex_any g A cap zs W hl h1 h2
 have C1:=Lib.hid (C w hI hg);have H:=Lib.hid h;clear C hI hg h;go_enter Tryz.func148,Tryz.ntmps148;go_wp2_with fail;refine C1.out.mono ?_
 rintro e w' ⟨r,rfl,hr,hh,hb⟩;rcases hr with⟨hn,_⟩|⟨_,hn⟩
 ·exact absurd hn H.out
 ·have HH:=Lib.hid hh
  clear hh;go_wp2;go_ret;exact⟨rfl,HH.out,hb⟩
theorem first_any(A:Option Addr)(cap:Nat)(zs:List Int)(w:World)(hl:zs.length<=1099511627775)(hI:Ints w w.heap.size A zs):
  Calls Tryz.prog 221 #[.slice A zs.length cap] w fun e w'=>e= .returned (.int .i64 (ff zs))/\Below w.heap.size w w':=by
 have hmf: ∀(fn:Fn) (first cap:Array Value) (w:World),(Instr.makeFunc fn first cap).run Tryz.prog w= .ok (.func fn first cap) w:=fun _ _ _ _=>rfl
 have hg:(w.alloc (.cells #[.int .i64 0] 29)).heap[w.heap.size]? =some (.cells #[.int .i64 0] 29 (0,0)):=heap_alloc_new w _
 have hI1:=hI.alloc (Nat.le_refl _) (.cells #[.int .i64 0] 29)
 by_cases h:ff zs=0
 ·have C:=Lib.hid (contains_no w.heap.size A cap zs _ hl hI1 hg h)
  rw[h];clear h hI hg hI1;go_enter Tryz.func221,Tryz.ntmps221;go_wp2_with fail;refine C.out.mono ?_
  rintro e w' ⟨rfl,hh,hb⟩;clear hh;go_wp2;go_ret;exact⟨rfl,(below_alloc _).trans (hb.mono (by simp))⟩
 ·have C:=Lib.hid (contains_yes w.heap.size A cap zs _ hl hI1 hg h)
  clear h hI hg hI1;go_enter Tryz.func221,Tryz.ntmps221;go_wp2_with fail;refine C.out.mono ?_
  rintro e w' ⟨rfl,hh,hb⟩;have hc:=cell_of_one hh;clear hh;go_wp2;go_ret;exact⟨rfl,(below_alloc _).trans (hb.mono (by simp))⟩
theorem first_pair(a b:Int)(w:World):Calls Tryz.prog 221 #[.slice (some ⟨w.heap.size,0,none⟩) 2 2] (w.alloc (.cells #[.int .i64 a,.int .i64 b] 3)) fun e w'=>
  e= .returned (.int .i64 (ff [a,b]))/\Below w.heap.size w w':=
 (first_any (some ⟨w.heap.size,0,none⟩) 2 [a,b] (w.alloc (.cells #[.int .i64 a,.int .i64 b] 3)) (by simp) ((Ints.new2 w _ a b).more (by simp))).mono
  fun _ _ ⟨he,hb⟩=>⟨he,(below_alloc _).trans (hb.mono (by simp))⟩
theorem sub_any(a b:Int)(w:World):Calls Tryz.prog 219 #[.int .i64 a,.int .i64 b] w fun e w'=>
  e= .returned (.tuple #[.int .i64 (subS a b),.int .i64 (subE a b)])/\Below w.heap.size w w':=by
 by_cases h:ff [a,b]=0
 ·obtain ⟨⟨a0,a1⟩,b0,b1⟩:=ff_pair_zero h
  have C:=Lib.hid (first_pair a b w);rw[h]at C
  by_cases h1:a<b
  ·rw [subS_low h h1,subE_low h h1]
   clear h;go_enter Tryz.func219,Tryz.ntmps219;go_wp2_with fail;refine C.out.mono ?_
   rintro e w' ⟨rfl,hb⟩;go_wp2;go_ret2;exact⟨rfl,hb⟩
  ·have h2: b <= a:=by omega
   rw[subS_fine h h2,subE_fine h h2];clear h h1;go_enter Tryz.func219,Tryz.ntmps219;go_wp2_with fail;refine C.out.mono ?_
   rintro e w' ⟨rfl,hb⟩;go_wp2;go_ret2;exact⟨rfl,hb⟩
 ·rw [subS_bad h,subE_bad h]
  have C:=Lib.hid (first_pair a b w);obtain⟨c,hc⟩: ∃c,c=ff [a,b]:=⟨_,rfl⟩;rw[<-hc]at C h⊢;have hb:(c !=0)=true:=by simpa using h
  clear h hc;go_enter Tryz.func219,Tryz.ntmps219;go_wp2_with fail;refine C.out.mono ?_
  rintro e w' ⟨rfl,hbel⟩;go_wp2;go_ret2;exact⟨rfl,hbel⟩
theorem ndown_any(a b:Int)(w:World):Calls Tryz.prog 222 #[.int .i64 a,.int .i64 b] w fun e w'=>
  e= .returned (.tuple #[.int .i64 (downS a b),.int .i64 (downE a b)])/\Below w.heap.size w w':=by
 by_cases h:ff [a,b]=0
 ·obtain ⟨⟨a0,a1⟩,b0,b1⟩:=ff_pair_zero h
  have C:=Lib.hid (first_pair a b w);rw[h]at C
  by_cases hz:b=0
  ·rw [downS_zero h hz,downE_zero h hz]
   subst hz;clear h;go_enter Tryz.func222,Tryz.ntmps222;go_wp2_with fail;refine C.out.mono ?_
   rintro e w' ⟨rfl,hb⟩;go_wp2;go_ret2;exact⟨rfl,hb⟩
  ·have hbp: 1 <= b:=by omega
   have hbz:(b==0)=false:=by simpa using hz
   rw[downS_fine h hz,downE_fine h hz];obtain⟨q0,q1,_⟩:=div_bounds a0 a1 (b:=b) (by omega)
   clear h hz;go_enter Tryz.func222,Tryz.ntmps222;go_wp2_with fail;refine C.out.mono ?_
   rintro e w' ⟨rfl,hb⟩;go_wp2;go_ret2;exact⟨rfl,hb⟩
 ·rw [downS_bad h,downE_bad h]
  have C:=Lib.hid (first_pair a b w);obtain⟨c,hc⟩: ∃c,c=ff [a,b]:=⟨_,rfl⟩;rw[<-hc]at C h⊢;have hb:(c !=0)=true:=by simpa using h
  clear h hc;go_enter Tryz.func222,Tryz.ntmps222;go_wp2_with fail;refine C.out.mono ?_
  rintro e w' ⟨rfl,hbel⟩;go_wp2;go_ret2;exact⟨rfl,hbel⟩
theorem up_any(a b:Int)(w:World):Calls Tryz.prog 220 #[.int .i64 a,.int .i64 b] w fun e w'=>
  e= .returned (.tuple #[.int .i64 (upS a b),.int .i64 (downE a b)])/\Below w.heap.size w w':=by
 have C:=Lib.hid (ndown_any a b w)
 by_cases h:ff [a,b]=0
 ·obtain ⟨⟨a0,a1⟩,b0,b1⟩:=ff_pair_zero h
  by_cases hz:b=0
  ·rw [upS_zero h hz,downE_zero h hz]
   rw[downS_zero h hz,downE_zero h hz]at C;clear h hz;go_enter Tryz.func220,Tryz.ntmps220;go_wp2_with fail;refine C.out.mono ?_
   rintro e w' ⟨rfl,hb⟩;go_wp2;go_ret2;exact⟨rfl,hb⟩
  ·have hd:=div_bounds a0 a1 (b:=b) (by omega)
   rw[downS_fine h hz,downE_fine h hz]at C
   by_cases h1:a/b * b<a
   ·rw [upS_more h hz h1,downE_fine h hz]
    obtain⟨q,hq⟩: ∃q,q=a/b:=⟨_,rfl⟩;rw[<-hq]at C hd h1⊢;obtain⟨q0,q1,q2,q3,q4⟩:=hd;clear h hz hq;go_enter Tryz.func220,Tryz.ntmps220;go_wp2_with fail;refine C.out.mono ?_
    rintro e w' ⟨rfl,hb⟩;go_wp2;go_ret2;exact⟨rfl,hb⟩
   ·rw [upS_even h hz h1,downE_fine h hz]
    obtain⟨q,hq⟩: ∃q,q=a/b:=⟨_,rfl⟩;rw[<-hq]at C hd h1⊢;obtain⟨q0,q1,q2,q3,q4⟩:=hd;clear h hz hq;go_enter Tryz.func220,Tryz.ntmps220;go_wp2_with fail;refine C.out.mono ?_
    rintro e w' ⟨rfl,hb⟩;go_wp2;go_ret2;exact⟨rfl,hb⟩
 ·rw [upS_bad h,downE_bad h]
  rw[downS_bad h,downE_bad h]at C;obtain⟨c,hc⟩: ∃c,c=ff [a,b]:=⟨_,rfl⟩;rw[<-hc]at C h⊢;have hb:(c==0)=false:=by simpa using h
  clear h hc;go_enter Tryz.func220,Tryz.ntmps220;go_wp2_with fail;refine C.out.mono ?_
  rintro e w' ⟨rfl,hbel⟩;go_wp2;go_ret2;exact⟨rfl,hbel⟩
theorem bits_and_i64_nat(a b:Nat)(ha:a<9223372036854775808)(hb:b<9223372036854775808):bits .and .i64 (a:Int) (b:Int)=((a &&& b:Nat):Int):=by
 have hx:a &&& b<2^63:=Nat.and_lt_two_pow _ (by omega)
 have h1:(BitVec.ofInt 64 (a:Int)).toNat=a:=by
  rw[BitVec.ofInt_natCast,BitVec.toNat_ofNat];exact Nat.mod_eq_of_lt (by omega)
 have h2:(BitVec.ofInt 64 (b:Int)).toNat=b:=by
  rw[BitVec.ofInt_natCast,BitVec.toNat_ofNat];exact Nat.mod_eq_of_lt (by omega)
 show IntKind.i64.wrap ((BitVec.ofInt 64 (a:Int) &&& BitVec.ofInt 64 (b:Int)).toNat:Int)=_
 rw[BitVec.toNat_and,h1,h2];simp[IntKind.wrap,IntKind.signed,IntKind.bits];omega
def rep(m:Nat):Nat->Nat
 |0=>0
 |k+1=>256 * rep m k+m
theorem and_byte(q r m s:Nat)(hr:r<256)(hs:s<256):(256 * q+r) &&& (256 * m+s)=256 * (q &&& m)+(r &&& s):=by
 apply Nat.eq_of_testBit_eq
 intro i;have hrs:r &&& s<2^8:=Nat.and_lt_two_pow _ (by omega)
 have e (a b:Nat) (hb:b<2^8):(256 * a+b).testBit i=if i<8 then b.testBit i else a.testBit (i - 8):=by
  have:=Nat.testBit_two_pow_mul_add a hb i
  simpa using this
 rw[Nat.testBit_and,e q r hr,e m s hs,e _ _ hrs]
 by_cases h:i<8
 ·simp[h]
 ·simp[h]
def b1(r:Nat):Nat:=(r/2 &&& 85)+(r &&& 85)
def b2(r:Nat):Nat:=(r/4 &&& 51)+(r &&& 51)
def b3(r:Nat):Nat:=(r/16+r) &&& 15
def pop8(r:Nat):Nat:=b3 (b2 (b1 r))
def S1(k x:Nat):Nat:=(x/2 &&& rep 85 k)+(x &&& rep 85 k)
def S2(k x:Nat):Nat:=(x/4 &&& rep 51 k)+(x &&& rep 51 k)
def S3(k x:Nat):Nat:=(x/16+x) &&& rep 15 k
theorem b1_mask: ∀r,r<256->(r/2 &&& 85)=(128+r/2 &&& 85)/\b1 r<256:=by decide+kernel
theorem b2_mask: ∀r,r<256->(r/4 &&& 51)=(64+r/4 &&& 51)/\(r/4 &&& 51)=(128+r/4 &&& 51)/\(r/4 &&& 51)=(192+r/4 &&& 51)/\b2 r<256/\b2 r%16<=6/\b2 (b1 r)<=68/\pop8 r<=8:=by decide+kernel
theorem b3_mask: ∀r,r<=68-> ∀t,t<=6->(16 * t+(r/16+r) &&& 15)=b3 r:=by decide+kernel
theorem S1_step(k q r:Nat)(hr:r<256):S1 (k+1) (256 * q+r)=256 * S1 k q+b1 r:=by
 have h2:(256 * q+r)/2=256 * (q/2)+(128 * (q%2)+r/2):=by omega
 have rs:rep 85 (k+1)=256 * rep 85 k+85:=rfl;unfold S1;rw[rs,h2,and_byte _ _ _ _ (by omega) (by omega),and_byte _ _ _ _ (by omega) (by omega)]
 have h3:(128 * (q%2)+r/2 &&& 85)=(r/2 &&& 85):=by
  rcases Nat.mod_two_eq_zero_or_one q with h|h<;>rw[h]
  ·simp
  ·exact(b1_mask r hr).1.symm
 rw[h3];show _=256 * ((q/2 &&& rep 85 k)+(q &&& rep 85 k))+((r/2 &&& 85)+(r &&& 85))
 omega
theorem S2_step(k q r:Nat)(hr:r<256):S2 (k+1) (256 * q+r)=256 * S2 k q+b2 r:=by
 have h2:(256 * q+r)/4=256 * (q/4)+(64 * (q%4)+r/4):=by omega
 have rs:rep 51 (k+1)=256 * rep 51 k+51:=rfl;unfold S2;rw[rs,h2,and_byte _ _ _ _ (by omega) (by omega),and_byte _ _ _ _ (by omega) (by omega)]
 have h3:(64 * (q%4)+r/4 &&& 51)=(r/4 &&& 51):=by
  obtain⟨m1,m2,m3,_⟩:=b2_mask r hr;rcases(show q%4=0\/q%4=1\/q%4=2\/q%4=3 by omega)with h|h|h|h<;>rw[h]
  ·simp
  ·exact m1.symm
  ·exact m2.symm
  ·exact m3.symm
 rw[h3];show _=256 * ((q/4 &&& rep 51 k)+(q &&& rep 51 k))+((r/4 &&& 51)+(r &&& 51))
 omega
theorem S3_step(k q r:Nat)(hr:r<=68)(hq:q%16<=6):S3 (k+1) (256 * q+r)=256 * S3 k q+b3 r:=by
 have h2:(256 * q+r)/16+(256 * q+r)=256 * (q/16+q)+(16 * (q%16)+(r/16+r)):=by omega
 have rs:rep 15 (k+1)=256 * rep 15 k+15:=rfl;unfold S3;rw[rs,h2,and_byte _ _ _ _ (by omega) (by omega),b3_mask r hr _ hq]
theorem S2_low(k q:Nat):S2 k q%16<=6:=by
  cases k with
  |zero=>simp[S2,rep]
  | succ k =>
    have h:=S2_step k (q/256) (q%256) (Nat.mod_lt _ (by omega))
    have h1:=(b2_mask (q%256) (Nat.mod_lt _ (by omega))).2.2.2.2.1
    have e:256 * (q/256)+q%256=q:=by omega
    rw[e]at h;omega
def T(k x:Nat):Nat:=S3 k (S2 k (S1 k x))
theorem T_step(k q r:Nat)(hr:r<256):T (k+1) (256 * q+r)=256 * T k q+pop8 r:=by
 unfold T;rw[S1_step k q r hr,S2_step k _ _ (b1_mask r hr).2,S3_step k _ _ (b2_mask r hr).2.2.2.2.2.1 (S2_low _ _)];rfl
theorem T_zero(k:Nat):T k 0=0:=by
 simp[T,S1,S2,S3]
theorem pop8_zero: ∀r,r<256->pop8 r=0->r=0:=by decide+kernel
theorem pop8_one: ∀r,r<256->pop8 r=1->r=1\/r=2\/r=4\/r=8\/r=16\/r=32\/r=64\/r=128:=by decide+kernel
theorem T_bytes(x:Nat)(hx:x<1099511627776): ∃r0 r1 r2 r3 r4,(r0<256/\r1<256/\r2<256/\r3<256/\r4<256)/\x=r0+256 * r1+65536 * r2+16777216 * r3+4294967296 * r4/\
  T 8 x=pop8 r0+256 * pop8 r1+65536 * pop8 r2+16777216 * pop8 r3+4294967296 * pop8 r4:=by
 refine⟨x%256,x/256%256,x/65536%256,x/16777216%256,x/4294967296,by omega,by omega,?_⟩
 have e0:x=256 * (x/256)+x%256:=by omega
 have e1:x/256=256 * (x/65536)+x/256%256:=by omega
 have e2:x/65536=256 * (x/16777216)+x/65536%256:=by omega
 have e3:x/16777216=256 * (x/4294967296)+x/16777216%256:=by omega
 have e4:x/4294967296=256 * 0+x/4294967296:=by omega
 have t0:T 8 (256 * (x/256)+x%256)=256 * T 7 (x/256)+pop8 (x%256):=T_step 7 _ _ (by omega)
 have t1:T 7 (256 * (x/65536)+x/256%256)=256 * T 6 (x/65536)+pop8 (x/256%256):=T_step 6 _ _ (by omega)
 have t2:T 6 (256 * (x/16777216)+x/65536%256)=256 * T 5 (x/16777216)+pop8 (x/65536%256):=T_step 5 _ _ (by omega)
 have t3:T 5 (256 * (x/4294967296)+x/16777216%256)=256 * T 4 (x/4294967296)+pop8 (x/16777216%256):=T_step 4 _ _ (by omega)
 have t4:T 4 (256 * 0+x/4294967296)=256 * T 3 0+pop8 (x/4294967296):=T_step 3 _ _ (by omega)
 rw[<-e0]at t0;rw[<-e1]at t1;rw[<-e2]at t2;rw[<-e3]at t3;rw[<-e4,T_zero]at t4;rw[t0,t1,t2,t3,t4];omega
def tailN(c:Nat):Nat:=((c+c/256)+(c+c/256)/65536)+((c+c/256)+(c+c/256)/65536)/4294967296
theorem tail_sum(p0 p1 p2 p3 p4:Nat)(h0:p0<=8)(h1:p1<=8)(h2:p2<=8)(h3:p3<=8)(h4:p4<=8):
  tailN (p0+256 * p1+65536 * p2+16777216 * p3+4294967296 * p4)%128=p0+p1+p2+p3+p4:=by
 unfold tailN;have c1:(p0+256 * p1+65536 * p2+16777216 * p3+4294967296 * p4)/256=p1+256 * p2+65536 * p3+16777216 * p4:=by omega
 rw[c1];have c2:(p0+256 * p1+65536 * p2+16777216 * p3+4294967296 * p4+(p1+256 * p2+65536 * p3+16777216 * p4))/65536=(p2+p3)+256 * (p3+p4)+65536 * p4:=by omega
 rw[c2];have c3:(p0+256 * p1+65536 * p2+16777216 * p3+4294967296 * p4+(p1+256 * p2+65536 * p3+16777216 * p4)+((p2+p3)+256 * (p3+p4)+65536 * p4))/4294967296=p4:=by omega
 rw[c3];omega
def cntN(x:Nat):Nat:=tailN (T 8 x)%128
theorem and_127(x:Nat):x &&& 127=x%128:=Nat.and_two_pow_sub_one_eq_mod x 7
theorem cnt_two(x:Nat)(hx:x<1099511627776)(h:cntN x=1): ∃k,k<40/\x=2^k:=by
 obtain⟨r0,r1,r2,r3,r4,⟨l0,l1,l2,l3,l4⟩,e,ht⟩:=T_bytes x hx;unfold cntN at h;rw[ht,tail_sum _ _ _ _ _ (b2_mask r0 l0).2.2.2.2.2.2 (b2_mask r1 l1).2.2.2.2.2.2 (b2_mask r2 l2).2.2.2.2.2.2 (b2_mask r3 l3).2.2.2.2.2.2 (b2_mask r4 l4).2.2.2.2.2.2]at h;have z0:=pop8_zero r0 l0;have z1:=pop8_zero r1 l1;have z2:=pop8_zero r2 l2;have z3:=pop8_zero r3 l3;have z4:=pop8_zero r4 l4;have o0:=pop8_one r0 l0;have o1:=pop8_one r1 l1;have o2:=pop8_one r2 l2;have o3:=pop8_one r3 l3;have o4:=pop8_one r4 l4;rcases(show pop8 r0=1\/pop8 r1=1\/pop8 r2=1\/pop8 r3=1\/pop8 r4=1 by omega)with g|g|g|g|g
 ·have:=o0 g
  have:=z1 (by omega);have:=z2 (by omega);have:=z3 (by omega);have:=z4 (by omega)
  rcases o0 g with g|g|g|g|g|g|g|g
  ·exact⟨0,by omega,by omega⟩
  ·exact⟨1,by omega,by omega⟩
  ·exact⟨2,by omega,by omega⟩
  ·exact⟨3,by omega,by omega⟩
  ·exact⟨4,by omega,by omega⟩
  ·exact⟨5,by omega,by omega⟩
  ·exact⟨6,by omega,by omega⟩
  ·exact⟨7,by omega,by omega⟩
 ·have:=z0 (by omega); have:=z2 (by omega); have:=z3 (by omega); have:=z4 (by omega)
  rcases o1 g with g|g|g|g|g|g|g|g
  ·exact⟨8,by omega,by omega⟩
  ·exact⟨9,by omega,by omega⟩
  ·exact⟨10,by omega,by omega⟩
  ·exact⟨11,by omega,by omega⟩
  ·exact⟨12,by omega,by omega⟩
  ·exact⟨13,by omega,by omega⟩
  ·exact⟨14,by omega,by omega⟩
  ·exact⟨15,by omega,by omega⟩
 ·have:=z0 (by omega); have:=z1 (by omega); have:=z3 (by omega); have:=z4 (by omega)
  rcases o2 g with g|g|g|g|g|g|g|g
  ·exact⟨16,by omega,by omega⟩
  ·exact⟨17,by omega,by omega⟩
  ·exact⟨18,by omega,by omega⟩
  ·exact⟨19,by omega,by omega⟩
  ·exact⟨20,by omega,by omega⟩
  ·exact⟨21,by omega,by omega⟩
  ·exact⟨22,by omega,by omega⟩
  ·exact⟨23,by omega,by omega⟩
 ·have:=z0 (by omega); have:=z1 (by omega); have:=z2 (by omega); have:=z4 (by omega)
  rcases o3 g with g|g|g|g|g|g|g|g
  ·exact⟨24,by omega,by omega⟩
  ·exact⟨25,by omega,by omega⟩
  ·exact⟨26,by omega,by omega⟩
  ·exact⟨27,by omega,by omega⟩
  ·exact⟨28,by omega,by omega⟩
  ·exact⟨29,by omega,by omega⟩
  ·exact⟨30,by omega,by omega⟩
  ·exact⟨31,by omega,by omega⟩
 ·have:=z0 (by omega); have:=z1 (by omega); have:=z2 (by omega); have:=z3 (by omega)
  rcases o4 g with g|g|g|g|g|g|g|g
  ·exact⟨32,by omega,by omega⟩
  ·exact⟨33,by omega,by omega⟩
  ·exact⟨34,by omega,by omega⟩
  ·exact⟨35,by omega,by omega⟩
  ·exact⟨36,by omega,by omega⟩
  ·exact⟨37,by omega,by omega⟩
  ·exact⟨38,by omega,by omega⟩
  ·exact⟨39,by omega,by omega⟩
theorem two_cnt: ∀k,k<40->cntN (2^k)=1/\2^k<=549755813888/\0<2^k/\Lib.ctz 64 (2^k)=k:=by decide+kernel
theorem T_le(x:Nat)(hx:x<1099511627776):T 8 x<=34901295112:=by
 obtain⟨r0,r1,r2,r3,r4,⟨l0,l1,l2,l3,l4⟩,e,ht⟩:=T_bytes x hx;have:=(b2_mask r0 l0).2.2.2.2.2.2;have:=(b2_mask r1 l1).2.2.2.2.2.2;have:=(b2_mask r2 l2).2.2.2.2.2.2;have:=(b2_mask r3 l3).2.2.2.2.2.2;have:=(b2_mask r4 l4).2.2.2.2.2.2;omega
theorem ones64_core(x a1 a2 c1 c2 d r:Nat)(w:World)(h1:a1<=1099511627775)(h2:a2<=1099511627775)(h3:c1<=2199023255550)(h4:c2<=2199023255550)(h5:d<=34901295112)
  (k1:bits BinOp.and IntKind.u64 ((x:Int)/2) 6148914691236517205=(a1:Int)) (k2:bits BinOp.and IntKind.u64 (x:Int) 6148914691236517205=(a2:Int))
  (k3:bits BinOp.and IntKind.u64 (((a1:Int)+a2)/4) 3689348814741910323=(c1:Int)) (k4:bits BinOp.and IntKind.u64 ((a1:Int)+a2) 3689348814741910323=(c2:Int))
  (k5:bits BinOp.and IntKind.u64 (((c1:Int)+c2)/16+(c1+c2)) 1085102592571150095=(d:Int))
  (k6:bits BinOp.and IntKind.i64 ((((d:Int)+d/256)+((d:Int)+d/256)/65536)+(((d:Int)+d/256)+((d:Int)+d/256)/65536)/4294967296) 127=(r:Int)):
  Calls Tryz.prog 163 #[.int .u64 x] w fun e w'=>e= .returned (.int .i64 r)/\w=w':=by
 go_enter Tryz.func163,Tryz.ntmps163;go_wp2;go_ret;exact⟨rfl,rfl⟩
theorem rep85:rep 85 8=6148914691236517205:=by decide+kernel
theorem rep51:rep 51 8=3689348814741910323:=by decide+kernel
theorem rep15:rep 15 8=1085102592571150095:=by decide+kernel
theorem and_le_l(a b:Nat):a &&& b<=a:=Nat.and_le_left
theorem ones64_any(x:Nat)(w:World)(hx:x<=1099511627775):
  Calls Tryz.prog 163 #[.int .u64 x] w fun e w'=>e= .returned (.int .i64 (cntN x))/\w=w':=by
 have l1:=and_le_l (x/2) (rep 85 8);have l2:=and_le_l x (rep 85 8);have hs1:S1 8 x<=2199023255550:=by unfold S1;omega
 have l3:=and_le_l (S1 8 x/4) (rep 51 8);have l4:=and_le_l (S1 8 x) (rep 51 8);have hs2:S2 8 (S1 8 x)<=4398046511100:=by unfold S2;omega
 have ht:=T_le x (by omega)
 have e1:((S1 8 x:Nat):Int)=((x/2 &&& rep 85 8:Nat):Int)+((x &&& rep 85 8:Nat):Int):=by unfold S1;omega
 have e2:((S2 8 (S1 8 x):Nat):Int)=((S1 8 x/4 &&& rep 51 8:Nat):Int)+((S1 8 x &&& rep 51 8:Nat):Int):=by unfold S2;omega
 refine ones64_core x (x/2 &&& rep 85 8) (x &&& rep 85 8) (S1 8 x/4 &&& rep 51 8) (S1 8 x &&& rep 51 8) (T 8 x) (cntN x) w (by omega) (by omega) (by omega) (by omega) ht ?_ ?_ ?_ ?_ ?_ ?_
 ·rw [show (x: Int) / 2 = ((x / 2: Nat): Int) by omega]
  rw[rep85];exact bits_and_u64_nat (x/2) 6148914691236517205 (by omega) (by omega)
 ·rw [rep85]
  exact bits_and_u64_nat x 6148914691236517205 (by omega) (by omega)
 ·rw [<- e1,show ((S1 8 x: Nat): Int) / 4 = ((S1 8 x / 4: Nat): Int) by omega,rep51]
  exact bits_and_u64_nat (S1 8 x/4) 3689348814741910323 (by omega) (by omega)
 ·rw [<- e1,rep51]
  exact bits_and_u64_nat (S1 8 x) 3689348814741910323 (by omega) (by omega)
 ·rw [<- e2,show ((S2 8 (S1 8 x): Nat): Int) / 16 + ((S2 8 (S1 8 x): Nat): Int) = ((S2 8 (S1 8 x) / 16 + S2 8 (S1 8 x): Nat): Int) by omega]
  rw[show T 8 x=(S2 8 (S1 8 x)/16+S2 8 (S1 8 x)) &&& 1085102592571150095 by rw[<-rep15];rfl]
  exact bits_and_u64_nat (S2 8 (S1 8 x)/16+S2 8 (S1 8 x)) 1085102592571150095 (by omega) (by omega)
 ·obtain ⟨d,hd⟩: ∃ d,d = T 8 x:=⟨_,rfl⟩
  have hc:cntN x=tailN d &&& 127:=by rw[hd,and_127];rfl
  rw[hc,<-hd];rw[<-hd]at ht;have hb:tailN d<=9223372036854775807:=by unfold tailN;omega
  have he:(((d:Int)+d/256)+((d:Int)+d/256)/65536)+(((d:Int)+d/256)+((d:Int)+d/256)/65536)/4294967296=((tailN d:Nat):Int):=by unfold tailN;omega
  rw[he];exact bits_and_i64_nat (tailN d) 127 (by omega) (by omega)
theorem ones_any(x:Nat)(w:World)(hx:x<=1099511627775):
  Calls Tryz.prog 133 #[.int .u64 x] w fun e w'=>e= .returned (.int .i64 (cntN x))/\w=w':=by
 have C:=Lib.hid (ones64_any x w hx);go_enter Tryz.func133,Tryz.ntmps133
 go_wp2_with(go_at_call 163;refine C.out.mono ?_;rintro e w' ⟨rfl,rfl⟩)
 go_ret;exact⟨rfl,rfl⟩
theorem tz_any(x:Nat)(w:World)(hx:x<18446744073709551616)(hx0:x≠0)(hT:Tab64 w):
  Calls Tryz.prog 134 #[.int .u64 x] w fun e w'=>e= .returned (.int .i64 (Lib.ctz 64 x))/\w=w':=by
 have C:=Lib.hid (tz64_any x w hx hx0 hT);clear hx hx0 hT;obtain⟨c,hc⟩: ∃c,c=Lib.ctz 64 x:=⟨_,rfl⟩;rw[<-hc]at C⊢;clear hc;go_enter Tryz.func134,Tryz.ntmps134
 go_wp2_with(go_at_call 117;refine C.out.mono ?_;rintro e w' ⟨rfl,rfl⟩)
 go_ret;exact⟨rfl,rfl⟩
theorem two_core(x k:Nat)(w:World)(hx:x<=1099511627775)(C1:Hid (Calls Tryz.prog 133 #[.int .u64 x] w fun e w'=>e= .returned (.int .i64 1)/\w=w'))
  (C2:Hid (Calls Tryz.prog 134 #[.int .u64 x] w fun e w'=>e= .returned (.int .i64 k)/\w=w')):
  Calls Tryz.prog 100 #[.int .i64 x] w fun e w'=>e= .returned (.tuple #[.int .i64 k,.bool true])/\w=w':=by
 have C0:=Lib.hid (check_any (x:Int) w);rw[chk_ok (by omega) (by omega)]at C0
 go_enter Tryz.func100,Tryz.ntmps100
 go_wp2_with(first
  |(go_at_call 132;refine C0.out.mono ?_;rintro e w' ⟨rfl,rfl⟩)
  |(go_at_call 133;refine C1.out.mono ?_;rintro e w' ⟨rfl,rfl⟩)
  |(go_at_call 134;refine C2.out.mono ?_;rintro e w' ⟨rfl,rfl⟩))
 go_ret2
 exact⟨rfl,rfl⟩
theorem two_yes(k:Nat)(hk:k<40)(w:World)(hT:Tab64 w):
  Calls Tryz.prog 100 #[.int .i64 ((2^k:Nat):Int)] w fun e w'=>e= .returned (.tuple #[.int .i64 k,.bool true])/\w=w':=by
 obtain⟨h1,h2,h3,h4⟩:=two_cnt k hk;obtain⟨x,hx⟩: ∃x,x=2^k:=⟨_,rfl⟩;rw[<-hx]at h1 h2 h3 h4⊢;have C1:=ones_any x w (by omega)
 rw[h1]at C1;have C2:=tz_any x w (by omega) (by omega) hT
 rw[h4]at C2;exact two_core x k w (by omega) (Lib.hid C1) (Lib.hid C2)
theorem two_not(x c:Nat)(w:World)(hx:x<=1099511627775)(hc:((c:Int) !=1)=true)(C1:Hid (Calls Tryz.prog 133 #[.int .u64 x] w fun e w'=>e= .returned (.int .i64 c)/\w=w')):
  Calls Tryz.prog 100 #[.int .i64 x] w fun e w'=>e= .returned (.tuple #[.int .i64 0,.bool false])/\w=w':=by
 have C0:=Lib.hid (check_any (x:Int) w);rw[chk_ok (by omega) (by omega)]at C0
 go_enter Tryz.func100,Tryz.ntmps100
 go_wp2_with(first
  |(go_at_call 132;refine C0.out.mono ?_;rintro e w' ⟨rfl,rfl⟩)
  |(go_at_call 133;refine C1.out.mono ?_;rintro e w' ⟨rfl,rfl⟩))
 go_ret2
 exact⟨rfl,rfl⟩
theorem two_wrong(n:Int)(w:World)(h:chk n≠0):
  Calls Tryz.prog 100 #[.int .i64 n] w fun e w'=>e= .returned (.tuple #[.int .i64 0,.bool false])/\w=w':=by
 have C0:=Lib.hid (check_any n w);obtain⟨c,hc⟩: ∃c,c=chk n:=⟨_,rfl⟩;rw[<-hc]at C0 h;have hb:(c !=0)=true:=by simpa using h
 clear hc h;go_enter Tryz.func100,Tryz.ntmps100
 go_wp2_with(go_at_call 132;refine C0.out.mono ?_;rintro e w' ⟨rfl,rfl⟩)
 go_ret2
 exact⟨rfl,rfl⟩
theorem two_no(n:Int)(w:World)(h: ∀k:Nat,k<40->n≠((2^k:Nat):Int)):
  Calls Tryz.prog 100 #[.int .i64 n] w fun e w'=>e= .returned (.tuple #[.int .i64 0,.bool false])/\w=w':=by
 by_cases hc:chk n=0
 ·obtain ⟨n0,n1⟩:=chk_zero hc
  obtain⟨x,rfl⟩: ∃x:Nat,n=(x:Int):=⟨n.toNat,by omega⟩
  refine two_not x (cntN x) w (by omega) ?_ (Lib.hid (ones_any x w (by omega)))
  have:cntN x≠1:=fun h1=>by
   obtain⟨k,hk,e⟩:=cnt_two x (by omega) h1
   exact h k hk (by rw[e])
  simp;omega
 ·exact two_wrong n w hc
end Go.Proofs.YtlfekmbalgkmeaaGreatDoor
namespace Go.Proofs.YtlfekmbalgkmeaaGreatDoor
open Go Go.RowKit
theorem within_yes(a b c:Int)(w:World)(h:b<=a/\a<=c):Calls Tryz.prog 79 #[.int .i64 a,.int .i64 b,.int .i64 c] w
  fun e w'=>e= .returned (.bool true)/\w=w':=by
 obtain⟨h1,h2⟩:=h;go_enter Tryz.func79,Tryz.ntmps79;go_wp2;go_ret;exact⟨rfl,rfl⟩
theorem within_no(a b c:Int)(w:World)(h: ¬(b<=a/\a<=c)):Calls Tryz.prog 79 #[.int .i64 a,.int .i64 b,.int .i64 c] w
  fun e w'=>e= .returned (.bool false)/\w=w':=by
 by_cases h1:b<=a
 ·have h2: ¬ a <= c:=fun q => h ⟨h1,q⟩
  go_enter Tryz.func79,Tryz.ntmps79;go_wp2;go_ret;exact⟨rfl,rfl⟩
 ·go_enter Tryz.func79,Tryz.ntmps79
  go_wp2;go_ret
  exact⟨rfl,rfl⟩
theorem isPeriod_any(n:Int)(w:World)(hT:Tab64 w):Calls Tryz.prog 80 #[.int .i64 n] w
  fun e w'=>e= .returned (.bool (isP n))/\w=w':=by
 by_cases hn: ∃k:Nat,k<40/\n=((2^k:Nat):Int)
 ·obtain ⟨k,hk,rfl⟩:=hn
  have C:=Lib.hid (two_yes k hk w hT);rw[isP_pow];obtain⟨x,hx⟩: ∃x:Int,x=((2^k:Nat):Int):=⟨_,rfl⟩;rw[<-hx]at C⊢;clear hx hT;go_enter Tryz.func80,Tryz.ntmps80;go_wp2_with fail;refine C.out.mono ?_
  rintro e w' ⟨rfl,rfl⟩;go_wp2;go_ret;exact⟨rfl,rfl⟩
 ·have hno: ∀ k: Nat,k < 40 -> n ≠ ((2 ^ k: Nat): Int):=fun k hk e => hn ⟨k,hk,e⟩
  rw[isP_no hno];have C:=Lib.hid (two_no n w hno);clear hno hn hT;go_enter Tryz.func80,Tryz.ntmps80;go_wp2_with fail;refine C.out.mono ?_
  rintro e w' ⟨rfl,rfl⟩;go_wp2;go_ret;exact⟨rfl,rfl⟩
theorem clcheck_any(s:Shp)(w:World)(hT:DTab w):Calls Tryz.prog 47 #[s.val] w
  fun e w'=>e= .returned (.int .i64 (chkS s))/\Below w.heap.size w w':=by
 obtain⟨t,l,m,d,p⟩:=s;have TT: ∀W:World,Below w.heap.size w W->Tab64 W:=fun W b=>hT.via b
 have TT:=Lib.hid TT;clear hT;unfold Shp.val;dsimp only
 by_cases h1:1<=t/\t<=4096
 ·by_cases h2: 1 <= l /\ l <= t
  ·by_cases h3: 1 <= m /\ m <= l
   ·by_cases h4: isP p = true
    ·by_cases h5: 1 <= d /\ d <= p
     ·rw [chkS_ok ⟨h1,h2,h3,h4,h5⟩]
      go_enter Tryz.func47,Tryz.ntmps47
      go_wp2_with(first
       |(go_at_call 79;refine(within_yes _ _ _ _ (by assumption)).mono ?_;rintro e w' ⟨rfl,rfl⟩)
       |(go_at_call 80;refine(isPeriod_any _ _ (TT.out _ (below_alloc _))).mono ?_;rw[h4];rintro e w' ⟨rfl,rfl⟩))
      go_ret;exact⟨rfl,below_alloc _⟩
     ·rw [chkS_no fun q => h5 q.2.2.2.2]
      go_enter Tryz.func47,Tryz.ntmps47
      go_wp2_with(first
       |(go_at_call 79;refine(within_yes _ _ _ _ (by assumption)).mono ?_;rintro e w' ⟨rfl,rfl⟩)
       |(go_at_call 79;refine(within_no _ _ _ _ (by assumption)).mono ?_;rintro e w' ⟨rfl,rfl⟩)
       |(go_at_call 80;refine(isPeriod_any _ _ (TT.out _ (below_alloc _))).mono ?_;rw[h4];rintro e w' ⟨rfl,rfl⟩))
      go_ret;exact⟨rfl,below_alloc _⟩
    ·rw [chkS_no fun q => h4 q.2.2.2.1]
     have h4:isP p=false:=by simpa using h4
     go_enter Tryz.func47,Tryz.ntmps47
     go_wp2_with(first
      |(go_at_call 79;refine(within_yes _ _ _ _ (by assumption)).mono ?_;rintro e w' ⟨rfl,rfl⟩)
      |(go_at_call 80;refine(isPeriod_any _ _ (TT.out _ (below_alloc _))).mono ?_;rw[h4];rintro e w' ⟨rfl,rfl⟩))
     go_ret;exact⟨rfl,below_alloc _⟩
   ·rw [chkS_no fun q => h3 q.2.2.1]
    go_enter Tryz.func47,Tryz.ntmps47
    go_wp2_with(first
     |(go_at_call 79;refine(within_yes _ _ _ _ (by assumption)).mono ?_;rintro e w' ⟨rfl,rfl⟩)
     |(go_at_call 79;refine(within_no _ _ _ _ (by assumption)).mono ?_;rintro e w' ⟨rfl,rfl⟩))
    go_ret;exact⟨rfl,below_alloc _⟩
  ·rw [chkS_no fun q => h2 q.2.1]
   go_enter Tryz.func47,Tryz.ntmps47
   go_wp2_with(first
    |(go_at_call 79;refine(within_yes _ _ _ _ (by assumption)).mono ?_;rintro e w' ⟨rfl,rfl⟩)
    |(go_at_call 79;refine(within_no _ _ _ _ (by assumption)).mono ?_;rintro e w' ⟨rfl,rfl⟩))
   go_ret;exact⟨rfl,below_alloc _⟩
 ·rw [chkS_no fun q => h1 q.1]
  go_enter Tryz.func47,Tryz.ntmps47
  go_wp2_with(first
   |(go_at_call 79;refine(within_no _ _ _ _ (by assumption)).mono ?_;rintro e w' ⟨rfl,rfl⟩))
  go_ret;exact⟨rfl,below_alloc _⟩
def toldV(a b:Int):Value:=.agg #[.int .i64 a,.int .i64 b]
theorem light_any(s:Shp)(w:World):Calls Tryz.prog 53 #[s.val] w
  fun e w'=>e= .returned (toldV 1 0)/\Below w.heap.size w w':=by
 obtain⟨t,l,m,d,p⟩:=s;unfold Shp.val toldV;dsimp only;go_enter Tryz.func53,Tryz.ntmps53;go_wp2
 go_returns
 refine⟨rfl,?_⟩
 go_grown
theorem load_told{w:World}{q:Nat}{a b:Value}(h:RowV q 79 [a,b] w):(loadVar 79 ⟨q,0,none⟩).run Tryz.prog w= .ok (.agg #[a,b]) w:=
 run_loadVar_row _ q _ _ _ _ _ h Tryz.underlying79 rfl (by kernel_rfl)
theorem results_cell1c{fn:Func}{p:Tmp}{ty:TypeId}(h:fn.results= #[.cell p ty])(tmps:Array Value)(P:Program)(w:World):
  (results fn tmps).run P w=((asAddr (tmps.getD p undef)).run P w).andThen fun a w₁=>(loadVar ty a).run P w₁:=by
 simp only[results,h];simp[Sem.run_bind,Result.andThen]
theorem ret_told{fn:Func}{p:Tmp}(h:fn.results= #[.cell p 79]){tmps:Array Value}{w:World}{q:Nat}{a b:Value}(hp:tmps.getD p undef= .pointer (some ⟨q,0,none⟩))(h1:RowV q 79 [a,b] w):
  (results fn tmps).run Tryz.prog w= .ok (.agg #[a,b]) w:=by
 rw[results_cell1c h,hp];simp[asAddr,load_told h1,Result.andThen]
theorem heavy_any(s:Shp)(w:World)(hs:s.Ok)(hd:s.d<s.t):Calls Tryz.prog 218 #[s.val] w
  fun e w'=>e= .returned (toldV (coresH s) (faultH s))/\Below w.heap.size w w':=by
 by_cases hl:s.d<=s.l
 ·have e1: coresH s = 0:=if_pos hl
  have e2:faultH s=141:=if_pos hl;rw[e1,e2];obtain⟨t,l,m,d,p⟩:=s;unfold Shp.val toldV;dsimp only at hl hd⊢;clear e1 e2 hs hd;go_enter Tryz.func218,Tryz.ntmps218;go_wp2
  go_returns
  refine⟨rfl,?_⟩
  go_grown
 ·have hq:=many_spec hs hd (by omega)
  have hb:ff [s.t - s.l,s.d - s.l]=0:=by
   obtain⟨⟨t0,t1⟩,⟨l0,l1⟩,⟨m0,m1⟩,-,d0,d1⟩:=hs;exact ff_pair_ok (by omega) (by omega) (by omega) (by omega)
  have hb1:ff [s.t,s.l]=0:=by
   obtain⟨⟨t0,t1⟩,⟨l0,l1⟩,⟨m0,m1⟩,-,d0,d1⟩:=hs;exact ff_pair_ok (by omega) (by omega) (by omega) (by omega)
  have hb2:ff [s.d,s.l]=0:=by
   obtain⟨⟨t0,t1⟩,⟨l0,l1⟩,⟨m0,m1⟩,-,d0,d1⟩:=hs;exact ff_pair_ok (by omega) (by omega) (by omega) (by omega)
  have s1: ∀W,Calls Tryz.prog 219 #[.int .i64 s.t,.int .i64 s.l] W fun e w'=>e= .returned (.tuple #[.int .i64 (s.t - s.l),.int .i64 (subE s.t s.l)])/\Below W.heap.size W w':=fun W=>by
   have:=sub_any s.t s.l W;rw[subS_fine hb1 (by omega)]at this
   exact this
  have s2: ∀W,Calls Tryz.prog 219 #[.int .i64 s.d,.int .i64 s.l] W fun e w'=>e= .returned (.tuple #[.int .i64 (s.d - s.l),.int .i64 (subE s.d s.l)])/\Below W.heap.size W w':=fun W=>by
   have:=sub_any s.d s.l W;rw[subS_fine hb2 (by omega)]at this
   exact this
  have s3: ∀W,Calls Tryz.prog 220 #[.int .i64 (s.t - s.l),.int .i64 (s.d - s.l)] W fun e w'=>e= .returned (.tuple #[.int .i64 (manyS s),.int .i64 (downE (s.t - s.l) (s.d - s.l))])/\Below W.heap.size W w':=fun W=>up_any _ _ W
  have e1:coresH s=if 8<manyS s then 0 else manyS s:=if_neg hl
  have e2:faultH s=if 8<manyS s then 142 else 0:=if_neg hl
  obtain⟨n,hn⟩: ∃n,n=manyS s:=⟨_,rfl⟩;obtain⟨x1,hx1⟩: ∃n,n=subE s.t s.l:=⟨_,rfl⟩;obtain⟨x2,hx2⟩: ∃n,n=subE s.d s.l:=⟨_,rfl⟩;obtain⟨x3,hx3⟩: ∃n,n=downE (s.t - s.l) (s.d - s.l):=⟨_,rfl⟩;rw[<-hn]at e1 e2 s3;rw[<-hx1]at s1;rw[<-hx2]at s2;rw[<-hx3]at s3;rw[e1,e2];obtain⟨t,l,m,d,p⟩:=s;unfold Shp.val toldV;dsimp only at s1 s2 s3 hl hd⊢;obtain⟨u,hu⟩: ∃u,u=t - l:=⟨_,rfl⟩;obtain⟨v,hv⟩: ∃v,v=d - l:=⟨_,rfl⟩;rw[<-hu]at s1 s3;rw[<-hv]at s2 s3;have s1:=Lib.hid s1;have s2:=Lib.hid s2;have s3:=Lib.hid s3;clear e1 e2 hs hb hb1 hb2 hx1 hx2 hx3 hu hv hq hn;have hl:l<d:=by omega
  go_enter Tryz.func218,Tryz.ntmps218;go_wp2_with fail;have B0:=Lib.hid (Rwk.start w [(112,[.int .i64 t,.int .i64 l,.int .i64 m,.int .i64 d,.int .i64 p]),(79,[.int .i64 0,.int .i64 0])]);refine(s1.out _).mono ?_
  rintro e w1 ⟨rfl,b1⟩;have B1:=Lib.hid (B0.out.next b1);clear b1 B0;have c00:=B1.out.cell 0 0 rfl rfl;have c01:=B1.out.cell 0 1 rfl rfl;have c03:=B1.out.cell 0 3 rfl rfl;simp only[Nat.add_zero]at c00 c01 c03;go_wp2_with fail;refine(s2.out _).mono ?_
  rintro e w2 ⟨rfl,b2⟩;have B2:=Lib.hid (B1.out.next b2);clear b2 B1 c00 c01 c03;go_wp2_with fail;refine(s3.out _).mono ?_
  rintro e w3 ⟨rfl,b3⟩;have B3:=Lib.hid (B2.out.next b3);clear b3 B2;have c10:=B3.out.cell 1 0 rfl rfl;have c11:=B3.out.cell 1 1 rfl rfl;have z10:=B3.out.frozen 1 0 rfl;have z11:=B3.out.frozen 1 1 rfl
  by_cases h8:8<n
  ·go_wp2
   have B4:=B3.out.set2 1 rfl (.int .i64 0) (.int .i64 142);refine bodyPost_ret (ret_told rfl rfl (B4.row 1 _ _ rfl)) rfl ?_
   exact⟨rfl,B4.bel⟩
  ·have h8': n <= 8:=by omega
   go_wp2;have B4:=B3.out.set2 1 rfl (.int .i64 n) (.int .i64 0)
   refine bodyPost_ret (ret_told rfl rfl (B4.row 1 _ _ rfl)) rfl ?_
   exact⟨rfl,B4.bel⟩
end Go.Proofs.YtlfekmbalgkmeaaGreatDoor
