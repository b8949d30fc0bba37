import Derived.WalkKit
import Derived.Laws.Bits64b
import Derived.Lib.TrailingZeros
import Derived.Lib.Hide
import Derived.Test.YtngdbbligebcbabGreatDoorZM15
import Derived.Test.YtngdbbligebcbabGreatDoorZM1
import Derived.Test.YtngdbbligebcbabGreatDoorZM6
import Derived.Deep.Cut
set_option linter.unusedVariables false
set_option maxRecDepth 100000
set_option maxHeartbeats 8000000
namespace Go.Proofs.YtngdbbligebcbabGreatDoor
open Go.RowKit
theorem bits_and_i64_nat(a b:Nat)(ha:a<9223372036854775808)(hb:b<9223372036854775808):bits .and .i64 (a:Int) (b:Int)=((a &&& b:Nat):Int):=by
 have hx:a &&& b<2^63:=Nat.and_lt_two_pow _ (by omega)
 have h1:(BitVec.ofInt 64 (a:Int)).toNat=a:=by
  rw[BitVec.ofInt_natCast,BitVec.toNat_ofNat];exact Nat.mod_eq_of_lt (by omega)
 have h2:(BitVec.ofInt 64 (b:Int)).toNat=b:=by
  rw[BitVec.ofInt_natCast,BitVec.toNat_ofNat];exact Nat.mod_eq_of_lt (by omega)
 show IntKind.i64.wrap ((BitVec.ofInt 64 (a:Int) &&& BitVec.ofInt 64 (b:Int)).toNat:Int)=_
 rw[BitVec.toNat_and,h1,h2];simp[IntKind.wrap,IntKind.signed,IntKind.bits];omega
def rep(m:Nat):Nat->Nat
 |0=>0
 |k+1=>256 * rep m k+m
theorem and_byte(q r m s:Nat)(hr:r<256)(hs:s<256):(256 * q+r) &&& (256 * m+s)=256 * (q &&& m)+(r &&& s):=by
 apply Nat.eq_of_testBit_eq
 intro i;have hrs:r &&& s<2^8:=Nat.and_lt_two_pow _ (by omega)
 have e (a b:Nat) (hb:b<2^8):(256 * a+b).testBit i=if i<8 then b.testBit i else a.testBit (i - 8):=by
  have:=Nat.testBit_two_pow_mul_add a hb i
  simpa using this
 rw[Nat.testBit_and,e q r hr,e m s hs,e _ _ hrs]
 by_cases h:i<8
 ·simp[h]
 ·simp[h]
def b1(r:Nat):Nat:=(r/2 &&& 85)+(r &&& 85)
def b2(r:Nat):Nat:=(r/4 &&& 51)+(r &&& 51)
def b3(r:Nat):Nat:=(r/16+r) &&& 15
def pop8(r:Nat):Nat:=b3 (b2 (b1 r))
def S1(k x:Nat):Nat:=(x/2 &&& rep 85 k)+(x &&& rep 85 k)
def S2(k x:Nat):Nat:=(x/4 &&& rep 51 k)+(x &&& rep 51 k)
def S3(k x:Nat):Nat:=(x/16+x) &&& rep 15 k
theorem b1_mask: ∀r,r<256->(r/2 &&& 85)=(128+r/2 &&& 85)/\b1 r<256:=by decide+kernel
theorem b2_mask: ∀r,r<256->(r/4 &&& 51)=(64+r/4 &&& 51)/\(r/4 &&& 51)=(128+r/4 &&& 51)/\(r/4 &&& 51)=(192+r/4 &&& 51)/\b2 r<256/\b2 r%16<=6/\b2 (b1 r)<=68/\pop8 r<=8:=by decide+kernel
theorem b3_mask: ∀r,r<=68-> ∀t,t<=6->(16 * t+(r/16+r) &&& 15)=b3 r:=by decide+kernel
theorem S1_step(k q r:Nat)(hr:r<256):S1 (k+1) (256 * q+r)=256 * S1 k q+b1 r:=by
 have h2:(256 * q+r)/2=256 * (q/2)+(128 * (q%2)+r/2):=by omega
 have rs:rep 85 (k+1)=256 * rep 85 k+85:=rfl;unfold S1;rw[rs,h2,and_byte _ _ _ _ (by omega) (by omega),and_byte _ _ _ _ (by omega) (by omega)]
 have h3:(128 * (q%2)+r/2 &&& 85)=(r/2 &&& 85):=by
  rcases Nat.mod_two_eq_zero_or_one q with h|h<;>rw[h]
  ·simp
  ·exact(b1_mask r hr).1.symm
 rw[h3];show _=256 * ((q/2 &&& rep 85 k)+(q &&& rep 85 k))+((r/2 &&& 85)+(r &&& 85))
 omega
theorem S2_step(k q r:Nat)(hr:r<256):S2 (k+1) (256 * q+r)=256 * S2 k q+b2 r:=by
 have h2:(256 * q+r)/4=256 * (q/4)+(64 * (q%4)+r/4):=by omega
 have rs:rep 51 (k+1)=256 * rep 51 k+51:=rfl;unfold S2;rw[rs,h2,and_byte _ _ _ _ (by omega) (by omega),and_byte _ _ _ _ (by omega) (by omega)]
 have h3:(64 * (q%4)+r/4 &&& 51)=(r/4 &&& 51):=by
  obtain⟨m1,m2,m3,_⟩:=b2_mask r hr;rcases(show q%4=0\/q%4=1\/q%4=2\/q%4=3 by omega)with h|h|h|h<;>rw[h]
  ·simp
  ·exact m1.symm
  ·exact m2.symm
  ·exact m3.symm
 rw[h3];show _=256 * ((q/4 &&& rep 51 k)+(q &&& rep 51 k))+((r/4 &&& 51)+(r &&& 51))
 omega
theorem S3_step(k q r:Nat)(hr:r<=68)(hq:q%16<=6):S3 (k+1) (256 * q+r)=256 * S3 k q+b3 r:=by
 have h2:(256 * q+r)/16+(256 * q+r)=256 * (q/16+q)+(16 * (q%16)+(r/16+r)):=by omega
 have rs:rep 15 (k+1)=256 * rep 15 k+15:=rfl;unfold S3;rw[rs,h2,and_byte _ _ _ _ (by omega) (by omega),b3_mask r hr _ hq]
theorem S2_low(k q:Nat):S2 k q%16<=6:=by
  cases k with
  |zero=>simp[S2,rep]
  | succ k =>
    have h:=S2_step k (q/256) (q%256) (Nat.mod_lt _ (by omega))
    have h1:=(b2_mask (q%256) (Nat.mod_lt _ (by omega))).2.2.2.2.1
    have e:256 * (q/256)+q%256=q:=by omega
    rw[e]at h;omega
def T(k x:Nat):Nat:=S3 k (S2 k (S1 k x))
theorem T_step(k q r:Nat)(hr:r<256):T (k+1) (256 * q+r)=256 * T k q+pop8 r:=by
 unfold T;rw[S1_step k q r hr,S2_step k _ _ (b1_mask r hr).2,S3_step k _ _ (b2_mask r hr).2.2.2.2.2.1 (S2_low _ _)];rfl
theorem T_zero(k:Nat):T k 0=0:=by
 simp[T,S1,S2,S3]
theorem pop8_zero: ∀r,r<256->pop8 r=0->r=0:=by decide+kernel
theorem pop8_one: ∀r,r<256->pop8 r=1->r=1\/r=2\/r=4\/r=8\/r=16\/r=32\/r=64\/r=128:=by decide+kernel
theorem T_bytes(x:Nat)(hx:x<1099511627776): ∃r0 r1 r2 r3 r4,(r0<256/\r1<256/\r2<256/\r3<256/\r4<256)/\x=r0+256 * r1+65536 * r2+16777216 * r3+4294967296 * r4/\
  T 8 x=pop8 r0+256 * pop8 r1+65536 * pop8 r2+16777216 * pop8 r3+4294967296 * pop8 r4:=by
 refine⟨x%256,x/256%256,x/65536%256,x/16777216%256,x/4294967296,by omega,by omega,?_⟩
 have e0:x=256 * (x/256)+x%256:=by omega
 have e1:x/256=256 * (x/65536)+x/256%256:=by omega
 have e2:x/65536=256 * (x/16777216)+x/65536%256:=by omega
 have e3:x/16777216=256 * (x/4294967296)+x/16777216%256:=by omega
 have e4:x/4294967296=256 * 0+x/4294967296:=by omega
 have t0:T 8 (256 * (x/256)+x%256)=256 * T 7 (x/256)+pop8 (x%256):=T_step 7 _ _ (by omega)
 have t1:T 7 (256 * (x/65536)+x/256%256)=256 * T 6 (x/65536)+pop8 (x/256%256):=T_step 6 _ _ (by omega)
 have t2:T 6 (256 * (x/16777216)+x/65536%256)=256 * T 5 (x/16777216)+pop8 (x/65536%256):=T_step 5 _ _ (by omega)
 have t3:T 5 (256 * (x/4294967296)+x/16777216%256)=256 * T 4 (x/4294967296)+pop8 (x/16777216%256):=T_step 4 _ _ (by omega)
 have t4:T 4 (256 * 0+x/4294967296)=256 * T 3 0+pop8 (x/4294967296):=T_step 3 _ _ (by omega)
 rw[<-e0]at t0;rw[<-e1]at t1;rw[<-e2]at t2;rw[<-e3]at t3;rw[<-e4,T_zero]at t4;rw[t0,t1,t2,t3,t4];omega
def tailN(c:Nat):Nat:=((c+c/256)+(c+c/256)/65536)+((c+c/256)+(c+c/256)/65536)/4294967296
theorem tail_sum(p0 p1 p2 p3 p4:Nat)(h0:p0<=8)(h1:p1<=8)(h2:p2<=8)(h3:p3<=8)(h4:p4<=8):
  tailN (p0+256 * p1+65536 * p2+16777216 * p3+4294967296 * p4)%128=p0+p1+p2+p3+p4:=by
 unfold tailN;have c1:(p0+256 * p1+65536 * p2+16777216 * p3+4294967296 * p4)/256=p1+256 * p2+65536 * p3+16777216 * p4:=by omega
 rw[c1];have c2:(p0+256 * p1+65536 * p2+16777216 * p3+4294967296 * p4+(p1+256 * p2+65536 * p3+16777216 * p4))/65536=(p2+p3)+256 * (p3+p4)+65536 * p4:=by omega
 rw[c2];have c3:(p0+256 * p1+65536 * p2+16777216 * p3+4294967296 * p4+(p1+256 * p2+65536 * p3+16777216 * p4)+((p2+p3)+256 * (p3+p4)+65536 * p4))/4294967296=p4:=by omega
 rw[c3];omega
def cntN(x:Nat):Nat:=tailN (T 8 x)%128
theorem and_127(x:Nat):x &&& 127=x%128:=Nat.and_two_pow_sub_one_eq_mod x 7
theorem cnt_two(x:Nat)(hx:x<1099511627776)(h:cntN x=1): ∃k,k<40/\x=2^k:=by
 obtain⟨r0,r1,r2,r3,r4,⟨l0,l1,l2,l3,l4⟩,e,ht⟩:=T_bytes x hx;unfold cntN at h;rw[ht,tail_sum _ _ _ _ _ (b2_mask r0 l0).2.2.2.2.2.2 (b2_mask r1 l1).2.2.2.2.2.2 (b2_mask r2 l2).2.2.2.2.2.2 (b2_mask r3 l3).2.2.2.2.2.2 (b2_mask r4 l4).2.2.2.2.2.2]at h;have z0:=pop8_zero r0 l0;have z1:=pop8_zero r1 l1;have z2:=pop8_zero r2 l2;have z3:=pop8_zero r3 l3;have z4:=pop8_zero r4 l4;have o0:=pop8_one r0 l0;have o1:=pop8_one r1 l1;have o2:=pop8_one r2 l2;have o3:=pop8_one r3 l3;have o4:=pop8_one r4 l4;rcases(show pop8 r0=1\/pop8 r1=1\/pop8 r2=1\/pop8 r3=1\/pop8 r4=1 by omega)with g|g|g|g|g
 ·have:=o0 g
  have:=z1 (by omega);have:=z2 (by omega);have:=z3 (by omega);have:=z4 (by omega)
  rcases o0 g with g|g|g|g|g|g|g|g
  ·exact⟨0,by omega,by omega⟩
  ·exact⟨1,by omega,by omega⟩
  ·exact⟨2,by omega,by omega⟩
  ·exact⟨3,by omega,by omega⟩
  ·exact⟨4,by omega,by omega⟩
  ·exact⟨5,by omega,by omega⟩
  ·exact⟨6,by omega,by omega⟩
  ·exact⟨7,by omega,by omega⟩
 ·have:=z0 (by omega); have:=z2 (by omega); have:=z3 (by omega); have:=z4 (by omega)
  rcases o1 g with g|g|g|g|g|g|g|g
  ·exact⟨8,by omega,by omega⟩
  ·exact⟨9,by omega,by omega⟩
  ·exact⟨10,by omega,by omega⟩
  ·exact⟨11,by omega,by omega⟩
  ·exact⟨12,by omega,by omega⟩
  ·exact⟨13,by omega,by omega⟩
  ·exact⟨14,by omega,by omega⟩
  ·exact⟨15,by omega,by omega⟩
 ·have:=z0 (by omega); have:=z1 (by omega); have:=z3 (by omega); have:=z4 (by omega)
  rcases o2 g with g|g|g|g|g|g|g|g
  ·exact⟨16,by omega,by omega⟩
  ·exact⟨17,by omega,by omega⟩
  ·exact⟨18,by omega,by omega⟩
  ·exact⟨19,by omega,by omega⟩
  ·exact⟨20,by omega,by omega⟩
  ·exact⟨21,by omega,by omega⟩
  ·exact⟨22,by omega,by omega⟩
  ·exact⟨23,by omega,by omega⟩
 ·have:=z0 (by omega); have:=z1 (by omega); have:=z2 (by omega); have:=z4 (by omega)
  rcases o3 g with g|g|g|g|g|g|g|g
  ·exact⟨24,by omega,by omega⟩
  ·exact⟨25,by omega,by omega⟩
  ·exact⟨26,by omega,by omega⟩
  ·exact⟨27,by omega,by omega⟩
  ·exact⟨28,by omega,by omega⟩
  ·exact⟨29,by omega,by omega⟩
  ·exact⟨30,by omega,by omega⟩
  ·exact⟨31,by omega,by omega⟩
 ·have:=z0 (by omega); have:=z1 (by omega); have:=z2 (by omega); have:=z3 (by omega)
  rcases o4 g with g|g|g|g|g|g|g|g
  ·exact⟨32,by omega,by omega⟩
  ·exact⟨33,by omega,by omega⟩
  ·exact⟨34,by omega,by omega⟩
  ·exact⟨35,by omega,by omega⟩
  ·exact⟨36,by omega,by omega⟩
  ·exact⟨37,by omega,by omega⟩
  ·exact⟨38,by omega,by omega⟩
  ·exact⟨39,by omega,by omega⟩
theorem two_cnt: ∀k,k<40->cntN (2^k)=1/\2^k<=549755813888/\0<2^k/\Lib.ctz 64 (2^k)=k:=by decide+kernel
theorem T_le(x:Nat)(hx:x<1099511627776):T 8 x<=34901295112:=by
 obtain⟨r0,r1,r2,r3,r4,⟨l0,l1,l2,l3,l4⟩,e,ht⟩:=T_bytes x hx;have:=(b2_mask r0 l0).2.2.2.2.2.2;have:=(b2_mask r1 l1).2.2.2.2.2.2;have:=(b2_mask r2 l2).2.2.2.2.2.2;have:=(b2_mask r3 l3).2.2.2.2.2.2;have:=(b2_mask r4 l4).2.2.2.2.2.2;omega
theorem ones64_core(x a1 a2 c1 c2 d r:Nat)(w:World)(h1:a1<=1099511627775)(h2:a2<=1099511627775)(h3:c1<=2199023255550)(h4:c2<=2199023255550)(h5:d<=34901295112)
  (k1:bits BinOp.and IntKind.u64 ((x:Int)/2) 6148914691236517205=(a1:Int)) (k2:bits BinOp.and IntKind.u64 (x:Int) 6148914691236517205=(a2:Int))
  (k3:bits BinOp.and IntKind.u64 (((a1:Int)+a2)/4) 3689348814741910323=(c1:Int)) (k4:bits BinOp.and IntKind.u64 ((a1:Int)+a2) 3689348814741910323=(c2:Int))
  (k5:bits BinOp.and IntKind.u64 (((c1:Int)+c2)/16+(c1+c2)) 1085102592571150095=(d:Int))
  (k6:bits BinOp.and IntKind.i64 ((((d:Int)+d/256)+((d:Int)+d/256)/65536)+(((d:Int)+d/256)+((d:Int)+d/256)/65536)/4294967296) 127=(r:Int)):
  Calls Tryz.prog 159 #[.int .u64 x] w fun e w'=>e= .returned (.int .i64 r)/\w=w':=by
 go_enter Tryz.func159,Tryz.ntmps159;go_wp2;go_ret;exact⟨rfl,rfl⟩
theorem rep85:rep 85 8=6148914691236517205:=by decide+kernel
theorem rep51:rep 51 8=3689348814741910323:=by decide+kernel
theorem rep15:rep 15 8=1085102592571150095:=by decide+kernel
theorem and_le_l(a b:Nat):a &&& b<=a:=Nat.and_le_left
theorem ones64_any(x:Nat)(w:World)(hx:x<=1099511627775):
  Calls Tryz.prog 159 #[.int .u64 x] w fun e w'=>e= .returned (.int .i64 (cntN x))/\w=w':=by
 have l1:=and_le_l (x/2) (rep 85 8);have l2:=and_le_l x (rep 85 8);have hs1:S1 8 x<=2199023255550:=by unfold S1;omega
 have l3:=and_le_l (S1 8 x/4) (rep 51 8);have l4:=and_le_l (S1 8 x) (rep 51 8);have hs2:S2 8 (S1 8 x)<=4398046511100:=by unfold S2;omega
 have ht:=T_le x (by omega)
 have e1:((S1 8 x:Nat):Int)=((x/2 &&& rep 85 8:Nat):Int)+((x &&& rep 85 8:Nat):Int):=by unfold S1;omega
 have e2:((S2 8 (S1 8 x):Nat):Int)=((S1 8 x/4 &&& rep 51 8:Nat):Int)+((S1 8 x &&& rep 51 8:Nat):Int):=by unfold S2;omega
 refine ones64_core x (x/2 &&& rep 85 8) (x &&& rep 85 8) (S1 8 x/4 &&& rep 51 8) (S1 8 x &&& rep 51 8) (T 8 x) (cntN x) w (by omega) (by omega) (by omega) (by omega) ht ?_ ?_ ?_ ?_ ?_ ?_
 ·rw [show (x: Int) / 2 = ((x / 2: Nat): Int) by omega]
  rw[rep85];exact bits_and_u64_nat (x/2) 6148914691236517205 (by omega) (by omega)
 ·rw [rep85]
  exact bits_and_u64_nat x 6148914691236517205 (by omega) (by omega)
 ·rw [<- e1,show ((S1 8 x: Nat): Int) / 4 = ((S1 8 x / 4: Nat): Int) by omega,rep51]
  exact bits_and_u64_nat (S1 8 x/4) 3689348814741910323 (by omega) (by omega)
 ·rw [<- e1,rep51]
  exact bits_and_u64_nat (S1 8 x) 3689348814741910323 (by omega) (by omega)
 ·rw [<- e2,show ((S2 8 (S1 8 x): Nat): Int) / 16 + ((S2 8 (S1 8 x): Nat): Int) = ((S2 8 (S1 8 x) / 16 + S2 8 (S1 8 x): Nat): Int) by omega]
  rw[show T 8 x=(S2 8 (S1 8 x)/16+S2 8 (S1 8 x)) &&& 1085102592571150095 by rw[<-rep15];rfl]
  exact bits_and_u64_nat (S2 8 (S1 8 x)/16+S2 8 (S1 8 x)) 1085102592571150095 (by omega) (by omega)
 ·obtain ⟨d,hd⟩: ∃ d,d = T 8 x:=⟨_,rfl⟩
  have hc:cntN x=tailN d &&& 127:=by rw[hd,and_127];rfl
  rw[hc,<-hd];rw[<-hd]at ht;have hb:tailN d<=9223372036854775807:=by unfold tailN;omega
  have he:(((d:Int)+d/256)+((d:Int)+d/256)/65536)+(((d:Int)+d/256)+((d:Int)+d/256)/65536)/4294967296=((tailN d:Nat):Int):=by unfold tailN;omega
  rw[he];exact bits_and_i64_nat (tailN d) 127 (by omega) (by omega)
theorem ones_any(x:Nat)(w:World)(hx:x<=1099511627775):
  Calls Tryz.prog 147 #[.int .u64 x] w fun e w'=>e= .returned (.int .i64 (cntN x))/\w=w':=by
 have C:=Lib.hid (ones64_any x w hx);go_enter Tryz.func147,Tryz.ntmps147
 go_wp2_with(go_at_call 159;refine C.out.mono ?_;rintro e w' ⟨rfl,rfl⟩)
 go_ret;exact⟨rfl,rfl⟩
theorem tz_any(x:Nat)(w:World)(hx:x<18446744073709551616)(hx0:x≠0)(hT:Tab64 w):
  Calls Tryz.prog 148 #[.int .u64 x] w fun e w'=>e= .returned (.int .i64 (Lib.ctz 64 x))/\w=w':=by
 have C:=Lib.hid (tz64_any x w hx hx0 hT);clear hx hx0 hT;obtain⟨c,hc⟩: ∃c,c=Lib.ctz 64 x:=⟨_,rfl⟩;rw[<-hc]at C⊢;clear hc;go_enter Tryz.func148,Tryz.ntmps148
 go_wp2_with(go_at_call 130;refine C.out.mono ?_;rintro e w' ⟨rfl,rfl⟩)
 go_ret;exact⟨rfl,rfl⟩
theorem two_core(x k:Nat)(w:World)(hx:x<=1099511627775)(C1:Hid (Calls Tryz.prog 147 #[.int .u64 x] w fun e w'=>e= .returned (.int .i64 1)/\w=w'))
  (C2:Hid (Calls Tryz.prog 148 #[.int .u64 x] w fun e w'=>e= .returned (.int .i64 k)/\w=w')):
  Calls Tryz.prog 124 #[.int .i64 x] w fun e w'=>e= .returned (.tuple #[.int .i64 k,.bool true])/\w=w':=by
 have C0:=Lib.hid (check_any (x:Int) w);rw[chk_ok (by omega) (by omega)]at C0
 go_enter Tryz.func124,Tryz.ntmps124
 go_wp2_with(first
  |(go_at_call 138;refine C0.out.mono ?_;rintro e w' ⟨rfl,rfl⟩)
  |(go_at_call 147;refine C1.out.mono ?_;rintro e w' ⟨rfl,rfl⟩)
  |(go_at_call 148;refine C2.out.mono ?_;rintro e w' ⟨rfl,rfl⟩))
 go_ret2
 exact⟨rfl,rfl⟩
theorem two_yes(k:Nat)(hk:k<40)(w:World)(hT:Tab64 w):
  Calls Tryz.prog 124 #[.int .i64 ((2^k:Nat):Int)] w fun e w'=>e= .returned (.tuple #[.int .i64 k,.bool true])/\w=w':=by
 obtain⟨h1,h2,h3,h4⟩:=two_cnt k hk;obtain⟨x,hx⟩: ∃x,x=2^k:=⟨_,rfl⟩;rw[<-hx]at h1 h2 h3 h4⊢;have C1:=ones_any x w (by omega)
 rw[h1]at C1;have C2:=tz_any x w (by omega) (by omega) hT
 rw[h4]at C2;exact two_core x k w (by omega) (Lib.hid C1) (Lib.hid C2)
theorem two_not(x c:Nat)(w:World)(hx:x<=1099511627775)(hc:((c:Int) !=1)=true)(C1:Hid (Calls Tryz.prog 147 #[.int .u64 x] w fun e w'=>e= .returned (.int .i64 c)/\w=w')):
  Calls Tryz.prog 124 #[.int .i64 x] w fun e w'=>e= .returned (.tuple #[.int .i64 0,.bool false])/\w=w':=by
 have C0:=Lib.hid (check_any (x:Int) w);rw[chk_ok (by omega) (by omega)]at C0
 go_enter Tryz.func124,Tryz.ntmps124
 go_wp2_with(first
  |(go_at_call 138;refine C0.out.mono ?_;rintro e w' ⟨rfl,rfl⟩)
  |(go_at_call 147;refine C1.out.mono ?_;rintro e w' ⟨rfl,rfl⟩))
 go_ret2
 exact⟨rfl,rfl⟩
theorem two_wrong(n:Int)(w:World)(h:chk n≠0):
  Calls Tryz.prog 124 #[.int .i64 n] w fun e w'=>e= .returned (.tuple #[.int .i64 0,.bool false])/\w=w':=by
 have C0:=Lib.hid (check_any n w);obtain⟨c,hc⟩: ∃c,c=chk n:=⟨_,rfl⟩;rw[<-hc]at C0 h;have hb:(c !=0)=true:=by simpa using h
 clear hc h;go_enter Tryz.func124,Tryz.ntmps124
 go_wp2_with(go_at_call 138;refine C0.out.mono ?_;rintro e w' ⟨rfl,rfl⟩)
 go_ret2
 exact⟨rfl,rfl⟩
theorem two_no(n:Int)(w:World)(h: ∀k:Nat,k<40->n≠((2^k:Nat):Int)):
  Calls Tryz.prog 124 #[.int .i64 n] w fun e w'=>e= .returned (.tuple #[.int .i64 0,.bool false])/\w=w':=by
 by_cases hc:chk n=0
 ·obtain ⟨n0,n1⟩:=chk_zero hc
  obtain⟨x,rfl⟩: ∃x:Nat,n=(x:Int):=⟨n.toNat,by omega⟩
  refine two_not x (cntN x) w (by omega) ?_ (Lib.hid (ones_any x w (by omega)))
  have:cntN x≠1:=fun h1=>by
   obtain⟨k,hk,e⟩:=cnt_two x (by omega) h1
   exact h k hk (by rw[e])
  simp;omega
 ·exact two_wrong n w hc
theorem eq_ints(B:Nat)(A1 A2:Option Addr)(c1 c2:Nat)(xs ys:List Int)(w:World)(hx:xs.length<=1000)(hy:ys.length<=1000)(h1:Ints w B A1 xs)(h2:Ints w B A2 ys):
  Calls Tryz.prog 55 #[.slice A1 xs.length c1,.slice A2 ys.length c2] w fun e w'=>e= .returned (.bool (decide (xs=ys)))/\ ∃N,w'=w.drewN N:=by
 obtain⟨n,hn⟩: ∃n,n=xs.length:=⟨_,rfl⟩;obtain⟨m,hm⟩: ∃m,m=ys.length:=⟨_,rfl⟩;rw[<-hn,<-hm];rw[<-hn]at hx;rw[<-hm]at hy;have HN:=Lib.hid hn;have HM:=Lib.hid hm;have H1:=Lib.hid h1;have H2:=Lib.hid h2;clear hn hm h1 h2
 by_cases hnm:n=m
 ·subst hnm
  go_enter Tryz.func55,Tryz.ntmps55;go_wp2;go_loopw [13] (fun i wr=> ∃j N:Nat,j<=n/\i= .int .i64 j/\Hid (xs.take j=ys.take j)/\wr=w.drewN N) (fun i _=>n - (intOf i).toNat)
  case atStart=>exact⟨0,0,Nat.zero_le _,rfl,Lib.hid rfl,rfl⟩
  case round=>
   obtain⟨j,N,hj,rfl,HT,rfl⟩:=hrel
   by_cases hlt:j<n
   ·obtain ⟨b1,o1,x,rfl,_,hx1,hc1⟩:=H1.out.at_ (k:=j) (by rw [<- HN.out]; exact hlt)
    obtain⟨b2,o2,y,rfl,_,hy1,hc2⟩:=H2.out.at_ (k:=j) (by rw[<-HM.out];exact hlt)
    have HX:=Lib.hid hx1;have HY:=Lib.hid hy1;clear hx1 hy1
    by_cases hxy:x=y
    ·subst hxy
     go_wp2
     go_quiet (fail)
     go_wp2;go_roundw
     case rel=>exact⟨j+1,_,by omega,by go_num,Lib.hid (take_next HT.out HX.out HY.out),rfl⟩
     case measure=>simp[intOf];omega
    ·have hb: (x != y) = true:=by simpa using hxy
     have HXY:=Lib.hid hxy;clear hxy;go_wp2
     go_quiet (fail)
     go_wp2;go_ret
     exact⟨by rw[decide_eq_false (take_part HX.out HY.out HXY.out)];rfl,_,drews w N _⟩
   ·obtain rfl: j = n:=by omega
    go_wp2;go_ret
    exact⟨by rw[decide_eq_true (take_ext (by rw[<-HN.out,<-HM.out]) (by rw[<-HN.out];exact HT.out))];rfl,_,rfl⟩
 ·have hb: ((n: Int) != (m: Int)) = true:=by simp; omega
  go_enter Tryz.func55,Tryz.ntmps55;go_wp2;go_ret;exact⟨by rw[decide_eq_false (fun e:xs=ys=>hnm (by rw[HN.out,HM.out,e]))];rfl,0,rfl⟩
end Go.Proofs.YtngdbbligebcbabGreatDoor
namespace Go.Proofs.YtngdbbligebcbabGreatDoor
open Go Go.RowKit
theorem dtwo_d(n:Int): ∃(k:Int) (b:Bool),(b=true/\n<=64↔SizeOk n)/\ ∀w:World,Tab64 w->Calls Tryz.prog 124 #[.int .i64 n] w fun e w'=>e= .returned (.tuple #[.int .i64 k,.bool b])/\w=w':=by
 by_cases h: ∃k:Nat,k<40/\n=((2^k:Nat):Int)
 ·obtain ⟨k,hk,rfl⟩:=h
  refine⟨k,true,⟨fun⟨_,q⟩=> ?_,fun q=>⟨rfl,q.bounds.2⟩⟩,fun w hT=>two_yes k hk w hT⟩
  have h7:k<7:=by
   rcases Nat.lt_or_ge k 7 with h|h
   ·exact h
   ·have:=Nat.pow_le_pow_right (show 0 < 2 by decide) h
    omega
  exact SizeOk.of_pow h7
 ·refine ⟨0,false,⟨fun q => absurd q.1 (by decide),fun q => ?_⟩,fun w _ => two_no n w fun k hk e => h ⟨k,hk,e⟩⟩
  obtain⟨k,hk,e⟩:=q.pow;exact absurd ⟨k,by omega,e⟩ h
theorem dlen_any(n:Int)(w:World)(hT:DTab w):Calls Tryz.prog 95 #[.int .i64 n] w fun e w'=>e= .returned (.bool (decide (SizeOk n)))/\w=w':=by
  obtain⟨k,b,hb,C⟩:=dtwo_d n;have HC:=Lib.hid (fun w' (e:w=w')=>C w' (e▸hT))
  clear C hT;obtain⟨r,hr⟩: ∃r,r=decide (SizeOk n):=⟨_,rfl⟩;rw[<-hr];cases b with
  | false =>
    have e:r=false:=by rw[hr];exact decide_eq_false fun q=>absurd (hb.mpr q).1 (by decide)
    subst e;clear hb hr;go_enter Tryz.func95,Tryz.ntmps95
    go_wp2_with(go_at_call 124;refine(HC.out _ rfl).mono ?_;rintro e w' ⟨rfl,rfl⟩)
    go_ret;exact⟨rfl,rfl⟩
  | true =>
    by_cases h:n<=64
    · have e:r=true:=by rw[hr];exact decide_eq_true (hb.mp ⟨rfl,h⟩)
      subst e;have h2:decide (n<=64)=true:=decide_eq_true h;clear hb hr;go_enter Tryz.func95,Tryz.ntmps95
      go_wp2_with(go_at_call 124;refine(HC.out _ rfl).mono ?_;rintro e w' ⟨rfl,rfl⟩)
      go_ret;exact⟨rfl,rfl⟩
    · have e:r=false:=by rw[hr];exact decide_eq_false fun q=>h (hb.mpr q).2
      subst e;have h2:decide (n<=64)=false:=decide_eq_false h;clear hb hr;go_enter Tryz.func95,Tryz.ntmps95
      go_wp2_with(go_at_call 124;refine(HC.out _ rfl).mono ?_;rintro e w' ⟨rfl,rfl⟩)
      go_ret;exact⟨rfl,rfl⟩
theorem dcheck_any(A:Option Addr)(n c:Nat)(T B:Int)(w:World)(hn:n<=1000)(hT:DTab w):
  Calls Tryz.prog 118 #[.agg #[.slice A n c,.int .i64 T,.int .i64 B]] w fun e w'=>e= .returned (.int .i64 (chkQE n T B))/\Below w.heap.size w w':=by
 have CL:=Lib.hid (dlen_any (n:Int) (w.alloc (.cells #[.slice A n c,.int .i64 T,.int .i64 B] 81)) (hT.via (below_alloc _)));have CC:=Lib.hid (fun W=>check_any T W)
 have HB:=Lib.hid (below_alloc (w:=w) (.cells #[.slice A n c,.int .i64 T,.int .i64 B] 81));obtain⟨r,hr⟩: ∃r,r=chkQE n T B:=⟨_,rfl⟩;rw[<-hr];have HY:Hid (ChkQ n T B->r=0):=Lib.hid fun q=>by rw[hr];unfold chkQE;rw[if_pos q]
 have HNO:Hid (¬ChkQ n T B->r=120):=Lib.hid fun q=>by rw[hr];unfold chkQE;rw[if_neg q]
 clear hr hT
 by_cases h1: ¬SizeOk n
 ·obtain rfl: r = 120:=HNO.out fun q => h1 q.1
  rw[decide_eq_false h1]at CL;clear h1 HY HNO;go_enter Tryz.func118,Tryz.ntmps118
  go_wp2_with(first
   |(go_at_call 95;refine CL.out.mono ?_;rintro e w' ⟨rfl,rfl⟩)
   |(go_at_call 138;refine(CC.out _).mono ?_;rintro e w' ⟨rfl,rfl⟩))
  go_ret;exact⟨rfl,HB.out⟩
 replace h1:=Classical.not_not.mp h1;rw[decide_eq_true h1]at CL
 by_cases h2: ¬(0<=T/\T<=1099511627775)
 ·obtain rfl: r = 120:=HNO.out fun q => h2 ⟨q.2.1,q.2.2.1⟩
  obtain⟨z,hz⟩: ∃z,z=chk T:=⟨_,rfl⟩;have hz0:z≠0:=fun e=>h2 (chk_zero (hz▸e))
  rw[<-hz]at CC;have hzb:(z !=0)=true:=bne_iff_ne.mpr hz0;clear h1 h2 HY HNO hz hz0;go_enter Tryz.func118,Tryz.ntmps118
  go_wp2_with(first
   |(go_at_call 95;refine CL.out.mono ?_;rintro e w' ⟨rfl,rfl⟩)
   |(go_at_call 138;refine(CC.out _).mono ?_;rintro e w' ⟨rfl,rfl⟩))
  go_ret;exact⟨rfl,HB.out⟩
 replace h2:=Classical.not_not.mp h2;obtain⟨h2,h3⟩:=h2;rw[chk_ok h2 h3]at CC
 by_cases h4:B<T - 1
 ·obtain rfl: r = 120:=HNO.out fun q => by have:=q.2.2.2.1; omega
  have e4:decide (B<T - 1)=true:=decide_eq_true h4;clear h1 h4 HY HNO;go_enter Tryz.func118,Tryz.ntmps118
  go_wp2_with(first
   |(go_at_call 95;refine CL.out.mono ?_;rintro e w' ⟨rfl,rfl⟩)
   |(go_at_call 138;refine(CC.out _).mono ?_;rintro e w' ⟨rfl,rfl⟩))
  go_ret;exact⟨rfl,HB.out⟩
 have e4:decide (B<T - 1)=false:=decide_eq_false h4
 by_cases h5:T+n<B
 ·obtain rfl: r = 120:=HNO.out fun q => by have:=q.2.2.2.2; omega
  have e5:decide (T+n<B)=true:=decide_eq_true h5;clear h1 h4 h5 HY HNO;go_enter Tryz.func118,Tryz.ntmps118
  go_wp2_with(first
   |(go_at_call 95;refine CL.out.mono ?_;rintro e w' ⟨rfl,rfl⟩)
   |(go_at_call 138;refine(CC.out _).mono ?_;rintro e w' ⟨rfl,rfl⟩))
  go_ret;exact⟨rfl,HB.out⟩
 ·obtain rfl: r = 0:=HY.out ⟨h1,h2,h3,by omega,by omega⟩
  have e5:decide (T+n<B)=false:=decide_eq_false h5;clear h1 h4 h5 HY HNO;go_enter Tryz.func118,Tryz.ntmps118
  go_wp2_with(first
   |(go_at_call 95;refine CL.out.mono ?_;rintro e w' ⟨rfl,rfl⟩)
   |(go_at_call 138;refine(CC.out _).mono ?_;rintro e w' ⟨rfl,rfl⟩))
  go_ret;exact⟨rfl,HB.out⟩
theorem dplace_any(A:Option Addr)(n c:Nat)(T B k:Int)(w:World)(hn:0<n)(hln:n<=1000)(hk1:k<=9223372036854775807):
  Calls Tryz.prog 131 #[.agg #[.slice A n c,.int .i64 T,.int .i64 B],.int .i64 k] w fun e w'=>e= .returned (.int .i64 (plN n k))/\Below w.heap.size w w':=by
 have HB:=Lib.hid (below_alloc (w:=w) (.cells #[.slice A n c,.int .i64 T,.int .i64 B] 81));obtain⟨p,hp⟩: ∃p,p=plN n k:=⟨_,rfl⟩;have hpn:p<n:=by rw[hp];exact Nat.mod_lt _ hn
 rw[<-hp]
 by_cases h0:k<0
 ·obtain rfl: p = 0:=by rw [hp]; unfold plN; rw [if_pos h0]; simp
  have hmx:max k 0=0:=by omega
  have hmx2:decide (k<0)=true:=decide_eq_true h0;clear hp;go_enter Tryz.func131,Tryz.ntmps131;go_wp2;go_ret;exact⟨rfl,HB.out⟩
 ·obtain ⟨q,rfl⟩: ∃ q: Nat,k = q:=⟨k.toNat,by omega⟩
  have hp2:p=q%n:=by rw[hp];unfold plN;rw[if_neg h0];simp
  have hmod:Int.tmod (q:Int) (n:Int)=(p:Int):=by rw[hp2];rfl
  clear hp hp2;go_enter Tryz.func131,Tryz.ntmps131;go_wp2;go_ret;exact⟨rfl,HB.out⟩
section
variable {A: Option Addr} {n c: Nat} {R: List Int} {A': Option Addr} {n' c': Nat} {R': List Int}
theorem dsame_d(T B T' B':Int)(w:World)(h:IsQ w A n c R)(h':IsQ w A' n' c' R'):
  Calls Tryz.prog 53 #[.agg #[.slice A n c,.int .i64 T,.int .i64 B],.agg #[.slice A' n' c',.int .i64 T',.int .i64 B']] w fun e w'=>e= .returned (.bool (decide (SameQ R T B R' T' B')))/\Below w.heap.size w w':=by
 obtain⟨w0,hw0⟩: ∃w0,w0=(w.alloc (.cells #[.slice A n c,.int .i64 T,.int .i64 B] 81)).alloc (.cells #[.slice A' n' c',.int .i64 T',.int .i64 B'] 81):=⟨_,rfl⟩;have hb0:Below w.heap.size w w0:=by rw[hw0];exact below2 _ _ 0
 have C1:=eq_ints w0.heap.size A A' c c' R R' w0 (by rw[h.hn];exact h.ln) (by rw[h'.hn];exact h'.ln) ((h.below hb0).ints) ((h'.below hb0).ints)
 rw[h.hn,h'.hn]at C1;rw[hw0]at C1;have HB:=Lib.hid (fun N=>below2 (w:=w) (.cells #[.slice A n c,.int .i64 T,.int .i64 B] 81) (.cells #[.slice A' n' c',.int .i64 T',.int .i64 B'] 81) N)
 have HC1:=Lib.hid C1;obtain⟨r,hr⟩: ∃r,r=decide (SameQ R T B R' T' B'):=⟨_,rfl⟩;rw[<-hr];clear h h' hw0 C1 hb0
 by_cases h1: ¬R=R'
 ·rw [decide_eq_false h1] at HC1
  obtain rfl:r=false:=by rw[hr];exact decide_eq_false fun q=>h1 q.1
  clear h1 hr;go_enter Tryz.func53,Tryz.ntmps53;go_wp2_with fail;refine HC1.out.mono ?_
  rintro e w' ⟨rfl,N,rfl⟩;go_wp2;go_ret;exact⟨rfl,HB.out N⟩
 replace h1:=Classical.not_not.mp h1;rw[decide_eq_true h1]at HC1
 by_cases h2: ¬T=T'
 ·obtain rfl: r = false:=by rw [hr]; exact decide_eq_false fun q => h2 q.2.1
  have e2:(T==T')=false:=beq_eq_false_iff_ne.mpr h2;clear h1 hr h2;go_enter Tryz.func53,Tryz.ntmps53;go_wp2_with fail;refine HC1.out.mono ?_
  rintro e w' ⟨rfl,N,rfl⟩;go_wp2;go_ret;exact⟨rfl,HB.out N⟩
 replace h2:=Classical.not_not.mp h2;have e2:(T==T')=true:=by rw[beq_iff_eq];exact h2
 by_cases h3: ¬B=B'
 ·obtain rfl: r = false:=by rw [hr]; exact decide_eq_false fun q => h3 q.2.2
  have e3:(B==B')=false:=beq_eq_false_iff_ne.mpr h3;clear h1 hr h2 h3;go_enter Tryz.func53,Tryz.ntmps53;go_wp2_with fail;refine HC1.out.mono ?_
  rintro e w' ⟨rfl,N,rfl⟩;go_wp2;go_ret;exact⟨rfl,HB.out N⟩
 ·replace h3:=Classical.not_not.mp h3
  obtain rfl:r=true:=by rw[hr];exact decide_eq_true ⟨h1,h2,h3⟩
  have e3:(B==B')=true:=by rw[beq_iff_eq];exact h3
  clear h1 hr h2 h3;go_enter Tryz.func53,Tryz.ntmps53;go_wp2_with fail;refine HC1.out.mono ?_
  rintro e w' ⟨rfl,N,rfl⟩;go_wp2;go_ret;exact⟨rfl,HB.out N⟩
end
section
variable {A: Option Addr} {n c: Nat} {R: List Int}
end
theorem dwrong_any(n:Int)(w:World):Calls Tryz.prog 172 #[.int .i64 n] w fun e w'=>e= .returned (.bool (decide (n< -1\/1099511627775<n)))/\w=w':=by
 by_cases h1:n< -1
 ·have e1: decide (n < -1) = true:=decide_eq_true h1
  rw[decide_eq_true (show n< -1\/1099511627775<n from .inl h1)]
  clear h1;go_enter Tryz.func172,Tryz.ntmps172;go_wp2;go_ret;exact⟨rfl,rfl⟩
 have e1:decide (n< -1)=false:=decide_eq_false h1
 by_cases h2:1099511627775<n
 ·have e2: decide (1099511627775 < n) = true:=decide_eq_true h2
  rw[decide_eq_true (show n< -1\/1099511627775<n from .inr h2)]
  clear h1 h2;go_enter Tryz.func172,Tryz.ntmps172;go_wp2;go_ret;exact⟨rfl,rfl⟩
 ·have e2: decide (1099511627775 < n) = false:=decide_eq_false h2
  rw[decide_eq_false (show¬(n< -1\/1099511627775<n)from fun q=>q.elim h1 h2)]
  clear h1 h2;go_enter Tryz.func172,Tryz.ntmps172;go_wp2;go_ret;exact⟨rfl,rfl⟩
theorem dover_any(t:Tkr)(w:World):Calls Tryz.prog 152 #[vT t] w fun e w'=>e= .returned (.bool (decide (OverT t)))/\Below w.heap.size w w':=by
 obtain⟨st,a,tp,bt,gt,en⟩:=t;have HB:=Lib.hid (below_alloc (w:=w) (.cells #[.bool st,.int .i64 a,.int .i64 tp,.int .i64 bt,.int .i64 gt,.int .i64 en] 65));have CW:=Lib.hid (fun n W=>dwrong_any n W)
 obtain⟨r,hr⟩: ∃r,r=decide (OverT ⟨st,a,tp,bt,gt,en⟩):=⟨_,rfl⟩;rw[<-hr];have HY:Hid (OverT ⟨st,a,tp,bt,gt,en⟩->r=true):=Lib.hid fun q=>by rw[hr];exact decide_eq_true q
 have HN:Hid (¬OverT ⟨st,a,tp,bt,gt,en⟩->r=false):=Lib.hid fun q=>by rw[hr];exact decide_eq_false q
 unfold vT;clear hr;obtain⟨L,hL⟩: ∃L:Int,L=if st=true then 3 else 4:=⟨_,rfl⟩
 have HO:Hid (OverT ⟨st,a,tp,bt,gt,en⟩↔en≠0\/a<0\/L<a\/(a≠0/\WildT ⟨st,a,tp,bt,gt,en⟩)):=Lib.hid (by rw[hL];exact Iff.rfl)
 have HLL:=Lib.hid hL;clear hL
 by_cases q1: ¬en=0
 ·obtain rfl: r = true:=HY.out (HO.out.mpr (.inl q1))
  have r1:(en !=0)=true:=bne_iff_ne.mpr q1;clear q1 HY HN HO;cases st
  all_goals
   go_enter Tryz.func152,Tryz.ntmps152;go_wp2;go_ret;exact⟨rfl,HB.out⟩
 have r1:(en !=0)=false:=by simp[Classical.not_not.mp q1]
 have HQ1:=Lib.hid q1;clear q1
 by_cases q2:a<0
 ·obtain rfl: r = true:=HY.out (HO.out.mpr (.inr (.inl q2)))
  have r2:decide (a<0)=true:=decide_eq_true q2;clear q2 HY HN HO;cases st
  all_goals
   go_enter Tryz.func152,Tryz.ntmps152;go_wp2;go_ret;exact⟨rfl,HB.out⟩
 have r2:decide (a<0)=false:=decide_eq_false q2
 by_cases q3:L<a
 ·obtain rfl: r = true:=HY.out (HO.out.mpr (.inr (.inr (.inl q3))))
  clear HY HN HO;cases st
  ·obtain rfl: L = 4:=HLL.out
   have r3:decide (4<a)=true:=decide_eq_true q3;clear q2 q3;go_enter Tryz.func152,Tryz.ntmps152;go_wp2;go_ret;exact⟨rfl,HB.out⟩
  ·obtain rfl: L = 3:=HLL.out
   have r3:decide (3<a)=true:=decide_eq_true q3;clear q2 q3;go_enter Tryz.func152,Tryz.ntmps152;go_wp2;go_ret;exact⟨rfl,HB.out⟩
 have key: ∀(z:Bool) (g:(a !=0)=z) (u v:Bool),(decide (tp< -1\/1099511627775<tp))=u->(decide (bt< -1\/1099511627775<bt))=v->r=(z&&(u||v)):=fun z g u v hu hv=>by
  cases z
  ·have ha: a = 0:=by simpa using g
   exact HN.out fun q=>by
    rcases HO.out.mp q with q|q|q|q
    ·exact HQ1.out q
    ·exact q2 q
    ·exact q3 q
    ·exact q.1 ha
  ·have ha: a ≠ 0:=bne_iff_ne.mp g
   by_cases hw:WildT ⟨st,a,tp,bt,gt,en⟩
   ·rw [HY.out (HO.out.mpr (.inr (.inr (.inr ⟨ha,hw⟩)))),<- hu,<- hv]
    rcases hw with q|q|q|q
    ·rw[decide_eq_true (show tp< -1\/1099511627775<tp from .inl q)];rfl
    ·rw[decide_eq_true (show tp< -1\/1099511627775<tp from .inr q)];rfl
    ·rw[decide_eq_true (show bt< -1\/1099511627775<bt from .inl q)];simp
    ·rw[decide_eq_true (show bt< -1\/1099511627775<bt from .inr q)];simp
   ·rw [HN.out fun q => by
     rcases HO.out.mp q with q|q|q|q
     ·exact HQ1.out q
     ·exact q2 q
     ·exact q3 q
     ·exact hw q.2,<-hu,<-hv]
    rw[decide_eq_false (fun q:tp< -1\/1099511627775<tp=>hw (q.elim .inl fun q=> .inr (.inl q))),decide_eq_false (fun q:bt< -1\/1099511627775<bt=>hw (q.elim (fun q=> .inr (.inr (.inl q))) fun q=> .inr (.inr (.inr q))))]
    rfl
 have r34:Hid (decide (L<a)=false):=Lib.hid (decide_eq_false q3);obtain⟨z,hz⟩: ∃z,(a !=0)=z:=⟨_,rfl⟩;obtain⟨u,hu⟩: ∃u,decide (tp< -1\/1099511627775<tp)=u:=⟨_,rfl⟩;obtain⟨v,hv⟩: ∃v,decide (bt< -1\/1099511627775<bt)=v:=⟨_,rfl⟩;have hrr:=key z hz u v hu hv;have CU:Hid (∀W:World,Calls Tryz.prog 172 #[.int .i64 tp] W fun e w'=>e= .returned (.bool u)/\W=w'):=Lib.hid (fun W=>by rw[<-hu];exact CW.out tp W)
 have CV:Hid (∀W:World,Calls Tryz.prog 172 #[.int .i64 bt] W fun e w'=>e= .returned (.bool v)/\W=w'):=Lib.hid (fun W=>by rw[<-hv];exact CW.out bt W)
 clear key hu hv q2 q3 HY HN HO CW;cases st
 ·obtain rfl: L = 4:=HLL.out
  have r3:decide (4<a)=false:=r34.out;clear r34 HLL;cases z<;>cases u<;>cases v<;>(
   subst hrr;go_enter Tryz.func152,Tryz.ntmps152
   go_wp2_with(first
    |(refine(CU.out _).mono ?_;rintro e w' ⟨rfl,rfl⟩)
    |(refine(CV.out _).mono ?_;rintro e w' ⟨rfl,rfl⟩))
   go_ret;exact⟨rfl,HB.out⟩)
 ·obtain rfl: L = 3:=HLL.out
  have r3:decide (3<a)=false:=r34.out;clear r34 HLL;cases z<;>cases u<;>cases v<;>(
   subst hrr;go_enter Tryz.func152,Tryz.ntmps152
   go_wp2_with(first
    |(refine(CU.out _).mono ?_;rintro e w' ⟨rfl,rfl⟩)
    |(refine(CV.out _).mono ?_;rintro e w' ⟨rfl,rfl⟩))
   go_ret;exact⟨rfl,HB.out⟩)
end Go.Proofs.YtngdbbligebcbabGreatDoor
