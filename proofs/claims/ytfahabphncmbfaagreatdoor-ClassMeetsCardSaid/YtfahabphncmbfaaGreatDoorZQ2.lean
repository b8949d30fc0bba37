import Derived.Test.YtfahabphncmbfaaGreatDoorZQ1
import Derived.WalkSmall
import Derived.Test.YtfahabphncmbfaaGreatDoorChecked
import Derived.Laws.Rows
import Derived.BigQuiet
set_option linter.all false
set_option maxHeartbeats 8000000
namespace Go.Proofs.YtfahabphncmbfaaGreatDoor
open Go.RowKit
open _root_.Array renaming getElem?_eq_some_iff→Zk
open Below renaming refl→Zl
open Go.Lib renaming hid→Zf
open List renaming eq_nil_of_length_eq_zero→Yb,getElem?_eq_getElem→Zh,getElem?_eq_none→Zt,getElem?_eq_some_iff→Zs,getElem?_set_self→ZJ,length_cons→Ya
open Nat renaming le_refl→Zm,lt_or_ge→Zv,mod_eq_of_lt→Yn
open Go.Proofs.Tryz renaming prog→Zg
open Go.Proofs.Tryz
theorem Zfs(a b:Nat)(ha:a<9223372036854775808)(hb:b<9223372036854775808):bits .and .i64 (a:Int) (b:Int)=((a &&& b:Nat):Int):=by
 have hx:a &&& b<2^63:=Nat.and_lt_two_pow _ (by omega);have h1:(BitVec.ofInt 64 (a:Int)).toNat=a:=by rw[BitVec.ofInt_natCast,BitVec.toNat_ofNat];exact Yn (by omega)
 have h2:(BitVec.ofInt 64 (b:Int)).toNat=b:=by rw[BitVec.ofInt_natCast,BitVec.toNat_ofNat];exact Yn (by omega)
 show IntKind.i64.wrap ((BitVec.ofInt 64 (a:Int) &&& BitVec.ofInt 64 (b:Int)).toNat:Int)=_;rw[BitVec.toNat_and,h1,h2];simp[IntKind.wrap,IntKind.signed,IntKind.bits];omega
def rep(m:Nat):Nat->Nat
 |0=>0
 |k+1=>256 * rep m k+m
theorem Zd6(q r m s:Nat)(hr:r<256)(hs:s<256):(256 * q+r) &&& (256 * m+s)=256 * (q &&& m)+(r &&& s):=by
 apply Nat.eq_of_testBit_eq;intro i;have hrs:r &&& s<2^8:=Nat.and_lt_two_pow _ (by omega);have e (a b:Nat) (hb:b<2^8):(256 * a+b).testBit i=if i<8 then b.testBit i else a.testBit (i - 8):=by have:=Nat.testBit_two_pow_mul_add a hb i;simpa using this
 rw[Nat.testBit_and,e q r hr,e m s hs,e _ _ hrs];by_cases h:i<8
 ·simp[h]
 ·simp[h]
def b1(r:Nat):Nat:=(r/2 &&& 85)+(r &&& 85)
def b2(r:Nat):Nat:=(r/4 &&& 51)+(r &&& 51)
def b3(r:Nat):Nat:=(r/16+r) &&& 15
def pop8(r:Nat):Nat:=b3 (b2 (b1 r))
def S1(k x:Nat):Nat:=(x/2 &&& rep 85 k)+(x &&& rep 85 k)
def S2(k x:Nat):Nat:=(x/4 &&& rep 51 k)+(x &&& rep 51 k)
def S3(k x:Nat):Nat:=(x/16+x) &&& rep 15 k
theorem ZmQ:∀r,r<256->(r/2 &&& 85)=(128+r/2 &&& 85)/\b1 r<256:=by decide+kernel
theorem ZbN:∀r,r<256->(r/4 &&& 51)=(64+r/4 &&& 51)/\(r/4 &&& 51)=(128+r/4 &&& 51)/\(r/4 &&& 51)=(192+r/4 &&& 51)/\b2 r<256/\b2 r%16<=6/\b2 (b1 r)<=68/\pop8 r<=8:=by decide+kernel
theorem ZqT:∀r,r<=68->∀t,t<=6->(16 * t+(r/16+r) &&& 15)=b3 r:=by decide+kernel
theorem ZqU(k q r:Nat)(hr:r<256):S1 (k+1) (256 * q+r)=256 * S1 k q+b1 r:=by
 have h2:(256 * q+r)/2=256 * (q/2)+(128 * (q%2)+r/2):=by omega
 have rs:rep 85 (k+1)=256 * rep 85 k+85:=rfl;unfold S1;rw[rs,h2,Zd6 _ _ _ _ (by omega) (by omega),Zd6 _ _ _ _ (by omega) (by omega)];have h3:(128 * (q%2)+r/2 &&& 85)=(r/2 &&& 85):=by
  rcases Nat.mod_two_eq_zero_or_one q with h|h<;>rw[h]
  ·simp
  ·exact(ZmQ r hr).1.symm
 rw[h3];show _=256 * ((q/2 &&& rep 85 k)+(q &&& rep 85 k))+((r/2 &&& 85)+(r &&& 85));omega
theorem ZmR(k q r:Nat)(hr:r<256):S2 (k+1) (256 * q+r)=256 * S2 k q+b2 r:=by
 have h2:(256 * q+r)/4=256 * (q/4)+(64 * (q%4)+r/4):=by omega
 have rs:rep 51 (k+1)=256 * rep 51 k+51:=rfl;unfold S2;rw[rs,h2,Zd6 _ _ _ _ (by omega) (by omega),Zd6 _ _ _ _ (by omega) (by omega)];have h3:(64 * (q%4)+r/4 &&& 51)=(r/4 &&& 51):=by
  obtain⟨m1,m2,m3,_⟩:=ZbN r hr;rcases(show q%4=0\/q%4=1\/q%4=2\/q%4=3 by omega)with h|h|h|h<;>rw[h]
  ·simp
  ·exact m1.symm
  ·exact m2.symm
  ·exact m3.symm
 rw[h3];show _=256 * ((q/4 &&& rep 51 k)+(q &&& rep 51 k))+((r/4 &&& 51)+(r &&& 51));omega
theorem ZqV(k q r:Nat)(hr:r<=68)(hq:q%16<=6):S3 (k+1) (256 * q+r)=256 * S3 k q+b3 r:=by
 have h2:(256 * q+r)/16+(256 * q+r)=256 * (q/16+q)+(16 * (q%16)+(r/16+r)):=by omega
 have rs:rep 15 (k+1)=256 * rep 15 k+15:=rfl;unfold S3;rw[rs,h2,Zd6 _ _ _ _ (by omega) (by omega),ZqT r hr _ hq]
theorem Zr8(k q:Nat):S2 k q%16<=6:=by
  cases k with
  |zero=>simp[S2,rep]
  | succ k =>
    have h:=ZmR k (q/256) (q%256) (Nat.mod_lt _ (by omega));have h1:=(ZbN (q%256) (Nat.mod_lt _ (by omega))).2.2.2.2.1;have e:256 * (q/256)+q%256=q:=by omega
    rw[e]at h;omega
def T(k x:Nat):Nat:=S3 k (S2 k (S1 k x))
theorem Zin(k q r:Nat)(hr:r<256):T (k+1) (256 * q+r)=256 * T k q+pop8 r:=by unfold T;rw[ZqU k q r hr,ZmR k _ _ (ZmQ r hr).2,ZqV k _ _ (ZbN r hr).2.2.2.2.2.1 (Zr8 _ _)];rfl
theorem Zr9(k:Nat):T k 0=0:=by simp[T,S1,S2,S3]
theorem Zc9:∀r,r<256->pop8 r=0->r=0:=by decide+kernel
theorem Zd7:∀r,r<256->pop8 r=1->r=1\/r=2\/r=4\/r=8\/r=16\/r=32\/r=64\/r=128:=by decide+kernel
theorem ZmS(x:Nat)(hx:x<1099511627776):∃r0 r1 r2 r3 r4,(r0<256/\r1<256/\r2<256/\r3<256/\r4<256)/\x=r0+256 * r1+65536 * r2+16777216 * r3+4294967296 * r4/\
  T 8 x=pop8 r0+256 * pop8 r1+65536 * pop8 r2+16777216 * pop8 r3+4294967296 * pop8 r4:=by
 refine⟨x%256,x/256%256,x/65536%256,x/16777216%256,x/4294967296,by omega,by omega,?_⟩;have e0:x=256 * (x/256)+x%256:=by omega
 have e1:x/256=256 * (x/65536)+x/256%256:=by omega
 have e2:x/65536=256 * (x/16777216)+x/65536%256:=by omega
 have e3:x/16777216=256 * (x/4294967296)+x/16777216%256:=by omega
 have e4:x/4294967296=256 * 0+x/4294967296:=by omega
 have t0:T 8 (256 * (x/256)+x%256)=256 * T 7 (x/256)+pop8 (x%256):=Zin 7 _ _ (by omega);have t1:T 7 (256 * (x/65536)+x/256%256)=256 * T 6 (x/65536)+pop8 (x/256%256):=Zin 6 _ _ (by omega);have t2:T 6 (256 * (x/16777216)+x/65536%256)=256 * T 5 (x/16777216)+pop8 (x/65536%256):=Zin 5 _ _ (by omega);have t3:T 5 (256 * (x/4294967296)+x/16777216%256)=256 * T 4 (x/4294967296)+pop8 (x/16777216%256):=Zin 4 _ _ (by omega);have t4:T 4 (256 * 0+x/4294967296)=256 * T 3 0+pop8 (x/4294967296):=Zin 3 _ _ (by omega);rw[<-e0]at t0;rw[<-e1]at t1;rw[<-e2]at t2;rw[<-e3]at t3;rw[<-e4,Zr9]at t4;rw[t0,t1,t2,t3,t4];omega
def Zhu(c:Nat):Nat:=((c+c/256)+(c+c/256)/65536)+((c+c/256)+(c+c/256)/65536)/4294967296
theorem Zpb(p0 p1 p2 p3 p4:Nat)(h0:p0<=8)(h1:p1<=8)(h2:p2<=8)(h3:p3<=8)(h4:p4<=8):
  Zhu (p0+256 * p1+65536 * p2+16777216 * p3+4294967296 * p4)%128=p0+p1+p2+p3+p4:=by
 unfold Zhu;have c1:(p0+256 * p1+65536 * p2+16777216 * p3+4294967296 * p4)/256=p1+256 * p2+65536 * p3+16777216 * p4:=by omega
 rw[c1];have c2:(p0+256 * p1+65536 * p2+16777216 * p3+4294967296 * p4+(p1+256 * p2+65536 * p3+16777216 * p4))/65536=(p2+p3)+256 * (p3+p4)+65536 * p4:=by omega
 rw[c2];have c3:(p0+256 * p1+65536 * p2+16777216 * p3+4294967296 * p4+(p1+256 * p2+65536 * p3+16777216 * p4)+((p2+p3)+256 * (p3+p4)+65536 * p4))/4294967296=p4:=by omega
 rw[c3];omega
def cntN(x:Nat):Nat:=Zhu (T 8 x)%128
theorem ZqW(x:Nat):x &&& 127=x%128:=Nat.and_two_pow_sub_one_eq_mod x 7
theorem ZqX(x:Nat)(hx:x<1099511627776)(h:cntN x=1):∃k,k<40/\x=2^k:=by
 obtain⟨r0,r1,r2,r3,r4,⟨l0,l1,l2,l3,l4⟩,e,ht⟩:=ZmS x hx;unfold cntN at h;rw[ht,Zpb _ _ _ _ _ (ZbN r0 l0).2.2.2.2.2.2 (ZbN r1 l1).2.2.2.2.2.2 (ZbN r2 l2).2.2.2.2.2.2 (ZbN r3 l3).2.2.2.2.2.2 (ZbN r4 l4).2.2.2.2.2.2]at h;have z0:=Zc9 r0 l0;have z1:=Zc9 r1 l1;have z2:=Zc9 r2 l2;have z3:=Zc9 r3 l3;have z4:=Zc9 r4 l4;have o0:=Zd7 r0 l0;have o1:=Zd7 r1 l1;have o2:=Zd7 r2 l2;have o3:=Zd7 r3 l3;have o4:=Zd7 r4 l4;rcases(show pop8 r0=1\/pop8 r1=1\/pop8 r2=1\/pop8 r3=1\/pop8 r4=1 by omega)with g|g|g|g|g
 ·have:=o0 g
  have:=z1 (by omega);have:=z2 (by omega);have:=z3 (by omega);have:=z4 (by omega);rcases o0 g with g|g|g|g|g|g|g|g
  ·exact⟨0,by omega,by omega⟩
  ·exact⟨1,by omega,by omega⟩
  ·exact⟨2,by omega,by omega⟩
  ·exact⟨3,by omega,by omega⟩
  ·exact⟨4,by omega,by omega⟩
  ·exact⟨5,by omega,by omega⟩
  ·exact⟨6,by omega,by omega⟩
  ·exact⟨7,by omega,by omega⟩
 ·have:=z0 (by omega); have:=z2 (by omega); have:=z3 (by omega); have:=z4 (by omega)
  rcases o1 g with g|g|g|g|g|g|g|g
  ·exact⟨8,by omega,by omega⟩
  ·exact⟨9,by omega,by omega⟩
  ·exact⟨10,by omega,by omega⟩
  ·exact⟨11,by omega,by omega⟩
  ·exact⟨12,by omega,by omega⟩
  ·exact⟨13,by omega,by omega⟩
  ·exact⟨14,by omega,by omega⟩
  ·exact⟨15,by omega,by omega⟩
 ·have:=z0 (by omega); have:=z1 (by omega); have:=z3 (by omega); have:=z4 (by omega)
  rcases o2 g with g|g|g|g|g|g|g|g
  ·exact⟨16,by omega,by omega⟩
  ·exact⟨17,by omega,by omega⟩
  ·exact⟨18,by omega,by omega⟩
  ·exact⟨19,by omega,by omega⟩
  ·exact⟨20,by omega,by omega⟩
  ·exact⟨21,by omega,by omega⟩
  ·exact⟨22,by omega,by omega⟩
  ·exact⟨23,by omega,by omega⟩
 ·have:=z0 (by omega); have:=z1 (by omega); have:=z2 (by omega); have:=z4 (by omega)
  rcases o3 g with g|g|g|g|g|g|g|g
  ·exact⟨24,by omega,by omega⟩
  ·exact⟨25,by omega,by omega⟩
  ·exact⟨26,by omega,by omega⟩
  ·exact⟨27,by omega,by omega⟩
  ·exact⟨28,by omega,by omega⟩
  ·exact⟨29,by omega,by omega⟩
  ·exact⟨30,by omega,by omega⟩
  ·exact⟨31,by omega,by omega⟩
 ·have:=z0 (by omega); have:=z1 (by omega); have:=z2 (by omega); have:=z3 (by omega)
  rcases o4 g with g|g|g|g|g|g|g|g
  ·exact⟨32,by omega,by omega⟩
  ·exact⟨33,by omega,by omega⟩
  ·exact⟨34,by omega,by omega⟩
  ·exact⟨35,by omega,by omega⟩
  ·exact⟨36,by omega,by omega⟩
  ·exact⟨37,by omega,by omega⟩
  ·exact⟨38,by omega,by omega⟩
  ·exact⟨39,by omega,by omega⟩
theorem ZqY:∀k,k<40->cntN (2^k)=1/\2^k<=549755813888/\0<2^k/\Lib.ctz 64 (2^k)=k:=by decide+kernel
theorem T_le(x:Nat)(hx:x<1099511627776):T 8 x<=34901295112:=by obtain⟨r0,r1,r2,r3,r4,⟨l0,l1,l2,l3,l4⟩,e,ht⟩:=ZmS x hx;have:=(ZbN r0 l0).2.2.2.2.2.2;have:=(ZbN r1 l1).2.2.2.2.2.2;have:=(ZbN r2 l2).2.2.2.2.2.2;have:=(ZbN r3 l3).2.2.2.2.2.2;have:=(ZbN r4 l4).2.2.2.2.2.2;omega
theorem Zjo(x a1 a2 c1 c2 d r:Nat)(w:World)(h1:a1<=1099511627775)(h2:a2<=1099511627775)(h3:c1<=2199023255550)(h4:c2<=2199023255550)(h5:d<=34901295112)
  (k1:bits BinOp.and IntKind.u64 ((x:Int)/2) 6148914691236517205=(a1:Int))(k2:bits BinOp.and IntKind.u64 (x:Int) 6148914691236517205=(a2:Int))
  (k3:bits BinOp.and IntKind.u64 (((a1:Int)+a2)/4) 3689348814741910323=(c1:Int))(k4:bits BinOp.and IntKind.u64 ((a1:Int)+a2) 3689348814741910323=(c2:Int))
  (k5:bits BinOp.and IntKind.u64 (((c1:Int)+c2)/16+(c1+c2)) 1085102592571150095=(d:Int))
  (k6:bits BinOp.and IntKind.i64 ((((d:Int)+d/256)+((d:Int)+d/256)/65536)+(((d:Int)+d/256)+((d:Int)+d/256)/65536)/4294967296) 127=(r:Int)):
  Calls Zg 216 #[.int .u64 x] w fun e w'=>e=.returned (.int .i64 r)/\w=w':=by
 go_enter func216,ntmps216;go_wp2;go_ret;exact⟨rfl,rfl⟩
theorem Zsa:rep 85 8=6148914691236517205:=by decide+kernel
theorem Zsb:rep 51 8=3689348814741910323:=by decide+kernel
theorem ZsI:rep 15 8=1085102592571150095:=by decide+kernel
theorem Zfy(a b:Nat):a &&& b<=a:=Nat.and_le_left
theorem ZlH(x:Nat)(w:World)(hx:x<=1099511627775):
  Calls Zg 216 #[.int .u64 x] w fun e w'=>e=.returned (.int .i64 (cntN x))/\w=w':=by
 have l1:=Zfy (x/2) (rep 85 8);have l2:=Zfy x (rep 85 8);have hs1:S1 8 x<=2199023255550:=by unfold S1;omega
 have l3:=Zfy (S1 8 x/4) (rep 51 8);have l4:=Zfy (S1 8 x) (rep 51 8);have hs2:S2 8 (S1 8 x)<=4398046511100:=by unfold S2;omega
 have ht:=T_le x (by omega);have e1:((S1 8 x:Nat):Int)=((x/2 &&& rep 85 8:Nat):Int)+((x &&& rep 85 8:Nat):Int):=by unfold S1;omega
 have e2:((S2 8 (S1 8 x):Nat):Int)=((S1 8 x/4 &&& rep 51 8:Nat):Int)+((S1 8 x &&& rep 51 8:Nat):Int):=by unfold S2;omega
 refine Zjo x (x/2 &&& rep 85 8) (x &&& rep 85 8) (S1 8 x/4 &&& rep 51 8) (S1 8 x &&& rep 51 8) (T 8 x) (cntN x) w (by omega) (by omega) (by omega) (by omega) ht ?_ ?_ ?_ ?_ ?_ ?_
 ·rw [show (x: Int) / 2 = ((x / 2: Nat): Int) by omega]
  rw[Zsa];exact bits_and_u64_nat (x/2) 6148914691236517205 (by omega) (by omega)
 ·rw [Zsa]
  exact bits_and_u64_nat x 6148914691236517205 (by omega) (by omega)
 ·rw [<- e1,show ((S1 8 x: Nat): Int) / 4 = ((S1 8 x / 4: Nat): Int) by omega,Zsb]
  exact bits_and_u64_nat (S1 8 x/4) 3689348814741910323 (by omega) (by omega)
 ·rw [<- e1,Zsb]
  exact bits_and_u64_nat (S1 8 x) 3689348814741910323 (by omega) (by omega)
 ·rw [<- e2,show ((S2 8 (S1 8 x): Nat): Int) / 16 + ((S2 8 (S1 8 x): Nat): Int) = ((S2 8 (S1 8 x) / 16 + S2 8 (S1 8 x): Nat): Int) by omega]
  rw[show T 8 x=(S2 8 (S1 8 x)/16+S2 8 (S1 8 x)) &&& 1085102592571150095 by rw[<-ZsI];rfl];exact bits_and_u64_nat (S2 8 (S1 8 x)/16+S2 8 (S1 8 x)) 1085102592571150095 (by omega) (by omega)
 ·obtain ⟨d,hd⟩:∃ d,d = T 8 x:=⟨_,rfl⟩
  have hc:cntN x=Zhu d &&& 127:=by rw[hd,ZqW];rfl
  rw[hc,<-hd];rw[<-hd]at ht;have hb:Zhu d<=9223372036854775807:=by unfold Zhu;omega
  have he:(((d:Int)+d/256)+((d:Int)+d/256)/65536)+(((d:Int)+d/256)+((d:Int)+d/256)/65536)/4294967296=((Zhu d:Nat):Int):=by unfold Zhu;omega
  rw[he];exact Zfs (Zhu d) 127 (by omega) (by omega)
theorem ZkT(x:Nat)(w:World)(hx:x<=1099511627775):
  Calls Zg 181 #[.int .u64 x] w fun e w'=>e=.returned (.int .i64 (cntN x))/\w=w':=by
 have C:=Zf (ZlH x w hx);go_enter func181,ntmps181;go_wp2_with(go_at_call 216;refine C.out.mono ?_;rintro e w' ⟨rfl,rfl⟩);go_ret;exact⟨rfl,rfl⟩
theorem Zsc(x:Nat)(w:World)(hx:x<18446744073709551616)(hx0:x≠0)(hT:Tab64 w):
  Calls Zg 182 #[.int .u64 x] w fun e w'=>e=.returned (.int .i64 (Lib.ctz 64 x))/\w=w':=by
 have C:=Zf (Zhp x w hx hx0 hT);clear hx hx0 hT;obtain⟨c,hc⟩:∃c,c=Lib.ctz 64 x:=⟨_,rfl⟩;rw[<-hc]at C⊢;clear hc;go_enter func182,ntmps182;go_wp2_with(go_at_call 170;refine C.out.mono ?_;rintro e w' ⟨rfl,rfl⟩);go_ret;exact⟨rfl,rfl⟩
theorem Zpc(x k:Nat)(w:World)(hx:x<=1099511627775)(C1:Hid (Calls Zg 181 #[.int .u64 x] w fun e w'=>e=.returned (.int .i64 1)/\w=w'))
  (C2:Hid (Calls Zg 182 #[.int .u64 x] w fun e w'=>e=.returned (.int .i64 k)/\w=w')):
  Calls Zg 129 #[.int .i64 x] w fun e w'=>e=.returned (.tuple #[.int .i64 k,.bool true])/\w=w':=by
 have C0:=Zf (ZcE (x:Int) w);rw[ZgP (by omega) (by omega)]at C0;go_enter func129,ntmps129
 go_wp2_with(first
  |(go_at_call 180;refine C0.out.mono ?_;rintro e w' ⟨rfl,rfl⟩)
  |(go_at_call 181;refine C1.out.mono ?_;rintro e w' ⟨rfl,rfl⟩)
  |(go_at_call 182;refine C2.out.mono ?_;rintro e w' ⟨rfl,rfl⟩))
 go_ret2;exact⟨rfl,rfl⟩
theorem Zjp(k:Nat)(hk:k<40)(w:World)(hT:Tab64 w):
  Calls Zg 129 #[.int .i64 ((2^k:Nat):Int)] w fun e w'=>e=.returned (.tuple #[.int .i64 k,.bool true])/\w=w':=by
 obtain⟨h1,h2,h3,h4⟩:=ZqY k hk;obtain⟨x,hx⟩:∃x,x=2^k:=⟨_,rfl⟩;rw[<-hx]at h1 h2 h3 h4⊢;have C1:=ZkT x w (by omega);rw[h1]at C1;have C2:=Zsc x w (by omega) (by omega) hT;rw[h4]at C2;exact Zpc x k w (by omega) (Zf C1) (Zf C2)
theorem ZqZ(x c:Nat)(w:World)(hx:x<=1099511627775)(hc:((c:Int) !=1)=true)(C1:Hid (Calls Zg 181 #[.int .u64 x] w fun e w'=>e=.returned (.int .i64 c)/\w=w')):
  Calls Zg 129 #[.int .i64 x] w fun e w'=>e=.returned (.tuple #[.int .i64 0,.bool false])/\w=w':=by
 have C0:=Zf (ZcE (x:Int) w);rw[ZgP (by omega) (by omega)]at C0;go_enter func129,ntmps129
 go_wp2_with(first
  |(go_at_call 180;refine C0.out.mono ?_;rintro e w' ⟨rfl,rfl⟩)
  |(go_at_call 181;refine C1.out.mono ?_;rintro e w' ⟨rfl,rfl⟩))
 go_ret2;exact⟨rfl,rfl⟩
theorem ZmT(n:Int)(w:World)(h:chk n≠0):
  Calls Zg 129 #[.int .i64 n] w fun e w'=>e=.returned (.tuple #[.int .i64 0,.bool false])/\w=w':=by
 have C0:=Zf (ZcE n w);obtain⟨c,hc⟩:∃c,c=chk n:=⟨_,rfl⟩;rw[<-hc]at C0 h;have hb:(c !=0)=true:=by simpa using h
 clear hc h;go_enter func129,ntmps129;go_wp2_with(go_at_call 180;refine C0.out.mono ?_;rintro e w' ⟨rfl,rfl⟩);go_ret2;exact⟨rfl,rfl⟩
theorem ZmU(n:Int)(w:World)(h:∀k:Nat,k<40->n≠((2^k:Nat):Int)):
  Calls Zg 129 #[.int .i64 n] w fun e w'=>e=.returned (.tuple #[.int .i64 0,.bool false])/\w=w':=by
 by_cases hc:chk n=0
 ·obtain ⟨n0,n1⟩:=Zfw hc
  obtain⟨x,rfl⟩:∃x:Nat,n=(x:Int):=⟨n.toNat,by omega⟩;refine ZqZ x (cntN x) w (by omega) ?_ (Zf (ZkT x w (by omega)));have:cntN x≠1:=fun h1=>by obtain⟨k,hk,e⟩:=ZqX x (by omega) h1;exact h k hk (by rw[e])
  simp;omega
 ·exact ZmT n w hc
open Go
theorem Zca(a b c:Int)(w:World)(h:b<=a/\a<=c):Calls Zg 69 #[.int .i64 a,.int .i64 b,.int .i64 c] w
  fun e w'=>e=.returned (.bool true)/\w=w':=by
 obtain⟨h1,h2⟩:=h;go_enter func69,ntmps69;go_wp2;go_ret;exact⟨rfl,rfl⟩
theorem Zda(a b c:Int)(w:World)(h:¬(b<=a/\a<=c)):Calls Zg 69 #[.int .i64 a,.int .i64 b,.int .i64 c] w
  fun e w'=>e=.returned (.bool false)/\w=w':=by
 by_cases h1:b<=a
 ·have h2:¬ a <= c:=fun q => h ⟨h1,q⟩
  go_enter func69,ntmps69;go_wp2;go_ret;exact⟨rfl,rfl⟩
 ·go_enter func69,ntmps69
  go_wp2;go_ret;exact⟨rfl,rfl⟩
theorem Zdb(n:Int)(w:World)(hT:Tab64 w):Calls Zg 70 #[.int .i64 n] w
  fun e w'=>e=.returned (.bool (isP n))/\w=w':=by
 by_cases hn:∃k:Nat,k<40/\n=((2^k:Nat):Int)
 ·obtain ⟨k,hk,rfl⟩:=hn
  have C:=Zf (Zjp k hk w hT);rw[ZmG];obtain⟨x,hx⟩:∃x:Int,x=((2^k:Nat):Int):=⟨_,rfl⟩;rw[<-hx]at C⊢;clear hx hT;go_enter func70,ntmps70;go_wp2_with fail;refine C.out.mono ?_;rintro e w' ⟨rfl,rfl⟩;go_wp2;go_ret;exact⟨rfl,rfl⟩
 ·have hno:∀ k: Nat,k < 40 -> n ≠ ((2 ^ k: Nat): Int):=fun k hk e => hn ⟨k,hk,e⟩
  rw[Zr1 hno];have C:=Zf (ZmU n w hno);clear hno hn hT;go_enter func70,ntmps70;go_wp2_with fail;refine C.out.mono ?_;rintro e w' ⟨rfl,rfl⟩;go_wp2;go_ret;exact⟨rfl,rfl⟩
theorem ZcS(s:Shp)(w:World)(hT:DTab w):Calls Zg 33 #[s.val] w
  fun e w'=>e=.returned (.int .i64 (chkS s))/\Below w.heap.size w w':=by
 obtain⟨t,l,m,d,p⟩:=s;have TT:∀W:World,Below w.heap.size w W->Tab64 W:=fun W b=>hT.via b;have TT:=Zf TT;clear hT;unfold Shp.val;dsimp only;by_cases h1:1<=t/\t<=4096
 ·by_cases h2: 1 <= l /\ l <= t
  ·by_cases h3: 1 <= m /\ m <= l
   ·by_cases h4: isP p = true
    ·by_cases h5: 1 <= d /\ d <= p
     ·rw [Zhr ⟨h1,h2,h3,h4,h5⟩]
      go_enter func33,ntmps33
      go_wp2_with(first
       |(go_at_call 69;refine(Zca _ _ _ _ (by assumption)).mono ?_;rintro e w' ⟨rfl,rfl⟩)
       |(go_at_call 70;refine(Zdb _ _ (TT.out _ (Zaa _))).mono ?_;rw[h4];rintro e w' ⟨rfl,rfl⟩))
      go_ret;exact⟨rfl,Zaa _⟩
     ·rw [Zc6 fun q => h5 q.2.2.2.2]
      go_enter func33,ntmps33
      go_wp2_with(first
       |(go_at_call 69;refine(Zca _ _ _ _ (by assumption)).mono ?_;rintro e w' ⟨rfl,rfl⟩)
       |(go_at_call 69;refine(Zda _ _ _ _ (by assumption)).mono ?_;rintro e w' ⟨rfl,rfl⟩)
       |(go_at_call 70;refine(Zdb _ _ (TT.out _ (Zaa _))).mono ?_;rw[h4];rintro e w' ⟨rfl,rfl⟩))
      go_ret;exact⟨rfl,Zaa _⟩
    ·rw [Zc6 fun q => h4 q.2.2.2.1]
     have h4:isP p=false:=by simpa using h4
     go_enter func33,ntmps33
     go_wp2_with(first
      |(go_at_call 69;refine(Zca _ _ _ _ (by assumption)).mono ?_;rintro e w' ⟨rfl,rfl⟩)
      |(go_at_call 70;refine(Zdb _ _ (TT.out _ (Zaa _))).mono ?_;rw[h4];rintro e w' ⟨rfl,rfl⟩))
     go_ret;exact⟨rfl,Zaa _⟩
   ·rw [Zc6 fun q => h3 q.2.2.1]
    go_enter func33,ntmps33
    go_wp2_with(first
     |(go_at_call 69;refine(Zca _ _ _ _ (by assumption)).mono ?_;rintro e w' ⟨rfl,rfl⟩)
     |(go_at_call 69;refine(Zda _ _ _ _ (by assumption)).mono ?_;rintro e w' ⟨rfl,rfl⟩))
    go_ret;exact⟨rfl,Zaa _⟩
  ·rw [Zc6 fun q => h2 q.2.1]
   go_enter func33,ntmps33
   go_wp2_with(first
    |(go_at_call 69;refine(Zca _ _ _ _ (by assumption)).mono ?_;rintro e w' ⟨rfl,rfl⟩)
    |(go_at_call 69;refine(Zda _ _ _ _ (by assumption)).mono ?_;rintro e w' ⟨rfl,rfl⟩))
   go_ret;exact⟨rfl,Zaa _⟩
 ·rw [Zc6 fun q => h1 q.1]
  go_enter func33,ntmps33
  go_wp2_with(first
   |(go_at_call 69;refine(Zda _ _ _ _ (by assumption)).mono ?_;rintro e w' ⟨rfl,rfl⟩))
  go_ret;exact⟨rfl,Zaa _⟩
def RowV(g:Nat)(t:TypeId)(vs:List Value)(w:World):Prop:=w.heap[g]?=some (.cells vs.toArray t (0,0))
theorem RowV.lt{g:Nat}{t:TypeId}{vs:List Value}{w:World}(h:RowV g t vs w):g<w.heap.size:=(Zk.1 h).1
theorem RowV.new(w:World)(t:TypeId)(vs:List Value):RowV w.heap.size t vs (w.alloc (.cells vs.toArray t)):=heap_alloc_new w _
theorem RowV.cell{g:Nat}{t:TypeId}{vs:List Value}{w:World}(h:RowV g t vs w){j:Nat}{v:Value}(hj:vs[j]?=some v):w.cell? ⟨g,j,none⟩=some v:=by rw[cell_of_row _ _ _ _ _ _ h];simpa using hj
theorem RowV.frozen{g:Nat}{t:TypeId}{vs:List Value}{w:World}(h:RowV g t vs w)(j:Nat):w.frozen? ⟨g,j,none⟩=false:=frozen_of_row _ _ _ _ _ h
theorem RowV.set{g:Nat}{t:TypeId}{vs:List Value}{w:World}(h:RowV g t vs w)(j:Nat)(v:Value):RowV g t (vs.set j v) (w.setCell ⟨g,j,none⟩ v):=by have:=heap_setCell_same w g j _ t v h;unfold RowV;rw[this];simp
theorem RowV.below{g:Nat}{t:TypeId}{vs:List Value}{w w':World}{B:Nat}(h:RowV g t vs w)(hb:Below B w w')(hB:g<B):RowV g t vs w':=by unfold RowV;rw[hb.block g hB];exact h
theorem RowV.alloc{g:Nat}{t:TypeId}{vs:List Value}{w:World}(h:RowV g t vs w)(o:Obj):RowV g t vs (w.alloc o):=by unfold RowV;rw[Below.heap_alloc w o g h.lt];exact h
def OwnI(w:World)(base:Nat)(v:Value)(zs:List Int):Prop:=w.ownsRow base 3 1 v zs.length (zs.map (Value.int .i64))
theorem OwnI.new(w:World)(base:Nat)(hb:base<=w.heap.size):OwnI (w.alloc (.cells #[] 3)) base (.slice (some ⟨w.heap.size,0,none⟩) 0 0) []:=
 ⟨rfl,.inr ⟨w.heap.size,0,#[],rfl,hb,heap_alloc_new w _,Zm _,by simp[maxLen],rfl,rfl⟩⟩
theorem OwnI.below{w w':World}{base:Nat}{v:Value}{zs:List Int}(h:OwnI w base v zs)(hb:Below w.heap.size w w'):OwnI w' base v zs:=by
 refine⟨h.1,?_⟩;rcases h.2 with hn|⟨g,cap,cur,rfl,hg,hgg,rest⟩
 ·exact .inl hn
 ·exact .inr ⟨g,cap,cur,rfl,hg,by rw[hb.block g (Zk.1 hgg).1];exact hgg,rest⟩
theorem OwnI.alloc{w:World}{base:Nat}{v:Value}{zs:List Int}(h:OwnI w base v zs)(o:Obj):OwnI (w.alloc o) base v zs:=h.below (Zaa o)
theorem OwnI.slice{w:World}{base:Nat}{v:Value}{zs:List Int}(h:OwnI w base v zs):∃A c,v=.slice A zs.length c/\Ints w w.heap.size A zs:=Ints.of_own h
theorem Zbj:(Zg.info? 3).map (fun i=>(i.zero,i.size,i.bytes))=some (some (.int .i64 0),1,8):=by kernel_rfl
theorem ZaV{ops:Array Oper}{rest:List Oper}{o:Oper}{a:Act}{Q:Exit->Act->World->Prop}(hgd:o.guard=none)(s x:Operand)
    (ho:o.op=.call {callee:=.builtin .append,args:= #[s,x],argTypes:= #[22,22]})
    (w1:World)(base:Nat)(v:Value)(zs:List Int)(n:Int)(len:Nat)(hlen:zs.length=len)(hl:len<=1000)(hO:OwnI w1 base v zs)(hB:base<=w1.heap.size)
    (hs:a.eval s=v)(hx:a.eval x=.slice (some ⟨w1.heap.size,0,none⟩) 1 1)
    (h:∀A' c' w',OwnI w' base (.slice A' (len+1) c') (zs++ [n])->Below base w1 w'->wpList Zg ops Q rest (a.put o.dst (.slice A' (len+1) c')) w'):wpList Zg ops Q (o::rest) a (w1.alloc (.cells #[.int .i64 n] 3)):=by
  obtain⟨i0,hi0,hz0,hz1,hz2⟩:∃i,Zg.info? 3=some i/\i.zero=some (.int .i64 0)/\i.size=1/\i.bytes=8:=by
    have h:=Zbj;cases hi:Zg.info? 3 with
    |none=>rw[hi]at h;cases h
    | some i =>rw[hi]at h;simp at h;exact⟨i,rfl,h.1,h.2.1,h.2.2⟩
  subst hlen;refine wpList_append_own _ hgd s x 22 ho base 3 i0 (.int .i64 0) 1 8 underlying22 hi0 hz0 hz1 hz2 rfl (by omega) v zs.length (zs.map (Value.int .i64)) hs (hO.alloc _) ⟨w1.heap.size,0,none⟩ 1 1 [.int .i64 n] hx rfl ?_ ?_
    (by unfold maxLen;omega) (by omega) (by simp;omega) ?_
  · intro j u hu
    match j with
    | 0 =>
      obtain rfl:Value.int .i64 n=u:=by simpa using hu
      rw[Za3,World.cell?_alloc_at _ _ _ _ rfl]
      rfl
    |j+1=>simp at hu
  · intro u hu;obtain rfl:u=.int .i64 n:=by simpa using hu
    rfl
  · intro v' w' hown' hg _;have hO':OwnI w' base v' (zs++ [n]):=by
      unfold OwnI;rw[List.length_append,List.length_singleton,List.map_append];exact hown'
    obtain⟨A',c',rfl,_⟩:=hO'.slice;rw[show(zs++ [n]).length=zs.length+1 by simp]at hO'⊢;refine h A' c' w' hO' (((Zl base w1).alloc hB _).grown hg (by simp;omega) (fun k hk=> ?_));exact(hO.lt k hk).1
def Pairs(w:World)(B:Nat)(A:Option Addr)(es:List (Int×Int)):Prop:=
 0<es.length->∃b off,A=some ⟨b,off,none⟩/\b<B/\∀k e,es[k]?=some e->w.cell? ⟨b,off+k * 2,none⟩=some (.int .i64 e.1)/\w.cell? ⟨b,off+k * 2+1,none⟩=some (.int .i64 e.2)
theorem Pairs.at_{w:World}{B:Nat}{A:Option Addr}{es:List (Int×Int)}{k:Nat}(h:Pairs w B A es)(hk:k<es.length):
  ∃b off e,A=some ⟨b,off,none⟩/\b<B/\es[k]?=some e/\w.cell? ⟨b,off+k * 2,none⟩=some (.int .i64 e.1)/\w.cell? ⟨b,off+k * 2+1,none⟩=some (.int .i64 e.2):=by
 obtain⟨b,off,e,hb,hc⟩:=h (by omega);have he:es[k]?=some es[k]:=Zh hk;exact⟨b,off,es[k],e,hb,he,(hc k _ he).1,(hc k _ he).2⟩
theorem Pairs.keep{w w':World}{B:Nat}{A:Option Addr}{es:List (Int×Int)}(h:Pairs w B A es)(hk:∀p:Addr,p.block<B->w'.cell? p=w.cell? p):Pairs w' B A es:=fun hn=>by obtain⟨b,off,e,hb,hc⟩:=h hn;exact⟨b,off,e,hb,fun k x hx=>⟨(hk _ hb).trans (hc k x hx).1,(hk _ hb).trans (hc k x hx).2⟩⟩
theorem Pairs.more{w:World}{B B':Nat}{A:Option Addr}{es:List (Int×Int)}(h:Pairs w B A es)(hB:B<=B'):Pairs w B' A es:=fun hn=>by obtain⟨b,off,e,hb,hc⟩:=h hn;exact⟨b,off,e,by omega,hc⟩
theorem Pairs.below{w w':World}{B:Nat}{A:Option Addr}{es:List (Int×Int)}(h:Pairs w B A es)(hb:Below B w w'):Pairs w' B A es:=h.keep fun _ hp=>hb.cell hp
theorem Pairs.alloc{w:World}{B:Nat}{A:Option Addr}{es:List (Int×Int)}(h:Pairs w B A es)(hB:B<=w.heap.size)(o:Obj):Pairs (w.alloc o) B A es:=
 h.keep fun p hp=>World.cell?_alloc_lt w o p (by omega)
def ZbX(es:List (Int×Int)):List Value:=es.flatMap fun e=> [.int .i64 e.1,.int .i64 e.2]
theorem Ze5(es:List (Int×Int)):(ZbX es).length=es.length * 2:=by
  induction es with
  |nil=>rfl
  | cons e es ih =>rw[show ZbX (e::es)=.int .i64 e.1:: .int .i64 e.2::ZbX es from rfl,Ya,Ya,Ya,ih];omega
theorem Ze6(a b:List (Int×Int)):ZbX (a++b)=ZbX a++ZbX b:=by unfold ZbX;rw[List.flatMap_append]
theorem Zfz:∀{es:List (Int×Int)}{k:Nat}{e:Int×Int},es[k]?=some e->(ZbX es)[k * 2]?=some (.int .i64 e.1)/\(ZbX es)[k * 2+1]?=some (.int .i64 e.2)
  | [],k,e,h=>by simp at h
  | x :: es, 0, e, h => by
    obtain rfl:x=e:=by simpa using h
    exact⟨rfl,rfl⟩
  | x :: es, k + 1, e, h => by
    have ih:=Zfz (es:=es) (k:=k) (e:=e) (by simpa using h);have e1:ZbX (x::es)=.int .i64 x.1:: .int .i64 x.2::ZbX es:=rfl;rw[e1,show(k+1) * 2=k * 2+1+1 by omega];simp only[List.getElem?_cons_succ];exact ih
theorem ZlI{es:List (Int×Int)}{j:Nat}{u:Value}(h:(ZbX es)[j]?=some u):∃e,es[j/2]?=some e/\((j%2=0/\u=.int .i64 e.1)\/(j%2=1/\u=.int .i64 e.2)):=by
 have hj:j<es.length * 2:=by
  rw[<-Ze5];rcases Zv j (ZbX es).length with h1|h1
  ·exact h1
  ·rw[Zt h1]at h;cases h
 have hk:es[j/2]?=some es[j/2]:=Zh (by omega);refine⟨_,hk,?_⟩;obtain⟨h1,h2⟩:=Zfz hk;rcases Nat.mod_two_eq_zero_or_one j with h0|h0
 ·rw [show j / 2 * 2 = j by omega,h] at h1
  exact .inl ⟨h0,Option.some.inj h1⟩
 ·rw [show j / 2 * 2 + 1 = j by omega,h] at h2
  exact .inr ⟨h0,Option.some.inj h2⟩
theorem ZmV(es:List (Int×Int)):∀u∈ZbX es,u.oneCell'=true:=by intro u hu;unfold ZbX at hu;obtain⟨e,_,h⟩:=List.mem_flatMap.mp hu;rcases(by simpa using h:u=.int .i64 e.1\/u=.int .i64 e.2)with rfl|rfl<;>rfl
theorem Pairs.news{w:World}{B:Nat}{ad:Addr}{es:List (Int×Int)}(h:Pairs w B (some ad) es):∀j u,(ZbX es)[j]?=some u->w.cell? (ad.add j)=some u:=by
 intro j u hu;obtain⟨e,he,hu2⟩:=ZlI hu;have hl:0<es.length:=by
  cases es with
  |nil=>simp at he
  |cons _ _=>simp
 obtain⟨b,off,hA,_,hc⟩:=h hl;injection hA with hA;subst hA;rw[Za3];obtain⟨c1,c2⟩:=hc _ _ he;rcases hu2 with⟨h0,rfl⟩|⟨h0,rfl⟩
 ·rw [show off + j = off + j / 2 * 2 by omega]
  exact c1
 ·rw [show off + j = off + j / 2 * 2 + 1 by omega]
  exact c2
def OwnE(w:World)(base:Nat)(v:Value)(es:List (Int×Int)):Prop:=w.ownsRow base 179 2 v es.length (ZbX es)
theorem Zac{w w':World}{base:Nat}{e:TypeId}{s n:Nat}{v:Value}{xs:List Value}(h:w.ownsRow base e s v n xs)(hb:Below w.heap.size w w'):w'.ownsRow base e s v n xs:=by
 refine⟨h.1,?_⟩;rcases h.2 with hn|⟨g,cap,cur,rfl,hg,hgg,rest⟩
 ·exact .inl hn
 ·exact .inr ⟨g,cap,cur,rfl,hg,by rw[hb.block g (Zk.1 hgg).1];exact hgg,rest⟩
theorem OwnE.below{w w':World}{base:Nat}{v:Value}{es:List (Int×Int)}(h:OwnE w base v es)(hb:Below w.heap.size w w'):OwnE w' base v es:=Zac h hb
theorem ZaG{w:World}{base base':Nat}{e:TypeId}{s n:Nat}{v:Value}{xs:List Value}(h:w.ownsRow base e s v n xs)(hb:base'<=base):w.ownsRow base' e s v n xs:=by
 refine⟨h.1,?_⟩;rcases h.2 with hn|⟨g,cap,cur,rfl,hg,rest⟩
 ·exact .inl hn
 ·exact .inr ⟨g,cap,cur,rfl,by omega,rest⟩
theorem OwnE.slice{w:World}{base:Nat}{v:Value}{es:List (Int×Int)}(h:OwnE w base v es):∃A c,v=.slice A es.length c/\Pairs w w.heap.size A es:=by
 rcases h.2 with⟨rfl,hn⟩|⟨g,cap,cur,rfl,hg,hgg,hnc,hcm,hcs,htake⟩
 ·have: es = []:=Yb hn
  subst this;exact⟨none,0,rfl,fun h0=>absurd h0 (by simp)⟩
 ·refine ⟨some ⟨g,0,none⟩,cap,rfl,fun _ => ⟨g,0,rfl,(Zk.1 hgg).1,fun k e he => ?_⟩⟩
  obtain⟨h1,h2⟩:=Zfz he;have h':w.ownsRow base 179 2 (.slice (some ⟨g,0,none⟩) es.length cap) es.length (ZbX es):=h;have c1:=h'.cells (g:=g) rfl _ _ h1;have c2:=h'.cells (g:=g) rfl _ _ h2;rw[Za3]at c1 c2;rw[show 0+(k * 2+1)=0+k * 2+1 by omega]at c2;exact⟨c1,c2⟩
theorem ZdQ:(Zg.info? 179).map (fun i=>(i.zero,i.size,i.bytes))=some (some (.agg #[.int .i64 0,.int .i64 0]),2,16):=by kernel_rfl
theorem Zbc{P:Program}(w:World)(t ty e:TypeId)(i:TypeInfo)(z:Value)(size bytes:Nat)(ht:P.underlying t=some (.slice e))(hi:P.info? e=some i)(hz:i.zero=some z)
    (hsize:i.size=size)(hby:i.bytes=bytes)(hzs:z.cells.size=size)(hsz:0<size)(base g:Nat)(hg:w.heap[g]?=some (.cells #[] e (0,0)))(hbg:base<=g)(hbw:base<=w.heap.size)
    (A:Option Addr)(len c:Nat)(news:List Value)(hl:news.length=len * size)(hA:A=none->len=0/\c=0)(hnews:∀ad,A=some ad->∀j u,news[j]?=some u->w.cell? (ad.add j)=some u)(h1:∀u∈news,u.oneCell'=true)
    (h63:len<=maxLen)(hbytes:len * bytes<=140737488355328):
    ∃v' w',(Builtin.append_ #[t,t] ty #[.slice (some ⟨g,0,none⟩) 0 0,.slice A len c]).run P w=.ok v' w'/\w'.ownsRow base e size v' len news/\Below w.heap.size w w':=by
  have hown:w.ownsRow base e size (.slice (some ⟨g,0,none⟩) 0 0) 0 []:=⟨by simp,.inr ⟨g,0, #[],rfl,hbg,hg,Zm _,by simp[maxLen],by simp,by simp⟩⟩
  cases A with
  | none =>
    obtain⟨rfl,rfl⟩:=hA rfl;obtain rfl:news= []:=Yb (by simpa using hl)
    exact⟨_,w,run_append_owned_none w base t ty e i size ht hi _ 0 [] hown,hown,Zl _ _⟩
  | some ad =>
    rcases Nat.eq_zero_or_pos len with h0|h0
    · subst h0;obtain rfl:news= []:=Yb (by simpa using hl);have hr:=run_append_room (P:=P) w t ty e i ht hi g 0 0 #[] hg ad 0 c [] (by simp) (fun j u h=>by simp at h) (fun u h=>by simp at h) (by omega) (by simp);refine⟨_,_,hr,?_,?_⟩
      · exact⟨by simp,.inr ⟨g,0,_,rfl,hbg,setRow_heap w g _ _ e _ hg,Zm _,by simp[maxLen],by simp,by simp⟩⟩
      · refine⟨rfl,rfl,rfl,by simp,fun k _=> ?_⟩;by_cases hk:k=g
        · subst hk;rw[setRow_heap w k _ _ e _ hg,hg];simp
        · exact setRow_other w g k _ hk
    · obtain⟨v',w',hr,ho,hgr⟩:=run_append_arg_grows (P:=P) w t ty e i z size bytes ht hi hz hsize hby hzs hsz ⟨g,0,none⟩ 0 0 [] (by simp) (fun j u h=>by simp at h) ad len c news hl (hnews ad rfl) (by omega) (by omega) (by simpa using hbytes);rw[Nat.zero_add,List.nil_append]at ho;exact⟨v',w',hr,ZaG ho hbw,⟨hgr.os,hgr.tape,hgr.output,hgr.size,fun k hk=>hgr.block k hk (by simp)⟩⟩
structure Rwk(w0:World)(L:List (TypeId×List Value))(w:World):Prop where
 bel:Below w0.heap.size w0 w
 row:∀(i:Nat) (t:TypeId) (vs:List Value),L[i]?=some (t,vs)->RowV (w0.heap.size+i) t vs w
def ZdY(w:World):List (TypeId×List Value)->World
 | []=>w
 |(t,vs)::L=>ZdY (w.alloc (.cells vs.toArray t)) L
theorem Ze7(t:TypeId)(vs:List Value):∀(L:List (TypeId×List Value)) (w:World),ZdY w (L++ [(t,vs)])=(ZdY w L).alloc (.cells vs.toArray t)
 | [],w=>rfl
 |(t',vs')::L,w=>Ze7 t vs L _
theorem Ze8:∀(L:List (TypeId×List Value)) (w:World),(ZdY w L).heap.size=w.heap.size+L.length
  | [],w=>rfl
  | (t, vs) :: L, w => by
    show(ZdY (w.alloc _) L).heap.size=_;rw[Ze8 L];simp;omega
theorem Rwk.next{w0 w w':World}{L:List (TypeId×List Value)}(h:Rwk w0 L w)(hb:Below w.heap.size w w'):Rwk w0 L w':=by refine⟨h.bel.trans (hb.mono h.bel.size),fun i t vs hi=> ?_⟩;have:=h.row i t vs hi;exact this.below hb this.lt
theorem Rwk.start(w:World)(L:List (TypeId×List Value)):Rwk w L (ZdY w L):=by
  obtain⟨k,hk⟩:∃k,k=L.length:=⟨_,rfl⟩
  induction k generalizing L with
  | zero =>obtain rfl:L= []:=Yb hk.symm;exact⟨Zl _ _,fun i t vs hi=>by simp at hi⟩
  | succ k ih =>
    obtain⟨L',x,rfl⟩:∃L' x,L=L'++ [x]:=⟨L.dropLast,L.getLast (by intro h;subst h;simp at hk),(List.dropLast_concat_getLast _).symm⟩;obtain⟨t,vs⟩:=x;have h:=ih L' (by simp at hk;omega);rw[Ze7];have h2:=h.next (Zaa (.cells vs.toArray t));refine⟨h2.bel,fun i t' vs' hi=> ?_⟩
    rcases Zv i L'.length with hl|hl
    · rw[List.getElem?_append_left hl]at hi;exact h2.row i t' vs' hi
    · rw[List.getElem?_append_right hl]at hi;have h0:i - L'.length=0:=by
        rcases Nat.eq_zero_or_pos (i - L'.length)with e|e
        · exact e
        · rw[Zt (by simp;omega)]at hi;cases hi
      rw[h0]at hi;injection hi with hi;injection hi with e1 e2;subst e1 e2;have e3:w.heap.size+i=(ZdY w L').heap.size:=by rw[Ze8];omega
      rw[e3];exact RowV.new _ _ _
theorem Rwk.cell{w0 w:World}{L:List (TypeId×List Value)}(h:Rwk w0 L w)(i j:Nat){t:TypeId}{vs:List Value}{v:Value}(hi:L[i]?=some (t,vs))(hj:vs[j]?=some v):w.cell? ⟨w0.heap.size+i,j,none⟩=some v:=(h.row i t vs hi).cell hj
theorem Rwk.frozen{w0 w:World}{L:List (TypeId×List Value)}(h:Rwk w0 L w)(i j:Nat){t:TypeId}{vs:List Value}(hi:L[i]?=some (t,vs)):w.frozen? ⟨w0.heap.size+i,j,none⟩=false:=(h.row i t vs hi).frozen j
theorem Rwk.set{w0 w:World}{L:List (TypeId×List Value)}(h:Rwk w0 L w)(i j:Nat){t:TypeId}{vs:List Value}(hi:L[i]?=some (t,vs))(v:Value):Rwk w0 (L.set i (t,vs.set j v)) (w.setCell ⟨w0.heap.size+i,j,none⟩ v):=by
 refine⟨h.bel.setCell (by show w0.heap.size<=w0.heap.size+i;omega) v,fun k t' vs' hk=> ?_⟩;by_cases e:i=k
 ·subst e
  have hl:i<L.length:=(Zs.mp hi).1;rw[ZJ hl]at hk;injection hk with hk;injection hk with e1 e2;subst e1 e2;exact(h.row i t vs hi).set j v
 ·rw [List.getElem?_set_ne e] at hk
  have:=h.row k t' vs' hk;unfold RowV at this⊢;rw[heap_setCell_other _ _ _ _ (by show w0.heap.size+k≠w0.heap.size+i;omega)];exact this
theorem Rwk.alloc{w0 w:World}{L:List (TypeId×List Value)}(h:Rwk w0 L w)(o:Obj):Rwk w0 L (w.alloc o):=h.next (Zaa o)
theorem Rwk.drew{w0 w:World}{L:List (TypeId×List Value)}(h:Rwk w0 L w)(N:Nat):Rwk w0 L (w.drewN N):=h.next (below_drewN (Zl _ _) N)
theorem Rwk.set2{w0 w:World}{L:List (TypeId×List Value)}(h:Rwk w0 L w)(i:Nat){t:TypeId}{a b:Value}(hi:L[i]?=some (t,[a,b]))(x y:Value):
  Rwk w0 (L.set i (t,[x,y])) ((w.setCell ⟨w0.heap.size+i,0,none⟩ x).setCell ⟨w0.heap.size+i,1,none⟩ y):=by
 have hl:i<L.length:=(Zs.mp hi).1;have h1:=h.set i 0 hi x;have h2:=h1.set i 1 (ZJ hl) y;rw[List.set_set]at h2;exact h2
def ZcB(a b:Int):Value:=.agg #[.int .i64 a,.int .i64 b]
theorem ZfQ(s:Shp)(w:World):Calls Zg 120 #[s.val] w
  fun e w'=>e=.returned (ZcB 1 0)/\Below w.heap.size w w':=by
 obtain⟨t,l,m,d,p⟩:=s;unfold Shp.val ZcB;dsimp only;go_enter func120,ntmps120;go_wp2
 go_returns
 refine⟨rfl,?_⟩
 go_grown
theorem ZmW{w:World}{q:Nat}{a b:Value}(h:RowV q 126 [a,b] w):(loadVar 126 ⟨q,0,none⟩).run Zg w=.ok (.agg #[a,b]) w:=
 run_loadVar_row _ q _ _ _ _ _ h underlying126 rfl (by kernel_rfl)
theorem ZgH{fn:Func}{p:Tmp}{ty:TypeId}(h:fn.results= #[.cell p ty])(tmps:Array Value)(P:Program)(w:World):
  (results fn tmps).run P w=((asAddr (tmps.getD p undef)).run P w).andThen fun a w₁=>(loadVar ty a).run P w₁:=by
 simp only[results,h];simp[Sem.run_bind,Result.andThen]
theorem ZkU{fn:Func}{p:Tmp}(h:fn.results= #[.cell p 126]){tmps:Array Value}{w:World}{q:Nat}{a b:Value}(hp:tmps.getD p undef=.pointer (some ⟨q,0,none⟩))(h1:RowV q 126 [a,b] w):
  (results fn tmps).run Zg w=.ok (.agg #[a,b]) w:=by
 rw[ZgH h,hp];simp[asAddr,ZmW h1,Result.andThen]
theorem Zio(s:Shp)(w:World)(hs:s.Ok)(hd:s.d<s.t):Calls Zg 289 #[s.val] w
  fun e w'=>e=.returned (ZcB (Zc2 s) (Zc3 s))/\Below w.heap.size w w':=by
 by_cases hl:s.d<=s.l
 ·have e1: Zc2 s = 0:=Zc hl
  have e2:Zc3 s=141:=Zc hl;rw[e1,e2];obtain⟨t,l,m,d,p⟩:=s;unfold Shp.val ZcB;dsimp only at hl hd⊢;clear e1 e2 hs hd;go_enter func289,ntmps289;go_wp2
  go_returns
  refine⟨rfl,?_⟩
  go_grown
 ·have hq:=ZfJ hs hd (by omega)
  have hb:ff [s.t - s.l,s.d - s.l]=0:=by obtain⟨⟨t0,t1⟩,⟨l0,l1⟩,⟨m0,m1⟩,-,d0,d1⟩:=hs;exact Zbh (by omega) (by omega) (by omega) (by omega)
  have hb1:ff [s.t,s.l]=0:=by obtain⟨⟨t0,t1⟩,⟨l0,l1⟩,⟨m0,m1⟩,-,d0,d1⟩:=hs;exact Zbh (by omega) (by omega) (by omega) (by omega)
  have hb2:ff [s.d,s.l]=0:=by obtain⟨⟨t0,t1⟩,⟨l0,l1⟩,⟨m0,m1⟩,-,d0,d1⟩:=hs;exact Zbh (by omega) (by omega) (by omega) (by omega)
  have s1:∀W,Calls Zg 290 #[.int .i64 s.t,.int .i64 s.l] W fun e w'=>e=.returned (.tuple #[.int .i64 (s.t - s.l),.int .i64 (subE s.t s.l)])/\Below W.heap.size W w':=fun W=>by have:=ZmH s.t s.l W;rw[ZfF hb1 (by omega)]at this;exact this
  have s2:∀W,Calls Zg 290 #[.int .i64 s.d,.int .i64 s.l] W fun e w'=>e=.returned (.tuple #[.int .i64 (s.d - s.l),.int .i64 (subE s.d s.l)])/\Below W.heap.size W w':=fun W=>by have:=ZmH s.d s.l W;rw[ZfF hb2 (by omega)]at this;exact this
  have s3:∀W,Calls Zg 291 #[.int .i64 (s.t - s.l),.int .i64 (s.d - s.l)] W fun e w'=>e=.returned (.tuple #[.int .i64 (ZdX s),.int .i64 (Zhq (s.t - s.l) (s.d - s.l))])/\Below W.heap.size W w':=fun W=>Zr2 _ _ W;have e1:Zc2 s=if 8<ZdX s then 0 else ZdX s:=Zb hl
  have e2:Zc3 s=if 8<ZdX s then 142 else 0:=Zb hl
  obtain⟨n,hn⟩:∃n,n=ZdX s:=⟨_,rfl⟩;obtain⟨x1,hx1⟩:∃n,n=subE s.t s.l:=⟨_,rfl⟩;obtain⟨x2,hx2⟩:∃n,n=subE s.d s.l:=⟨_,rfl⟩;obtain⟨x3,hx3⟩:∃n,n=Zhq (s.t - s.l) (s.d - s.l):=⟨_,rfl⟩;rw[<-hn]at e1 e2 s3;rw[<-hx1]at s1;rw[<-hx2]at s2;rw[<-hx3]at s3;rw[e1,e2];obtain⟨t,l,m,d,p⟩:=s;unfold Shp.val ZcB;dsimp only at s1 s2 s3 hl hd⊢;obtain⟨u,hu⟩:∃u,u=t - l:=⟨_,rfl⟩;obtain⟨v,hv⟩:∃v,v=d - l:=⟨_,rfl⟩;rw[<-hu]at s1 s3;rw[<-hv]at s2 s3;have s1:=Zf s1;have s2:=Zf s2;have s3:=Zf s3;clear e1 e2 hs hb hb1 hb2 hx1 hx2 hx3 hu hv hq hn;have hl:l<d:=by omega
  go_enter func289,ntmps289;go_wp2_with fail;have B0:=Zf (Rwk.start w [(182,[.int .i64 t,.int .i64 l,.int .i64 m,.int .i64 d,.int .i64 p]),(126,[.int .i64 0,.int .i64 0])]);refine(s1.out _).mono ?_;rintro e w1 ⟨rfl,b1⟩;have B1:=Zf (B0.out.next b1);clear b1 B0;have c00:=B1.out.cell 0 0 rfl rfl;have c01:=B1.out.cell 0 1 rfl rfl;have c03:=B1.out.cell 0 3 rfl rfl;simp only[Nat.add_zero]at c00 c01 c03;go_wp2_with fail;refine(s2.out _).mono ?_;rintro e w2 ⟨rfl,b2⟩;have B2:=Zf (B1.out.next b2);clear b2 B1 c00 c01 c03;go_wp2_with fail;refine(s3.out _).mono ?_;rintro e w3 ⟨rfl,b3⟩;have B3:=Zf (B2.out.next b3);clear b3 B2;have c10:=B3.out.cell 1 0 rfl rfl;have c11:=B3.out.cell 1 1 rfl rfl;have z10:=B3.out.frozen 1 0 rfl;have z11:=B3.out.frozen 1 1 rfl;by_cases h8:8<n
  ·go_wp2
   have B4:=B3.out.set2 1 rfl (.int .i64 0) (.int .i64 142);refine bodyPost_ret (ZkU rfl rfl (B4.row 1 _ _ rfl)) rfl ?_;exact⟨rfl,B4.bel⟩
  ·have h8': n <= 8:=by omega
   go_wp2;have B4:=B3.out.set2 1 rfl (.int .i64 n) (.int .i64 0);refine bodyPost_ret (ZkU rfl rfl (B4.row 1 _ _ rfl)) rfl ?_;exact⟨rfl,B4.bel⟩
end Go.Proofs.YtfahabphncmbfaaGreatDoor
