import Derived.Test.YtfahabphncmbfaaGreatDoorZQ12
set_option linter.all false
set_option maxRecDepth 100000
set_option maxHeartbeats 2000000
namespace Go.Proofs.YtfahabphncmbfaaGreatDoor
open Go.RowKit
open Bool renaming false_ne_true→Yp
open Classical renaming not_not→Z8
open Go.Lib renaming hid→Zf
open List renaming length_append→Zq,length_filter_le→Yl,mem_range→ZD,range→Zo
open Go.Proofs.Tryz renaming prog→Zg
open Go.Proofs.Tryz
def Zc4(n:Nat)(E:List (Int×Int))(x:Int):List Int:=((Zo n).map Int.ofNat).filter fun a=>decide ((a,x)∈E)
def Zd9(n:Nat)(E:List (Int×Int))(x:Int):List Int:=((Zo n).map Int.ofNat).filter fun a=>decide ((x,a)∈E)
theorem ZhE(n:Nat)(E:List (Int×Int))(x:Int):(Zc4 n E x).length<=n:=by unfold Zc4;refine Nat.le_trans (Yl _ _) ?_;simp
def ZbG(W:List Int):Prop:=∀ z∈W,0<=z/\z<=1000
open Classical in
noncomputable def Zch (W:List Int) (E:List (Int×Int)):Int:=
 if 64<W.length\/256<E.length then 40 else if¬ZbG W then 41 else if¬ZaI W.length E then 42 else 0
theorem plainE_zero{W:List Int}{E:List (Int×Int)}:Zch W E=0↔(W.length<=64/\E.length<=256)/\ZbG W/\ZaI W.length E:=by
 unfold Zch;split
 ·constructor
  ·intro h;cases h
  ·rintro⟨h,_⟩;omega
 ·split
  ·constructor
   ·intro h;cases h
   ·rintro⟨_,h,_⟩;contradiction
  ·split
   ·constructor
    ·intro h;cases h
    ·rintro⟨_,_,h⟩;contradiction
   ·rename_i h1 h2 h3
    exact⟨fun _=>⟨by omega,Z8.mp h2,Z8.mp h3⟩,fun _=>rfl⟩
theorem Zjv{W:List Int}{E:List (Int×Int)}(h:64<W.length\/256<E.length):Zch W E=40:=by unfold Zch;rw[Zc h]
theorem Zjw{W:List Int}{E:List (Int×Int)}(h:¬(64<W.length\/256<E.length))(h2:¬ZbG W):Zch W E=41:=by unfold Zch;rw[Zb h,Zc h2]
theorem Zjx{W:List Int}{E:List (Int×Int)}(h:¬(64<W.length\/256<E.length))(h2:ZbG W)(h3:¬ZaI W.length E):Zch W E=42:=by unfold Zch;rw[Zb h,Zb (fun k=>k h2),Zc h3]
theorem Zjy{W:List Int}{j:Nat}{z:Int}(h:W[j]?=some z):ZbG (W.take (j+1))↔ZbG (W.take j)/\0<=z/\z<=1000:=by
 rw[Zbk h];unfold ZbG;constructor
 ·intro k
  exact⟨fun x hx=>k x (by simp[hx]),k z (by simp)⟩
 ·rintro ⟨k1,k2⟩ x hx
  rcases List.mem_append.mp hx with hx|hx
  ·exact k1 x hx
  ·obtain rfl: x = z:=by simpa using hx
   exact k2
open Classical in
noncomputable def chkE (W:List Int) (E:List (Int×Int)):Int:=if Zch W E≠0 then Zch W E else if Acyc E then 0 else 43
structure May(W:List Int)(E:List (Int×Int)):Prop where
 nodes:W.length<=64
 edges:E.length<=256
 work:ZbG W
 fits:Fits W.length E
 apart:∀e∈E,e.1≠e.2
 once:E.Nodup
 acyc:Acyc E
theorem chkE_zero{W:List Int}{E:List (Int×Int)}:chkE W E=0↔May W E:=by
 unfold chkE;split
 ·rename_i h
  exact⟨fun k=>absurd k h,fun k=>absurd (plainE_zero.mpr ⟨⟨k.nodes,k.edges⟩,k.work,k.fits,k.apart,k.once⟩) h⟩
 ·rename_i h
  have h1:=plainE_zero.mp (Z8.mp h);split
  ·rename_i hA
   exact⟨fun _=>⟨h1.1.1,h1.1.2,h1.2.1,h1.2.2.1,h1.2.2.2.1,h1.2.2.2.2,hA⟩,fun _=>rfl⟩
  ·rename_i hA
   exact⟨fun k=>(by cases k),fun k=>absurd k.acyc hA⟩
theorem ZeJ{W:List Int}{E:List (Int×Int)}(h:Zch W E≠0):chkE W E=Zch W E:=by unfold chkE;rw[Zc h]
theorem ZlQ{W:List Int}{E:List (Int×Int)}(h:Zch W E=0)(hA:¬Acyc E):chkE W E=43:=by unfold chkE;rw[Zb (fun k=>k h),Zb hA]
theorem Zq3{W:List Int}{E:List (Int×Int)}(h:Zch W E=0)(hA:Acyc E):chkE W E=0:=by unfold chkE;rw[Zb (fun k=>k h),Zc hA]
theorem Zq4{n:Nat}{E:List (Int×Int)}{out:List Nat}{i:Nat}(hi:i<n)(h:ready n E out i=true)(hb:∀m,m<i->ready n E out m=false):pick n E out=some i:=by unfold pick;rw[List.find?_range_eq_some];exact⟨h,ZD.mpr hi,fun j hj=>by rw[hb j hj];rfl⟩
theorem Zpl{n:Nat}{E:List (Int×Int)}{out:List Nat}(hb:∀m,m<n->ready n E out m=false):pick n E out=none:=by unfold pick;rw[List.find?_eq_none];intro m hm;rw[hb m (ZD.mp hm)];exact Yp
theorem Zng{n:Nat}{E:List (Int×Int)}{k m:Nat}(h:pick n E (ordK n E k)=some m):ordK n E (k+1)=ordK n E k++ [m]:=by show(match pick n E (ordK n E k)with|some m=>ordK n E k++ [m]|none=>ordK n E k)=_;rw[h]
def Zby(s:Nat):List Nat:=(Zo 64).filter s.testBit
theorem mem_bitsL{s j:Nat}:j∈Zby s↔j<64/\s.testBit j=true:=by unfold Zby;rw[List.mem_filter,ZD]
theorem Zg1:Zby 0= []:=by decide
theorem Zde(s:Nat):(Zby s).length<=64:=by
 unfold Zby;have:=Yl s.testBit (Zo 64)
 rwa [List.length_range]at this
theorem Zg2(p q:Nat->Bool)(k:Nat)(hk:p k=true)(hlt:∀j,j<k->p j=false)(hq:∀j,q j=(p j&&decide (j≠k))):∀n,k<n->(Zo n).filter p=k::(Zo n).filter q
  |0,h=>by omega
  | n + 1, h => by
    rw[List.range_succ,List.filter_append,List.filter_append];rcases Nat.lt_or_ge k n with h1|h1
    · rw[Zg2 p q k hk hlt hq n h1];have e:q n=p n:=by rw[hq,Ze (by omega:n≠k),Bool.and_true]
      simp[List.filter,e]
    · obtain rfl:n=k:=by omega
      have e1:(Zo n).filter p= []:=List.filter_eq_nil_iff.mpr fun j hj=>by rw[hlt j (ZD.mp hj)];exact Yp
      have e2:(Zo n).filter q= []:=List.filter_eq_nil_iff.mpr fun j hj=>by rw[hq,hlt j (ZD.mp hj)];exact Yp
      have e3:q n=false:=by rw[hq];simp
      rw[e1,e2];simp[List.filter,hk,e3]
theorem Zjz(k m j:Nat):(2^k * (2 * m+1)).testBit j=(decide (k<=j)&&(decide (j=k)||m.testBit (j - k - 1))):=by
 rw[Nat.mul_comm,Nat.testBit_mul_two_pow];by_cases h:k<=j
 ·by_cases he: j = k
  ·subst he
   simp[Nat.testBit_zero]
  ·obtain ⟨i,rfl⟩:∃ i,j = k + (i + 1):=⟨j - k - 1,by omega⟩
   have e1:k+(i+1) - k=i+1:=by omega
   have e2:(2 * m+1)/2=m:=by omega
   rw[e1,Nat.testBit_succ,e2];simp
 ·simp[h]
theorem Zpm(k m j:Nat):(2^k * (2 * m+1) - 1).testBit j=(decide (j<k)||(decide (k<j)&&m.testBit (j - k - 1))):=by
 have hp:0<2^k:=Nat.two_pow_pos k;have e:2^k * (2 * m+1) - 1=2^k * (2 * m)+(2^k - 1):=by rw[Nat.mul_add];omega
 rw[e,Nat.testBit_two_pow_mul_add _ (by omega)];by_cases h:j<k
 ·rw [Zc h,Nat.testBit_two_pow_sub_one]
  simp[h]
 ·rw [Zb h]
  by_cases he:j=k
  ·subst he
   simp[Nat.testBit_zero]
  ·obtain ⟨i,rfl⟩:∃ i,j = k + (i + 1):=⟨j - k - 1,by omega⟩
   have e1:k+(i+1) - k=i+1:=by omega
   have e2:(2 * m)/2=m:=by omega
   rw[e1,Nat.testBit_succ,e2];have h3:k<k+(i+1):=by omega
   simp[h,h3]
theorem Zg3{s:Nat}(h0:s≠0)(hs:s<18446744073709551616):Zby s=Lib.ctz 64 s::Zby (s &&& (s - 1)):=by
 obtain⟨m,hm,hk⟩:=Lib.ctzFrom_spec 64 s (by omega) hs;have hc:Lib.ctz 64 s=Lib.ctzFrom 64 s:=by unfold Lib.ctz;rw[Zb h0]
 rw[hc];obtain⟨k,hk2⟩:∃k,k=Lib.ctzFrom 64 s:=⟨_,rfl⟩;rw[<-hk2]at hm hk⊢;clear hk2 hc;unfold Zby;refine Zg2 _ _ k ?_ ?_ ?_ 64 hk
 ·rw[hm,Zjz];simp
 ·intro j hj
  rw[hm,Zjz];simp[show¬k<=j by omega]
 ·intro j
  rw[Nat.testBit_and,hm,Zjz,Zpm];by_cases h1:j<k
  ·simp[h1,show¬k<=j by omega]
  ·by_cases h2: j = k
   ·subst h2
    simp
   ·have h3: k < j:=by omega
    have h4:k<=j:=by omega
    simp[h1,h2,h3,h4]
theorem ZfV{s:Nat}(h0:s≠0):s &&& (s - 1)<s:=Nat.lt_of_le_of_lt Nat.and_le_right (by omega)
theorem ZcC(s n j:Nat):(s ||| 2^n).testBit j=(s.testBit j||decide (n=j)):=by rw[Nat.testBit_or,Nat.testBit_two_pow]
theorem Ziv(s n p q r:Nat)(b:Bool)(w:World)(hn:n<64)(hp:(2:Int)^n=(p:Int))(hq:(s:Int)/(p:Int)=(q:Int))(ha:bits .and .u64 (q:Int) 1=(r:Int))(hb:((r:Int)==1)=b):
  Calls Zg 149 #[.int .u64 s,.int .i64 n] w fun e w'=>e=.returned (.bool b)/\w=w':=by
 go_enter func149,ntmps149;go_wp2;go_ret;exact⟨rfl,rfl⟩
theorem ZjA(s n:Nat)(w:World)(hs:s<18446744073709551616)(hn:n<64):
  Calls Zg 149 #[.int .u64 s,.int .i64 n] w fun e w'=>e=.returned (.bool (s.testBit n))/\w=w':=by
 have h1:s/2^n<=s:=Nat.div_le_self _ _;refine Ziv s n (2^n) (s/2^n) (s/2^n%2) (s.testBit n) w hn (by push_cast;rfl) (by push_cast;rfl) ?_ ?_
 ·have h2:=bits_and_u64_nat (s / 2 ^ n) 1 (by omega) (by decide)
  rw[Nat.and_one_is_mod]at h2;exact h2
 ·rw [Nat.testBit_eq_decide_div_mod_eq]
  rcases Nat.mod_two_eq_zero_or_one (s/2^n)with h|h<;>rw[h]<;>rfl
theorem ZhF(s n p r:Nat)(w:World)(hn:n<64)(hp:(2:Int)^n=(p:Int))(hw:IntKind.u64.wrap (p:Int)=(p:Int))(ha:bits .or .u64 (s:Int) (p:Int)=(r:Int)):
  Calls Zg 150 #[.int .u64 s,.int .i64 n] w fun e w'=>e=.returned (.int .u64 r)/\w=w':=by
 go_enter func150,ntmps150;go_wp2;go_ret;exact⟨rfl,rfl⟩
theorem ZhG(s n:Nat)(w:World)(hs:s<18446744073709551616)(hn:n<64):
  Calls Zg 150 #[.int .u64 s,.int .i64 n] w fun e w'=>e=.returned (.int .u64 (s ||| 2^n:Nat))/\w=w':=by
 have h1:2^n<18446744073709551616:=Nat.pow_lt_pow_right (by decide) hn;refine ZhF s n (2^n) (s ||| 2^n) w hn (by push_cast;rfl) ?_ (bits_or_u64_nat s (2^n) hs h1);obtain⟨p,hp⟩:∃p,p=2^n:=⟨_,rfl⟩;rw[<-hp]at h1⊢;rw[IntKind.wrap_u64];omega
theorem ZjB(x:Int)(n:Nat)(w:World)(hn:n<=1000):
  Calls Zg 148 #[.int .i64 x,.int .i64 n] w fun e w'=>e=.returned (.bool (decide (0<=x/\x<n)))/\w=w':=by
 by_cases h0:0<=x
 ·by_cases h1: x < n
  ·rw [Ze (⟨h0,h1⟩: 0 <= x /\ x < n)]
   go_enter func148,ntmps148;go_wp2;go_ret;exact⟨rfl,rfl⟩
  ·rw [Zd (fun h => h1 h.2:¬ (0 <= x /\ x < n))]
   go_enter func148,ntmps148;go_wp2;go_ret;exact⟨rfl,rfl⟩
 ·rw [Zd (fun h => h0 h.1:¬ (0 <= x /\ x < n))]
  go_enter func148,ntmps148;go_wp2;go_ret;exact⟨rfl,rfl⟩
theorem ZhH(w:World)(base:Nat):OwnI w base (.slice none 0 0) []:=⟨rfl,.inl ⟨rfl,rfl⟩⟩
theorem Znh(s:Nat)(w:World)(hs:s<18446744073709551616)(hT:Tab64 w):
  Calls Zg 126 #[.int .u64 s] w (GotInts (nums (Zby s)) w):=by
 have HS:=Zf hs;have HT:=Zf hT;have HLEN:=Zf (Zde s);clear hs hT;go_enter func126,ntmps126;go_wp2;go_loopw [0,3] (fun sv v wr=>∃(t k:Nat) (A:Option Addr) (c:Nat) (l:List Nat),sv=.int .u64 t/\t<18446744073709551616/\k<=64/\v=.slice A k c/\Hid (l.length=k)/\Hid (l++Zby t=Zby s)/\Hid (OwnI wr w.heap.size (.slice A k c) (nums l))/\Hid (Below w.heap.size w wr)) (fun sv _ _=>(intOf sv).toNat)
 case atStart=>exact⟨s,0,none,0,[],rfl,HS.out,by omega,rfl,Zf rfl,Zf rfl,Zf (ZhH _ _),Zf (Below.refl _ _)⟩
 case round=>
  obtain⟨t,k,A,c,l,rfl,ht,hk,rfl,HL,HE,HO,HB⟩:=hrel;by_cases h0:t=0
  ·subst h0
   have he:l=Zby s:=by have:=HE.out;rwa [Zg1,List.append_nil]at this
   have HE2:=Zf he;clear he;go_wp2;go_ret;obtain⟨A2,c2,h1,h2⟩:=HO.out.slice;exact⟨A2,c2,by rw[<-HE2.out,<-h1];rfl,by rw[<-HE2.out];exact h2,HB.out⟩
  ·have HST:=Zf (Zg3 h0 ht)
   have hne:((t:Int) !=0)=true:=by simpa using h0
   have C:=Zf (Zhp t wr ht h0 (HT.out.via HB.out));have hsub:IntKind.u64.wrap ((t:Int) - 1)=((t - 1:Nat):Int):=by rw[IntKind.wrap_u64];omega
   have hand:=bits_and_u64_nat t (t - 1) ht (by omega);have hlt:=ZfV h0;obtain⟨z,hz⟩:∃z,z=t &&& (t - 1):=⟨_,rfl⟩;obtain⟨y,hy⟩:∃y,y=Lib.ctz 64 t:=⟨_,rfl⟩;rw[<-hz]at hand hlt HST;rw[<-hy]at C HST;have hk2:k<64:=by have h1:=HE.out;rw[HST.out]at h1;have h2:=congrArg List.length h1;rw[Zq,HL.out]at h2;simp only[List.length_cons]at h2;have:=HLEN.out;omega
   have hsz:=HB.out.size;clear hz hy h0
   go_wp2_with(first
    |(go_at_call 170;refine C.out.mono ?_;rintro e w' ⟨rfl,rfl⟩)
    |(at_builtin;refine ZaV rfl _ _ rfl wr w.heap.size _ (nums l) (y:Int) k (by rw[Zai];exact HL.out) (by omega) HO.out hsz rfl rfl ?_;intro A4 c4 w4 HO4 HB4;(have HO4':=Zf HO4);(have HB4':=Zf HB4);clear HO4 HB4))
   go_roundw
   case rel=>exact⟨z,k+1,A4,c4,l++ [y],rfl,by omega,by omega,rfl,Zf (by rw[Zq,HL.out];rfl),Zf (by rw[List.append_assoc];exact(by rw[<-HST.out];exact HE.out:l++(y::Zby z)=Zby s)),Zf (by rw[ZcH];exact HO4'.out),Zf (HB.out.trans HB4'.out)⟩
   case measure=>simp[intOf];omega
end Go.Proofs.YtfahabphncmbfaaGreatDoor
