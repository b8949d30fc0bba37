import Derived.Test.YtfahabphncmbfaaGreatDoorZQ19
import Derived.Test.YtfahabphncmbfaaGreatDoorZQ17
set_option linter.all false
set_option maxRecDepth 100000
set_option maxHeartbeats 4000000
namespace Go.Proofs.YtfahabphncmbfaaGreatDoor
open Go.RowKit
open Classical renaming byContradiction→Zn
open Int renaming toNat_natCast→Z9
open Go.Lib renaming hid→Zf
open List renaming all_eq_true→ZL,getD_eq_getElem?_getD→Zi,getElem?_eq_getElem→Zh,getElem_mem→Zz,getElem_of_mem→ZA,length_take→ZP,mem_append→Z2,mem_of_getElem?→ZC,replicate→Zj,take_of_length_le→Z6
open Nat renaming le_refl→Zm,lt_of_lt_of_le→ZE,lt_or_ge→Zv,lt_succ_self→ZZ,not_lt_zero→Yj,zero_le→Zu
open Go.Proofs.Tryz renaming prog→Zg
open Go.World renaming cell?_alloc_at→Zp
open Go.Proofs.Tryz
def ZgJ(need:List Int)(ran:Nat->Int)(x:Int):Bool:=decide (ran x.toNat=ZaJ need x)
section
variable {gp gv gn: Nat}{N: Option Addr}{nn nc: Nat}{need: List Int}{ran lt lc: Nat -> Int}{w w': World}
theorem ZiR(x:Int)(w:World)(h:Watch gp gv gn N nn nc need ran lt lc w)(h0:0<=x)(hx:x<need.length)(h64:nn<=64):
  Calls Zg 253 #[.int .i64 x,.pointer (some ⟨gv,0,none⟩),.pointer (some ⟨gn,0,none⟩)] w fun e w'=>e=.returned (.bool (ZgJ need ran x))/\Below w.heap.size w w':=by
 obtain⟨n,rfl⟩:∃n:Nat,x=(n:Int):=⟨x.toNat,by omega⟩;have hnl:n<need.length:=by omega
 have:=Zp0 n need[n] w h (by have:=h.hn;omega) (Zh hnl);unfold ZgJ ZaJ;rw[Z9,Zi,Zh hnl];exact this
theorem Zrm(A:Option Addr)(c n:Nat)(l:List Int)(w:World)(hl:l.length=n)(hb:n<=1000)(hI:Ints w w.heap.size A l)(hx:∀x∈l,0<=x/\x<need.length)(h64:nn<=64)(h:Watch gp gv gn N nn nc need ran lt lc w):
    Calls Zg 232 #[.slice A n c,.func (.func 253) #[] #[.pointer (some ⟨gv,0,none⟩),.pointer (some ⟨gn,0,none⟩)]] w fun e w'=>e=.returned (.bool (l.all (ZgJ need ran)))/\Below w.heap.size w w':=by
  have HI:=Zf hI;have HN:=Zf hl;have HX:=Zf hx;have HW:=Zf h;obtain⟨r,hr⟩:∃r,r=l.all (ZgJ need ran):=⟨_,rfl⟩;rw[<-hr];have HR:=Zf hr;clear hI hl hx h hr;go_enter func232,ntmps232;go_wp2;go_loopw [9] (fun v wr=>∃k:Nat,k<=n/\v=.int .i64 k/\Hid (Below w.heap.size w wr)/\Hid (∀j x,j<k->l[j]?=some x->ZgJ need ran x=true)) (fun v _=>n - (intOf v).toNat)
  case atStart=>exact⟨0,Zu _,rfl,Zf (Below.refl _ _),Zf (fun j x hj _=>absurd hj (Yj _))⟩
  case round=>
    obtain⟨k,hk,rfl,HB,HF⟩:=hrel;by_cases hlt:k<n
    · obtain⟨bk,off,x,rfl,hbg,hek,hc⟩:=HI.out.at_ (k:=k) (by rw[HN.out];exact hlt);have hd:wr.cell? ⟨bk,off+k,none⟩=some (.int .i64 x):=(HB.out.cell hbg).trans hc;have HEK:=Zf hek;have hxx:=HX.out x (ZC hek)
      have hcall:=ZiR x wr (HW.out.below HB.out) hxx.1 hxx.2 h64;have hbk:bk<wr.heap.size:=ZE hbg HB.out.size;clear hek hc hxx;cases hq:ZgJ need ran x with
      | true =>
        have HQ:=Zf hq;rw[hq]at hcall;have C:=Zf hcall;clear hq hcall;go_wp2_with(go_at_call 253;refine C.out.mono ?_;rintro e w' ⟨rfl,hb'⟩;have HB':=Zf hb';clear hb');go_roundw
        case rel=>exact⟨k+1,by omega,by go_num,Zf (HB.out.trans (HB'.out.mono HB.out.size)),Zf (fun j y hj hy=>by
          by_cases e:j=k
          · subst e;rw[HEK.out]at hy;injection hy with hy;rw[<-hy];exact HQ.out
          · exact HF.out j y (by omega) hy)⟩
        case measure=>simp[intOf];omega
      | false =>
        have HQ:=Zf hq;rw[hq]at hcall;have C:=Zf hcall;clear hq hcall;have hr:r=false:=by rw[HR.out,List.all_eq_false];exact⟨x,ZC HEK.out,by rw[HQ.out];decide⟩
        subst hr;go_wp2_with(go_at_call 253;refine C.out.mono ?_;rintro e w' ⟨rfl,hb'⟩;have HB':=Zf hb';clear hb');go_ret;exact⟨rfl,HB.out.trans (HB'.out.mono HB.out.size)⟩
    · have e:k=n:=by omega
      subst e;have hr:r=true:=by rw[HR.out,ZL];intro x hx;obtain⟨j,hj,he⟩:=ZA hx;exact HF.out j x (by rw[<-HN.out];exact hj) (by rw[Zh hj,he])
      subst hr;go_wp2;go_ret;exact⟨rfl,HB.out⟩
end
def addR(row:List Int)(ran:Nat->Int):Nat->Nat->Int
 |0=>ran
 |k+1=>if 0<=row.getD k (-1)then upd (addR row ran k) (row.getD k (-1)).toNat (addR row ran k (row.getD k (-1)).toNat+1)else addR row ran k
def addT(row:List Int)(f:Nat->Int)(v:Nat->Int):Nat->Nat->Int
 |0=>f
 |k+1=>if 0<=row.getD k (-1)then upd (addT row f v k) (row.getD k (-1)).toNat (v k)else addT row f v k
theorem ZjY(row:List Int)(ran:Nat->Int):∀k,k<=row.length->∀n:Nat,addR row ran k n=ran n+((row.take k).count (n:Int):Nat)
  |0,_,n=>by simp[addR]
  | k + 1, hk, n => by
    have ih:=ZjY row ran k (by omega);rw[Zco (by omega)];show(if 0<=row.getD k (-1)then upd (addR row ran k) (row.getD k (-1)).toNat (addR row ran k (row.getD k (-1)).toNat+1)else addR row ran k) n=_;by_cases h:0<=row.getD k (-1)
    · rw[Zc h];by_cases e:n=(row.getD k (-1)).toNat
      · rw[<-e,ZiW,ih n,Zc (by omega)];omega
      · rw[Zgf _ _ e,ih n,Zb (by omega)];omega
    · rw[Zb h,ih n,Zb (by omega)];omega
theorem ZjZ(row:List Int)(f v:Nat->Int):∀k,k<=row.length->∀n:Nat,((n:Int)∉row.take k/\addT row f v k n=f n)\/ ∃c,c<k/\row.getD c (-1)=(n:Int)/\addT row f v k n=v c
  |0,_,n=> .inl ⟨by simp,rfl⟩
  | k + 1, hk, n => by
    have ih:=ZjZ row f v k (by omega) n;have hm:(n:Int)∈row.take (k+1)↔(n:Int)∈row.take k\/row.getD k (-1)=(n:Int):=by
      have h1:k<row.length:=by omega
      rw[List.take_add_one,Zh h1,Zi,Zh h1,Z2];simp[eq_comm]
    show((n:Int)∉row.take (k+1)/\(if 0<=row.getD k (-1)then upd (addT row f v k) (row.getD k (-1)).toNat (v k)else addT row f v k) n=f n)\/ ∃c,c<k+1/\row.getD c (-1)=(n:Int)/\(if 0<=row.getD k (-1)then upd (addT row f v k) (row.getD k (-1)).toNat (v k)else addT row f v k) n=v c;by_cases h:0<=row.getD k (-1)
    · rw[Zc h];by_cases e:n=(row.getD k (-1)).toNat
      · refine .inr ⟨k,by omega,by omega,?_⟩;rw[<-e,ZiW]
      · rw[Zgf _ _ e];rcases ih with⟨h1,h2⟩|⟨c,h1,h2,h3⟩
        · refine .inl ⟨fun q=> ?_,h2⟩;rcases hm.mp q with q|q
          · exact h1 q
          · omega
        · exact .inr ⟨c,by omega,h2,h3⟩
    · rw[Zb h];rcases ih with⟨h1,h2⟩|⟨c,h1,h2,h3⟩
      · refine .inl ⟨fun q=> ?_,h2⟩;rcases hm.mp q with q|q
        · exact h1 q
        · omega
      · exact .inr ⟨c,by omega,h2,h3⟩
section
variable {g: Nat}{ran lt lc: Nat -> Int}
theorem Zrn(tick:Int)(A:Option Addr)(n c:Nat)(row:List Int)(w:World)(hn:row.length=n)(hl:n<=1000)(hI:Ints w g A row)(hx:∀x∈row,x<64)(hr:∀k,0<=ran k/\ran k<=1000000)(h:Past g ran lt lc w):
  Calls Zg 233 #[.pointer (some ⟨g,0,none⟩),.int .i64 tick,.slice A n c] w fun e w'=>e=.returned (.tuple #[])/\Past g (addR row ran n) (addT row lt (fun _=>tick) n) (addT row lc (fun k=>k) n) w'/\Below g w w':=by
 have HI:=Zf hI;have HN:=Zf hn;have HX:=Zf hx;have HP:=Zf h;have HR:=Zf hr;clear hI hn hx h hr;go_enter func233,ntmps233;go_wp2;go_loopw [10] (fun v wr=>∃k:Nat,k<=n/\v=.int .i64 k/\Hid (Past g (addR row ran k) (addT row lt (fun _=>tick) k) (addT row lc (fun k=>k) k) wr)/\Hid (Below g w wr)) (fun v _=>n - (intOf v).toNat)
 case atStart=>exact⟨0,Zu _,rfl,HP,Zf (Below.refl _ _)⟩
 case round=>
  obtain⟨k,hk,rfl,HK,HB⟩:=hrel;by_cases hlt:k<n
  ·obtain ⟨bk,off,x,rfl,hbg,hek,hc⟩:=HI.out.at_ (k:=k) (by rw [HN.out]; exact hlt)
   have hd:wr.cell? ⟨bk,off+k,none⟩=some (.int .i64 x):=(HB.out.cell hbg).trans hc;have hxx:=HX.out x (ZC hek);have HXK:=Zf (show row.getD k (-1)=x by rw[Zi,hek];rfl);have hgl:=HK.out.lt_;have hbk:bk<wr.heap.size:=by omega
   clear hek hc;by_cases h0:0<=x
   ·obtain ⟨m,rfl⟩:∃ m: Nat,x = (m: Int):=⟨x.toNat,by omega⟩
    have hm:m<64:=by omega
    obtain⟨p1,p2,p3⟩:=HK.out.cells hm;have f1:=HK.out.frozen m;have f2:=HK.out.frozen (64+m * 2);have f3:=HK.out.frozen (64+m * 2+1);have hrm:=ZjY row ran k (by rw[HN.out];omega) m;have hr0:=HR.out m;have hcl:(row.take k).count (m:Int)<=k:=Nat.le_trans (List.count_le_length) (by rw[ZP];omega);obtain⟨r,hrr⟩:∃r,r=addR row ran k m:=⟨_,rfl⟩;rw[<-hrr]at p1 hrm;have HRR:=Zf hrr;have hb1:0<=r:=by omega
    have hb2:r<=1001000:=by omega
    have HE1:Hid (addR row ran (k+1)=upd (addR row ran k) m (r+1)):=Zf (by
     show(if 0<=row.getD k (-1)then _ else _)=_;rw[HXK.out,Zc h0,Z9,<-HRR.out])
    have HE2:Hid (∀f v,addT row f v (k+1)=upd (addT row f v k) m (v k)):=Zf (fun f v=>by show(if 0<=row.getD k (-1)then _ else _)=_;rw[HXK.out,Zc h0,Z9])
    clear hrr hrm hr0 hcl hxx;go_wp2
    go_region
    go_wp2;go_roundw
    case rel=>exact⟨k+1,by omega,by go_num,Zf (by
      rw[HE1.out,HE2.out,HE2.out];have h:=(HK.out.ran_ hm (r+1)).place hm tick k;exact h.below (Below.refl _ _).drew h.lt_),Zf ((((HB.out.setCell (Zm _) _).setCell (Zm _) _).setCell (Zm _) _).drew)⟩
    case measure=>simp[intOf];omega
   ·have hdf: decide (0 <= x) = false:=Zd h0
    have HE1:Hid (addR row ran (k+1)=addR row ran k):=Zf (by
     show(if 0<=row.getD k (-1)then _ else _)=_;rw[HXK.out,Zb h0])
    have HE2:Hid (∀f v,addT row f v (k+1)=addT row f v k):=Zf (fun f v=>by show(if 0<=row.getD k (-1)then _ else _)=_;rw[HXK.out,Zb h0])
    clear hxx h0;go_wp2;go_roundw
    case rel=>exact⟨k+1,by omega,by go_num,Zf (by rw[HE1.out,HE2.out,HE2.out];exact HK.out),HB⟩
    case measure=>simp[intOf];omega
  ·obtain rfl: k = n:=by omega
   go_wp2;go_end0;exact⟨rfl,HK.out,HB.out⟩
end
theorem Zro(A:Option Addr)(c n:Nat)(es:List Int)(g:Nat)(lb:Array Value)(eg:∀args w,(callFunc g args).run Zg w=.ok (.enter g args) w)(p:Nat->Bool)(I:Nat->World->Prop)(B:Nat)(hn:es.length=n)(hl:n<=1000)
    (hT:∀k W,I k W->Ints W B A es)
    (hp:∀k x W,es[k]?=some x->I k W->Calls Zg g (#[.int .i64 x]++lb) W fun e w'=>e=.returned (.bool (p k))/\I (k+1) w')
    (w:World)(h0:I 0 w):
    Calls Zg 89 #[.slice A n c,.func (.func g) #[] lb] w fun e w'=>∃r k,e=.returned (.int .i64 r)/\I k w'/\(0<=r↔ ∃j,j<n/\p j=true):=by
  have HT:=Zf hT;have HP:=Zf hp;have HN:=Zf hn;have H0:=Zf h0;clear hT hp hn h0;go_enter func89,ntmps89;go_wp2;go_loopw [8] (fun v wr=>∃k:Nat,k<=n/\v=.int .i64 k/\Hid (I k wr)/\Hid (∀j,j<k->p j=false)) (fun v _=>n - (intOf v).toNat)
  case atStart=>exact⟨0,Zu _,rfl,H0,Zf (fun j hj=>absurd hj (Yj _))⟩
  case round=>
    obtain⟨k,hk,rfl,HI,HF⟩:=hrel;clear H0;by_cases hlt:k<n
    · obtain⟨bk,off,x,rfl,hbg,hek,d1⟩:=(HT.out k wr HI.out).at_ (k:=k) (by rw[HN.out];exact hlt);have HEK:=Zf hek;have hcall:=HP.out k x wr hek HI.out;clear hek
      skip
      cases hq:p k with
      | true =>
        have HQ:=Zf hq;rw[hq]at hcall;clear hq;go_wp2_with(go_at_fn g;refine hcall.mono ?_;rintro e w' ⟨rfl,hb'⟩)
        go_ret;exact⟨_,k+1,rfl,hb',⟨fun _=>⟨k,hlt,HQ.out⟩,fun _=>by omega⟩⟩
      | false =>
        have HQ:=Zf hq;rw[hq]at hcall;clear hq;go_wp2_with(go_at_fn g;refine hcall.mono ?_;rintro e w' ⟨rfl,hb'⟩;have HB:=Zf hb';clear hb');go_roundw
        case rel=>exact⟨k+1,by omega,by go_num,HB,Zf (fun j hj=>by
          by_cases e:j=k
          · rw[e];exact HQ.out
          · exact HF.out j (by omega))⟩
        case measure=>simp[intOf];omega
    · have e:k=n:=by omega
      subst e;go_wp2;go_ret;exact⟨_,k,rfl,HI.out,⟨fun h=>Za h,fun⟨j,hj,hpj⟩=>by rw[HF.out j hj]at hpj;cases hpj⟩⟩
theorem ZhR(A:Option Addr)(c n:Nat)(es:List Int)(g:Nat)(lb:Array Value)(eg:∀args w,(callFunc g args).run Zg w=.ok (.enter g args) w)(p:Nat->Bool)(I:Nat->World->Prop)(B:Nat)(hn:es.length=n)(hl:n<=1000)
    (hT:∀k W,I k W->Ints W B A es)
    (hp:∀k x W,es[k]?=some x->I k W->Calls Zg g (#[.int .i64 x]++lb) W fun e w'=>e=.returned (.bool (p k))/\I (k+1) w')
    (r:Bool)(hr:r=true↔ ∃j,j<n/\p j=true)(w:World)(h0:I 0 w):
    Calls Zg 43 #[.slice A n c,.func (.func g) #[] lb] w fun e w'=>e=.returned (.bool r)/\∃k,I k w':=by
  have C:=Zro A c n es g lb eg p I B hn hl hT hp w h0;have HR:=Zf hr;clear hT hp hn h0 hr;go_enter func43,ntmps43;go_wp2_with fail;refine C.mono ?_
  rintro e w1 ⟨v,k,rfl,hI,hv⟩;have HI:=Zf hI;have HV:=Zf hv;clear hI hv;cases r with
  | true =>have hg:0<=v:=HV.out.mpr (HR.out.mp rfl);go_wp2;go_ret;exact⟨rfl,k,HI.out⟩
  | false =>
    have hg:decide (0<=v)=false:=by rw[decide_eq_false_iff_not];exact fun h=>absurd (HR.out.mpr (HV.out.mp h)) (by simp)
    go_wp2;go_ret;exact⟨rfl,k,HI.out⟩
theorem Zrp(A:Option Addr)(c n:Nat)(es:List (List Int))(g:Nat)(lb:Array Value)(eg:∀args w,(callFunc g args).run Zg w=.ok (.enter g args) w)(p:Nat->Bool)(I:Nat->World->Prop)(B:Nat)(hn:es.length=n)(hl:n<=1000)
    (hT:∀k W,I k W->Trc W B A es)
    (hp:∀k xs A1 n1 c1 W,es[k]?=some xs->xs.length=n1->Ints W B A1 xs->((A1=none->n1=0/\c1=0)/\n1<=c1)->I k W->Calls Zg g (#[.slice A1 n1 c1]++lb) W fun e w'=>e=.returned (.bool (p k))/\I (k+1) w')
    (w:World)(h0:I 0 w):
    Calls Zg 251 #[.slice A n c,.func (.func g) #[] lb] w fun e w'=>∃r k,e=.returned (.int .i64 r)/\I k w'/\(0<=r↔ ∃j,j<n/\p j=true):=by
  have HT:=Zf hT;have HP:=Zf hp;have HN:=Zf hn;have H0:=Zf h0;clear hT hp hn h0;go_enter func251,ntmps251;go_wp2;go_loopw [8] (fun v wr=>∃k:Nat,k<=n/\v=.int .i64 k/\Hid (I k wr)/\Hid (∀j,j<k->p j=false)) (fun v _=>n - (intOf v).toNat)
  case atStart=>exact⟨0,Zu _,rfl,H0,Zf (fun j hj=>absurd hj (Yj _))⟩
  case round=>
    obtain⟨k,hk,rfl,HI,HF⟩:=hrel;clear H0;by_cases hlt:k<n
    · obtain⟨bk,off,xs,A1,n1,c1,rfl,hbg,hek,hn1,d1,hxs,hz1⟩:=(HT.out k wr HI.out).at_ (k:=k) (by rw[HN.out];exact hlt);have HEK:=Zf hek;have hcall:=HP.out k xs A1 n1 c1 wr hek hn1 hxs hz1 HI.out;clear hek hn1 hxs hz1
      skip
      cases hq:p k with
      | true =>
        have HQ:=Zf hq;rw[hq]at hcall;clear hq;go_wp2_with(go_at_fn g;refine hcall.mono ?_;rintro e w' ⟨rfl,hb'⟩)
        go_ret;exact⟨_,k+1,rfl,hb',⟨fun _=>⟨k,hlt,HQ.out⟩,fun _=>by omega⟩⟩
      | false =>
        have HQ:=Zf hq;rw[hq]at hcall;clear hq;go_wp2_with(go_at_fn g;refine hcall.mono ?_;rintro e w' ⟨rfl,hb'⟩;have HB:=Zf hb';clear hb');go_roundw
        case rel=>exact⟨k+1,by omega,by go_num,HB,Zf (fun j hj=>by
          by_cases e:j=k
          · rw[e];exact HQ.out
          · exact HF.out j (by omega))⟩
        case measure=>simp[intOf];omega
    · have e:k=n:=by omega
      subst e;go_wp2;go_ret;exact⟨_,k,rfl,HI.out,⟨fun h=>Za h,fun⟨j,hj,hpj⟩=>by rw[HF.out j hj]at hpj;cases hpj⟩⟩
theorem Zrq(A:Option Addr)(c n:Nat)(es:List (List Int))(g:Nat)(lb:Array Value)(eg:∀args w,(callFunc g args).run Zg w=.ok (.enter g args) w)(p:Nat->Bool)(I:Nat->World->Prop)(B:Nat)(hn:es.length=n)(hl:n<=1000)
    (hT:∀k W,I k W->Trc W B A es)
    (hp:∀k xs A1 n1 c1 W,es[k]?=some xs->xs.length=n1->Ints W B A1 xs->((A1=none->n1=0/\c1=0)/\n1<=c1)->I k W->Calls Zg g (#[.slice A1 n1 c1]++lb) W fun e w'=>e=.returned (.bool (p k))/\I (k+1) w')
    (r:Bool)(hr:r=true↔ ∃j,j<n/\p j=true)(w:World)(h0:I 0 w):
    Calls Zg 229 #[.slice A n c,.func (.func g) #[] lb] w fun e w'=>e=.returned (.bool r)/\∃k,I k w':=by
  have C:=Zrp A c n es g lb eg p I B hn hl hT hp w h0;have HR:=Zf hr;clear hT hp hn h0 hr;go_enter func229,ntmps229;go_wp2_with fail;refine C.mono ?_
  rintro e w1 ⟨v,k,rfl,hI,hv⟩;have HI:=Zf hI;have HV:=Zf hv;clear hI hv;cases r with
  | true =>have hg:0<=v:=HV.out.mpr (HR.out.mp rfl);go_wp2;go_ret;exact⟨rfl,k,HI.out⟩
  | false =>
    have hg:decide (0<=v)=false:=by rw[decide_eq_false_iff_not];exact fun h=>absurd (HR.out.mpr (HV.out.mp h)) (by simp)
    go_wp2;go_ret;exact⟨rfl,k,HI.out⟩
theorem ZnR(A:Option Addr)(c n:Nat)(zs:List Int)(x:Int)(B:Nat)(w:World)(hn:zs.length=n)(hl:n<=1000)(hI:Ints w B A zs):
  Calls Zg 147 #[.slice A n c,.int .i64 x] w fun e w'=>∃r,e=.returned (.int .i64 r)/\(0<=r↔x∈zs)/\w'=w:=by
 have HI:=Zf hI;have HN:=Zf hn;clear hn hI;go_enter func147,ntmps147;go_wp2;go_loop [8] (fun v=>∃k:Nat,k<=n/\v=.int .i64 k/\Hid (x∉zs.take k)) (fun v=>n - (intOf v).toNat)
 case atStart=>exact⟨0,Zu _,rfl,Zf (by simp)⟩
 case round=>
  obtain⟨k,hk,rfl,HF⟩:=hrel;by_cases hlt:k<n
  ·obtain ⟨bk,off,z,rfl,hbg,hek,d1⟩:=HI.out.at_ (k:=k) (by rw [HN.out]; exact hlt)
   have HEK:=Zf hek;clear hek;by_cases hq:x=z
   ·subst hq
    go_wp2;go_ret;exact⟨_,rfl,⟨fun _=>ZC HEK.out,fun _=>by omega⟩,rfl⟩
   ·have hqf: (x == z) = false:=by simpa using hq
    have HQ:=Zf hq;clear hq;go_wp2;go_round
    case rel=>exact⟨k+1,by omega,by go_num,Zf (fun hm=>by
     rw[Zbk HEK.out,Z2,List.mem_singleton]at hm;rcases hm with hm|hm
     ·exact HF.out hm
     ·exact HQ.out hm)⟩
    case measure=>simp[intOf];omega
  ·have e: k = n:=by omega
   subst e;have HT:=HF.out;rw[Z6 (by rw[HN.out];omega)]at HT;have HT':=Zf HT;clear HT;go_wp2;go_ret;exact⟨_,rfl,⟨fun h=>Za h,fun h=>absurd h HT'.out⟩,rfl⟩
theorem Za2(A:Option Addr)(c n:Nat)(zs:List Int)(x:Int)(B:Nat)(w:World)(hn:zs.length=n)(hl:n<=1000)(hI:Ints w B A zs):
  Calls Zg 92 #[.slice A n c,.int .i64 x] w fun e w'=>e=.returned (.bool (decide (x∈zs)))/\w'=w:=by
 have C:=Zf (ZnR A c n zs x B w hn hl hI);obtain⟨b,hb⟩:∃b,b=decide (x∈zs):=⟨_,rfl⟩;rw[<-hb];have HBB:=Zf hb;clear hn hI hb;go_enter func92,ntmps92;go_wp2_with fail;refine C.out.mono ?_;rintro e w1 ⟨r,rfl,hr,rfl⟩;have HR:=Zf hr;clear hr;by_cases h:0<=r
 ·obtain rfl: b = true:=HBB.out.trans (Ze (HR.out.mp h))
  go_wp2;go_ret;exact⟨rfl,rfl⟩
 ·obtain rfl: b = false:=HBB.out.trans (Zd (fun q => h (HR.out.mpr q)))
  have hg:decide (0<=r)=false:=Zd h;clear h;go_wp2;go_ret;exact⟨rfl,rfl⟩
def Zb2(W need:List Int)(cores:Int):Prop:=need.length=W.length/\(∀z∈need,1<=z/\z<=1000)/\1<=cores/\cores<=8
instance (W need:List Int) (cores:Int):Decidable (Zb2 W need cores):=by unfold Zb2;infer_instance
def badN(z:Int):Bool:=decide (z<1)||decide (1000<z)
theorem ZpP(z:Int)(w:World):Calls Zg 227 #[.int .i64 z] w fun e w'=>e=.returned (.bool (badN z))/\w'=w:=by
 unfold badN;go_enter func227,ntmps227;go_wp2
 all_goals
  go_ret;refine⟨?_,rfl⟩
  first|rfl|simp
theorem Zj0(cores:Int)(A1:Option Addr)(n1 c1 gc:Nat)(w:World)(h:w.cell? ⟨gc,0,none⟩=some (.int .i64 cores)):
  Calls Zg 228 #[.slice A1 n1 c1,.pointer (some ⟨gc,0,none⟩)] w fun e w'=>e=.returned (.bool ((n1:Int) !=cores))/\w'=w:=by
 go_enter func228,ntmps228;go_wp2;go_ret;exact⟨rfl,rfl⟩
section
variable {A: Option Addr}{n c: Nat}{F: Option Addr}{m d: Nat}{W: List Int}{E: List (Int × Int)}{N: Option Addr}{nn nc: Nat}{need: List Int}{T: Option Addr}{tn tc: Nat}{t: List (List Int)}
theorem ZnS(w:World)(hn:need.length=nn)(hl:nn<=1000)(hI:Ints w w.heap.size N need):
  Calls Zg 43 #[.slice N nn nc,.func (.func 227) #[] #[]] w fun e w'=>e=.returned (.bool (decide (∃z∈need,badN z=true)))/\w'=w:=by
 refine(ZhR N nc nn need 227 #[] (Za1 func227 (by kernel_rfl) rfl) (fun k=>match need[k]? with|some z=>badN z|none=>false) (fun _ x=>x=w) w.heap.size hn hl (fun _ x hx=>hx▸hI) (fun k x W' hk hW=> ?_) (decide (∃z∈need,badN z=true)) ?_ w rfl).mono ?_
 ·subst hW
  have:=ZpP x W';simp only[hk];exact this.mono fun e w' h=>h
 ·rw [decide_eq_true_iff]
  constructor
  ·rintro ⟨z,hz,hb⟩
   obtain⟨j,hj,he⟩:=ZA hz;exact⟨j,by omega,by rw[Zh hj,he];exact hb⟩
  ·rintro ⟨j,hj,hb⟩
   have hj':j<need.length:=by omega
   rw[Zh hj']at hb;exact⟨_,Zz hj',hb⟩
 ·rintro e w' ⟨rfl,k,hk⟩
  exact⟨rfl,hk⟩
theorem ZpQ(cores:Int)(hn:need.length=nn)(hW:W.length=n):Zb2 W need cores↔nn=n/\¬(∃z∈need,badN z=true)/\1<=cores/\cores<=8:=by
 unfold Zb2;rw[hn,hW];constructor
 ·rintro ⟨h1,h2,h3,h4⟩
  refine⟨h1,fun⟨z,hz,hb⟩=> ?_,h3,h4⟩;have:=h2 z hz;simp[badN]at hb;omega
 ·rintro ⟨h1,h2,h3,h4⟩
  refine⟨h1,fun z hz=> ?_,h3,h4⟩;apply Zn;intro hb;refine h2 ⟨z,hz,?_⟩;simp[badN];omega
theorem ZgK(cores:Int)(w:World)(hn:need.length=nn)(hl:nn<=1000)(hW:W.length=n)(hI:Ints w w.heap.size N need):
    Calls Zg 197 #[.agg #[.slice A n c,.slice F m d],.slice N nn nc,.int .i64 cores] w fun e w'=>e=.returned (.bool (decide (Zb2 W need cores)))/\Below w.heap.size w w':=by
  have hF:=ZpQ cores hn hW;have C:=Zf (fun(W':World) (hI:Ints W' W'.heap.size N need)=>ZnS (nc:=nc) W' hn hl hI);have HI:Hid (Ints (w.alloc (.cells #[.slice A n c,.slice F m d] 25)) (w.alloc (.cells #[.slice A n c,.slice F m d] 25)).heap.size N need):=Zf ((hI.alloc (Zm _) _).more (by simp));obtain⟨r,hr⟩:∃r,r=decide (Zb2 W need cores):=⟨_,rfl⟩;obtain⟨b,hb⟩:∃b,b=decide (∃z∈need,badN z=true):=⟨_,rfl⟩;rw[<-hr];rw[<-hb]at C;have hrv:r=decide (nn=n/\b=false/\1<=cores/\cores<=8):=by rw[hr];refine decide_eq_decide.mpr (hF.trans ?_);rw[hb,decide_eq_false_iff_not]
  clear hF hI hr hb hn hW hl;by_cases h1:nn=n
  · subst h1;cases b with
    | true =>
      obtain rfl:r=false:=by rw[hrv];simp
      clear hrv;go_enter func197,ntmps197;go_wp2_with fail;refine(C.out _ HI.out).mono ?_
      rintro e w1 ⟨rfl,rfl⟩;go_wp2;go_ret;exact⟨rfl,Zaa _⟩
    | false =>
      by_cases h2:1<=cores
      · obtain rfl:r=decide (cores<=8):=by rw[hrv];simp[h2]
        clear hrv;go_enter func197,ntmps197;go_wp2_with fail;refine(C.out _ HI.out).mono ?_;rintro e w1 ⟨rfl,rfl⟩;go_wp2;go_ret;exact⟨rfl,Zaa _⟩
      · obtain rfl:r=false:=by rw[hrv];simp[h2]
        clear hrv;have h2':decide (1<=cores)=false:=Zd h2;clear h2;go_enter func197,ntmps197;go_wp2_with fail;refine(C.out _ HI.out).mono ?_;rintro e w1 ⟨rfl,rfl⟩;go_wp2;go_ret;exact⟨rfl,Zaa _⟩
  · obtain rfl:r=false:=by rw[hrv];simp[h1]
    clear hrv;have h1':((nn:Int)==(n:Int))=false:=by simpa using(fun q:(nn:Int)=(n:Int)=>h1 (by omega))
    clear C h1;go_enter func197,ntmps197;go_wp2;go_ret;exact⟨rfl,Zaa _⟩
theorem ZhS(cores:Int)(w:World)(ht:t.length=tn)(hl:tn<=1000)(hT:Trc w w.heap.size T t):
  Calls Zg 198 #[.int .i64 cores,.slice T tn tc] w fun e w'=>e=.returned (.bool (decide (∀r∈t,(r.length:Int)=cores)))/\Below w.heap.size w w':=by
 obtain⟨w0,hw0⟩:∃w0,w0=w.alloc (.cells #[.int .i64 cores] 3):=⟨_,rfl⟩;have hc:w0.cell? ⟨w.heap.size,0,none⟩=some (.int .i64 cores):=by rw[hw0,Zp _ _ _ _ rfl];rfl
 have hb0:Below w.heap.size w w0:=by rw[hw0];exact Zaa _
 have hT0:Trc w0 w.heap.size T t:=hT.below hb0;obtain⟨b,hb⟩:∃b,b=decide (∀r∈t,(r.length:Int)=cores):=⟨_,rfl⟩;rw[<-hb];have C:=Zf (Zrq T tc tn t 228 #[.pointer (some ⟨w.heap.size,0,none⟩)] (Za1 func228 (by kernel_rfl) rfl) (fun k=>match t[k]? with|some r=>((r.length:Int) !=cores)|none=>false) (fun _ x=>x=w0) w.heap.size ht hl (fun _ x hx=>hx▸hT0) (fun k xs A1 n1 c1 W' hk hn1 _ _ hW=>by
   subst hW;have:=Zj0 cores A1 n1 c1 w.heap.size W' hc;simp only[hk,hn1];exact this.mono fun e w' h=>h) (!b) (by
   rw[hb];constructor
   ·intro h
    have h':¬ ∀r∈t,(r.length:Int)=cores:=by simpa using h
    apply Zn;intro hno;refine h' fun r hr=> ?_;obtain⟨j,hj,he⟩:=ZA hr;apply Zn;intro hne;refine hno ⟨j,by omega,?_⟩;simp only[Zh hj,he];simpa using hne
   ·rintro ⟨j,hj,h⟩
    have hj':j<t.length:=by omega
    simp only[Zh hj']at h;have h':¬ ∀r∈t,(r.length:Int)=cores:=fun hall=>by have:=hall _ (Zz hj');rw[this]at h;simp at h
    simpa using h') w0 rfl)
 have HW0:=Zf hw0;have HB0:=Zf hb0;clear hT hT0 ht hb hb0 hc;subst hw0;go_enter func198,ntmps198;go_wp2_with fail;refine C.out.mono ?_;rintro e w1 ⟨rfl,k,rfl⟩;go_wp2;go_ret;exact⟨by simp,HB0.out⟩
end
theorem ZgL:(Zg.info? 22).map (fun i=>(i.zero,i.size,i.bytes))=some (some (.slice none 0 0),1,24):=by kernel_rfl
theorem ZnT(n:Nat)(hn:n<=1000)(W:World):(Instr.makeSlice 29 (.int .i64 n) (.int .i64 n)).run Zg W=.ok (.slice (some ⟨W.heap.size,0,none⟩) n n) (W.alloc (.cells (Zj n (Value.slice none 0 0)).toArray 22)):=by
  obtain⟨i0,hi,hz0,hz1,hz2⟩:∃i,Zg.info? 22=some i/\i.zero=some (.slice none 0 0)/\i.size=1/\i.bytes=24:=by
    have h:=ZgL;cases hi:Zg.info? 22 with
    |none=>rw[hi]at h;cases h
    | some i =>rw[hi]at h;simp at h;exact⟨i,rfl,h.1,h.2.1,h.2.2⟩
  have h:=run_make (P:=Zg) W 29 22 i0 (.slice none 0 0) underlying29 hi hz0 .i64 .i64 n n (by omega) (by omega) (by rw[hz2];omega) (by omega);rw[hz1]at h;have e:madeCells (Value.slice none 0 0).cells (((n:Int)).toNat * 1)=(Zj n (Value.slice none 0 0)).toArray:=by apply Array.toList_inj.mp;rw[show(Value.slice none 0 0).cells= #[Value.slice none 0 0]from rfl,toList_madeCells_one];simp
  rw[e]at h;exact h
theorem Ints.stored{w:World}{B g:Nat}{A:Option Addr}{zs:List Int}{t:TypeId}{vs:List Value}(h:Ints w B A zs)(hr:RowV g t vs w)(hs:∀v∈vs,∃A n c,v=.slice A n c)(j:Nat)(v:Value):Ints (w.setCell ⟨g,j,none⟩ v) B A zs:=fun hn=>by
 obtain⟨b,off,e,hb,hc⟩:=h hn;refine⟨b,off,e,hb,fun k hk=> ?_⟩;rw[World.cell?_setCell_other]
 ·exact hc k hk
 ·intro e
  have h1:=hc k hk;have hbg:b=g:=(congrArg Addr.block e).symm;rw[hbg,cell_of_row _ _ _ _ _ _ hr]at h1;obtain⟨A',n',c',h2⟩:=hs _ (ZC (by simpa using h1));cases h2
section
variable {A: Option Addr}{n c: Nat}{F: Option Addr}{m d: Nat}{W: List Int}{E: List (Int × Int)}
structure PredsI(g n k:Nat)(W:List Int)(E:List (Int×Int))(vs:List Value)(w:World):Prop where
 row:RowV g 22 vs w
 len:vs.length=n
 sl:∀v∈vs,∃A n c,v=.slice A n c
 done:∀j,j<k->∃A1 c1,vs[j]?=some (.slice A1 (Zbr W E (j:Int)).length c1)/\Ints w w.heap.size A1 (Zbr W E (j:Int))
theorem PredsI.below{g k:Nat}{vs:List Value}{w w':World}(h:PredsI g n k W E vs w)(hb:Below w.heap.size w w'):PredsI g n k W E vs w':=
 ⟨h.row.below hb h.row.lt,h.len,h.sl,fun j hj=>by obtain⟨A1,c1,h1,h2⟩:=h.done j hj;exact⟨A1,c1,h1,(h2.below hb).more hb.size⟩⟩
theorem PredsI.store{g k:Nat}{vs:List Value}{w:World}(h:PredsI g n k W E vs w)(hk:k<n){A1:Option Addr}{c1 l:Nat}(hl:(Zbr W E (k:Int)).length=l)(hI:Ints w w.heap.size A1 (Zbr W E (k:Int))):
  PredsI g n (k+1) W E (vs.set k (.slice A1 l c1)) (w.setCell ⟨g,k,none⟩ (.slice A1 l c1)):=by
 have hs:(w.setCell ⟨g,k,none⟩ (.slice A1 l c1)).heap.size=w.heap.size:=by simp
 refine⟨h.row.set k _,by rw[List.length_set];exact h.len,fun v hv=> ?_,fun j hj=> ?_⟩
 ·rcases List.mem_or_eq_of_mem_set hv with hv | rfl
  ·exact h.sl v hv
  ·exact⟨_,_,_,rfl⟩
 ·rw [List.getElem?_set]
  by_cases e:k=j
  ·subst e
   rw[Zc rfl,Zc (by rw[h.len];exact hk),hl,hs];exact⟨A1,c1,rfl,hI.stored h.row h.sl _ _⟩
  ·rw [Zb e,hs]
   obtain⟨A2,c2,h1,h2⟩:=h.done j (by omega);exact⟨A2,c2,h1,h2.stored h.row h.sl _ _⟩
structure Waits(B g n:Nat)(W:List Int)(E:List (Int×Int))(w:World):Prop where
 lt:g<B
 at_:∀k,k<n->∃A1 c1,w.cell? ⟨g,k,none⟩=some (.slice A1 (Zbr W E (k:Int)).length c1)/\Ints w B A1 (Zbr W E (k:Int))
theorem Waits.below{B g:Nat}{w w':World}(h:Waits B g n W E w)(hb:Below B w w'):Waits B g n W E w':=
 ⟨h.lt,fun k hk=>by obtain⟨A1,c1,h1,h2⟩:=h.at_ k hk;exact⟨A1,c1,(hb.cell h.lt).trans h1,h2.below hb⟩⟩
theorem Waits.more{B B' g:Nat}{w:World}(h:Waits B g n W E w)(hB:B<=B'):Waits B' g n W E w:=
 ⟨ZE h.lt hB,fun k hk=>by obtain⟨A1,c1,h1,h2⟩:=h.at_ k hk;exact⟨A1,c1,h1,h2.more hB⟩⟩
theorem PredsI.waits{g:Nat}{vs:List Value}{w:World}(h:PredsI g n n W E vs w):Waits w.heap.size g n W E w:=
 ⟨h.row.lt,fun k hk=>by obtain⟨A1,c1,h1,h2⟩:=h.done k hk;exact⟨A1,c1,h.row.cell h1,h2⟩⟩
theorem Zj1(w:World)(h:IsG w A n c F m d W E):
  Calls Zg 230 #[.agg #[.slice A n c,.slice F m d]] w fun e w'=>∃g,e=.returned (.slice (some ⟨g,0,none⟩) n n)/\Waits w'.heap.size g n W E w'/\Below w.heap.size w w'/\w.heap.size<=g:=by
 have ln:=h.ln;have H:=Zf h;have HN:=Zf h.hn;have C:=Zf (fun W' (x:Int) (h:IsG W' A n c F m d W E)=>ZlN W' x h);have HM:=Zf (ZnT n (by omega));obtain⟨w0,hw0⟩:∃w0,w0=w.alloc (.cells #[.slice A n c,.slice F m d] 25):=⟨_,rfl⟩;have HW0:=Zf hw0;have hs0:w0.heap.size=w.heap.size+1:=by rw[hw0];simp
 have hb0:Below w.heap.size w w0:=by rw[hw0];exact Zaa _
 have p0:w0.cell? ⟨w.heap.size,0,none⟩=some (.slice A n c):=by rw[hw0,Zp _ _ _ _ rfl];rfl
 have p1:w0.cell? ⟨w.heap.size,1,none⟩=some (.slice F m d):=by rw[hw0,Zp _ _ _ _ rfl];rfl
 have HB0:=Zf hb0;have P0:=Zf p0;have HS0:=Zf hs0;have P1:=Zf p1;have hmk:=HM.out;have X0:Hid (PredsI (w.heap.size+1) n 0 W E (Zj n (Value.slice none 0 0)) (w0.alloc (.cells (Zj n (Value.slice none 0 0)).toArray 22))):=Zf ⟨by
   have:=RowV.new w0 22 (Zj n (Value.slice none 0 0));rw[hs0]at this;exact this,by simp,fun v hv=>⟨none,0,0,(List.eq_of_mem_replicate hv)⟩,fun j hj=>absurd hj (Yj _)⟩
 have XB:Hid (Below (w.heap.size+1) w0 (w0.alloc (.cells (Zj n (Value.slice none 0 0)).toArray 22))):=Zf (by rw[<-hs0];exact Zaa _);clear h hb0 HM hw0 p0 p1 hs0;rw[HW0.out]at X0 XB;go_enter func230,ntmps230;go_wp2;go_loopw [11] (fun v wr=>∃(k:Nat) (vs:List Value),k<=n/\v=.int .i64 k/\Hid (PredsI (w.heap.size+1) n k W E vs wr)/\Hid (Below (w.heap.size+1) w0 wr)) (fun v _=>n - (intOf v).toNat)
 case atStart=>exact⟨0,_,Zu _,rfl,X0,by rw[HW0.out];exact XB⟩
 case round=>
  obtain⟨k,vs,hk,rfl,HK,HB⟩:=hrel;clear X0 XB hmk;have q0:wr.cell? ⟨w.heap.size,0,none⟩=some (.slice A n c):=(HB.out.cell (ZZ _)).trans P0.out;have q1:wr.cell? ⟨w.heap.size,1,none⟩=some (.slice F m d):=(HB.out.cell (ZZ _)).trans P1.out;have HBW:=Zf (HB0.out.trans (HB.out.mono (Nat.le_succ _)));by_cases hlt:k<n
  ·have C2:=Zf (C.out wr (k: Int) (H.out.below HBW.out))
   go_wp2_with fail;refine C2.out.mono ?_;rintro e w2 ⟨A1,c1,rfl,hI,hb⟩;have HI:=Zf hI;have HB2:=Zf hb;have HK2:=Zf (HK.out.below hb);obtain⟨l,hl⟩:∃l,l=(Zbr W E (k:Int)).length:=⟨_,rfl⟩;rw[<-hl];have HL:=Zf hl;have hrow:=HK2.out.row;obtain⟨v0,hv0⟩:∃v0,vs[k]?=some v0:=⟨_,Zh (by rw[HK.out.len];exact hlt)⟩;have hcell:=hrow.cell hv0;have hfr:=hrow.frozen k;have hglt:=hrow.lt;clear hI hb hl hrow hv0 q0 q1;go_wp2;go_roundw
   case rel=>exact⟨k+1,_,by omega,by go_num,Zf (HK2.out.store hlt HL.out.symm HI.out),Zf ((HB.out.trans (HB2.out.mono (by rw[<-HS0.out];exact HB.out.size))).setCell (Zm _) _)⟩
   case measure=>simp[intOf];omega
  ·obtain rfl: k = n:=by omega
   go_wp2;go_ret;exact⟨_,rfl,HK.out.waits,HBW.out,Nat.le_succ _⟩
end
section
variable {E: List (Int × Int)}{need: List Int}{cores: Nat}{t: List (List Int)}
theorem ZpR{i c:Nat}(h:numT t i c= -1):oneV E need t i c=0:=by unfold oneV;rw[Zc h]
theorem Zle{i c:Nat}(h:numT t i c≠ -1)(h2:numT t i c<0\/(need.length:Int)<=numT t i c):oneV E need t i c=101:=by unfold oneV;rw[Zb h,Zc h2]
theorem ZnU{i c:Nat}(h:numT t i c≠ -1)(h2:¬(numT t i c<0\/(need.length:Int)<=numT t i c))(h3:numT t i c∈(rowT t i).take c):oneV E need t i c=102:=by unfold oneV;rw[Zb h,Zb h2,Zc h3]
theorem ZpS{i c:Nat}(h:numT t i c≠ -1)(h2:¬(numT t i c<0\/(need.length:Int)<=numT t i c))(h3:numT t i c∉(rowT t i).take c)(h4:ZaJ need (numT t i c)<=ranT t (numT t i c) i):oneV E need t i c=105:=by unfold oneV;rw[Zb h,Zb h2,Zb h3,Zc h4]
theorem ZnV{i c:Nat}(h:numT t i c≠ -1)(h2:¬(numT t i c<0\/(need.length:Int)<=numT t i c))(h3:numT t i c∉(rowT t i).take c)(h4:¬ZaJ need (numT t i c)<=ranT t (numT t i c) i)(h5:0<ranT t (numT t i c) i/\numT t (i - 1) c≠numT t i c):oneV E need t i c=104:=by unfold oneV;rw[Zb h,Zb h2,Zb h3,Zb h4,Zc h5]
theorem ZpT{i c:Nat}(h:numT t i c≠ -1)(h2:¬(numT t i c<0\/(need.length:Int)<=numT t i c))(h3:numT t i c∉(rowT t i).take c)(h4:¬ZaJ need (numT t i c)<=ranT t (numT t i c) i)(h5:¬(0<ranT t (numT t i c) i/\numT t (i - 1) c≠numT t i c))(h6:ranT t (numT t i c) i=0/\¬Zdr E need t (numT t i c) i):oneV E need t i c=103:=by unfold oneV;rw[Zb h,Zb h2,Zb h3,Zb h4,Zb h5,Zc h6]
theorem Zlf{i c:Nat}(h:numT t i c≠ -1)(h2:¬(numT t i c<0\/(need.length:Int)<=numT t i c))(h3:numT t i c∉(rowT t i).take c)(h4:¬ZaJ need (numT t i c)<=ranT t (numT t i c) i)(h5:¬(0<ranT t (numT t i c) i/\numT t (i - 1) c≠numT t i c))(h6:¬(ranT t (numT t i c) i=0/\¬Zdr E need t (numT t i c) i)):oneV E need t i c=0:=by unfold oneV;rw[Zb h,Zb h2,Zb h3,Zb h4,Zb h5,Zb h6]
structure Track(cores:Nat)(t:List (List Int))(i:Nat)(ran lt lc:Nat->Int):Prop where
 ran:∀n:Nat,ran n=(ranT t (n:Int) i:Int)
 last:∀n:Nat,0<ranT t (n:Int) i->∃k c:Nat,lt n=(k:Int)/\lc n=(c:Int)/\k<i/\c<cores/\numT t k c=(n:Int)/\∀j,k<j->j<i->(n:Int)∉rowT t j
theorem Track.start(cores:Nat)(t:List (List Int))(lt lc:Nat->Int):Track cores t 0 (fun _=>0) lt lc:=⟨fun n=>by rw[Zbt];rfl,fun n h=>by rw[Zbt]at h;omega⟩
theorem Track.next{i:Nat}{ran lt lc:Nat->Int}(h:Track cores t i ran lt lc)(hi:i<t.length){row:List Int}(hrow:t[i]?=some row)(hl:row.length=cores):
  Track cores t (i+1) (addR row ran cores) (addT row lt (fun _=>(i:Int)) cores) (addT row lc (fun k=>(k:Int)) cores):=by
 have hr:=Zdp hrow;refine⟨fun n=> ?_,fun n hn=> ?_⟩
 ·rw [ZjY row ran cores (by omega),h.ran,Zgc _ hi,hr,Z6 (by omega)]
  omega
 ·have h1:=ZjZ row lt (fun _ => (i: Int)) cores (by omega) n
  have h2:=ZjZ row lc (fun k=>(k:Int)) cores (by omega) n;rw[Z6 (by omega)]at h1 h2;rcases h2 with⟨hno,h2⟩|⟨c,hc,hx,h2⟩
  ·rcases h1 with ⟨_,h1⟩ | ⟨c,hc,hx,_⟩
   ·rw [Zgc _ hi,hr,List.count_eq_zero.mpr hno,Nat.add_zero] at hn
    obtain⟨k,c,e1,e2,hk,hc,hnum,hlast⟩:=h.last n hn;refine⟨k,c,h1.trans e1,h2.trans e2,by omega,hc,hnum,fun j hj hji=> ?_⟩;rcases Zv j i with q|q
    ·exact hlast j hj q
    ·rw[show j=i by omega,hr];exact hno
   ·exfalso
    refine hno ?_;rw[<-hx,Zi,Zh (by omega:c<row.length)];exact Zz _
  ·rcases h1 with ⟨hno,_⟩ | ⟨c',hc',hx',h1⟩
   ·exfalso
    refine hno ?_;rw[<-hx,Zi,Zh (by omega:c<row.length)];exact Zz _
   ·refine ⟨i,c,h1,h2,by omega,hc,?_,fun j hj hji => by omega⟩
    unfold numT;rw[hr];exact hx
theorem Track.split{i:Nat}{ran lt lc:Nat->Int}(h:Track cores t i ran lt lc)(G:Good E need cores (t.take i))(hi:i<=t.length){n c:Nat}(hc:c<cores)(hn:0<ranT t (n:Int) i):
  (lt n=(i:Int) - 1/\lc n=(c:Int))↔numT t (i - 1) c=(n:Int):=by
 obtain⟨k,d,e1,e2,hk,hd,hnum,hlast⟩:=h.last n hn;have hl:(t.take i).length=i:=by rw[ZP];omega
 constructor
 ·rintro ⟨q1,q2⟩
  rw[e1]at q1;rw[e2]at q2;rw[show i - 1=k by omega,show c=d by omega];exact hnum
 ·intro q
  have hrow:rowT (t.take i) (i - 1)=rowT t (i - 1):=Zcn t i (i - 1) (by omega);have hlen:=G.len (show i - 1<(t.take i).length by omega);have hmem:(n:Int)∈rowT t (i - 1):=by rw[<-q];exact ZeU (by rw[<-hrow,hlen];exact hc)
  have hk1:k=i - 1:=by
   rcases Zv k (i - 1)with h1|h1
   ·exact absurd hmem (hlast (i - 1) h1 (by omega))
   ·omega
  subst hk1;have num1:numT (t.take i) (i - 1) c=(n:Int):=by unfold numT at q⊢;rw[hrow];exact q
  have num2:numT (t.take i) (i - 1) d=(n:Int):=by unfold numT at hnum⊢;rw[hrow];exact hnum
  have run:=G.run (n:Int) (by omega) (t.take i).length (Zm _);have hpos:0<ranT (t.take i) (n:Int) (t.take i).length:=by rw[hl,Zcm t _ i i (Zm _)];exact hn
  rcases run with h0|⟨s,m,c',hr⟩
  ·omega
  ·have a1:=(hr.2.2.2.2 (i - 1) (by omega) c hc).mp num1
   have a2:=(hr.2.2.2.2 (i - 1) (by omega) d hd).mp num2;exact⟨by omega,by rw[e2,a2.2,a1.2]⟩
theorem Track.over{i:Nat}{ran lt lc:Nat->Int}(h:Track cores t i ran lt lc)(G:Good E need cores (t.take i))(hp:∀z∈need,1<=z){x:Int}(h0:0<=x)(hx:x<need.length):ZgJ need ran x=decide (ZaJ need x<=ranT t x i):=by obtain⟨n,rfl⟩:∃n:Nat,x=(n:Int):=⟨x.toNat,by omega⟩;unfold ZgJ;rw[Z9,h.ran n];have h1:=G.ran_le hp h0 hx i;rw[Zcm t _ i i (Zm _)]at h1;exact decide_eq_decide.mpr ⟨fun q=>by omega,fun q=>by omega⟩
theorem Track.free{W:List Int}{i:Nat}{ran lt lc:Nat->Int}(h:Track cores t i ran lt lc)(G:Good E need cores (t.take i))(hp:∀z∈need,1<=z)(hM:May W E)(hW:W.length=need.length)(x:Int):
  (Zbr W E x).all (ZgJ need ran)=decide (Zdr E need t x i):=by
 have hpv:Zbr W E x=Zc4 W.length E x:=by unfold Zbr;rw[Zc hM]
 rw[hpv,Bool.eq_iff_iff,ZL,decide_eq_true_iff];have hmem:∀a:Int,a∈Zc4 W.length E x↔(0<=a/\a<W.length)/\(a,x)∈E:=by
  intro a;unfold Zc4;rw[List.mem_filter,List.mem_map,decide_eq_true_iff];constructor
  ·rintro ⟨⟨k,hk,rfl⟩,he⟩
   have hk':k<W.length:=by simpa using hk
   exact⟨⟨Int.natCast_nonneg k,Int.ofNat_lt.mpr hk'⟩,he⟩
  ·rintro ⟨⟨h0,h1⟩,he⟩
   exact⟨⟨a.toNat,by simp;omega,Int.toNat_of_nonneg h0⟩,he⟩
 constructor
 ·intro hall e he hx
  have hf:=hM.fits _ he;have h1:=hall e.1 ((hmem e.1).mpr ⟨⟨hf.1,hf.2.1⟩,by rw[<-hx];exact he⟩);rw[h.over G hp hf.1 (by omega),decide_eq_true_iff]at h1;exact h1
 ·intro hfree a ha
  obtain⟨⟨h0,h1⟩,he⟩:=(hmem a).mp ha;rw[h.over G hp h0 (by omega),decide_eq_true_iff];exact hfree (a,x) he rfl
theorem Track.bound{i:Nat}{ran lt lc:Nat->Int}(h:Track cores t i ran lt lc)(hr:∀r∈t,r.length=cores)(hi:i<=t.length)(ht:t.length<=400)(hc:cores<=400)(n:Nat):0<=ran n/\ran n<=1000000:=by have h1:ranT t (n:Int) i<=(t.take i).flatten.length:=List.count_le_length;rw[ZfC hr i hi]at h1;have h2:cores * i<=400 * 400:=Nat.mul_le_mul hc (by omega);rw[h.ran n];omega
theorem Good.snoc{i:Nat}(G:Good E need cores (t.take i))(hr:∀r∈t,r.length=cores)(h:Za7 (oneV E need t i) cores=0):Good E need cores (t.take (i+1)):=
 ⟨fun r hr'=>hr r (List.mem_of_mem_take hr'),fun j hj c hc=>by
  rw[ZP]at hj;rw[ZcM (i+1) j c (by omega)];rcases Zv j i with h1|h1
  ·have:=G.one j (by rw [ZP]; omega) c hc
   rwa [ZcM i j c h1]at this
  ·rw [show j = i by omega]
   exact firstV_zero.mp h c hc⟩
theorem ZcL{i c:Nat}(G:Good E need cores (t.take i))(hi:i<t.length)(hc:c<cores)(h0:Za7 (oneV E need t i) c=0){r:Int}(h:oneV E need t i c=r)(hr:r≠0):ZdT E need cores t=r:=by
 have h1:ZpV E need cores t i=r:=by unfold ZpV;rw[Zhg h0 (by rw[h];exact hr) hc,h]
 unfold ZdT;rw[Zhg (f:=ZpV E need cores t) (k:=i) (firstV_zero.mpr fun j hj=>firstV_zero.mpr fun c hc=> ?_) (by rw[h1];exact hr) hi,h1];have:=G.one j (by rw[ZP];omega) c hc
 rwa [ZcM i j c hj]at this
theorem Zma(G:Good E need cores (t.take t.length)):ZdT E need cores t=0:=by rw[List.take_length]at G;exact(ZpW G.rows).mp G
end
end Go.Proofs.YtfahabphncmbfaaGreatDoor
