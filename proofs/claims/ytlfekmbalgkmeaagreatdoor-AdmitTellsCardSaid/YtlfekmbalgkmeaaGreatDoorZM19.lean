import Derived.Test.YtlfekmbalgkmeaaGreatDoorZM16
import Derived.Test.YtlfekmbalgkmeaaGreatDoorZM3
import Derived.Test.YtlfekmbalgkmeaaGreatDoorZM10
import Derived.Test.YtlfekmbalgkmeaaGreatDoorZM13
import Derived.Lib.Hide
import Derived.Shelf.Abstract
import Derived.Test.YtlfekmbalgkmeaaGreatDoorZM2
import Derived.Test.YtlfekmbalgkmeaaGreatDoorZM11
import Derived.Laws.StructEq
set_option linter.unusedSimpArgs false
set_option linter.unnecessarySimpa false
set_option linter.unusedVariables false
set_option maxRecDepth 100000
set_option maxHeartbeats 8000000
namespace Go.Proofs.YtlfekmbalgkmeaaGreatDoor
open Go.RowKit
theorem within_any(n a b:Int)(r:Bool)(hr:r=true↔a<=n/\n<=b)(w:World):
  Calls Tryz.prog 136 #[.int .i64 n,.int .i64 a,.int .i64 b] w fun e w'=>e= .returned (.bool r)/\w=w':=by
 by_cases h1:a<=n
 ·by_cases h2: n <= b
  ·obtain rfl: r = true:=hr.mpr ⟨h1,h2⟩
   clear hr;go_enter Tryz.func136,Tryz.ntmps136;go_wp2;go_ret;exact⟨rfl,rfl⟩
  ·obtain rfl: r = false:=by rw [<- Bool.not_eq_true]; exact fun h => h2 (hr.mp h).2
   clear hr;go_enter Tryz.func136,Tryz.ntmps136;go_wp2;go_ret;exact⟨rfl,rfl⟩
 ·obtain rfl: r = false:=by rw [<- Bool.not_eq_true]; exact fun h => h1 (hr.mp h).1
  clear hr;go_enter Tryz.func136,Tryz.ntmps136;go_wp2;go_ret;exact⟨rfl,rfl⟩
theorem isPart_any(n:Int)(c:Nat)(hc:c<=1000)(r:Bool)(hr:r=true↔0<=n/\n<c)(w:World):
  Calls Tryz.prog 166 #[.int .i64 n,.int .i64 c] w fun e w'=>e= .returned (.bool r)/\w=w':=by
 have C:=Lib.hid (within_any n 0 ((c:Int) - 1) r (by rw[hr];omega))
 clear hr;go_enter Tryz.func166,Tryz.ntmps166;go_wp2_with fail;refine(C.out _).mono ?_
 rintro e w' ⟨rfl,rfl⟩;go_wp2;go_ret;exact⟨rfl,rfl⟩
theorem twoParts_any(a b:Int)(c:Nat)(hc:c<=1000)(r:Bool)(hr:r=true↔(0<=a/\a<c)/\(0<=b/\b<c)/\a≠b)(w:World):
  Calls Tryz.prog 140 #[.int .i64 a,.int .i64 b,.int .i64 c] w fun e w'=>e= .returned (.bool r)/\w=w':=by
 by_cases h1:0<=a/\a<c
 ·have C1:=Lib.hid (isPart_any a c hc true ⟨fun _ => h1,fun _ => rfl⟩)
  by_cases h2:0<=b/\b<c
  ·have C2:=Lib.hid (isPart_any b c hc true ⟨fun _ => h2,fun _ => rfl⟩)
   by_cases h3:a=b
   ·obtain rfl: r = false:=by rw [<- Bool.not_eq_true]; exact fun h => (hr.mp h).2.2 h3
    have hb:(a !=b)=false:=by simpa using h3
    clear hr h1 h2 h3 hc;go_enter Tryz.func140,Tryz.ntmps140;go_wp2_with fail;refine(C1.out _).mono ?_
    rintro e w' ⟨rfl,rfl⟩;go_wp2_with fail;refine(C2.out _).mono ?_
    rintro e w' ⟨rfl,rfl⟩;go_wp2;go_ret;exact⟨rfl,rfl⟩
   ·obtain rfl: r = true:=hr.mpr ⟨h1,h2,h3⟩
    have hb:(a !=b)=true:=by simpa using h3
    clear hr h1 h2 h3 hc;go_enter Tryz.func140,Tryz.ntmps140;go_wp2_with fail;refine(C1.out _).mono ?_
    rintro e w' ⟨rfl,rfl⟩;go_wp2_with fail;refine(C2.out _).mono ?_
    rintro e w' ⟨rfl,rfl⟩;go_wp2;go_ret;exact⟨rfl,rfl⟩
  ·have C2:=Lib.hid (isPart_any b c hc false ⟨fun q => Bool.noConfusion q,fun q => absurd q h2⟩)
   obtain rfl:r=false:=by rw[<-Bool.not_eq_true];exact fun h=>h2 (hr.mp h).2.1
   clear hr h1 h2 hc;go_enter Tryz.func140,Tryz.ntmps140;go_wp2_with fail;refine(C1.out _).mono ?_
   rintro e w' ⟨rfl,rfl⟩;go_wp2_with fail;refine(C2.out _).mono ?_
   rintro e w' ⟨rfl,rfl⟩;go_wp2;go_ret;exact⟨rfl,rfl⟩
 ·have C1:=Lib.hid (isPart_any a c hc false ⟨fun q => Bool.noConfusion q,fun q => absurd q h1⟩)
  obtain rfl:r=false:=by rw[<-Bool.not_eq_true];exact fun h=>h1 (hr.mp h).1
  clear hr h1 hc;go_enter Tryz.func140,Tryz.ntmps140;go_wp2_with fail;refine(C1.out _).mono ?_
  rintro e w' ⟨rfl,rfl⟩;go_wp2;go_ret;exact⟨rfl,rfl⟩
section
variable {P: Option Addr} {np pc: Nat} {E: Option Addr} {ne ec: Nat} {F: Option Addr} {nf fc: Nat} {R: Option Addr} {nr rc: Nat} {p q: Int}
theorem counts_any(r:Bool)(hr:r=true↔1<=np/\np<=16/\ne<=48/\nf<=16/\nr<=4)(w:World)(h0:np<=1000)(h1:ne<=1000)(h2:nf<=1000)(h3:nr<=1000):
  Calls Tryz.prog 103 #[.agg #[.int .i64 p,.int .i64 q,.slice P np pc,.slice E ne ec,.slice F nf fc,.slice R nr rc]] w fun e w'=>e= .returned (.bool r)/\Below w.heap.size w w':=by
 by_cases k1:1<=np/\np<=16
 ·have C:=Lib.hid (within_any np 1 16 true ⟨fun _ => by omega,fun _ => rfl⟩)
  by_cases k:ne<=48/\nf<=16/\nr<=4
  ·obtain rfl: r = true:=hr.mpr ⟨k1.1,k1.2,k⟩
   obtain⟨g1,g2,g3⟩:=k;clear hr k1 h0 h1 h2 h3;go_enter Tryz.func103,Tryz.ntmps103;go_wp2_with fail;refine(C.out _).mono ?_
   rintro e w' ⟨rfl,rfl⟩;go_wp2;go_ret;exact⟨by first|rfl|(refine congrArg (fun b=>Ending.returned (Value.bool b)) (?_:decide _=_);rw[decide_eq_true_iff];omega),below_alloc _⟩
  ·obtain rfl: r = false:=by rw [<- Bool.not_eq_true]; exact fun h => k (hr.mp h).2.2
   rcases(show 48<ne\/(ne<=48/\16<nf)\/(ne<=48/\nf<=16/\4<nr) by omega)with g1|⟨g1,g2⟩|⟨g1,g2,g3⟩
   all_goals
    clear hr k1 k;go_enter Tryz.func103,Tryz.ntmps103;go_wp2_with fail;refine(C.out _).mono ?_
    rintro e w' ⟨rfl,rfl⟩;go_wp2;go_ret;exact⟨by first|rfl|(refine congrArg (fun b=>Ending.returned (Value.bool b)) (?_:decide _=_);rw[decide_eq_false_iff_not];omega),below_alloc _⟩
 ·have C:=Lib.hid (within_any np 1 16 false ⟨fun q => Bool.noConfusion q,fun q => absurd q (by omega)⟩)
  obtain rfl:r=false:=by rw[<-Bool.not_eq_true];exact fun h=>k1 ⟨(hr.mp h).1,(hr.mp h).2.1⟩
  clear hr k1 h0 h1 h2 h3;go_enter Tryz.func103,Tryz.ntmps103;go_wp2_with fail;refine(C.out _).mono ?_
  rintro e w' ⟨rfl,rfl⟩;go_wp2;go_ret;exact⟨rfl,below_alloc _⟩
theorem ntwo_any(p:Int): ∃k:Int,∀w:World,Tab64 w->Calls Tryz.prog 100 #[.int .i64 p] w fun e w'=>e= .returned (.tuple #[.int .i64 k,.bool (isTwo p)])/\w=w':=by
 by_cases h:isTwo p=true
 ·rw [h]
  obtain⟨k,hk,rfl⟩:=isTwo_iff.mp h;exact⟨k,two_yes k hk⟩
 ·rw [Bool.not_eq_true] at h
  rw[h];refine⟨0,fun w _=>two_no p w fun k hk e=> ?_⟩
  rw[isTwo_iff.mpr ⟨k,hk,e⟩]at h;cases h
theorem times_any(w:World)(hT:DTab w):
    Calls Tryz.prog 104 #[.agg #[.int .i64 p, .int .i64 q, .slice P np pc, .slice E ne ec, .slice F nf fc, .slice R nr rc]] w fun e w'=>e= .returned (.bool (timeE p q))/\Below w.heap.size w w':=by
  obtain⟨k,hC⟩:=ntwo_any p;have C:=Lib.hid hC;have HT:=Lib.hid (fun o=>Tab64.via hT (below_alloc (w:=w) o))
  clear hC hT;unfold timeE;cases ht:isTwo p with
  | false =>
    rw[ht]at C;clear ht;go_enter Tryz.func104,Tryz.ntmps104;go_wp2_with fail;refine(C.out _ (HT.out _)).mono ?_
    rintro e w' ⟨rfl,rfl⟩;go_wp2;go_ret;exact⟨rfl,below_alloc _⟩
  | true =>
    rw[ht]at C;clear ht
    by_cases h1:p<=4096
    · rw[decide_eq_true h1]
      by_cases h2:1<=q/\q<=p
      · rw[decide_eq_true h2.1,decide_eq_true h2.2];have D:=Lib.hid (within_any q 1 p true ⟨fun _=>h2,fun _=>rfl⟩)
        clear h2;go_enter Tryz.func104,Tryz.ntmps104;go_wp2_with fail;refine(C.out _ (HT.out _)).mono ?_
        rintro e w' ⟨rfl,rfl⟩;go_wp2_with fail;refine(D.out _).mono ?_
        rintro e w' ⟨rfl,rfl⟩;go_wp2;go_ret;exact⟨rfl,below_alloc _⟩
      · rw[show(true&&true&&decide (1<=q)&&decide (q<=p))=false by
          rcases(show¬1<=q\/ ¬q<=p by omega)with h|h
          · rw[decide_eq_false h];rfl
          · rw[decide_eq_false h];cases decide (1<=q)<;>rfl]
        have D:=Lib.hid (within_any q 1 p false ⟨fun x=>Bool.noConfusion x,fun x=>absurd x h2⟩)
        clear h2;go_enter Tryz.func104,Tryz.ntmps104;go_wp2_with fail;refine(C.out _ (HT.out _)).mono ?_
        rintro e w' ⟨rfl,rfl⟩;go_wp2_with fail;refine(D.out _).mono ?_
        rintro e w' ⟨rfl,rfl⟩;go_wp2;go_ret;exact⟨rfl,below_alloc _⟩
    · rw[decide_eq_false h1];go_enter Tryz.func104,Tryz.ntmps104;go_wp2_with fail;refine(C.out _ (HT.out _)).mono ?_
      rintro e w' ⟨rfl,rfl⟩;go_wp2;go_ret;exact⟨rfl,below_alloc _⟩
end
theorem idx_of(A:Option Addr)(c n:Nat)(l:List Int)(x:Int)(w:World)(B:Nat)(hn:l.length=n)(hl:n<=1000)(hI:Ints w B A l):
  Calls Tryz.prog 99 #[.slice A n c,.int .i64 x] w fun e w'=> ∃r,e= .returned (.int .i64 r)/\w=w'/\(0<=r↔x∈l):=by
 have HN:=Lib.hid hn;have HI:=Lib.hid hI;clear hn hI;go_enter Tryz.func99,Tryz.ntmps99;go_wp2;go_loop [8] (fun v=> ∃k:Nat,k<=n/\v= .int .i64 k/\Hid (x∉l.take k)) (fun v=>n - (intOf v).toNat)
 case atStart=>exact⟨0,Nat.zero_le _,rfl,Lib.hid (by simp)⟩
 case round=>
  obtain⟨k,hk,rfl,HF⟩:=hrel
  by_cases hlt:k<n
  ·obtain ⟨bk,off,z,rfl,hbg,hek,d1⟩:=HI.out.at_ (k:=k) (by rw [HN.out]; exact hlt)
   have HEK:=Lib.hid hek;clear hek
   by_cases hx:x=z
   ·have HX:=Lib.hid hx
    have hb:(x==z)=true:=by simpa using hx
    clear hx;go_wp2;go_ret;exact⟨_,rfl,rfl,⟨fun _=>by rw[HX.out];exact List.mem_of_getElem? HEK.out,fun _=>by omega⟩⟩
   ·have HX:=Lib.hid hx
    have hb:(x==z)=false:=by simpa using hx
    clear hx;go_wp2;go_round
    case rel=>exact⟨k+1,by omega,by go_num,Lib.hid (by
     rw[List.take_add_one,HEK.out,List.mem_append];rintro(h|h)
     ·exact HF.out h
     ·exact HX.out (by simpa using h))⟩
    case measure=>simp[intOf];omega
  ·have e: k = n:=by omega
   subst e;go_wp2;go_ret;refine⟨_,rfl,rfl,⟨fun h=>absurd h (by decide),fun h=> ?_⟩⟩
   have:=HF.out;rw[List.take_of_length_le (by rw[HN.out];exact Nat.le_refl _)]at this
   exact absurd h this
theorem in_any(A:Option Addr)(c n:Nat)(l:List Int)(x:Int)(r:Bool)(hr:r=true↔x∈l)(w:World)(B:Nat)(hn:l.length=n)(hl:n<=1000)(hI:Ints w B A l):
    Calls Tryz.prog 77 #[.slice A n c, .int .i64 x] w fun e w'=>e= .returned (.bool r)/\w=w':=by
  have C:=idx_of A c n l x w B hn hl hI;have HR:=Lib.hid hr;clear hn hI hr;go_enter Tryz.func77,Tryz.ntmps77;go_wp2_with fail;refine C.mono ?_
  rintro e w1 ⟨v,rfl,rfl,hv⟩;have HV:=Lib.hid hv;clear hv;cases r with
  | true =>
    have hg:0<=v:=HV.out.mpr (HR.out.mp rfl);go_wp2;go_ret;exact⟨rfl,rfl⟩
  | false =>
    have hg:decide (0<=v)=false:=by
      rw[decide_eq_false_iff_not];exact fun h=>absurd (HR.out.mpr (HV.out.mp h)) (by simp)
    go_wp2;go_ret
    exact⟨rfl,rfl⟩
theorem idx_part(A:Option Addr)(c n:Nat)(es:List (Int×Int×Int))(g:Nat)(lb:Array Value)(eg: ∀args w,(callFunc g args).run Tryz.prog w= .ok (.enter g args) w)(p:Nat->Bool)(I:Nat->World->Prop)(B:Nat)(hn:es.length=n)(hl:n<=1000)
    (hT: ∀k W,I k W->Trips W B A es)
    (hp: ∀k x y z W,es[k]? =some (x,y,z)->I k W->Calls Tryz.prog g (#[.agg #[.int .i64 x, .int .i64 y, .int .i64 z]]++lb) W fun e w'=>e= .returned (.bool (p k))/\I (k+1) w')
    (w:World) (h0:I 0 w):
    Calls Tryz.prog 165 #[.slice A n c, .func (.func g) #[] lb] w fun e w'=> ∃r k,e= .returned (.int .i64 r)/\I k w'/\(0<=r↔ ∃j,j<n/\p j=true):=by
  have HT:=Lib.hid hT;have HP:=Lib.hid hp;have HN:=Lib.hid hn;have H0:=Lib.hid h0;clear hT hp hn h0;go_enter Tryz.func165,Tryz.ntmps165;go_wp2;go_loopw [8] (fun v wr=> ∃k:Nat,k<=n/\v= .int .i64 k/\Hid (I k wr)/\Hid (∀j,j<k->p j=false)) (fun v _=>n - (intOf v).toNat)
  case atStart=>exact⟨0,Nat.zero_le _,rfl,H0,Lib.hid (fun j hj=>absurd hj (Nat.not_lt_zero _))⟩
  case round=>
    obtain⟨k,hk,rfl,HI,HF⟩:=hrel;clear H0
    by_cases hlt:k<n
    · obtain⟨bk,off,x,y,z,rfl,hbg,hek,d1,d2,d3⟩:=(HT.out k wr HI.out).at_ (k:=k) (by rw[HN.out];exact hlt)
      have HEK:=Lib.hid hek;have hcall:=HP.out k x y z wr hek HI.out;clear hek
      skip
      cases hq:p k with
      | true =>
        have HQ:=Lib.hid hq;rw[hq]at hcall;clear hq
        go_wp2_with(go_at_fn g;refine hcall.mono ?_;rintro e w' ⟨rfl,hb'⟩)
        go_ret;exact⟨_,k+1,rfl,hb',⟨fun _=>⟨k,hlt,HQ.out⟩,fun _=>by omega⟩⟩
      | false =>
        have HQ:=Lib.hid hq;rw[hq]at hcall;clear hq
        go_wp2_with(go_at_fn g;refine hcall.mono ?_;rintro e w' ⟨rfl,hb'⟩;have HB:=Lib.hid hb';clear hb')
        go_roundw
        case rel=>exact⟨k+1,by omega,by go_num,HB,Lib.hid (fun j hj=>by
          by_cases e:j=k
          · rw[e];exact HQ.out
          · exact HF.out j (by omega))⟩
        case measure=>simp[intOf];omega
    · have e:k=n:=by omega
      subst e;go_wp2;go_ret;exact⟨_,k,rfl,HI.out,⟨fun h=>absurd h (by decide),fun⟨j,hj,hpj⟩=>by rw[HF.out j hj]at hpj;cases hpj⟩⟩
theorem has_part(A:Option Addr)(c n:Nat)(es:List (Int×Int×Int))(g:Nat)(lb:Array Value)(eg: ∀args w,(callFunc g args).run Tryz.prog w= .ok (.enter g args) w)(p:Nat->Bool)(I:Nat->World->Prop)(B:Nat)(hn:es.length=n)(hl:n<=1000)
    (hT: ∀k W,I k W->Trips W B A es)
    (hp: ∀k x y z W,es[k]? =some (x,y,z)->I k W->Calls Tryz.prog g (#[.agg #[.int .i64 x, .int .i64 y, .int .i64 z]]++lb) W fun e w'=>e= .returned (.bool (p k))/\I (k+1) w')
    (r:Bool) (hr:r=true↔ ∃j,j<n/\p j=true) (w:World) (h0:I 0 w):
    Calls Tryz.prog 137 #[.slice A n c, .func (.func g) #[] lb] w fun e w'=>e= .returned (.bool r)/\ ∃k,I k w':=by
  have C:=idx_part A c n es g lb eg p I B hn hl hT hp w h0;have HR:=Lib.hid hr;clear hT hp hn h0 hr;go_enter Tryz.func137,Tryz.ntmps137;go_wp2_with fail;refine C.mono ?_
  rintro e w1 ⟨v,k,rfl,hI,hv⟩;have HI:=Lib.hid hI;have HV:=Lib.hid hv;clear hI hv;cases r with
  | true =>
    have hg:0<=v:=HV.out.mpr (HR.out.mp rfl);go_wp2;go_ret;exact⟨rfl,k,HI.out⟩
  | false =>
    have hg:decide (0<=v)=false:=by
      rw[decide_eq_false_iff_not];exact fun h=>absurd (HR.out.mpr (HV.out.mp h)) (by simp)
    go_wp2;go_ret
    exact⟨rfl,k,HI.out⟩
theorem idx_future(A:Option Addr)(c n:Nat)(es:List (Int×Int×Int))(g:Nat)(lb:Array Value)(eg: ∀args w,(callFunc g args).run Tryz.prog w= .ok (.enter g args) w)(p:Nat->Bool)(I:Nat->World->Prop)(B:Nat)(hn:es.length=n)(hl:n<=1000)
    (hT: ∀k W,I k W->Trips W B A es)
    (hp: ∀k x y z W,es[k]? =some (x,y,z)->I k W->Calls Tryz.prog g (#[.agg #[.int .i64 x, .int .i64 y, .int .i64 z]]++lb) W fun e w'=>e= .returned (.bool (p k))/\I (k+1) w')
    (w:World) (h0:I 0 w):
    Calls Tryz.prog 168 #[.slice A n c, .func (.func g) #[] lb] w fun e w'=> ∃r k,e= .returned (.int .i64 r)/\I k w'/\(0<=r↔ ∃j,j<n/\p j=true):=by
  have HT:=Lib.hid hT;have HP:=Lib.hid hp;have HN:=Lib.hid hn;have H0:=Lib.hid h0;clear hT hp hn h0;go_enter Tryz.func168,Tryz.ntmps168;go_wp2;go_loopw [8] (fun v wr=> ∃k:Nat,k<=n/\v= .int .i64 k/\Hid (I k wr)/\Hid (∀j,j<k->p j=false)) (fun v _=>n - (intOf v).toNat)
  case atStart=>exact⟨0,Nat.zero_le _,rfl,H0,Lib.hid (fun j hj=>absurd hj (Nat.not_lt_zero _))⟩
  case round=>
    obtain⟨k,hk,rfl,HI,HF⟩:=hrel;clear H0
    by_cases hlt:k<n
    · obtain⟨bk,off,x,y,z,rfl,hbg,hek,d1,d2,d3⟩:=(HT.out k wr HI.out).at_ (k:=k) (by rw[HN.out];exact hlt)
      have HEK:=Lib.hid hek;have hcall:=HP.out k x y z wr hek HI.out;clear hek
      skip
      cases hq:p k with
      | true =>
        have HQ:=Lib.hid hq;rw[hq]at hcall;clear hq
        go_wp2_with(go_at_fn g;refine hcall.mono ?_;rintro e w' ⟨rfl,hb'⟩)
        go_ret;exact⟨_,k+1,rfl,hb',⟨fun _=>⟨k,hlt,HQ.out⟩,fun _=>by omega⟩⟩
      | false =>
        have HQ:=Lib.hid hq;rw[hq]at hcall;clear hq
        go_wp2_with(go_at_fn g;refine hcall.mono ?_;rintro e w' ⟨rfl,hb'⟩;have HB:=Lib.hid hb';clear hb')
        go_roundw
        case rel=>exact⟨k+1,by omega,by go_num,HB,Lib.hid (fun j hj=>by
          by_cases e:j=k
          · rw[e];exact HQ.out
          · exact HF.out j (by omega))⟩
        case measure=>simp[intOf];omega
    · have e:k=n:=by omega
      subst e;go_wp2;go_ret;exact⟨_,k,rfl,HI.out,⟨fun h=>absurd h (by decide),fun⟨j,hj,hpj⟩=>by rw[HF.out j hj]at hpj;cases hpj⟩⟩
theorem has_future(A:Option Addr)(c n:Nat)(es:List (Int×Int×Int))(g:Nat)(lb:Array Value)(eg: ∀args w,(callFunc g args).run Tryz.prog w= .ok (.enter g args) w)(p:Nat->Bool)(I:Nat->World->Prop)(B:Nat)(hn:es.length=n)(hl:n<=1000)
    (hT: ∀k W,I k W->Trips W B A es)
    (hp: ∀k x y z W,es[k]? =some (x,y,z)->I k W->Calls Tryz.prog g (#[.agg #[.int .i64 x, .int .i64 y, .int .i64 z]]++lb) W fun e w'=>e= .returned (.bool (p k))/\I (k+1) w')
    (r:Bool) (hr:r=true↔ ∃j,j<n/\p j=true) (w:World) (h0:I 0 w):
    Calls Tryz.prog 143 #[.slice A n c, .func (.func g) #[] lb] w fun e w'=>e= .returned (.bool r)/\ ∃k,I k w':=by
  have C:=idx_future A c n es g lb eg p I B hn hl hT hp w h0;have HR:=Lib.hid hr;clear hT hp hn h0 hr;go_enter Tryz.func143,Tryz.ntmps143;go_wp2_with fail;refine C.mono ?_
  rintro e w1 ⟨v,k,rfl,hI,hv⟩;have HI:=Lib.hid hI;have HV:=Lib.hid hv;clear hI hv;cases r with
  | true =>
    have hg:0<=v:=HV.out.mpr (HR.out.mp rfl);go_wp2;go_ret;exact⟨rfl,k,HI.out⟩
  | false =>
    have hg:decide (0<=v)=false:=by
      rw[decide_eq_false_iff_not];exact fun h=>absurd (HR.out.mpr (HV.out.mp h)) (by simp)
    go_wp2;go_ret
    exact⟨rfl,k,HI.out⟩
theorem idx_edge(A:Option Addr)(c n:Nat)(es:List (Int×Int))(g:Nat)(lb:Array Value)(eg: ∀args w,(callFunc g args).run Tryz.prog w= .ok (.enter g args) w)(p:Nat->Bool)(I:Nat->World->Prop)(B:Nat)(hn:es.length=n)(hl:n<=1000)
    (hT: ∀k W,I k W->Pairs W B A es)
    (hp: ∀k x y W,es[k]? =some (x,y)->I k W->Calls Tryz.prog g (#[.agg #[.int .i64 x, .int .i64 y]]++lb) W fun e w'=>e= .returned (.bool (p k))/\I (k+1) w')
    (w:World) (h0:I 0 w):
    Calls Tryz.prog 167 #[.slice A n c, .func (.func g) #[] lb] w fun e w'=> ∃r k,e= .returned (.int .i64 r)/\I k w'/\(0<=r↔ ∃j,j<n/\p j=true):=by
  have HT:=Lib.hid hT;have HP:=Lib.hid hp;have HN:=Lib.hid hn;have H0:=Lib.hid h0;clear hT hp hn h0;go_enter Tryz.func167,Tryz.ntmps167;go_wp2;go_loopw [8] (fun v wr=> ∃k:Nat,k<=n/\v= .int .i64 k/\Hid (I k wr)/\Hid (∀j,j<k->p j=false)) (fun v _=>n - (intOf v).toNat)
  case atStart=>exact⟨0,Nat.zero_le _,rfl,H0,Lib.hid (fun j hj=>absurd hj (Nat.not_lt_zero _))⟩
  case round=>
    obtain⟨k,hk,rfl,HI,HF⟩:=hrel;clear H0
    by_cases hlt:k<n
    · obtain⟨bk,off,⟨x,y⟩,rfl,hbg,hek,d1,d2⟩:=(HT.out k wr HI.out).at_ (k:=k) (by rw[HN.out];exact hlt)
      have HEK:=Lib.hid hek;have hcall:=HP.out k x y wr hek HI.out;clear hek;simp only at d1 d2;cases hq:p k with
      | true =>
        have HQ:=Lib.hid hq;rw[hq]at hcall;clear hq
        go_wp2_with(go_at_fn g;refine hcall.mono ?_;rintro e w' ⟨rfl,hb'⟩)
        go_ret;exact⟨_,k+1,rfl,hb',⟨fun _=>⟨k,hlt,HQ.out⟩,fun _=>by omega⟩⟩
      | false =>
        have HQ:=Lib.hid hq;rw[hq]at hcall;clear hq
        go_wp2_with(go_at_fn g;refine hcall.mono ?_;rintro e w' ⟨rfl,hb'⟩;have HB:=Lib.hid hb';clear hb')
        go_roundw
        case rel=>exact⟨k+1,by omega,by go_num,HB,Lib.hid (fun j hj=>by
          by_cases e:j=k
          · rw[e];exact HQ.out
          · exact HF.out j (by omega))⟩
        case measure=>simp[intOf];omega
    · have e:k=n:=by omega
      subst e;go_wp2;go_ret;exact⟨_,k,rfl,HI.out,⟨fun h=>absurd h (by decide),fun⟨j,hj,hpj⟩=>by rw[HF.out j hj]at hpj;cases hpj⟩⟩
theorem has_edge(A:Option Addr)(c n:Nat)(es:List (Int×Int))(g:Nat)(lb:Array Value)(eg: ∀args w,(callFunc g args).run Tryz.prog w= .ok (.enter g args) w)(p:Nat->Bool)(I:Nat->World->Prop)(B:Nat)(hn:es.length=n)(hl:n<=1000)
    (hT: ∀k W,I k W->Pairs W B A es)
    (hp: ∀k x y W,es[k]? =some (x,y)->I k W->Calls Tryz.prog g (#[.agg #[.int .i64 x, .int .i64 y]]++lb) W fun e w'=>e= .returned (.bool (p k))/\I (k+1) w')
    (r:Bool) (hr:r=true↔ ∃j,j<n/\p j=true) (w:World) (h0:I 0 w):
    Calls Tryz.prog 141 #[.slice A n c, .func (.func g) #[] lb] w fun e w'=>e= .returned (.bool r)/\ ∃k,I k w':=by
  have C:=idx_edge A c n es g lb eg p I B hn hl hT hp w h0;have HR:=Lib.hid hr;clear hT hp hn h0 hr;go_enter Tryz.func141,Tryz.ntmps141;go_wp2_with fail;refine C.mono ?_
  rintro e w1 ⟨v,k,rfl,hI,hv⟩;have HI:=Lib.hid hI;have HV:=Lib.hid hv;clear hI hv;cases r with
  | true =>
    have hg:0<=v:=HV.out.mpr (HR.out.mp rfl);go_wp2;go_ret;exact⟨rfl,k,HI.out⟩
  | false =>
    have hg:decide (0<=v)=false:=by
      rw[decide_eq_false_iff_not];exact fun h=>absurd (HR.out.mpr (HV.out.mp h)) (by simp)
    go_wp2;go_ret
    exact⟨rfl,k,HI.out⟩
theorem didx_int(A:Option Addr)(c n:Nat)(es:List Int)(g:Nat)(lb:Array Value)(eg: ∀args w,(callFunc g args).run Tryz.prog w= .ok (.enter g args) w)(p:Nat->Bool)(I:Nat->World->Prop)(B:Nat)(hn:es.length=n)(hl:n<=1000)
    (hT: ∀k W,I k W->Ints W B A es)
    (hp: ∀k x W,es[k]? =some x->I k W->Calls Tryz.prog g (#[.int .i64 x]++lb) W fun e w'=>e= .returned (.bool (p k))/\I (k+1) w')
    (w:World) (h0:I 0 w):
    Calls Tryz.prog 81 #[.slice A n c, .func (.func g) #[] lb] w fun e w'=> ∃r k,e= .returned (.int .i64 r)/\I k w'/\(0<=r↔ ∃j,j<n/\p j=true):=by
  have HT:=Lib.hid hT;have HP:=Lib.hid hp;have HN:=Lib.hid hn;have H0:=Lib.hid h0;clear hT hp hn h0;go_enter Tryz.func81,Tryz.ntmps81;go_wp2;go_loopw [8] (fun v wr=> ∃k:Nat,k<=n/\v= .int .i64 k/\Hid (I k wr)/\Hid (∀j,j<k->p j=false)) (fun v _=>n - (intOf v).toNat)
  case atStart=>exact⟨0,Nat.zero_le _,rfl,H0,Lib.hid (fun j hj=>absurd hj (Nat.not_lt_zero _))⟩
  case round=>
    obtain⟨k,hk,rfl,HI,HF⟩:=hrel;clear H0
    by_cases hlt:k<n
    · obtain⟨bk,off,x,rfl,hbg,hek,d1⟩:=(HT.out k wr HI.out).at_ (k:=k) (by rw[HN.out];exact hlt)
      have HEK:=Lib.hid hek;have hcall:=HP.out k x wr hek HI.out;clear hek
      skip
      cases hq:p k with
      | true =>
        have HQ:=Lib.hid hq;rw[hq]at hcall;clear hq
        go_wp2_with(go_at_fn g;refine hcall.mono ?_;rintro e w' ⟨rfl,hb'⟩)
        go_ret;exact⟨_,k+1,rfl,hb',⟨fun _=>⟨k,hlt,HQ.out⟩,fun _=>by omega⟩⟩
      | false =>
        have HQ:=Lib.hid hq;rw[hq]at hcall;clear hq
        go_wp2_with(go_at_fn g;refine hcall.mono ?_;rintro e w' ⟨rfl,hb'⟩;have HB:=Lib.hid hb';clear hb')
        go_roundw
        case rel=>exact⟨k+1,by omega,by go_num,HB,Lib.hid (fun j hj=>by
          by_cases e:j=k
          · rw[e];exact HQ.out
          · exact HF.out j (by omega))⟩
        case measure=>simp[intOf];omega
    · have e:k=n:=by omega
      subst e;go_wp2;go_ret;exact⟨_,k,rfl,HI.out,⟨fun h=>absurd h (by decide),fun⟨j,hj,hpj⟩=>by rw[HF.out j hj]at hpj;cases hpj⟩⟩
theorem dhas_int(A:Option Addr)(c n:Nat)(es:List Int)(g:Nat)(lb:Array Value)(eg: ∀args w,(callFunc g args).run Tryz.prog w= .ok (.enter g args) w)(p:Nat->Bool)(I:Nat->World->Prop)(B:Nat)(hn:es.length=n)(hl:n<=1000)
    (hT: ∀k W,I k W->Ints W B A es)
    (hp: ∀k x W,es[k]? =some x->I k W->Calls Tryz.prog g (#[.int .i64 x]++lb) W fun e w'=>e= .returned (.bool (p k))/\I (k+1) w')
    (r:Bool) (hr:r=true↔ ∃j,j<n/\p j=true) (w:World) (h0:I 0 w):
    Calls Tryz.prog 148 #[.slice A n c, .func (.func g) #[] lb] w fun e w'=>e= .returned (.bool r)/\ ∃k,I k w':=by
  have C:=didx_int A c n es g lb eg p I B hn hl hT hp w h0;have HR:=Lib.hid hr;clear hT hp hn h0 hr;go_enter Tryz.func148,Tryz.ntmps148;go_wp2_with fail;refine C.mono ?_
  rintro e w1 ⟨v,k,rfl,hI,hv⟩;have HI:=Lib.hid hI;have HV:=Lib.hid hv;clear hI hv;cases r with
  | true =>
    have hg:0<=v:=HV.out.mpr (HR.out.mp rfl);go_wp2;go_ret;exact⟨rfl,k,HI.out⟩
  | false =>
    have hg:decide (0<=v)=false:=by
      rw[decide_eq_false_iff_not];exact fun h=>absurd (HR.out.mpr (HV.out.mp h)) (by simp)
    go_wp2;go_ret
    exact⟨rfl,k,HI.out⟩
theorem idx_bar(A:Option Addr)(c n:Nat)(es:List (List Int×List Int))(g:Nat)(lb:Array Value)(eg: ∀args w,(callFunc g args).run Tryz.prog w= .ok (.enter g args) w)(p:Nat->Bool)(I:Nat->World->Prop)(B:Nat)(hn:es.length=n)(hl:n<=1000)
    (hT: ∀k W,I k W->Bars W B A es)
    (hp: ∀k xs ys A1 n1 c1 A2 n2 c2 W,es[k]? =some (xs,ys)->xs.length=n1->ys.length=n2->Ints W B A1 xs->Ints W B A2 ys->(A1=none->n1=0/\c1=0)->(A2=none->n2=0/\c2=0)->I k W->Calls Tryz.prog g (#[.agg #[.slice A1 n1 c1, .slice A2 n2 c2]]++lb) W fun e w'=>e= .returned (.bool (p k))/\I (k+1) w')
    (w:World) (h0:I 0 w):
    Calls Tryz.prog 169 #[.slice A n c, .func (.func g) #[] lb] w fun e w'=> ∃r k,e= .returned (.int .i64 r)/\I k w'/\(0<=r↔ ∃j,j<n/\p j=true):=by
  have HT:=Lib.hid hT;have HP:=Lib.hid hp;have HN:=Lib.hid hn;have H0:=Lib.hid h0;clear hT hp hn h0;go_enter Tryz.func169,Tryz.ntmps169;go_wp2;go_loopw [8] (fun v wr=> ∃k:Nat,k<=n/\v= .int .i64 k/\Hid (I k wr)/\Hid (∀j,j<k->p j=false)) (fun v _=>n - (intOf v).toNat)
  case atStart=>exact⟨0,Nat.zero_le _,rfl,H0,Lib.hid (fun j hj=>absurd hj (Nat.not_lt_zero _))⟩
  case round=>
    obtain⟨k,hk,rfl,HI,HF⟩:=hrel;clear H0
    by_cases hlt:k<n
    · obtain⟨bk,off,xs,ys,A1,n1,c1,A2,n2,c2,rfl,hbg,hek,hn1,hn2,d1,d2,hxs,hys,hz1,hz2⟩:=(HT.out k wr HI.out).at_ (k:=k) (by rw[HN.out];exact hlt)
      have HEK:=Lib.hid hek;have hcall:=HP.out k xs ys A1 n1 c1 A2 n2 c2 wr hek hn1 hn2 hxs hys hz1 hz2 HI.out;clear hek hn1 hn2 hxs hys hz1 hz2
      skip
      cases hq:p k with
      | true =>
        have HQ:=Lib.hid hq;rw[hq]at hcall;clear hq
        go_wp2_with(go_at_fn g;refine hcall.mono ?_;rintro e w' ⟨rfl,hb'⟩)
        go_ret;exact⟨_,k+1,rfl,hb',⟨fun _=>⟨k,hlt,HQ.out⟩,fun _=>by omega⟩⟩
      | false =>
        have HQ:=Lib.hid hq;rw[hq]at hcall;clear hq
        go_wp2_with(go_at_fn g;refine hcall.mono ?_;rintro e w' ⟨rfl,hb'⟩;have HB:=Lib.hid hb';clear hb')
        go_roundw
        case rel=>exact⟨k+1,by omega,by go_num,HB,Lib.hid (fun j hj=>by
          by_cases e:j=k
          · rw[e];exact HQ.out
          · exact HF.out j (by omega))⟩
        case measure=>simp[intOf];omega
    · have e:k=n:=by omega
      subst e;go_wp2;go_ret;exact⟨_,k,rfl,HI.out,⟨fun h=>absurd h (by decide),fun⟨j,hj,hpj⟩=>by rw[HF.out j hj]at hpj;cases hpj⟩⟩
theorem has_bar(A:Option Addr)(c n:Nat)(es:List (List Int×List Int))(g:Nat)(lb:Array Value)(eg: ∀args w,(callFunc g args).run Tryz.prog w= .ok (.enter g args) w)(p:Nat->Bool)(I:Nat->World->Prop)(B:Nat)(hn:es.length=n)(hl:n<=1000)
    (hT: ∀k W,I k W->Bars W B A es)
    (hp: ∀k xs ys A1 n1 c1 A2 n2 c2 W,es[k]? =some (xs,ys)->xs.length=n1->ys.length=n2->Ints W B A1 xs->Ints W B A2 ys->(A1=none->n1=0/\c1=0)->(A2=none->n2=0/\c2=0)->I k W->Calls Tryz.prog g (#[.agg #[.slice A1 n1 c1, .slice A2 n2 c2]]++lb) W fun e w'=>e= .returned (.bool (p k))/\I (k+1) w')
    (r:Bool) (hr:r=true↔ ∃j,j<n/\p j=true) (w:World) (h0:I 0 w):
    Calls Tryz.prog 144 #[.slice A n c, .func (.func g) #[] lb] w fun e w'=>e= .returned (.bool r)/\ ∃k,I k w':=by
  have C:=idx_bar A c n es g lb eg p I B hn hl hT hp w h0;have HR:=Lib.hid hr;clear hT hp hn h0 hr;go_enter Tryz.func144,Tryz.ntmps144;go_wp2_with fail;refine C.mono ?_
  rintro e w1 ⟨v,k,rfl,hI,hv⟩;have HI:=Lib.hid hI;have HV:=Lib.hid hv;clear hI hv;cases r with
  | true =>
    have hg:0<=v:=HV.out.mpr (HR.out.mp rfl);go_wp2;go_ret;exact⟨rfl,k,HI.out⟩
  | false =>
    have hg:decide (0<=v)=false:=by
      rw[decide_eq_false_iff_not];exact fun h=>absurd (HR.out.mpr (HV.out.mp h)) (by simp)
    go_wp2;go_ret
    exact⟨rfl,k,HI.out⟩
theorem onePart_any(x y z:Int)(r:Bool)(hr:r=true↔ ¬partOk (x,y,z))(w:World):
  Calls Tryz.prog 138 #[.agg #[.int .i64 x,.int .i64 y,.int .i64 z]] w fun e w'=>e= .returned (.bool r)/\Below w.heap.size w w':=by
 unfold partOk at hr;simp only at hr
 by_cases h1:x<0
 ·obtain rfl: r = true:=hr.mpr (by omega)
  clear hr;go_enter Tryz.func138,Tryz.ntmps138;go_wp2;go_ret;exact⟨rfl,below_alloc _⟩
 ·by_cases h2: 5 < x
  ·obtain rfl: r = true:=hr.mpr (by omega)
   clear hr;go_enter Tryz.func138,Tryz.ntmps138;go_wp2;go_ret;exact⟨rfl,below_alloc _⟩
  ·by_cases h3: 0 <= y /\ y <= 2147483647
   ·have C:=Lib.hid (within_any y 0 2147483647 true ⟨fun _ => h3,fun _ => rfl⟩)
    by_cases h4:1<=z/\z<=100
    ·have D:=Lib.hid (within_any z 1 100 true ⟨fun _ => h4,fun _ => rfl⟩)
     obtain rfl:r=false:=by rw[<-Bool.not_eq_true];exact fun h=>hr.mp h ⟨by omega,by omega,h3.1,h3.2,h4.1,h4.2⟩
     clear hr h3 h4;go_enter Tryz.func138,Tryz.ntmps138;go_wp2_with fail;refine(C.out _).mono ?_
     rintro e w' ⟨rfl,rfl⟩;go_wp2_with fail;refine(D.out _).mono ?_
     rintro e w' ⟨rfl,rfl⟩;go_wp2;go_ret;exact⟨rfl,below_alloc _⟩
    ·have D:=Lib.hid (within_any z 1 100 false ⟨fun q => Bool.noConfusion q,fun q => absurd q h4⟩)
     obtain rfl:r=true:=hr.mpr (fun q=>h4 ⟨q.2.2.2.2.1,q.2.2.2.2.2⟩)
     clear hr h3 h4;go_enter Tryz.func138,Tryz.ntmps138;go_wp2_with fail;refine(C.out _).mono ?_
     rintro e w' ⟨rfl,rfl⟩;go_wp2_with fail;refine(D.out _).mono ?_
     rintro e w' ⟨rfl,rfl⟩;go_wp2;go_ret;exact⟨rfl,below_alloc _⟩
   ·have C:=Lib.hid (within_any y 0 2147483647 false ⟨fun q => Bool.noConfusion q,fun q => absurd q h3⟩)
    obtain rfl:r=true:=hr.mpr (fun q=>h3 ⟨q.2.2.1,q.2.2.2.1⟩)
    clear hr h3;go_enter Tryz.func138,Tryz.ntmps138;go_wp2_with fail;refine(C.out _).mono ?_
    rintro e w' ⟨rfl,rfl⟩;go_wp2;go_ret;exact⟨rfl,below_alloc _⟩
theorem rparts_any(A:Option Addr)(c n:Nat)(es:List (Int×Int×Int))(r:Bool)(hr:r=true↔partsOk es)(w:World)(hn:es.length=n)(hl:n<=1000)(hT:Trips w w.heap.size A es):
    Calls Tryz.prog 105 #[.slice A n c] w fun e w'=>e= .returned (.bool r)/\Below w.heap.size w w':=by
  have C:=Lib.hid (has_part A c n es 138 #[] (eg_of Tryz.func138 (by kernel_rfl) rfl) (fun k=>match es[k]? with|some e=> !decide (partOk e)|none=>false) (fun _ W=>Below w.heap.size w W) w.heap.size hn hl
    (fun k W h=>hT.below h)
    (fun k x y z W hk h=>(onePart_any x y z (!decide (partOk (x,y,z))) (by simp) W).mono fun e w' ⟨he,hb⟩=>⟨by rw[he];simp only[hk],h.trans (hb.mono h.size)⟩)
    (!r) (by
      rw[Bool.not_eq_true',<-Bool.not_eq_true,hr];unfold partsOk;constructor
      · intro h;rw[Classical.not_forall]at h;obtain⟨e,h⟩:=h;rw[Classical.not_imp]at h;obtain⟨j,hj,he⟩:=List.getElem_of_mem h.1;refine⟨j,by omega,?_⟩
        rw[List.getElem?_eq_getElem hj,he]
        simp[h.2]
      · rintro⟨j,hj,h⟩ hall;rw[List.getElem?_eq_getElem (by omega)]at h
        simp only[Bool.not_eq_true',decide_eq_false_iff_not]at h;exact h (hall _ (List.getElem_mem _)))
    w (Below.refl _ _))
  clear hT hr;go_enter Tryz.func105,Tryz.ntmps105;go_wp2_with fail;refine C.out.mono ?_
  rintro e w1 ⟨rfl,k,hb⟩;cases r with
  | true =>
    go_wp2;go_ret
    exact⟨rfl,hb⟩
  | false =>
    go_wp2;go_ret
    exact⟨rfl,hb⟩
theorem edge_fields:(Tryz.prog.fieldsOf 131).toList.map (fun f=>(f.name,f.type,f.offset))= [("From",3,0),("To",3,1)]:=by kernel_rfl
theorem part_int(x y:Int)(W:World):(part 3 #[.int .i64 x,.int .i64 y] 0).run Tryz.prog W= .ok (.int .i64 x) W/\(part 3 #[.int .i64 x,.int .i64 y] 1).run Tryz.prog W= .ok (.int .i64 y) W:=⟨by kernel_rfl,by kernel_rfl⟩
theorem edge_eq(x y u v:Int)(W:World):(Op.equalIn 10000 131 (.agg #[.int .i64 x, .int .i64 y]) (.agg #[.int .i64 u, .int .i64 v])).run Tryz.prog W= .ok (x==u&&y==v) W:=by
  have hf:=edge_fields;rw[run_equalIn_agg (d:=9999) W 131 _ _ (by kernel_rfl) (by kernel_rfl)]
  generalize (Tryz.prog.fieldsOf 131).toList=fs at hf
  match fs,hf with
  | [],hf=>simp at hf
  | [_],hf=>simp at hf
  |_::_::_::_,hf=>simp at hf
  | [f, g], hf =>
    simp only[List.map_cons,List.map_nil,List.cons.injEq,Prod.mk.injEq,and_true]at hf;obtain⟨⟨n1,t1,o1⟩,n2,t2,o2⟩:=hf;have e1:=fun a b W=>run_equalIn_int (P:=Tryz.prog) W 9998 3 .i64 .i64 a b Tryz.underlying3
    have p1:=fun a b W=>(part_int a b W).1
    have p2:=fun a b W=>(part_int a b W).2
    simp only[Op.eqFields,n1,n2,t1,t2,o1,o2]
    by_cases h1:x=u
    · subst h1
      by_cases h2:y=v
      · simp[p1,p2,e1,h2]
      · simp[p1,p2,e1,h2]
    · simp[p1,p2,e1,h1]
theorem edge_eql_run(x y u v:Int)(W:World):(binOp .eql 131 (.agg #[.int .i64 x,.int .i64 y]) (.agg #[.int .i64 u,.int .i64 v])).run Tryz.prog W= .ok (.bool (x==u&&y==v)) W:=by
 rw[run_eql_struct,edge_eq];rfl
theorem sameEdge_any(x y u v:Int)(g:Nat)(r:Bool)(hr:r=true↔(x,y)=(u,v))(w:World)(h0:w.cell? ⟨g,0,none⟩=some (.int .i64 u))(h1:w.cell? ⟨g,1,none⟩=some (.int .i64 v)):
  Calls Tryz.prog 139 #[.agg #[.int .i64 x,.int .i64 y],.pointer (some ⟨g,0,none⟩)] w fun e w'=>e= .returned (.bool r)/\Below w.heap.size w w':=by
 have hrun:=fun W=>edge_eql_run x y u v W
 obtain rfl:r=(x==u&&y==v):=by
  rw[Bool.eq_iff_iff,hr];simp
 have hg:=World.block_lt_of_cell? _ _ h0
 simp only at hg;clear hr;go_enter Tryz.func139,Tryz.ntmps139;go_wp2;go_ret;exact⟨rfl,below_alloc _⟩
structure BxE2(w:World)(E:Option Addr)(g:Nat)(x y:Int)(es:List (Int×Int))(w':World):Prop where
 bel:Below w.heap.size w w'
 e0:w'.cell? ⟨g,0,none⟩=some (.int .i64 x)
 e1:w'.cell? ⟨g,1,none⟩=some (.int .i64 y)
 l:Pairs w' w.heap.size E es
theorem BxE2.next{w w1 w2:World}{E:Option Addr}{g:Nat}{x y:Int}{es:List (Int×Int)}(h:BxE2 w E g x y es w1)(hb:Below w1.heap.size w1 w2):BxE2 w E g x y es w2:=
 ⟨h.bel.trans (hb.mono h.bel.size),(hb.cell (World.block_lt_of_cell? _ _ h.e0)).trans h.e0,(hb.cell (World.block_lt_of_cell? _ _ h.e1)).trans h.e1,h.l.keep fun a ha=>hb.cell (Nat.lt_of_lt_of_le ha h.bel.size)⟩
theorem Pairs.take{w:World}{B:Nat}{A:Option Addr}{es:List (Int×Int)}(h:Pairs w B A es)(k:Nat):Pairs w B A (es.take k):=fun hn=>by
 obtain⟨b,off,e,hb,hc⟩:=h (by rw[List.length_take]at hn;omega)
 refine⟨b,off,e,hb,fun j x hx=>hc j x ?_⟩
 rw[List.getElem?_take]at hx
 split at hx
 ·exact hx
 ·cases hx
theorem redges_any(E:Option Addr)(ec ne np:Nat)(es:List (Int×Int))(r:Bool)(hr:r=true↔EdgesOk np es)(w:World)(hm:es.length=ne)(hl:ne<=1000)(hp:np<=1000)(hc:ne<=ec)(hP:Pairs w w.heap.size E es):
  Calls Tryz.prog 106 #[.slice E ne ec,.int .i64 np] w fun e w'=>e= .returned (.bool r)/\Below w.heap.size w w':=by
 have HM:=Lib.hid hm;have HR:=Lib.hid hr;have HP:=Lib.hid hP;clear hP hm hr;go_enter Tryz.func106,Tryz.ntmps106;go_wp2;go_loopw [10] (fun v wr=> ∃k:Nat,k<=ne/\v= .int .i64 k/\Hid (Below w.heap.size w wr)/\Hid (EdgesOk np (es.take k))) (fun v _=>ne - (intOf v).toNat)
 case atStart=>exact⟨0,Nat.zero_le _,rfl,Lib.hid (Below.refl _ _),Lib.hid ⟨fun e he=>by simp at he,fun e he=>by simp at he,by simp⟩⟩
 case round=>
  obtain⟨k,hk,rfl,BR,HE⟩:=hrel
  by_cases hlt:k<ne
  ·have hPr:=HP.out.below BR.out
   obtain⟨bk,off,⟨x,y⟩,rfl,hbg,hek,d1,d2⟩:=hPr.at_ (k:=k) (by rw[HM.out];exact hlt)
   simp only at d1 d2;have HS:=Lib.hid (edgesOk_snoc (n:=np) hek);have HBAD:=Lib.hid (fun h: ¬EdgesOk np (es.take (k+1))=>show r=false by
    rw[<-Bool.not_eq_true];exact fun z=>h (edgesOk_take (HR.out.mp z) _))
   have X1:Hid (BxE2 w (some ⟨bk,off,none⟩) wr.heap.size x y es (wr.alloc (.cells #[.int .i64 x,.int .i64 y] 131))):=
    Lib.hid ⟨BR.out.trans ((below_alloc _).mono BR.out.size),by rw[World.cell?_alloc_at _ _ _ _ rfl];rfl,by rw[World.cell?_alloc_at _ _ _ _ rfl];rfl,hPr.keep fun a ha=>World.cell?_alloc_lt _ _ _ (Nat.lt_of_lt_of_le ha BR.out.size)⟩
   clear hek hPr
   by_cases p1:(0<=x/\x<np)/\(0<=y/\y<np)/\x≠y
   ·have C1:=Lib.hid (twoParts_any x y np hp true ⟨fun _ => p1,fun _ => rfl⟩)
    have C2:=Lib.hid (fun(r':Bool) (hr':r'=true↔(x,y)∈es.take k) W hW=>has_edge (some ⟨bk,off,none⟩) ec k (es.take k) 139 #[.pointer (some ⟨wr.heap.size,0,none⟩)] (eg_of Tryz.func139 (by kernel_rfl) rfl)
     (fun j=>decide ((es.take k)[j]? =some (x,y))) (fun _ W=>BxE2 w (some ⟨bk,off,none⟩) wr.heap.size x y es W) w.heap.size (by rw[List.length_take,HM.out];omega) (by omega)
     (fun j W h=>h.l.take k)
     (fun j u v W hj h=>(sameEdge_any u v x y wr.heap.size (decide ((es.take k)[j]? =some (x,y))) (by rw[decide_eq_true_iff,hj];simp) W h.e0 h.e1).mono fun e w' ⟨he,hb⟩=>⟨he,h.next hb⟩)
     r' (by
      rw[hr',List.mem_iff_getElem?]
      constructor
      ·rintro ⟨j,hj⟩
       refine⟨j,?_,by rw[hj];simp⟩
       have:=(List.getElem?_eq_some_iff.1 hj).1
       rw[List.length_take]at this;omega
      ·rintro ⟨j,_,hj⟩
       exact⟨j,by simpa using hj⟩) W hW)
    have hk2:k<=ec:=by omega
    by_cases p2:(x,y)∈es.take k
    ·have C3:=Lib.hid (C2.out true ⟨fun _ => p2,fun _ => rfl⟩)
     have HX:=Lib.hid (HBAD.out (fun z=>(HS.out.mp z).2.2.2.2 p2))
     clear p1 p2;go_wp2_with fail;refine(C1.out _).mono ?_
     rintro e w2 ⟨rfl,rfl⟩;go_wp2_with fail;refine(C3.out _ X1.out).mono ?_
     rintro e w3 ⟨rfl,_,hX⟩;have X3:=Lib.hid hX;clear hX d1 d2;go_wp2;go_ret;exact⟨by rw[HX.out];rfl,X3.out.bel⟩
    ·have C3:=Lib.hid (C2.out false ⟨fun q => Bool.noConfusion q,fun q => absurd q p2⟩)
     have HOK:=Lib.hid (HS.out.mpr ⟨HE.out,p1.1,p1.2.1,p1.2.2,p2⟩);clear p1 p2;go_wp2_with fail;refine(C1.out _).mono ?_
     rintro e w2 ⟨rfl,rfl⟩;go_wp2_with fail;refine(C3.out _ X1.out).mono ?_
     rintro e w3 ⟨rfl,_,hX⟩;have X3:=Lib.hid hX;clear hX d1 d2;go_wp2;go_roundw
     case rel=>exact⟨k+1,by omega,by go_num,Lib.hid X3.out.bel,HOK⟩
     case measure=>simp[intOf];omega
   ·have C1:=Lib.hid (twoParts_any x y np hp false ⟨fun q => Bool.noConfusion q,fun q => absurd q p1⟩)
    have HX:=Lib.hid (HBAD.out (fun z=>p1 ⟨(HS.out.mp z).2.1,(HS.out.mp z).2.2.1,(HS.out.mp z).2.2.2.1⟩))
    clear p1;go_wp2_with fail;refine(C1.out _).mono ?_
    rintro e w2 ⟨rfl,rfl⟩;go_wp2;go_ret;exact⟨by rw[HX.out];rfl,X1.out.bel⟩
  ·have e: ne = k:=by omega
   subst e;have HYES:=Lib.hid (show r=true from HR.out.mpr (by
    have h:=HE.out
    rwa [List.take_of_length_le (by rw[HM.out];omega)]at h))
   go_wp2;go_ret
   exact⟨by rw[HYES.out];rfl,BR.out⟩
end Go.Proofs.YtlfekmbalgkmeaaGreatDoor
