import Derived.Test.YtngdbbligebcbabGreatDoorZM9
import Derived.WalkMore
import Derived.Laws.ResultCell
import Derived.Test.YtngdbbligebcbabGreatDoorZShelf
import Derived.Test.YtngdbbligebcbabGreatDoorZM7
import Derived.Test.YtngdbbligebcbabGreatDoorZM6
set_option linter.unusedSimpArgs false
set_option linter.unusedVariables false
set_option maxRecDepth 100000
set_option maxHeartbeats 4000000
namespace Go.Proofs.YtngdbbligebcbabGreatDoor
open Go.RowKit
theorem sub_zero_iff{P T:Nat}(hP:P<18446744073709551616)(hT:T<18446744073709551616):P &&& (18446744073709551615 - T)=0↔ ∀a,P.testBit a=true->T.testBit a=true:=by
 have hc: ∀a,(18446744073709551615 - T).testBit a=(decide (a<64)&& !T.testBit a):=fun a=>by
  have h:=Nat.testBit_two_pow_sub_succ (n:=64) (x:=T) hT a;rw[<-h];congr 1;omega
 have hb: ∀a,P.testBit a=true->a<64:=fun a ha=>by
  rcases Nat.lt_or_ge a 64 with h|h
  ·exact h
  ·rw [Nat.testBit_lt_two_pow (Nat.lt_of_lt_of_le hP (Nat.pow_le_pow_right (by decide) h: 2 ^ 64 <= 2 ^ a))] at ha
   cases ha
 constructor
 ·intro h a ha
  have h1:(P &&& (18446744073709551615 - T)).testBit a=false:=by rw[h,Nat.zero_testBit]
  rw[Nat.testBit_and,hc,ha,decide_eq_true (hb a ha)]at h1
  simpa using h1
 ·intro h
  apply Nat.eq_of_testBit_eq
  intro a;rw[Nat.testBit_and,hc,Nat.zero_testBit];cases hp:P.testBit a with
  |false=>rfl
  |true=>rw[h a hp];simp
structure MaskOf(T:Nat)(out:List Nat):Prop where
 lt:T<18446744073709551616
 bit: ∀a,T.testBit a=decide (a∈out)
theorem MaskOf.nil:MaskOf 0 []:=⟨by decide,fun a=>by rw[Nat.zero_testBit];simp⟩
theorem MaskOf.snoc{T:Nat}{out:List Nat}(h:MaskOf T out){m:Nat}(hm:m<64):MaskOf (T ||| 2^m) (out++ [m]):=by
 refine⟨Nat.or_lt_two_pow (n:=64) h.lt (Nat.pow_lt_pow_right (by decide) hm),fun a=> ?_⟩
 rw[or_bit_testBit,h.bit,Bool.eq_iff_iff,Bool.or_eq_true,decide_eq_true_iff,decide_eq_true_iff,decide_eq_true_iff,List.mem_append,List.mem_singleton];exact or_congr_right ⟨Eq.symm,Eq.symm⟩
theorem ready_mask{n:Nat}{E:List (Int×Int)}{ps:List Nat}(hF:Fits n E)(h:PredsOf n E ps){T:Nat}{out:List Nat}(hM:MaskOf T out){m:Nat}(hm:m<n):
  ready n E out m=true↔T.testBit m=false/\ps.getD m 0 &&& (18446744073709551615 - T)=0:=by
 rw[ready_iff hF,sub_zero_iff (h.lt m hm) hM.lt,hM.bit,decide_eq_false_iff_not];refine and_congr_right fun _=>⟨fun k a ha=> ?_,fun k a ha=> ?_⟩
 ·rw [h.bit m hm,decide_eq_true_iff] at ha
  rw[hM.bit,decide_eq_true_iff];exact k a ha
 ·have:=k a (by rw [h.bit m hm,decide_eq_true_iff]; exact ha)
  rwa [hM.bit,decide_eq_true_iff]at this
def vlen:Value->Nat
 | .slice _ n _=>n
 |_=>0
theorem arrange_any(g n:Nat)(E:List (Int×Int))(ps:List Nat)(w:World)(hl:n<=64)(hF:Fits n E)(hPS:PredsOf n E ps)(hV:RowN g ps w):
    Calls Tryz.prog 128 #[.slice (some ⟨g,0,none⟩) n n] w fun e w'=>Below w.heap.size w w'/\
      ((Acyc E/\ ∃A c,e= .returned (.tuple #[.slice A n c, .bool true])/\OwnI w' w.heap.size (.slice A n c) (nums (ord n E)))\/(¬Acyc E/\e= .returned (.tuple #[.slice none 0 0, .bool false]))):=by
  have HF:=Lib.hid hF;have HPS:=Lib.hid hPS;have HV:=Lib.hid hV;have CH:=Lib.hid (fun s x hs hx W'=>set_has s x W' hs hx)
  have CW:=Lib.hid (fun s x hs hx W'=>set_with s x W' hs hx)
  have HGL:=Lib.hid hV.lt;clear hF hPS hV;go_enter Tryz.func128,Tryz.ntmps128;go_wp2
  go_step3
  go_wp2
  go_step3
  go_wp2;go_loopw [4,5] (fun v tv wr=> ∃(j T:Nat) (A:Option Addr) (c:Nat),j<=n/\v= .slice A j c/\tv= .int .u64 T/\Hid ((ordK n E j).length=j)/\Hid (MaskOf T (ordK n E j))/\Hid (OwnI wr w.heap.size (.slice A j c) (nums (ordK n E j)))/\Hid (Below w.heap.size w wr)) (fun v _ _=>n - vlen v)
  case atStart=>exact⟨0,0,none,0,Nat.zero_le _,rfl,rfl,Lib.hid rfl,Lib.hid MaskOf.nil,Lib.hid (ownI_nil _ _),Lib.hid (Below.refl _ _)⟩
  case round=>
    obtain⟨j,T,A,c,hj,rfl,rfl,HL,HM,HO,HB⟩:=hrel
    by_cases hlt:j<n
    · obtain⟨out,hout⟩: ∃out,out=ordK n E j:=⟨_,rfl⟩;have HOUT:=Lib.hid hout;rw[<-hout]at HO HM HL;clear hout;have hT64:=HM.out.lt;go_wp2;go_loopw [4,5,15] (fun v tv i wi=> ∃p:Nat,p<=n/\i= .int .i64 p/\v= .slice A j c/\tv= .int .u64 T/\Hid (∀q,q<p->ready n E out q=false)/\wi=wr) (fun _ _ i _=>n - (intOf i).toNat)
      case atStart=>exact⟨0,Nat.zero_le _,rfl,rfl,rfl,Lib.hid (fun q hq=>by omega),rfl⟩
      case round=>
        obtain⟨p,hp,rfl,rfl,rfl,HNR,rfl⟩:=hrel;have hsz:=HB.out.size
        by_cases hlt2:p<n
        · have hc1:=(HV.out.below HB.out HGL.out).cell (natsV_at (ps:=ps) (j:=p) (by rw[HPS.out.len];exact hlt2))
          have C1:=Lib.hid (CH.out T p hT64 (by omega) wr)
          have C2:=Lib.hid (CW.out T p hT64 (by omega) wr)
          have hps:=HPS.out.lt p hlt2;have HR:=Lib.hid (ready_mask HF.out HPS.out HM.out hlt2);obtain⟨q,hq⟩: ∃q,q=ps.getD p 0:=⟨_,rfl⟩;rw[<-hq]at hc1 hps HR;have hz:=u64_andNot_nat q T hps hT64;obtain⟨z,hz2⟩: ∃z,z=q &&& (18446744073709551615 - T):=⟨_,rfl⟩;rw[<-hz2]at hz HR;have hgw:g<wr.heap.size:=by have:=HGL.out;omega
          clear hq hz2;cases hb:T.testBit p with
          | true =>
            rw[hb]at C1;have HRF:=Lib.hid (show ready n E out p=false by
              rw[<-Bool.not_eq_true,HR.out,hb];exact fun h=>Bool.noConfusion h.1)
            clear hb
            go_wp2_with(go_at_call 103;refine C1.out.mono ?_;rintro e w' ⟨rfl,rfl⟩)
            go_roundw
            case rel=>exact⟨p+1,by omega,by go_num,rfl,rfl,Lib.hid (fun q hq=>by
              rcases Nat.lt_or_ge q p with h|h
              · exact HNR.out q h
              · obtain rfl:q=p:=by omega
                exact HRF.out),(by first|trivial|rfl)⟩
            case measure=>simp[intOf];omega
          | false =>
            rw[hb]at C1
            by_cases hz0:z=0
            · have HRT:=Lib.hid (HR.out.mpr ⟨hb,hz0⟩);have HPK:=Lib.hid (pick_at hlt2 HRT.out HNR.out);have HOK:=Lib.hid (ordK_some (n:=n) (E:=E) (k:=j) (by rw[<-HOUT.out];exact HPK.out))
              have hze:((z:Int)==0)=true:=by simpa using hz0
              clear hb hz0
              go_wp2_with(first
                |(go_at_call 103;refine C1.out.mono ?_;rintro e w' ⟨rfl,rfl⟩)
                |(go_at_call 104;refine(CW.out T p hT64 (by omega) _).mono ?_;rintro e w' ⟨rfl,rfl⟩)
                |(at_builtin;refine wpList_push rfl _ _ rfl wr w.heap.size _ (nums out) (p:Int) j (by rw[nums_length];exact HL.out) (by omega) HO.out hsz rfl rfl ?_;intro A4 c4 w4 HO4 HB4;(have HO4':=Lib.hid HO4);(have HB4':=Lib.hid HB4);clear HO4 HB4))
              go_roundw
              case rel=>exact⟨j+1,T ||| 2^p,A4,c4,by omega,rfl,rfl,Lib.hid (by rw[HOK.out,<-HOUT.out,List.length_append,HL.out];rfl),Lib.hid (by rw[HOK.out,<-HOUT.out];exact HM.out.snoc (by omega)),Lib.hid (by rw[HOK.out,<-HOUT.out,nums_snoc];exact HO4'.out),Lib.hid (HB.out.trans HB4'.out)⟩
              case measure=>simp[vlen];omega
            · have HRF:=Lib.hid (show ready n E out p=false by
                rw[<-Bool.not_eq_true,HR.out];exact fun h=>hz0 h.2)
              have hze:((z:Int)==0)=false:=by simpa using hz0
              clear hb hz0
              go_wp2_with(go_at_call 103;refine C1.out.mono ?_;rintro e w' ⟨rfl,rfl⟩)
              go_roundw
              case rel=>exact⟨p+1,by omega,by go_num,rfl,rfl,Lib.hid (fun q hq=>by
                rcases Nat.lt_or_ge q p with h|h
                · exact HNR.out q h
                · obtain rfl:q=p:=by omega
                  exact HRF.out),(by first|trivial|rfl)⟩
              case measure=>simp[intOf];omega
        · obtain rfl:p=n:=by omega
          have HNA:Hid (¬Acyc E):=Lib.hid (fun hA=>by
            obtain⟨m,hm⟩:=pick_some HF.out hA (ordK_ordered HF.out j) (by rw[<-HOUT.out,HL.out];exact hlt)
            rw[<-HOUT.out,pick_nil HNR.out]at hm;cases hm)
          go_wp2
          try rw[Exit.noGoto_ret]
          go_ret2
          exact⟨HB.out, .inr ⟨HNA.out,rfl⟩⟩
    · obtain rfl:j=n:=by omega
      have HA:Hid (Acyc E):=Lib.hid ((ordK_ordered HF.out j).acyc HL.out HF.out);go_wp2
      try rw[Exit.noGoto_ret]
      go_ret2
      exact⟨HB.out, .inl ⟨HA.out,A,c,rfl,HO.out⟩⟩
section
variable {A: Option Addr} {n c: Nat} {F: Option Addr} {m d: Nat} {W: List Int} {E: List (Int × Int)}
structure IsR(w:World)(g n:Nat)(A:Option Addr)(c:Nat)(E:List (Int×Int))(w':World):Prop where
 bel:Below w.heap.size w w'
 ints:Ints w' w'.heap.size A (nums (ord n E))
 row: ∃ps,RowN g ps w'/\PredsOf n E ps
 low: ∀b o s,A=some ⟨b,o,s⟩->w.heap.size<=b
theorem link_yes(n:Nat)(w:World)(hl:n<=64)(hm:E.length=m)(hk:m<=1000)(hP:Pairs w w.heap.size F E)(h:EdgesOk n E):
  Calls Tryz.prog 127 #[.int .i64 n,.slice F m d] w fun e w'=> ∃g,e= .returned (.tuple #[.slice (some ⟨g,0,none⟩) n n,.bool true])/\Below w.heap.size w w'/\w.heap.size<=g/\ ∃ps,RowN g ps w'/\PredsOf n E ps:=by
 refine(link_any F n m d E w hl hm hk hP).mono ?_
 rintro e w' ⟨b,⟨_,g,ps,he,hg,h1,h2⟩|⟨hn,_⟩⟩
 ·exact⟨g,he,b,hg,ps,h1,h2⟩
 ·exact absurd h hn
theorem link_not(n:Nat)(w:World)(hl:n<=64)(hm:E.length=m)(hk:m<=1000)(hP:Pairs w w.heap.size F E)(h: ¬EdgesOk n E):
  Calls Tryz.prog 127 #[.int .i64 n,.slice F m d] w fun e w'=>e= .returned (.tuple #[.slice none 0 0,.bool false])/\Below w.heap.size w w':=by
 refine(link_any F n m d E w hl hm hk hP).mono ?_
 rintro e w' ⟨b,⟨hy,_⟩|⟨_,he⟩⟩
 ·exact absurd hy h
 ·exact⟨he,b⟩
theorem arrange_yes(g n:Nat)(w:World)(hl:n<=64)(hF:Fits n E)(hR: ∃ps,RowN g ps w/\PredsOf n E ps)(h:Acyc E):
  Calls Tryz.prog 128 #[.slice (some ⟨g,0,none⟩) n n] w fun e w'=> ∃A c,e= .returned (.tuple #[.slice A n c,.bool true])/\Below w.heap.size w w'/\OwnI w' w.heap.size (.slice A n c) (nums (ord n E)):=by
 obtain⟨ps,hV,hPS⟩:=hR;refine(arrange_any g n E ps w hl hF hPS hV).mono ?_
 rintro e w' ⟨b,⟨_,A,c,he,hI⟩|⟨hn,_⟩⟩
 ·exact⟨A,c,he,b,hI⟩
 ·exact absurd h hn
theorem arrange_not(g n:Nat)(w:World)(hl:n<=64)(hF:Fits n E)(hR: ∃ps,RowN g ps w/\PredsOf n E ps)(h: ¬Acyc E):
  Calls Tryz.prog 128 #[.slice (some ⟨g,0,none⟩) n n] w fun e w'=>e= .returned (.tuple #[.slice none 0 0,.bool false])/\Below w.heap.size w w':=by
 obtain⟨ps,hV,hPS⟩:=hR;refine(arrange_any g n E ps w hl hF hPS hV).mono ?_
 rintro e w' ⟨b,⟨hy,_⟩|⟨_,he⟩⟩
 ·exact absurd hy h
 ·exact⟨he,b⟩
structure StR(w:World)(A:Option Addr)(n c:Nat)(F:Option Addr)(m d:Nat)(W:List Int)(E:List (Int×Int))(w':World):Prop where
 bel:Below w.heap.size w w'
 p0:w'.cell? ⟨w.heap.size,0,none⟩=some (.slice A n c)
 p1:w'.cell? ⟨w.heap.size,1,none⟩=some (.slice F m d)
 q:w'.heap[w.heap.size+1]? =some (.cells #[.slice none 0 0,.slice none 0 0] 129 (0,0))
 g:IsG w' A n c F m d W E
theorem StR.lt{w w':World}(h:StR w A n c F m d W E w'):w.heap.size+1<w'.heap.size:=(Array.getElem?_eq_some_iff.1 h.q).1
theorem StR.next{w w1 w2:World}(h:StR w A n c F m d W E w1)(hb:Below w1.heap.size w1 w2):StR w A n c F m d W E w2:=
 ⟨h.bel.trans (hb.mono h.bel.size),(hb.cell (World.block_lt_of_cell? _ _ h.p0)).trans h.p0,(hb.cell (World.block_lt_of_cell? _ _ h.p1)).trans h.p1,by rw[hb.block _ h.lt];exact h.q,h.g.below hb⟩
theorem StR.start{w:World}(h:IsG w A n c F m d W E):StR w A n c F m d W E ((w.alloc (.cells #[.slice A n c,.slice F m d] 25)).alloc (.cells #[.slice none 0 0,.slice none 0 0] 129)):=by
 obtain⟨w1,h1⟩: ∃w1,w1=w.alloc (.cells #[.slice A n c,.slice F m d] 25):=⟨_,rfl⟩;rw[<-h1];have s1:w1.heap.size=w.heap.size+1:=by rw[h1];simp
 have b1:Below w.heap.size w w1:=by rw[h1];exact below_alloc _
 have b2:=below_alloc (w:=w1) (.cells #[.slice none 0 0,.slice none 0 0] 129);refine⟨b1.trans (b2.mono (by omega)),?_,?_,?_,(h.below b1).below b2⟩
 ·refine (b2.cell (by show w.heap.size < _; omega)).trans ?_
  rw[h1,World.cell?_alloc_at _ _ _ _ rfl];rfl
 ·refine (b2.cell (by show w.heap.size < _; omega)).trans ?_
  rw[h1,World.cell?_alloc_at _ _ _ _ rfl];rfl
 ·rw[<-s1];exact heap_alloc_new w1 _
theorem StR.cells{w w':World}(h:StR w A n c F m d W E w'):w'.cell? ⟨w.heap.size,0,none⟩=some (.slice A n c)/\w'.cell? ⟨w.heap.size,1,none⟩=some (.slice F m d)/\
  w'.cell? ⟨w.heap.size+1,0,none⟩=some (.slice none 0 0)/\w'.cell? ⟨w.heap.size+1,1,none⟩=some (.slice none 0 0)/\w'.frozen? ⟨w.heap.size+1,0,none⟩=false/\w'.frozen? ⟨w.heap.size+1,1,none⟩=false:=
 ⟨h.p0,h.p1,by rw[cell_of_row _ _ _ _ _ _ h.q];rfl,by rw[cell_of_row _ _ _ _ _ _ h.q];rfl,frozen_of_row _ _ _ _ _ h.q,frozen_of_row _ _ _ _ _ h.q⟩
theorem read_not(w:World)(h:IsG w A n c F m d W E)(hM: ¬May W E):
  Calls Tryz.prog 97 #[.agg #[.slice A n c,.slice F m d]] w fun e w'=>e= .returned (.tuple #[.agg #[.slice none 0 0,.slice none 0 0],.int .i64 (chkE W E)])/\Below w.heap.size w w':=by
 have B0:=Lib.hid (StR.start h);have ln:=h.ln;have lm:=h.lm;have HN:=Lib.hid h.hn;have HEM:=Lib.hid h.hm;have CR:=Lib.hid (fun(W':World) (h:IsG W' A n c F m d W E) (r:Bool) (hr:r=true↔WorkOk W)=>right_any A c n W W' h.hn (by have:=h.ln;omega) h.ints r hr)
 obtain⟨r,hr⟩: ∃r,r=chkE W E:=⟨_,rfl⟩;rw[<-hr];have HR:=Lib.hid hr;clear hr h
 by_cases hmany:64<n\/256<m
 ·have HX:=Lib.hid (show chkE W E = 40 by
   have e:=plainE_many (W:=W) (E:=E) (by rw[HN.out,HEM.out];exact hmany)
   rw[chkE_plain (by rw[e];decide),e])
  rcases(show 64<n\/(n<=64/\256<m) by omega)with h1|⟨h1,h2⟩
  ·clear hmany
   go_enter Tryz.func97,Tryz.ntmps97;go_wp2
   (try simp only[Exit.inBlock,Exit.then])
   refine bodyPost_ret (v:=.tuple #[.agg #[.slice none 0 0,.slice none 0 0],.int .i64 r]) ?_ rfl ⟨rfl,?_⟩
   ·rw [results_cell_tmp rfl,HR.out,HX.out]
    go_simp
   ·exact B0.out.bel
  ·clear hmany
   go_enter Tryz.func97,Tryz.ntmps97;go_wp2
   (try simp only[Exit.inBlock,Exit.then])
   refine bodyPost_ret (v:=.tuple #[.agg #[.slice none 0 0,.slice none 0 0],.int .i64 r]) ?_ rfl ⟨rfl,?_⟩
   ·rw [results_cell_tmp rfl,HR.out,HX.out]
    go_simp
   ·exact B0.out.bel
 ·have HMANY: Hid (¬ (64 < W.length \/ 256 < E.length)):=Lib.hid (by rw [HN.out,HEM.out]; exact hmany)
  have hn64:n<=64:=by omega
  have hm256:m<=256:=by omega
  clear hmany
  by_cases hW:WorkOk W
  ·have C1:=Lib.hid (fun W' h => CR.out W' h true ⟨fun _ => hW,fun _ => rfl⟩)
   by_cases hE:EdgesOk n E
   ·have C2:=Lib.hid (fun (w': World) (h: IsG w' A n c F m d W E) => link_yes (d:=d) n w' hn64 h.hm (by omega) h.pairs hE)
    have hp0:plainE W E=0:=plainE_zero.mpr ⟨by have:=HMANY.out;omega,hW,by rw[HN.out];exact hE⟩
    have hA: ¬Acyc E:=fun hA=>hM (chkE_zero.mp (chkE_ok hp0 hA))
    have HX:=Lib.hid (chkE_round hp0 hA);have C3:=Lib.hid (fun g w' hR=>arrange_not g n w' hn64 hE.1 hR hA)
    clear hW hE hp0 hA hM;go_enter Tryz.func97,Tryz.ntmps97;go_wp2_with fail;refine(C1.out _ B0.out.g).mono ?_
    rintro e w1 ⟨rfl,rfl⟩;go_wp2_with fail;refine(C2.out _ B0.out.g).mono ?_
    rintro e w2 ⟨g,rfl,b,hgg,hR⟩;have HGG:=Lib.hid hgg;have B2:=Lib.hid (B0.out.next b);have HRR:=Lib.hid hR;clear b hR hgg;obtain⟨c1,c2,c3,c4,c5,c6⟩:=B2.out.cells;go_wp2_with fail;refine(C3.out _ _ HRR.out).mono ?_
    rintro e w3 ⟨rfl,b⟩;have B3:=Lib.hid (B2.out.next b);clear b c1 c2 c3 c4 c5 c6;obtain⟨c1,c2,c3,c4,c5,c6⟩:=B3.out.cells;have hlt:=B3.out.lt;go_wp2
    (try simp only[Exit.inBlock,Exit.then])
    refine bodyPost_ret (v:=.tuple #[.agg #[.slice none 0 0,.slice none 0 0],.int .i64 r]) ?_ rfl ⟨rfl,?_⟩
    ·rw [results_cell_tmp rfl,HR.out,HX.out]
     go_simp
    ·refine (B3.out.bel.setCell ?_ _).setCell ?_ _
     ·show w.heap.size<=w.heap.size+1;omega
     ·show w.heap.size<=w.heap.size+1;omega
   ·have C2:=Lib.hid (fun (w': World) (h: IsG w' A n c F m d W E) => link_not (d:=d) n w' hn64 h.hm (by omega) h.pairs hE)
    have HX:=Lib.hid (show chkE W E=42 by
     have e:=plainE_edge HMANY.out hW (by rw[HN.out];exact hE)
     rw[chkE_plain (by rw[e];decide),e])
    clear hW hE hM;go_enter Tryz.func97,Tryz.ntmps97;go_wp2_with fail;refine(C1.out _ B0.out.g).mono ?_
    rintro e w1 ⟨rfl,rfl⟩;go_wp2_with fail;refine(C2.out _ B0.out.g).mono ?_
    rintro e w2 ⟨rfl,b⟩;have B2:=Lib.hid (B0.out.next b);clear b;obtain⟨c1,c2,c3,c4,c5,c6⟩:=B2.out.cells;have hlt:=B2.out.lt;go_wp2
    (try simp only[Exit.inBlock,Exit.then])
    refine bodyPost_ret (v:=.tuple #[.agg #[.slice none 0 0,.slice none 0 0],.int .i64 r]) ?_ rfl ⟨rfl,?_⟩
    ·rw [results_cell_tmp rfl,HR.out,HX.out]
     go_simp
    ·refine (B2.out.bel.setCell ?_ _).setCell ?_ _
     ·show w.heap.size<=w.heap.size+1;omega
     ·show w.heap.size<=w.heap.size+1;omega
  ·have C1:=Lib.hid (fun W' h => CR.out W' h false ⟨fun q => Bool.noConfusion q,fun q => absurd q hW⟩)
   have HX:=Lib.hid (show chkE W E=41 by
    have e:=plainE_work HMANY.out hW;rw[chkE_plain (by rw[e];decide),e])
   clear hW hM;go_enter Tryz.func97,Tryz.ntmps97;go_wp2_with fail;refine(C1.out _ B0.out.g).mono ?_
   rintro e w1 ⟨rfl,rfl⟩;go_wp2
   (try simp only[Exit.inBlock,Exit.then])
   refine bodyPost_ret (v:=.tuple #[.agg #[.slice none 0 0,.slice none 0 0],.int .i64 r]) ?_ rfl ⟨rfl,?_⟩
   ·rw [results_cell_tmp rfl,HR.out,HX.out]
    go_simp
   ·exact B0.out.bel
theorem read_ok(w:World)(h:IsG w A n c F m d W E)(hM:May W E):
  Calls Tryz.prog 97 #[.agg #[.slice A n c,.slice F m d]] w fun e w'=> ∃g A' c',e= .returned (.tuple #[.agg #[.slice (some ⟨g,0,none⟩) n n,.slice A' n c'],.int .i64 0])/\IsR w g n A' c' E w':=by
 have B0:=Lib.hid (StR.start h);have hn64:n<=64:=by rw[<-h.hn];exact hM.nodes
 have hm256:m<=256:=by rw[<-h.hm];exact hM.edges
 have hF:Fits n E:=by rw[<-h.hn];exact hM.fits
 have C1:=Lib.hid (fun(W':World) (h:IsG W' A n c F m d W E)=>right_any A c n W W' h.hn (by have:=h.ln;omega) h.ints true ⟨fun _=>hM.work,fun _=>rfl⟩)
 have C2:=Lib.hid (fun(w':World) (h:IsG w' A n c F m d W E)=>link_yes (d:=d) n w' hn64 h.hm (by omega) h.pairs ⟨hF,hM.apart,hM.once⟩)
 have C3:=Lib.hid (fun g w' hR=>arrange_yes g n w' hn64 hF hR hM.acyc)
 clear h hM hF;go_enter Tryz.func97,Tryz.ntmps97;go_wp2_with fail;refine(C1.out _ B0.out.g).mono ?_
 rintro e w1 ⟨rfl,rfl⟩;go_wp2_with fail;refine(C2.out _ B0.out.g).mono ?_
 rintro e w2 ⟨g,rfl,b,hgg,hR⟩;have HGG:=Lib.hid hgg;have B2:=Lib.hid (B0.out.next b);have HRR:=Lib.hid hR;clear b hR hgg;obtain⟨c1,c2,c3,c4,c5,c6⟩:=B2.out.cells;go_wp2_with fail;refine(C3.out _ _ HRR.out).mono ?_
 rintro e w3 ⟨A',c',rfl,b,hI⟩;have B3:=Lib.hid (B2.out.next b);have HIN:=Lib.hid hI;have HR3:Hid (∃ps,RowN g ps w3/\PredsOf n E ps):=Lib.hid (by
  obtain⟨ps,h1,h2⟩:=HRR.out;exact⟨ps,h1.below b h1.lt,h2⟩)
 clear b c1 c2 c3 c4 c5 c6 hI;obtain⟨c1,c2,c3,c4,c5,c6⟩:=B3.out.cells;have hlt:=B3.out.lt;go_wp2
 (try simp only[Exit.inBlock,Exit.then])
 refine bodyPost_ret (v:=.tuple #[.agg #[.slice (some ⟨g,0,none⟩) n n,.slice A' n c'],.int .i64 0]) ?_ rfl ⟨g,A',c',rfl,?_⟩
 ·rw [results_cell_tmp rfl]
  go_simp
 ·have hs2:=B2.out.lt
  have hg0:w.heap.size+1<g:=by
   have:=HGG.out;have:=B0.out.lt;omega
  have hs: ∀k,w.heap.size+1<k->((w3.setCell ⟨w.heap.size+1,0,none⟩ (.slice (some ⟨g,0,none⟩) n n)).setCell ⟨w.heap.size+1,1,none⟩ (.slice A' n c')).heap[k]? =w3.heap[k]?:=fun k hk=>by
   have hne: ¬w.heap.size+1=k:=by omega
   simp[World.setCell,Array.getElem?_modify,hne]
  have hO:=own_from (w':=((w3.setCell ⟨w.heap.size+1,0,none⟩ (.slice (some ⟨g,0,none⟩) n n)).setCell ⟨w.heap.size+1,1,none⟩ (.slice A' n c'))) HIN.out (fun k hk=>hs k (by omega))
  refine⟨(B3.out.bel.setCell ?_ _).setCell ?_ _,?_,?_,fun b o s e=> ?_⟩
  ·show w.heap.size<=w.heap.size+1;omega
  ·show w.heap.size<=w.heap.size+1;omega
  ·obtain ⟨A2,c2,he,hI⟩:=OwnI.slice hO
   injection he with e1 e2 e3;subst e1;exact hI
  ·obtain ⟨ps,h1,h2⟩:=HR3.out
   exact⟨ps,(hs g hg0).trans h1,h2⟩
  ·have hI:=HIN.out
   subst e;rcases hI.2 with⟨h,_⟩|⟨g',cap,cur,h,hg',_⟩
   ·injection h with h
    cases h
   ·injection h with h
    have:b=g':=by
     injection h with h;injection h
    omega
end
section
variable {A: Option Addr} {n c: Nat} {F: Option Addr} {m d: Nat} {W: List Int} {E: List (Int × Int)}
theorem IsR.next{w w1 w2:World}{g:Nat}{A':Option Addr}{c':Nat}(h:IsR w g n A' c' E w1)(hb:Below w1.heap.size w1 w2):IsR w g n A' c' E w2:=
 ⟨h.bel.trans (hb.mono h.bel.size),(h.ints.below hb).more hb.size,by
  obtain⟨ps,h1,h2⟩:=h.row;exact⟨ps,h1.below hb h1.lt,h2⟩,h.low⟩
theorem gotInts_nil{w w':World}(hb:Below w.heap.size w w'):GotInts [] w (.returned (.slice none 0 0)) w':=⟨none,0,rfl,Ints.nil_ _ _ _,hb⟩
theorem check_done(w:World)(h:IsG w A n c F m d W E):
  Calls Tryz.prog 61 #[.agg #[.slice A n c,.slice F m d]] w fun e w'=>e= .returned (.int .i64 (chkE W E))/\Below w.heap.size w w':=by
 have H:=Lib.hid h
 by_cases hM:May W E
 ·have C:=Lib.hid (fun w' (h: IsG w' A n c F m d W E) => read_ok w' h hM)
  rw[chkE_zero.mpr hM];clear h hM;go_enter Tryz.func61,Tryz.ntmps61;go_wp2_with fail;refine(C.out _ (H.out.below (below_alloc _))).mono ?_
  rintro e w1 ⟨g,A',c',rfl,hR⟩;have HB:=Lib.hid ((below_alloc _).trans (hR.bel.mono (by simp)))
  clear hR;go_wp2;go_ret;exact⟨rfl,HB.out.alloc HB.out.size _⟩
 ·have C:=Lib.hid (fun w' (h: IsG w' A n c F m d W E) => read_not w' h hM)
  obtain⟨r,hr⟩: ∃r,r=chkE W E:=⟨_,rfl⟩;rw[<-hr]at C⊢;clear h hM hr;go_enter Tryz.func61,Tryz.ntmps61;go_wp2_with fail;refine(C.out _ (H.out.below (below_alloc _))).mono ?_
  rintro e w1 ⟨rfl,b⟩;have HB:=Lib.hid ((below_alloc _).trans (b.mono (by simp)))
  clear b;go_wp2;go_ret;exact⟨rfl,HB.out.alloc HB.out.size _⟩
theorem range_filter{p:Nat->Bool}{n:Nat}(h: ∀a,p a=true->a<n): ∀k,(List.range (n+k)).filter p=(List.range n).filter p
  |0=>rfl
  | k + 1 => by
    rw[show n+(k+1)=(n+k)+1 by omega,List.range_succ,List.filter_append,range_filter h k]
    have:p (n+k)=false:=by
      cases hp:p (n+k)with
      |false=>rfl
      |true=>exact absurd (h _ hp) (by omega)
    simp[this]
theorem bitsL_of{s n:Nat}{p:Nat->Bool}(hn:n<=64)(h: ∀a,s.testBit a=p a)(hp: ∀a,p a=true->a<n):nums (bitsL s)=((List.range n).map Int.ofNat).filter fun a=>p a.toNat:=by
 unfold bitsL nums;rw[show s.testBit=p from funext h]
 obtain⟨k,hk⟩: ∃k,64=n+k:=⟨64 - n,by omega⟩
 rw[hk,range_filter hp,List.filter_map];rfl
theorem predsL_bits{n:Nat}{E:List (Int×Int)}{ps:List Nat}(hn:n<=64)(hF:Fits n E)(h:PredsOf n E ps){y:Nat}(hy:y<n):predsL n E y=nums (bitsL (ps.getD y 0)):=by
 rw[bitsL_of hn (h.bit y hy) (fun a ha=>(ed_lt hF (of_decide_eq_true ha)).1)]
 unfold predsL;apply List.filter_congr;intro a ha;obtain⟨b,_,rfl⟩:=List.mem_map.mp ha;rfl
theorem predsL_out{n:Nat}{E:List (Int×Int)}(hF:Fits n E){x:Int}(h: ¬(0<=x/\x<n)):predsL n E x= []:=by
 unfold predsL;rw[List.filter_eq_nil_iff];intro a _ k;have:=hF _ (of_decide_eq_true k);exact h ⟨this.2.2.1,this.2.2.2⟩
end
section
variable {A: Option Addr} {n c: Nat} {F: Option Addr} {m d: Nat} {W: List Int} {E: List (Int × Int)}
theorem GotInts.up{w w1:World}{zs:List Int}{e:Ending}{w':World}(h:GotInts zs w1 e w')(hb:Below w.heap.size w w1):GotInts zs w e w':=by
 obtain⟨A,c,he,hI,b⟩:=h;exact⟨A,c,he,hI,hb.trans (b.mono hb.size)⟩
theorem preds_done(w:World)(x:Int)(h:IsG w A n c F m d W E):Calls Tryz.prog 156 #[.agg #[.slice A n c,.slice F m d],.int .i64 x] w (GotInts (predsV W E x) w):=by
 have H:=Lib.hid h;have ln:=h.ln;have CN:=Lib.hid (fun W'=>is_node x n W' (by omega))
 by_cases hM:May W E
 ·have C:=Lib.hid (fun w' (h: IsG w' A n c F m d W E) => read_ok w' h hM)
  have HO:=Lib.hid (show predsV W E x=predsL n E x by unfold predsV;rw[if_pos hM,h.hn])
  have hF:Fits n E:=by rw[<-h.hn];exact hM.fits
  have hn64:n<=64:=by rw[<-h.hn];exact hM.nodes
  obtain⟨l,hl⟩: ∃l,l=predsV W E x:=⟨_,rfl⟩;rw[<-hl]at HO⊢
  by_cases hx:0<=x/\x<n
  ·rw [decide_eq_true hx] at CN
   obtain⟨y,rfl⟩:=Int.eq_ofNat_of_zero_le hx.1;have hy:y<n:=by omega
   have HPB:=Lib.hid (fun ps (h:PredsOf n E ps)=>predsL_bits hn64 hF h hy)
   clear h hM hl hF hx;go_enter Tryz.func156,Tryz.ntmps156;go_wp2_with fail;refine(C.out _ (H.out.below (below_alloc _))).mono ?_
   rintro e w1 ⟨g,A',c',rfl,hR⟩;have HB:=Lib.hid ((below_alloc _).trans (hR.bel.mono (by simp)))
   obtain⟨ps,hV,hPS⟩:=hR.row;have hgl:=hV.lt;have hc:=hV.cell (natsV_at (ps:=ps) (j:=y) (by rw[hPS.len];exact hy))
   have CR:=Lib.hid (fun W' (hT:Tab64 W')=>set_row (ps.getD y 0) W' (hPS.lt y hy) hT)
   have HE:=Lib.hid (HPB.out ps hPS);obtain⟨p,hp⟩: ∃p,p=ps.getD y 0:=⟨_,rfl⟩;rw[<-hp]at hc CR HE;clear hR hV hPS hp
   go_wp2_with(first
    |(go_at_call 102;refine(CN.out _).mono ?_;rintro e w' ⟨rfl,rfl⟩)
    |(go_at_call 105;refine(CR.out _ ((H.out.tab.via HB.out).via (below_alloc _))).mono ?_;rintro e w2 ⟨A2,c2,rfl,hI,b⟩;have HI:=Lib.hid hI;have HB2:=Lib.hid b;clear hI b))
   go_ret;rw[HO.out,HE.out]
   exact⟨A2,c2,rfl,HI.out,HB.out.trans ((below_alloc _).trans (HB2.out.mono (by simp)) |>.mono HB.out.size)⟩
  ·rw [decide_eq_false hx] at CN
   have HNIL:=Lib.hid (predsL_out hF hx);clear h hM hl hF hx;go_enter Tryz.func156,Tryz.ntmps156;go_wp2_with fail;refine(C.out _ (H.out.below (below_alloc _))).mono ?_
   rintro e w1 ⟨g,A',c',rfl,hR⟩;have HB:=Lib.hid ((below_alloc _).trans (hR.bel.mono (by simp)))
   clear hR
   go_wp2_with(go_at_call 102;refine(CN.out _).mono ?_;rintro e w' ⟨rfl,rfl⟩)
   go_ret;rw[HO.out,HNIL.out]
   exact gotInts_nil (HB.out.alloc HB.out.size _)
 ·have C:=Lib.hid (fun w' (h: IsG w' A n c F m d W E) => read_not w' h hM)
  have HO:predsV W E x= []:=by unfold predsV;rw[if_neg hM]
  rw[HO];have hc:(chkE W E !=0)=true:=by
   rw[bne_iff_ne];exact fun q=>hM (chkE_zero.mp q)
  obtain⟨r,hr⟩: ∃r,r=chkE W E:=⟨_,rfl⟩;rw[<-hr]at C hc;clear h hM hr HO;go_enter Tryz.func156,Tryz.ntmps156;go_wp2_with fail;refine(C.out _ (H.out.below (below_alloc _))).mono ?_
  rintro e w1 ⟨rfl,b⟩;have HB:=Lib.hid ((below_alloc _).trans (b.mono (by simp)))
  clear b;go_wp2;go_ret;exact gotInts_nil (HB.out.alloc HB.out.size _)
end
theorem succsL_bits{n T:Nat}{E:List (Int×Int)}(hn:n<=64)(hF:Fits n E){y:Nat}(h: ∀a,T.testBit a=(decide (a<n)&&decide (ed E y a))):succsL n E y=nums (bitsL T):=by
 rw[bitsL_of hn h (fun a ha=>by rw[Bool.and_eq_true,decide_eq_true_iff]at ha;exact ha.1)]
 unfold succsL;apply List.filter_congr;intro a ha;obtain⟨b,hb,rfl⟩:=List.mem_map.mp ha;have hb2:=List.mem_range.mp hb;show decide _=(decide (b<n)&&decide (ed E y b))
 rw[decide_eq_true hb2,Bool.true_and];rfl
theorem succ_step{T y j:Nat}{E:List (Int×Int)}(h: ∀a,T.testBit a=(decide (a<j)&&decide (ed E y a)))(he:ed E y j)(a:Nat):(T ||| 2^j).testBit a=(decide (a<j+1)&&decide (ed E y a)):=by
 rw[or_bit_testBit,h,Bool.eq_iff_iff];simp only[Bool.or_eq_true,Bool.and_eq_true,decide_eq_true_iff];constructor
 ·rintro (⟨k1,k2⟩ | k)
  ·exact⟨by omega,k2⟩
  ·exact⟨by omega,k▸he⟩
 ·rintro ⟨k1,k2⟩
  by_cases hj:j=a
  ·exact .inr hj
  ·exact .inl ⟨by omega,k2⟩
theorem succ_skip{T y j:Nat}{E:List (Int×Int)}(h: ∀a,T.testBit a=(decide (a<j)&&decide (ed E y a)))(he: ¬ed E y j)(a:Nat):T.testBit a=(decide (a<j+1)&&decide (ed E y a)):=by
 rw[h,Bool.eq_iff_iff];simp only[Bool.and_eq_true,decide_eq_true_iff];constructor
 ·rintro ⟨k1,k2⟩
  exact⟨by omega,k2⟩
 ·rintro ⟨k1,k2⟩
  by_cases hj:j=a
  ·exact absurd (hj▸k2) he
  ·exact⟨by omega,k2⟩
section
variable {A: Option Addr} {n c: Nat} {F: Option Addr} {m d: Nat} {W: List Int} {E: List (Int × Int)}
end
end Go.Proofs.YtngdbbligebcbabGreatDoor
namespace Go.Proofs.YtngdbbligebcbabGreatDoor
open Go Go.RowKit
theorem heap_putRow{w:World}{g:Nat}{cur:Array Value}{e:TypeId}{fr:Nat×Nat}(h:w.heap[g]? =some (.cells cur e fr))(d:Array Int):(Sort.putRow (Value.int .i64) w g 0 d).heap[g]? =some (.cells (Sort.putCells (Value.int .i64) 0 d cur) e fr):=by
 unfold Sort.putRow Sort.mapBlock;simp[Array.getElem?_modify,h,Sort.onCells]
theorem heap_putRow_other(w:World){g k:Nat}(hk:k≠g)(d:Array Int):(Sort.putRow (Value.int .i64) w g 0 d).heap[k]? =w.heap[k]?:=by
 unfold Sort.putRow Sort.mapBlock;simp only[Array.getElem?_modify]
 rw[if_neg (fun e=>hk e.symm)]
theorem take_putCells{cur:Array Value}{zs:List Int}(h:zs.length<=cur.size):(Sort.putCells (Value.int .i64) 0 zs.toArray cur).toList.take zs.length=zs.map (Value.int .i64):=by
 apply List.ext_getElem?
 intro i;rw[List.getElem?_take,List.getElem?_map]
 by_cases hi:i<zs.length
 ·rw [if_pos hi]
  unfold Sort.putCells;rw[Array.getElem?_toList,Array.getElem?_mapIdx,Array.getElem?_eq_getElem (by omega),List.getElem?_eq_getElem hi]
  simp[hi]
 ·rw[if_neg hi,List.getElem?_eq_none (by omega)];rfl
theorem sortOwn_any(w:World)(B:Nat)(A:Option Addr)(n c:Nat)(zs:List Int)(hn:zs.length=n)(hl:n<=1000)(h:OwnI w B (.slice A n c) zs)(hB:B<=w.heap.size):
  Calls Tryz.prog 129 #[.slice A n c] w fun e w'=>e= .returned (.tuple #[])/\OwnI w' B (.slice A n c) (zs.mergeSort fun x y=>decide (x<=y))/\Below B w w':=by
 rcases Nat.eq_zero_or_pos n with h0|h0
 ·subst h0
  obtain rfl:zs= []:=List.eq_nil_of_length_eq_zero hn;refine(Tryz.slices_Sort_int_none A c w).mono ?_
  rintro e w' ⟨rfl,rfl⟩;exact⟨rfl,by simpa using h,Below.refl _ _⟩
 ·rcases h.2 with ⟨e,_⟩ | ⟨g,cap,cur,e,hg,hgg,hnc,hcm,hcs,ht⟩
  ·injection e with _ e2 _;omega
  ·injection e with e1 e2 e3
   subst e1 e3;subst hn;have hH:Sort.Holds (Value.int .i64) w g 0 zs.toArray:=fun j hj=>by
    have hj':j<zs.length:=by simpa using hj
    refine⟨?_,frozen_of_row w g _ _ _ hgg⟩
    have hc:=OwnI.ints h;obtain⟨b,off,eb,hb,hcell⟩:=hc (by omega)
    injection eb with eb;injection eb with eb1 eb2;subst eb1 eb2;rw[hcell j hj',List.getD_eq_getElem?_getD,List.getElem?_eq_getElem hj']
    simp[hj']
   have hlt:g<w.heap.size:=(Array.getElem?_eq_some_iff.1 hgg).1
   refine(Tryz.slices_Sort_int g 0 c zs w hH hlt (by omega)).mono ?_
   rintro e w' ⟨rfl,N,os,rfl⟩;have hlen:(zs.mergeSort fun x y=>decide (x<=y)).length=zs.length:=List.length_mergeSort zs
   have hgA:(Sort.ahead w N).heap[g]? =some (.cells cur 3 (0,0)):=hgg
   refine⟨rfl,?_,?_⟩
   ·refine ⟨by rw [List.length_map,Nat.mul_one],.inr ⟨g,c,Sort.putCells (Value.int .i64) 0 (zs.mergeSort fun x y => decide (x <= y)).toArray cur,by rw [hlen],hg,?_,by rw [hlen]; exact hnc,hcm,by simp [Sort.putCells]; simpa using hcs,?_⟩⟩
    ·rw [Sort.heap_grow_old _ _ (by rw [Sort.size_putRow]; exact hlt)]
     exact heap_putRow hgA _
    ·rw [Nat.mul_one]
     exact take_putCells (by rw[hlen];omega)
   ·refine ⟨rfl,rfl,rfl,by simp [Sort.size_grow,Sort.size_putRow],fun k hk => ?_⟩
    rw[Sort.heap_grow_old _ _ (by rw[Sort.size_putRow];show k<w.heap.size;omega)]
    exact heap_putRow_other (Sort.ahead w N) (by omega) _
end Go.Proofs.YtngdbbligebcbabGreatDoor
