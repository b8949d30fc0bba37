import Derived.Test.YtlfekmbalgkmeaaGreatDoorZM15
import Derived.Test.YtlfekmbalgkmeaaGreatDoorZM6
import Derived.Test.YtlfekmbalgkmeaaGreatDoorZM2
import Derived.Deep.AppendLies
import Derived.Deep.RegionLaw
import Derived.Test.YtlfekmbalgkmeaaGreatDoorZM17
set_option linter.unusedSimpArgs false
set_option linter.unnecessarySimpa false
set_option linter.unusedVariables false
set_option maxRecDepth 100000
set_option maxHeartbeats 16000000
namespace Go.Proofs.YtlfekmbalgkmeaaGreatDoor
open Go.RowKit
def futAt(fs:List (Int×Int×Int))(j:Nat):Int×Int×Int:=fs.getD j (0,0,0)
def selF(fs:List (Int×Int×Int))(x:Int)(a:Nat)(i:Nat):List Nat:=(List.range i).filter fun j=>decide ((futAt fs j).2.1=x)&&decide ((futAt fs j).2.2=(a:Int))
def touK(fs:List (Int×Int×Int))(x:Int):Nat->List Nat
 |0=> []
 |a+1=>touK fs x a++selF fs x (a+1) fs.length
def touL(fs:List (Int×Int×Int))(x:Int):List Nat:=touK fs x 99
theorem mem_selF{fs:List (Int×Int×Int)}{x:Int}{a i j:Nat}:j∈selF fs x a i↔j<i/\(futAt fs j).2.1=x/\(futAt fs j).2.2=(a:Int):=by
 unfold selF;rw[List.mem_filter,List.mem_range,Bool.and_eq_true,decide_eq_true_iff,decide_eq_true_iff]
theorem mem_touK{fs:List (Int×Int×Int)}{x:Int}{j:Nat}: ∀{a:Nat},j∈touK fs x a↔j<fs.length/\(futAt fs j).2.1=x/\1<=(futAt fs j).2.2/\(futAt fs j).2.2<=(a:Int)
  | 0 => by
    constructor
    · intro h;cases h
    · rintro⟨_,_,h1,h2⟩;omega
  | a + 1 => by
    show j∈touK fs x a++selF fs x (a+1) fs.length↔_
    rw[List.mem_append,mem_touK (a:=a),mem_selF];constructor
    · rintro(⟨h1,h2,h3,h4⟩|⟨h1,h2,h3⟩)
      · exact⟨h1,h2,h3,by omega⟩
      · exact⟨h1,h2,by omega,by omega⟩
    · rintro⟨h1,h2,h3,h4⟩
      by_cases h:(futAt fs j).2.2=((a+1:Nat):Int)
      · exact .inr ⟨h1,h2,h⟩
      · exact .inl ⟨h1,h2,h3,by omega⟩
theorem selF_nodup(fs:List (Int×Int×Int))(x:Int)(a i:Nat):(selF fs x a i).Nodup:=List.Nodup.sublist (List.filter_sublist) List.nodup_range
theorem touP_nodup{fs:List (Int×Int×Int)}{x:Int}{a i:Nat}(h:(touK fs x a).Nodup):(touK fs x a++selF fs x (a+1) i).Nodup:=by
 rw[List.nodup_append];refine⟨h,selF_nodup _ _ _ _,fun j hj k hk e=> ?_⟩
 subst e;have h1:=(mem_touK.mp hj).2.2.2;have h2:=(mem_selF.mp hk).2.2;omega
theorem touK_nodup(fs:List (Int×Int×Int))(x:Int): ∀a,(touK fs x a).Nodup
 |0=>by simp[touK]
 |a+1=>touP_nodup (touK_nodup fs x a)
theorem nodup_len(n:Nat)(l:List Nat)(hn:l.Nodup)(h: ∀x∈l,x<n):l.length<=n:=length_below n l hn h
theorem touP_len{fs:List (Int×Int×Int)}{x:Int}{a i:Nat}(hi:i<=fs.length):(touK fs x a++selF fs x (a+1) i).length<=fs.length:=by
 refine nodup_len _ _ (touP_nodup (touK_nodup fs x a)) fun j hj=> ?_
 rcases List.mem_append.mp hj with h|h
 ·exact(mem_touK.mp h).1
 ·have:=(mem_selF.mp h).1
  omega
theorem touK_len(fs:List (Int×Int×Int))(x:Int)(a:Nat):(touK fs x a).length<=fs.length:=nodup_len _ _ (touK_nodup fs x a) fun j hj=>(mem_touK.mp hj).1
theorem selF_step{fs:List (Int×Int×Int)}{x:Int}{a i:Nat}{f:Int×Int×Int}(hf:fs[i]? =some f):selF fs x a (i+1)=if f.2.1=x/\f.2.2=(a:Int)then selF fs x a i++ [i]else selF fs x a i:=by
 have e:futAt fs i=f:=by unfold futAt;rw[List.getD_eq_getElem?_getD,hf];rfl
 unfold selF;rw[List.range_succ,List.filter_append]
 by_cases h:f.2.1=x/\f.2.2=(a:Int)
 ·rw [if_pos h]
  simp[List.filter,e,h.1,h.2]
 ·rw [if_neg h]
  have:(decide ((futAt fs i).2.1=x)&&decide ((futAt fs i).2.2=(a:Int)))=false:=by
   rw[e,Bool.and_eq_false_iff,decide_eq_false_iff_not,decide_eq_false_iff_not]
   by_cases h1:f.2.1=x
   ·exact .inr fun h2=>h ⟨h1,h2⟩
   ·exact .inl h1
  simp[List.filter,this]
section
variable {P: Option Addr} {np pc: Nat} {E: Option Addr} {ne ec: Nat} {F: Option Addr} {nf fc: Nat} {R: Option Addr} {nr rc: Nat} {p q: Int}
theorem dtouches_any(x:Int)(fs:List (Int×Int×Int))(w:World)(hm:fs.length=nf)(hl:nf<=900)(hT:Trips w w.heap.size F fs):
  Calls Tryz.prog 160 #[.agg #[.int .i64 p,.int .i64 q,.slice P np pc,.slice E ne ec,.slice F nf fc,.slice R nr rc],.int .i64 x] w (GotOwn (nums (touL fs x)) w):=by
 have HT:=Lib.hid hT;have HM:=Lib.hid hm;have HLK:=Lib.hid (fun a=>touK_len fs x a)
 obtain⟨w0,hw0⟩: ∃w0,w0=w.alloc (.cells #[.int .i64 p,.int .i64 q,.slice P np pc,.slice E ne ec,.slice F nf fc,.slice R nr rc] 57):=⟨_,rfl⟩;have HW0:=Lib.hid hw0;clear hT hm hw0;go_enter Tryz.func160,Tryz.ntmps160;go_wp2;go_loopw [5,6] (fun v i wr=> ∃(a k:Nat) (A':Option Addr) (c':Nat),a<=99/\i= .int .i64 ((a+1:Nat):Int)/\v= .slice A' k c'/\Hid ((touK fs x a).length=k)/\Hid (OwnI wr (w.heap.size+1) (.slice A' k c') (nums (touK fs x a)))/\Hid (Below (w.heap.size+1) w0 wr)) (fun _ i _=>100 - (intOf i).toNat)
 case atStart=>exact⟨0,0,_,_,by omega,rfl,rfl,Lib.hid rfl,Lib.hid (ownI_first w _),Lib.hid (by rw[HW0.out];exact(Below.refl _ _).alloc (by simp) _)⟩
 case round=>
  obtain⟨a,k,A',c',ha,rfl,rfl,HK,HO,HB⟩:=hrel
  by_cases hlt:a<99
  ·have hd: decide (((a + 1: Nat): Int) < 100) = true:=by rw [decide_eq_true_iff]; omega
   go_wp2;go_loopw [5,7] (fun v i wi=> ∃(t k:Nat) (A':Option Addr) (c':Nat),t<=nf/\i= .int .i64 t/\v= .slice A' k c'/\Hid ((touK fs x a++selF fs x (a+1) t).length=k)/\Hid (OwnI wi (w.heap.size+1) (.slice A' k c') (nums (touK fs x a++selF fs x (a+1) t)))/\Hid (Below (w.heap.size+1) w0 wi)) (fun _ i _=>nf - (intOf i).toNat)
   case atStart=>exact⟨0,k,A',c',Nat.zero_le _,rfl,rfl,Lib.hid (by simp[selF,HK.out]),Lib.hid (by rw[show selF fs x (a+1) 0= []from rfl,List.append_nil];exact HO.out),HB⟩
   case round=>
    obtain⟨t,k2,A2,c2,ht,rfl,rfl,HK2,HO2,HB2⟩:=hrel;have hbox:wr.cell? ⟨w.heap.size,4,none⟩=some (.slice F nf fc):=(HB2.out.cell (Nat.lt_succ_self _)).trans (by rw[HW0.out,World.cell?_alloc_at _ _ _ _ rfl];rfl)
    by_cases hlt2:t<nf
    ·have hk2: k2 <= 900:=by
      have h1:=touP_len (fs:=fs) (x:=x) (a:=a) (i:=t) (by rw[HM.out];omega)
      rw[HK2.out,HM.out]at h1;omega
     have hsz:w.heap.size+1<=wr.heap.size:=by have:=HB2.out.size;rw[HW0.out]at this;simpa using this
     obtain⟨bk,o,f1,f2,f3,rfl,hbg,hft,d1,d2,d3⟩:=HT.out.at_ (k:=t) (by rw[HM.out];exact hlt2)
     have e2:wr.cell? ⟨bk,o+t * 3+1,none⟩=some (.int .i64 f2):=(HB2.out.cell (by show bk<_;omega)).trans (by rw[HW0.out,World.cell?_alloc_lt _ _ _ hbg];exact d2)
     have e3:wr.cell? ⟨bk,o+t * 3+2,none⟩=some (.int .i64 f3):=(HB2.out.cell (by show bk<_;omega)).trans (by rw[HW0.out,World.cell?_alloc_lt _ _ _ hbg];exact d3)
     have HSTEP:=Lib.hid (selF_step (x:=x) (a:=a+1) hft);clear d1 d2 d3 hft
     by_cases h1:f2=x
     ·by_cases h2: f3 = ((a + 1: Nat): Int)
      ·have HS:=Lib.hid (show selF fs x (a + 1) (t + 1) = selF fs x (a + 1) t ++ [t] by rw [HSTEP.out,if_pos ⟨h1,h2⟩])
       subst h1;have g2:(f3==((a+1:Nat):Int))=true:=by simpa using h2
       clear h2;rw[show((a+1:Nat):Int)=(a:Int)+1 from rfl]at g2⊢
       go_wp2_with(at_builtin;refine wpList_push rfl _ _ rfl wr (w.heap.size+1) _ (nums (touK fs f2 a++selF fs f2 (a+1) t)) (t:Int) k2 (by rw[nums_length];exact HK2.out) (by omega) HO2.out hsz rfl rfl ?_;intro A4 c4 w4 HO4 HB4;(have HO4':=Lib.hid HO4);(have HB4':=Lib.hid HB4);clear HO4 HB4)
       go_roundw
       case rel=>exact⟨t+1,by omega,by go_num,k2+1,A4,c4,⟨rfl,rfl,rfl⟩,Lib.hid (by have h:=HK2.out;rw[List.length_append]at h;rw[HS.out,List.length_append];simp only[List.length_singleton];omega),Lib.hid (by rw[HS.out,<-List.append_assoc,nums_snoc];exact HO4'.out),Lib.hid (HB2.out.trans HB4'.out)⟩
       case measure=>simp[intOf];omega
      ·have HS:=Lib.hid (show selF fs x (a + 1) (t + 1) = selF fs x (a + 1) t by rw [HSTEP.out,if_neg (fun k => h2 k.2)])
       subst h1;have g2:(f3==((a+1:Nat):Int))=false:=by simpa using h2
       clear h2;rw[show((a+1:Nat):Int)=(a:Int)+1 from rfl]at g2⊢
       go_wp2;go_roundw
       case rel=>exact⟨t+1,k2,A2,c2,by omega,by go_num,rfl,Lib.hid (by rw[HS.out];exact HK2.out),Lib.hid (by rw[HS.out];exact HO2.out),HB2⟩
       case measure=>simp[intOf];omega
     ·have HS:=Lib.hid (show selF fs x (a + 1) (t + 1) = selF fs x (a + 1) t by rw [HSTEP.out,if_neg (fun k => h1 k.1)])
      have g1:(f2==x)=false:=by simpa using h1
      clear h1;go_wp2;go_roundw
      case rel=>exact⟨t+1,k2,A2,c2,by omega,by go_num,rfl,Lib.hid (by rw[HS.out];exact HK2.out),Lib.hid (by rw[HS.out];exact HO2.out),HB2⟩
      case measure=>simp[intOf];omega
    ·have e: t = nf:=by omega
     subst e;have HE:Hid (touK fs x (a+1)=touK fs x a++selF fs x (a+1) t):=Lib.hid (by show touK fs x a++selF fs x (a+1) fs.length=_;rw[HM.out])
     go_wp2;go_roundw
     case rel=>exact⟨a+1,k2,A2,c2,by omega,by go_num,rfl,Lib.hid (by rw[HE.out];exact HK2.out),Lib.hid (by rw[HE.out];exact HO2.out),HB2⟩
     case measure=>simp[intOf];omega
  ·obtain rfl: a = 99:=by omega
   have HLN:Hid ((nums (touL fs x)).length=k):=Lib.hid (by rw[nums_length];exact HK.out)
   have hd:decide (((99+1:Nat):Int)<100)=false:=by decide
   go_wp2;go_ret
   exact⟨A',c',by rw[HLN.out];rfl,by rw[HLN.out];exact HO.out.down (by omega),(below_alloc _).trans (by rw[<-HW0.out];exact HB.out.mono (by omega))⟩
end
theorem nums_atD{l:List Nat}{j:Nat}{z:Int}(h:(nums l)[j]? =some z): ∃x:Nat,z=(x:Int)/\l[j]? =some x:=by
  unfold nums at h;rw[List.getElem?_map]at h
  cases hx:l[j]? with
  |none=>rw[hx]at h;cases h
  | some x =>
    rw[hx]at h;exact⟨x,(Option.some.inj h).symm,rfl⟩
section
variable {P: Option Addr} {np pc: Nat} {E: Option Addr} {ne ec: Nat} {F: Option Addr} {nf fc: Nat} {R: Option Addr} {nr rc: Nat} {p q: Int}
end
theorem sorted_ext{f:Nat->Int}: ∀{l1 l2:List Nat},(l1.Pairwise fun i j=>f i<f j)->(l2.Pairwise fun i j=>f i<f j)->(∀x,x∈l1↔x∈l2)->l1=l2
  | [], [],_,_,_=>rfl
  | [],b::l2,_,_,h=>absurd ((h b).mpr (List.mem_cons_self ..)) (by simp)
  |a::l1, [],_,_,h=>absurd ((h a).mp (List.mem_cons_self ..)) (by simp)
  | a :: l1, b :: l2, h1, h2, h => by
    rw[List.pairwise_cons]at h1 h2;have e:a=b:=by
      have ha:=(h a).mp (List.mem_cons_self ..);have hb:=(h b).mpr (List.mem_cons_self ..);rcases List.mem_cons.mp ha with ha|ha
      · exact ha
      · rcases List.mem_cons.mp hb with hb|hb
        · exact hb.symm
        · have:=h1.1 b hb;have:=h2.1 a ha;omega
    subst e;rw[sorted_ext h1.2 h2.2 fun x=> ?_]
    have hx:=h x;constructor
    · intro k;rcases List.mem_cons.mp (hx.mp (List.mem_cons_of_mem _ k))with e|k'
      · subst e;have:=h1.1 x k;omega
      · exact k'
    · intro k;rcases List.mem_cons.mp (hx.mpr (List.mem_cons_of_mem _ k))with e|k'
      · subst e;have:=h2.1 x k;omega
      · exact k'
def ownF(fs:List (Int×Int×Int))(x:Int)(k:Nat):List Nat:=(List.range k).filter fun j=>decide ((futAt fs j).2.1=x)
theorem mem_ownF{fs:List (Int×Int×Int)}{x:Int}{k j:Nat}:j∈ownF fs x k↔j<k/\(futAt fs j).2.1=x:=by
 unfold ownF;rw[List.mem_filter,List.mem_range,decide_eq_true_iff]
theorem ownF_step{fs:List (Int×Int×Int)}{x:Int}{k:Nat}{f:Int×Int×Int}(hf:fs[k]? =some f):ownF fs x (k+1)=if f.2.1=x then ownF fs x k++ [k]else ownF fs x k:=by
 have e:futAt fs k=f:=by unfold futAt;rw[List.getD_eq_getElem?_getD,hf];rfl
 unfold ownF;rw[List.range_succ,List.filter_append]
 by_cases h:f.2.1=x
 ·rw [if_pos h]
  simp[List.filter,e,h]
 ·rw [if_neg h]
  simp[List.filter,e,h]
theorem ownF_nodup(fs:List (Int×Int×Int))(x:Int)(k:Nat):(ownF fs x k).Nodup:=List.Nodup.sublist (List.filter_sublist) List.nodup_range
theorem ownF_len(fs:List (Int×Int×Int))(x:Int)(k:Nat):(ownF fs x k).length<=k:=by
 have:=List.length_filter_le (fun j=>decide ((futAt fs j).2.1=x)) (List.range k)
 rw[List.length_range]at this;exact this
theorem fut_inj{fs:List (Int×Int×Int)}(hn:(fs.map fun f=>f.2).Nodup){i j:Nat}(hi:i<fs.length)(hj:j<fs.length)(e:(futAt fs i).2=(futAt fs j).2):i=j:=by
 unfold futAt at e;rw[List.getD_eq_getElem?_getD,List.getElem?_eq_getElem hi,List.getD_eq_getElem?_getD,List.getElem?_eq_getElem hj]at e
 have h4:i<(fs.map fun f=>f.2).length:=by simpa using hi
 have h5:j<(fs.map fun f=>f.2).length:=by simpa using hj
 refine(List.getElem_inj (h₀:=h4) (h₁:=h5) hn).mp ?_
 simpa using e
theorem futAt_mem{fs:List (Int×Int×Int)}{j:Nat}(hj:j<fs.length):futAt fs j∈fs:=by
 unfold futAt;rw[List.getD_eq_getElem?_getD,List.getElem?_eq_getElem hj]
 exact List.getElem_mem _
theorem touL_rises{fs:List (Int×Int×Int)}{x:Int}(hn:(fs.map fun f=>f.2).Nodup): ∀a,(touK fs x a).Pairwise fun i j=>(futAt fs i).2.2<(futAt fs j).2.2
  |0=>List.Pairwise.nil
  | a + 1 => by
    show(touK fs x a++selF fs x (a+1) fs.length).Pairwise _
    rw[List.pairwise_append];refine⟨touL_rises hn a,?_,fun i hi j hj=> ?_⟩
    · have hone: ∀i∈selF fs x (a+1) fs.length,∀j∈selF fs x (a+1) fs.length,i=j:=fun i hi j hj=>by
        obtain⟨h1,h2,h3⟩:=mem_selF.mp hi;obtain⟨k1,k2,k3⟩:=mem_selF.mp hj;exact fut_inj hn h1 k1 (Prod.ext (h2.trans k2.symm) (h3.trans k3.symm))
      have hnd:=selF_nodup fs x (a+1) fs.length;rcases hs:selF fs x (a+1) fs.length with _|⟨i,_|⟨j,l⟩⟩
      · exact List.Pairwise.nil
      · exact List.pairwise_singleton _ _
      · rw[hs]at hone hnd;have:=hone i (by simp) j (by simp)
        rw[List.nodup_cons]at hnd;exact absurd (by rw[this];simp) hnd.1
    · have h1:=(mem_touK.mp hi).2.2.2;have h2:=(mem_selF.mp hj).2.2;omega
def plAt(pl:List Nat)(i:Nat):Nat:=pl.getD i 0
def atOf(fs:List (Int×Int×Int))(pl:List Nat)(i:Nat):Int:=(futAt fs (plAt pl i)).2.2
theorem plAt_mem{pl:List Nat}{i:Nat}(h:i<pl.length):plAt pl i∈pl:=by
 unfold plAt;rw[List.getD_eq_getElem?_getD,List.getElem?_eq_getElem h]
 exact List.getElem_mem _
theorem places_sorted{ps fs:List (Int×Int×Int)}{x:Int}(hps:partsOk ps)(hfs:FutsOk ps fs){m:Nat}(hm:(ownF fs x fs.length).length=m)(S:List (Fin m))(hp:S.Perm (List.finRange m))
  (hs:S.Pairwise fun(i j:Fin m)=>atOf fs (ownF fs x fs.length) i.val<=atOf fs (ownF fs x fs.length) j.val):(S.map fun(i:Fin m)=>plAt (ownF fs x fs.length) i.val)=touL fs x:=by
 have hmem: ∀i:Fin m,plAt (ownF fs x fs.length) i.val∈ownF fs x fs.length:=fun i=>plAt_mem (by have:=i.isLt;omega)
 have hinj: ∀i j:Fin m,atOf fs (ownF fs x fs.length) i.val=atOf fs (ownF fs x fs.length) j.val->i=j:=fun i j h=>by
  have h1:=mem_ownF.mp (hmem i);have h2:=mem_ownF.mp (hmem j);have e:=fut_inj hfs.once h1.1 h2.1 (Prod.ext (h1.2.trans h2.2.symm) h);unfold plAt at e;have hi:i.val<(ownF fs x fs.length).length:=by have:=i.isLt;omega
  have hj:j.val<(ownF fs x fs.length).length:=by have:=j.isLt;omega
  rw[List.getD_eq_getElem?_getD,List.getElem?_eq_getElem hi,List.getD_eq_getElem?_getD,List.getElem?_eq_getElem hj]at e
  exact Fin.ext ((List.getElem_inj (h₀:=hi) (h₁:=hj) (ownF_nodup fs x fs.length)).mp (by simpa using e))
 have hnd:S.Nodup:=(hp.nodup_iff).mpr (List.nodup_finRange m);refine sorted_ext (f:=fun j=>(futAt fs j).2.2) ?_ (touL_rises hfs.once 99) fun j=> ?_
 ·rw [List.pairwise_map]
  refine(hs.and hnd).imp fun{i j} h=> ?_
  have:=h.1;have hne:atOf fs (ownF fs x fs.length) i.val≠atOf fs (ownF fs x fs.length) j.val:=fun e=>h.2 (hinj i j e)
  show atOf fs (ownF fs x fs.length) i.val<atOf fs (ownF fs x fs.length) j.val
  omega
 ·show _ ↔ j ∈ touK fs x 99
  rw[mem_touK,List.mem_map];constructor
  ·rintro ⟨i,_,rfl⟩
   obtain⟨h1,h2⟩:=mem_ownF.mp (hmem i);have hf:=hfs.each _ (futAt_mem h1);have hu:=hf.user;obtain⟨e,he⟩: ∃e,ps[(futAt fs (plAt (ownF fs x fs.length) i.val)).2.1.toNat]? =some e:=⟨_,List.getElem?_eq_getElem (by omega)⟩
   have hl:=hf.last e he;have hw:=(hps e (List.mem_of_getElem? he)).2.2.2.2.2
   exact⟨h1,h2,hf.first,by show _<=(99:Int);omega⟩
  ·rintro ⟨h1,h2,_,_⟩
   have hj:j∈ownF fs x fs.length:=mem_ownF.mpr ⟨h1,h2⟩;obtain⟨k,hk⟩:=List.mem_iff_getElem?.mp hj
   have hkl:=(List.getElem?_eq_some_iff.1 hk).1
   refine⟨⟨k,by omega⟩,hp.mem_iff.mpr (List.mem_finRange _),?_⟩
   show(ownF fs x fs.length).getD k 0=j
   rw[List.getD_eq_getElem?_getD,hk]
   rfl
end Go.Proofs.YtlfekmbalgkmeaaGreatDoor
namespace Go.Proofs.YtlfekmbalgkmeaaGreatDoor
def endsL(fs ps:List (Int×Int×Int))(x:Nat):List Int:=(touL fs (x:Int)).map (fun k=>(futAt fs k).2.2)++ [(ps.getD x (0,0,0)).2.2]
def nst(fs:List (Int×Int×Int))(x:Nat):Nat:=(touL fs (x:Int)).length+1
theorem endsL_len(fs ps:List (Int×Int×Int))(x:Nat):(endsL fs ps x).length=nst fs x:=by unfold endsL nst;rw[List.length_append,List.length_map];rfl
def firN(fs:List (Int×Int×Int)):Nat->Nat
 |0=>0
 |x+1=>firN fs x+nst fs x
def lasN(fs:List (Int×Int×Int))(x:Nat):Nat:=firN fs x+nst fs x - 1
theorem nst_pos(fs:List (Int×Int×Int))(x:Nat):1<=nst fs x:=by unfold nst;omega
theorem lasN_eq(fs:List (Int×Int×Int))(x:Nat):lasN fs x+1=firN fs (x+1):=by unfold lasN;rw[firN];have:=nst_pos fs x;omega
theorem firN_mono(fs:List (Int×Int×Int)): ∀{a b:Nat},a<=b->firN fs a<=firN fs b:=fun{a b} hab=>by
  induction b with
  |zero=>simp[Nat.le_zero.mp hab]
  | succ b ih =>
    rcases Nat.lt_or_ge a (b+1)with h1|h1
    · have:=ih (by omega)
      rw[firN];omega
    · rw[show a=b+1 by omega]
      exact Nat.le_refl _
def stepW:Int->List Int->List Int
 |_,[]=> []
 |b,e::l=>(e - b)::stepW e l
theorem stepW_len: ∀(b:Int) (l:List Int),(stepW b l).length=l.length
 |_,[]=>rfl
 |b,e::l=>by rw[stepW,List.length_cons,List.length_cons,stepW_len e l]
def befE(l:List Int)(j:Nat):Int:=if j=0 then 0 else l.getD (j - 1) 0
theorem stepW_take: ∀(b:Int) (l:List Int) (j:Nat) (e:Int),l[j]? =some e->(stepW b l).take (j+1)=(stepW b l).take j++ [e - (if j=0 then b else l.getD (j - 1) 0)]
  |b, [],j,e,h=>by simp at h
  | b, x :: l, 0, e, h => by
    obtain rfl:x=e:=by simpa using h
    simp[stepW]
  | b, x :: l, j + 1, e, h => by
    have ih:=stepW_take x l j e (by simpa using h)
    rw[stepW,List.take_succ_cons,List.take_succ_cons,List.cons_append,ih];congr 2;rw[if_neg (by omega: ¬j+1=0)]
    cases j with
    |zero=>simp
    |succ j=>simp
def chainE(n k:Nat):List (Int×Int):=(List.range (k - 1)).map fun i=>(((n+i:Nat):Int),((n+i+1:Nat):Int))
theorem chainE_one(n:Nat):chainE n 1= []:=rfl
theorem chainE_zero(n:Nat):chainE n 0= []:=rfl
theorem chainE_succ(n k:Nat):chainE n (k+2)=chainE n (k+1)++ [(((n+k:Nat):Int),((n+k+1:Nat):Int))]:=by
 unfold chainE;rw[show k+2 - 1=k+1 by omega,show k+1 - 1=k by omega,List.range_succ,List.map_append]
 rfl
theorem chainE_len(n k:Nat):(chainE n k).length=k - 1:=by unfold chainE;rw[List.length_map,List.length_range]
def stepP(x k:Nat):List (Int×Int):=(List.range k).map fun i=>((x:Int),((i:Nat):Int))
theorem stepP_succ(x k:Nat):stepP x (k+1)=stepP x k++ [((x:Int),((k:Nat):Int))]:=by unfold stepP;rw[List.range_succ,List.map_append];rfl
theorem stepP_len(x k:Nat):(stepP x k).length=k:=by unfold stepP;rw[List.length_map,List.length_range]
def wPs(fs ps:List (Int×Int×Int)):Nat->List Int
 |0=> []
 |x+1=>wPs fs ps x++stepW 0 (endsL fs ps x)
def ePs(fs:List (Int×Int×Int)):Nat->List (Int×Int)
 |0=> []
 |x+1=>ePs fs x++chainE (firN fs x) (nst fs x)
def pPs(fs:List (Int×Int×Int)):Nat->List (Int×Int)
 |0=> []
 |x+1=>pPs fs x++stepP x (nst fs x)
theorem wPs_len(fs ps:List (Int×Int×Int)): ∀x,(wPs fs ps x).length=firN fs x
 |0=>rfl
 |x+1=>by rw[wPs,List.length_append,wPs_len fs ps x,stepW_len,endsL_len,firN]
theorem pPs_len(fs:List (Int×Int×Int)): ∀x,(pPs fs x).length=firN fs x
 |0=>rfl
 |x+1=>by rw[pPs,List.length_append,pPs_len fs x,stepP_len,firN]
theorem ePs_len(fs:List (Int×Int×Int)): ∀x,(ePs fs x).length+x=firN fs x
 |0=>rfl
 |x+1=>by rw[ePs,List.length_append,chainE_len,firN];have:=ePs_len fs x;have:=nst_pos fs x;omega
def edgN(fs:List (Int×Int×Int))(e:Int×Int):Int×Int:=(((lasN fs e.1.toNat:Nat):Int),((firN fs e.2.toNat:Nat):Int))
def begN(fs:List (Int×Int×Int))(k:Nat):Nat:=firN fs (futAt fs k).2.1.toNat+(touL fs (futAt fs k).2.1).idxOf k+1
def futN(fs:List (Int×Int×Int))(k:Nat):Int×Int:=(((lasN fs (futAt fs k).1.toNat:Nat):Int),((begN fs k:Nat):Int))
def barN(fs:List (Int×Int×Int))(n:Nat)(b:List Int×List Int):List (Int×Int):=(b.1.map fun i=>(((lasN fs i.toNat:Nat):Int),((n:Nat):Int)))++(b.2.map fun i=>(((n:Nat):Int),((firN fs i.toNat:Nat):Int)))
def bEs(fs:List (Int×Int×Int))(bs:List (List Int×List Int))(n:Nat):Nat->List (Int×Int)
 |0=> []
 |j+1=>bEs fs bs n j++barN fs (n+j) (bs.getD j ([],[]))
def lowW(T:Task):List Int:=wPs T.futures T.parts T.parts.length++List.replicate T.bars.length 1
def lowP(T:Task):List (Int×Int):=pPs T.futures T.parts.length++(List.range T.bars.length).map fun j=>(((-1:Int)),((j:Nat):Int))
def lowE(T:Task):List (Int×Int):=((ePs T.futures T.parts.length++T.edges.map (edgN T.futures))++(List.range T.futures.length).map (futN T.futures))++bEs T.futures T.bars (firN T.futures T.parts.length) T.bars.length
end Go.Proofs.YtlfekmbalgkmeaaGreatDoor
namespace Go.Proofs.YtlfekmbalgkmeaaGreatDoor
open Go.RowKit Go.Maps
def StepF(gb b1:Nat)(vP:Value)(x N:Nat):Nat->Value->World->Prop
 |0,v,_=>v= .pointer (some ⟨gb,0,none⟩)
 |1,v,_=>v= .pointer (some ⟨gb,0,none⟩)
 |2,v,_=>v= .pointer (some ⟨gb,3,none⟩)
 |3,v,_=>v= .map (some b1)
 |4,v,_=>v= .int .i64 (x:Int)
 |5,v,_=>v= .pointer (some ⟨gb,0,none⟩)
 |6,v,_=>v= .pointer (some ⟨gb,0,none⟩)
 |7,v,_=>v= .pointer (some ⟨gb,0,none⟩)
 |8,v,_=>v= .pointer (some ⟨gb,2,none⟩)
 |9,v,_=>v=vP
 |10,v,_=>v= .int .i64 (N:Int)
 |_,_,_=>True
theorem stepF_any{gb b1:Nat}{vP:Value}{x N:Nat}: ∀(k:Nat) (v:Value) (w w':World),StepF gb b1 vP x N k v w->StepF gb b1 vP x N k v w'
 |0,_,_,_,h|1,_,_,_,h|2,_,_,_,h|3,_,_,_,h|4,_,_,_,h|5,_,_,_,h|6,_,_,_,h|7,_,_,_,h|8,_,_,_,h|9,_,_,_,h|10,_,_,_,h=>h
 |_+11,_,_,_,_=>trivial
theorem OwnP.slice{w:World}{base:Nat}{v:Value}{ps:List (Int×Int)}(h:OwnP w base v ps): ∃A c,v= .slice A ps.length c:=by
 rcases h.2 with⟨rfl,hn⟩|⟨g,cap,cur,rfl,_⟩
 ·exact⟨none,0,by rw[hn]⟩
 ·exact⟨_,_,rfl⟩
theorem ox_map{o:Oper}{a:Act}{x x':World}{K:Act->World->Prop}{Q:Exit->Act->World->Prop}{m k v:Operand}{b:Nat}{kx vx:Value}(hop:o.op= .mapUpdate 139 m k v)(hdst:o.dst=none)(hm:a.eval m= .map (some b))(hk:a.eval k=kx)(hv:a.eval v=vx)
  (hr:(Instr.mapUpdate 139 (.map (some b)) kx vx).run Tryz.prog x= .ok () x') (hK:K a x'):o.wp Tryz.prog a x K Q:=by
 unfold Oper.wp;simp[execOp,hop,hm,hk,hv,hr,Result.andThen];rw[Oper.upon_skip,hdst];exact hK
theorem OwnI.at_{w:World}{base m c j:Nat}{A:Option Addr}{l:List Int}(h:OwnI w base (.slice A m c) l)(hj:j<l.length): ∃b off,A=some ⟨b,off,none⟩/\w.cell? ⟨b,off+j,none⟩=some (.int .i64 (l.getD j 0)):=by
 obtain⟨A',c',e,hI⟩:=h.slice;injection e with e1 _ _;subst e1;obtain⟨b,off,e2,_,hc⟩:=hI (by omega)
 exact⟨b,off,e2,hc j hj⟩
theorem Tells.last{D:DataW Unit}{f:Nat->Nat}{x v:Nat}(h:Tells D f x)(hk:D.atKey (.int .i64 (x:Int)) (.lit (.int .i64 0))= .lit (.int .i64 ((v:Nat):Int)))(hv:v=f x):Tells D f (x+1):=fun k hk'=>by
 by_cases e:k=x
 ·subst e
  rw[hk,hv]
 ·exact h k (by omega)
theorem steps_any(base gb b1 b2 n1 n2:Nat)(D1 D2:DataW Unit)(vW vE vP:Value)(W:List Int)(E P:List (Int×Int))(x m N c:Nat)(A:Option Addr)(l:List Int)(f1 f2:Nat->Nat)(w:World)(hx:x<=400)(hm:l.length=m)(hm1:1<=m)(hm9:m<=400)(hz: ∀z∈l,0<=z/\z<=100000)(hW:W.length=N)(hP:P.length=N)(hN:N<=400)(hE:E.length<=400)(hn1:n1<=1000)(hn2:n2<=1000)
    (h:Gl base gb b1 b2 n1 n2 D1 D2 vW vE vP W E P w) (hX:Side w base vW (.slice A m c) l) (h1:Tells D1 f1 x) (h2:Tells D2 f2 x) (e1:f1 x=N) (e2:f2 x=N+m - 1):
    Calls Tryz.prog 109 #[.pointer (some ⟨gb,0,none⟩), .int .i64 (x:Int), .slice A m c] w fun e w'=>e= .returned (.tuple #[])/\ ∃n1' n2' D1' D2' vW' vE' vP',Gl base gb b1 b2 n1' n2' D1' D2' vW' vE' vP' (W++stepW 0 l) (E++chainE N m) (P++stepP x m) w'/\Tells D1' f1 (x+1)/\Tells D2' f2 (x+1)/\n1'<=n1+1/\n2'<=n2+m/\Below base w w':=by
  have hbw:base<=w.heap.size:=by have:=h.le;have:=h.lt;omega
  have H:=Lib.hid h;have HX:=Lib.hid hX;have HT1:=Lib.hid h1;have HT2:=Lib.hid h2;have HL:=Lib.hid hm;have HZ:=Lib.hid hz;have HWL:=Lib.hid hW;have HPL:=Lib.hid hP;have HE1:=Lib.hid e1;have HE2:=Lib.hid e2;clear h hX h1 h2 hm hz hW hP e1 e2;go_enter Tryz.func109,Tryz.ntmps109;go_wp2_with fail;refine wp_region_gather2' 11 11 [10,11,12,13,14,15,16,17,18,19,20] (by kernel_rfl) (by kernel_rfl) (by intro d hd;simp at hd⊢;omega) (fun y=>Below w.heap.size w y) (fun _=>True) (fun y z=>Below y.heap.size y z) (StepF gb b1 vP x N)
    (fun _ _ h=>h) (fun y z h hr=>h.trans (hr.mono h.size)) (fun _ _ h _=>trivial) (fun k v y z _ h _=>stepF_any k v y z h) (fun v y z h _=>trivial) (Below.refl _ _).drew trivial ?hstep ?hlast
  case hstep=>
    intro j o hj ho ρ y hI hA hd hJ;have h0:ρ (.tmp 0)= .pointer (some ⟨gb,0,none⟩):=hA.tmp 0 (by decide)
    have h1:ρ (.tmp 1)= .int .i64 (x:Int):=hA.tmp 1 (by decide)
    have hG:=H.out.below hI;have c2:y.cell? ⟨gb,2,none⟩=some vP:=by rw[hG.cell];rfl
    have c3:y.cell? ⟨gb,3,none⟩=some (.map (some b1)):=by rw[hG.cell];rfl
    match j,hj with
    | 0, _ =>
      have hoo:=Option.some.inj ho;subst hoo;exact⟨.pointer (some ⟨gb,0,none⟩),y,by simp[execOp,h0,go_sem],rfl,Below.refl _ _⟩
    | 1, _ =>
      have hoo:=Option.some.inj ho;subst hoo;have f:ρ (.tmp 10)= .pointer (some ⟨gb,0,none⟩):=hd ⟨0, .data⟩ (by simp) (by rfl)
      exact⟨.pointer (some ⟨gb,0,none⟩),y,by simp[execOp,f,go_sem],rfl,Below.refl _ _⟩
    | 2, _ =>
      have hoo:=Option.some.inj ho;subst hoo;have f:ρ (.tmp 11)= .pointer (some ⟨gb,0,none⟩):=hd ⟨1, .data⟩ (by simp) (by rfl)
      exact⟨.pointer (some ⟨gb,3,none⟩),y,by simp[execOp,f,go_sem],rfl,Below.refl _ _⟩
    | 3, _ =>
      have hoo:=Option.some.inj ho;subst hoo;have f:ρ (.tmp 12)= .pointer (some ⟨gb,3,none⟩):=hd ⟨2, .data⟩ (by simp) (by rfl)
      exact⟨.map (some b1),y,by simp[execOp,f,c3,go_sem],rfl,Below.refl _ _⟩
    | 4, _ =>
      have hoo:=Option.some.inj ho;subst hoo;exact⟨.int .i64 (x:Int),y,by simp[execOp,h1,go_sem],rfl,Below.refl _ _⟩
    | 5, _ =>
      have hoo:=Option.some.inj ho;subst hoo;exact⟨.pointer (some ⟨gb,0,none⟩),y,by simp[execOp,h0,go_sem],rfl,Below.refl _ _⟩
    | 6, _ =>
      have hoo:=Option.some.inj ho;subst hoo;have f:ρ (.tmp 15)= .pointer (some ⟨gb,0,none⟩):=hd ⟨5, .data⟩ (by simp) (by rfl)
      exact⟨.pointer (some ⟨gb,0,none⟩),y,by simp[execOp,f,go_sem],rfl,Below.refl _ _⟩
    | 7, _ =>
      have hoo:=Option.some.inj ho;subst hoo;have f:ρ (.tmp 16)= .pointer (some ⟨gb,0,none⟩):=hd ⟨6, .data⟩ (by simp) (by rfl)
      exact⟨.pointer (some ⟨gb,0,none⟩),y,by simp[execOp,f,go_sem],rfl,Below.refl _ _⟩
    | 8, _ =>
      have hoo:=Option.some.inj ho;subst hoo;have f:ρ (.tmp 17)= .pointer (some ⟨gb,0,none⟩):=hd ⟨7, .data⟩ (by simp) (by rfl)
      exact⟨.pointer (some ⟨gb,2,none⟩),y,by simp[execOp,f,go_sem],rfl,Below.refl _ _⟩
    | 9, _ =>
      have hoo:=Option.some.inj ho;subst hoo;have f:ρ (.tmp 18)= .pointer (some ⟨gb,2,none⟩):=hd ⟨8, .data⟩ (by simp) (by rfl)
      exact⟨vP,y,by simp[execOp,f,c2,go_sem],rfl,Below.refl _ _⟩
    | 10, _ =>
      have hoo:=Option.some.inj ho;subst hoo;have f:ρ (.tmp 19)=vP:=hd ⟨9, .data⟩ (by simp) (by rfl)
      obtain⟨AP,cP,eP⟩:=hG.hP.slice;rw[HPL.out]at eP;exact⟨.int .i64 (N:Int),y,by simp[execOp,resolve,invoke,builtin,f,eP,go_sem,Result.andThen],rfl,Below.refl _ _⟩
    |j+11,hk=>omega
  case hlast=>
    intro o ho vals y hI hF;have hoo:=Option.some.inj ho;subst hoo;have q3:vals 13= .map (some b1):=hF 3 (by decide)
    have q4:vals 14= .int .i64 (x:Int):=hF 4 (by decide)
    have q10:vals 20= .int .i64 (N:Int):=hF 10 (by decide)
    have hG:=H.out.below hI;obtain⟨y2,hu,hm2,hg2⟩:=map_put hG.m1 (by omega) (x:=(x:Int)) (v:=(N:Int)) (by omega) (by omega) (by omega) (by omega)
    have HG:=Lib.hid (hG.mapped1 hg2 hm2);have HS:=Lib.hid ((HX.out.below hI).mapped hG.m1 hg2);have HB:=Lib.hid ((hI.mono hbw).trans (mapped_below hG.le1 hg2 (Nat.le_trans hbw hI.size)));have HD1:=Lib.hid (HT1.out.put hG.m1.isMap HE1.out.symm);refine ox_map rfl rfl q3 q4 q10 hu ?_
    clear hu hm2 hg2 hG hI hF q3 q4 q10 H HX HT1 HE1;simp only[fillA,fillL,List.contains_cons,List.contains_nil,Nat.reduceBEq,Bool.or_false,Bool.false_or,Bool.or_true,Bool.true_or,cond_true,cond_false,Nat.zero_add,Nat.reduceAdd];obtain⟨D1',hD1⟩: ∃D,D=D1.put (.int .i64 (x:Int)) (.lit (.int .i64 (N:Int))):=⟨_,rfl⟩;rw[<-hD1]at HG HD1;clear hD1;have hG0:Hid (Gl base gb b1 b2 (n1+1) n2 D1' D2 vW vE vP (W++(stepW 0 l).take 0) (E++chainE N 0) (P++stepP x 0) y2):=Lib.hid (by have h:=HG.out;simpa[chainE_zero,stepP]using h)
    clear HG;go_wp2;go_loopw [6,23] (fun bv iv wr=> ∃(j nz:Nat) (bb:Int) (Dz:DataW Unit) (uW uE uP:Value),j<=m/\bv= .int .i64 bb/\iv= .int .i64 (j:Int)/\0<=bb/\bb<=100000/\nz<=n2+j/\Hid (bb=befE l j)/\Hid (Gl base gb b1 b2 (n1+1) nz D1' Dz uW uE uP (W++(stepW 0 l).take j) (E++chainE N j) (P++stepP x j) wr)/\Hid (Side wr base uW (.slice A m c) l)/\Hid (Tells Dz f2 x)/\Hid (0<j->Dz.atKey (.int .i64 (x:Int)) (.lit (.int .i64 0))= .lit (.int .i64 ((N+j - 1:Nat):Int)))/\Hid (Below base w wr)) (fun _ iv _=>m - (intOf iv).toNat)
    case atStart=>exact⟨0,n2,0,D2,vW,vE,vP,Nat.zero_le _,rfl,rfl,by omega,by omega,by omega,Lib.hid rfl,hG0,HS,HT2,Lib.hid (fun h=>absurd h (by omega)),HB⟩
    case round=>
      obtain⟨j,nz,bb,Dz,uW,uE,uP,hj,rfl,rfl,hb0,hb9,hnz,HBB,HGJ,HSJ,HTJ,HKJ,HBJ⟩:=hrel;clear hG0 HS HT2 HB
      by_cases hlt:j<m
      · obtain⟨z,he⟩: ∃z,l[j]? =some z:=⟨_,List.getElem?_eq_getElem (by rw[HL.out];exact hlt)⟩
        have hz:=HZ.out z (List.mem_of_getElem? he)
        obtain⟨hz0,hz9⟩:=hz;have HST:=Lib.hid (stepW_take 0 l j z he);have hgd:l.getD j 0=z:=by rw[List.getD_eq_getElem?_getD,he];rfl
        obtain⟨eb,eo,eA2,hq⟩:=HSJ.out.own.at_ (j:=j) (by rw[HL.out];exact hlt)
        rw[hgd]at hq;subst eA2;have HGD:=Lib.hid hgd;obtain⟨nn,hnn⟩: ∃nn,nn=N+j:=⟨_,rfl⟩;have lW:(W++(stepW 0 l).take j).length=N+j:=by rw[List.length_append,HWL.out,List.length_take,stepW_len,HL.out];omega
        have lP:(P++stepP x j).length=nn:=by rw[List.length_append,HPL.out,stepP_len,hnn]
        have lE:(E++chainE N j).length<=900:=by rw[List.length_append,chainE_len];omega
        have CN:=gnode_any base gb b1 b2 (n1+1) nz D1' Dz uW uE uP (W++(stepW 0 l).take j) (E++chainE N j) (P++stepP x j) (x:Int) (j:Int) (z - bb) wr _ _ (by omega) (by omega) HGJ.out HSJ.out
        rw[lP]at CN;have HCN:=Lib.hid CN;have HNN:=Lib.hid hnn;have hn9:nn<=900:=by omega
        have HLE:=Lib.hid lE;clear CN he hgd lW lP lE hnn;go_wp2_with fail;refine HCN.out.mono ?_
        rintro e w3 ⟨rfl,uW',uP',hG3,hS3,b3,_⟩;have HG3:=Lib.hid hG3;have HS3:=Lib.hid hS3;have HB3:=Lib.hid (HBJ.out.trans b3);have c4:=hG3.cell 4;simp at c4;clear hG3 hS3 b3 HCN hq HGJ HSJ HBJ;cases j with
        | zero =>
          obtain⟨v0,st,wx,wy,en1,en2,hm2,hg2⟩:=entry_put HG3.out.m2 (by omega) (x:=(x:Int)) (v:=(nn:Int)) (by omega) (by omega) (by omega) (by omega)
          have HG4:=Lib.hid (HG3.out.mapped2 hg2 hm2);have HS4:=Lib.hid (HS3.out.mapped HG3.out.m2 hg2);have HB4:=Lib.hid (HB3.out.trans (mapped_below HG3.out.le2 hg2 (Nat.le_trans hbw HB3.out.size)));have HT4:=Lib.hid (HTJ.out.over (v:=nn));have HK4:Hid ((Dz.put (.int .i64 (x:Int)) (.lit (.int .i64 (nn:Int)))).atKey (.int .i64 (x:Int)) (.lit (.int .i64 0))= .lit (.int .i64 (nn:Int))):=Lib.hid (atKey_put_same HG3.out.m2.isMap (by simp[WideAt.IsKeyLit]) _ _)
          clear hm2 hg2 HG3 HS3 HB3;go_wp2;go_roundw
          case rel=>exact⟨1,nz+1,z,_,uW',uE,uP',hlt,rfl,by go_num,hz0,hz9,by omega,Lib.hid HGD.out.symm,Lib.hid (by have h:=HG4.out;rw[HST.out];have hb:=HBB.out;simp only[befE,if_true]at hb;rw[hb]at h;simpa[List.append_assoc,chainE_one,chainE_zero,stepP]using h),HS4,HT4,Lib.hid (fun _=>by rw[HK4.out,HNN.out];simp),HB4⟩
          case measure=>simp[intOf];omega
        | succ i =>
          have CE:=edge_any base gb b1 b2 (n1+1) nz D1' Dz uW' uE uP' _ (E++chainE N (i+1)) _ ((nn:Int) - 1) (nn:Int) w3 _ _ HLE.out HG3.out HS3.out;have HCE:=Lib.hid CE;clear CE;go_wp2_with fail;refine HCE.out.mono ?_
          rintro e w4 ⟨rfl,uE',hG4,hS4,b4,_⟩;obtain⟨v0,st,wx,wy,en1,en2,hm2,hg2⟩:=entry_put hG4.m2 (by omega) (x:=(x:Int)) (v:=(nn:Int)) (by omega) (by omega) (by omega) (by omega)
          have HG5:=Lib.hid (hG4.mapped2 hg2 hm2);have HS5:=Lib.hid (hS4.mapped hG4.m2 hg2);have HB5:=Lib.hid ((HB3.out.trans b4).trans (mapped_below hG4.le2 hg2 (Nat.le_trans hbw (HB3.out.trans b4).size)));have HT5:=Lib.hid (HTJ.out.over (v:=nn));have HK5:Hid ((Dz.put (.int .i64 (x:Int)) (.lit (.int .i64 (nn:Int)))).atKey (.int .i64 (x:Int)) (.lit (.int .i64 0))= .lit (.int .i64 (nn:Int))):=Lib.hid (atKey_put_same hG4.m2.isMap (by simp[WideAt.IsKeyLit]) _ _)
          obtain⟨Dq,hDq⟩: ∃D,D=Dz.put (.int .i64 (x:Int)) (.lit (.int .i64 (nn:Int))):=⟨_,rfl⟩;rw[<-hDq]at HG5 HT5 HK5;have c4':=hG4.cell 4;simp at c4';clear hDq hm2 hg2 hG4 hS4 b4 HG3 HS3 HB3 HCE c4;go_wp2;go_roundw
          case rel=>exact⟨i+2,nz+1,z,_,uW',uE',uP',hlt,rfl,by go_num,hz0,hz9,by omega,Lib.hid HGD.out.symm,Lib.hid (by have h:=HG5.out;have hn:=HNN.out;rw[HST.out,chainE_succ,stepP_succ];have hb:=HBB.out;unfold befE at hb;rw[hb]at h;rw[show((nn:Nat):Int) - 1=((N+i:Nat):Int) by omega,show((nn:Nat):Int)=((N+i+1:Nat):Int) by omega]at h;simpa[List.append_assoc]using h),HS5,HT5,Lib.hid (fun _=>by rw[HK5.out,HNN.out];simp),HB5⟩
          case measure=>simp[intOf];omega
      · obtain rfl:m=j:=by omega
        have htk:(stepW 0 l).take m=stepW 0 l:=List.take_of_length_le (by rw[stepW_len,HL.out];exact Nat.le_refl _)
        have hG:=HGJ.out;rw[htk]at hG;have HGE:=Lib.hid hG;have HTE:=Lib.hid (HTJ.out.last (HKJ.out (by omega)) HE2.out.symm)
        clear htk hG;go_wp2;go_end0;exact⟨rfl,_,_,_,_,_,_,_,HGE.out,HD1.out,HTE.out,Nat.le_refl _,hnz,HBJ.out⟩
end Go.Proofs.YtlfekmbalgkmeaaGreatDoor
